import Derived.Test.YtilaanolklhkaaaGreatDoorZAbsQuiet
/- The operations that make or write memory. -/
namespace Go.Abs
set_option linter.unusedSimpArgs false
set_option linter.unusedVariables false

/-- of a slice type's element: cells, bytes, the zero value's cells -/
def tez (P : Program) (t : TypeId) : Option (Nat × Nat × List Value) :=
  match P.underlying t with
  | some (.slice e) => (P.info? e).bind fun i => i.zero.map fun z => (i.size, i.bytes, z.cells.toList)
  | _ => none

/-- append -/
def aapp (P : Program) (t t' : TypeId) (x y : AV) (σ : St) : Option (AV × St) :=
  match x, y, tez P t with
  | .slice xs [.held (.inr (id, n, none))], .slice ys [.held (.inr (_, m, none))], some (z, b, zc) =>
    if t' = t ∧ 0 < z ∧ zc.length = z ∧ xs.length = n * z ∧ ys.length = m * z ∧ ys.all flat = true ∧ 0 < m ∧ (n + m) * b ≤ 140737488355328 ∧ n + m ≤ 1099511627776 then
      (match id with
       | 0 => none
       | 1 => some (sl (σ.ntop + 2) m ys, σ.lay m)
       | k + 2 => if σ.top k = n ∧ 0 < n then some (sl (k + 2) (n + m) (xs ++ ys), σ.raise k (n + m)) else none)
    else none
  | _, _, _ => none

/-- What an operation yields that makes or writes memory, and what memory then is. -/
def al (P : Program) (s : Nat → AV) (σ : St) : Op → Option (AV × St)
  | .alloc t => (tzero P t).map fun z => (ptr σ.nobj 0, σ.new (z.map cst1))
  | .box _ x => some (ptr σ.nobj 0, σ.new (acells (aev s x)))
  | .store t x y => (match tsz P t, aev s x with
      | some (_, n), .held (.inr (o, off, none)) =>
        if (acells (aev s y)).length = n ∧ (acells (aev s y)).all flat = true ∧ off + n ≤ (σ.obj o).length then some (sc undef, σ.put o (lsp (σ.obj o) off (acells (aev s y)))) else none
      | _, _ => none)
  | .buildSlice t len parts => (match tez P t with
      | some (z, _, zc) =>
        if len = 0 then (if parts.size = 0 then some (nilS, σ) else none) else
        if zc.length = z ∧ len * z ≤ 16777216 ∧ 0 < z then
          (afill (fun i => some (i * z, z)) ((List.replicate len (zc.map cst1)).flatten) (parts.toList.map fun p => (p.1, aev s p.2))).map fun xs => (sl (σ.ntop + 2) len xs, σ.lay len)
        else none
      | none => none)
  | .makeSlice t l c => (match tez P t, aint (aev s l), aint (aev s c) with
      | some (z, b, [zv]), some n, some m => if z = 1 ∧ 0 ≤ n ∧ n = m ∧ (b : Int) * n ≤ 281474976710656 ∧ n ≤ 1099511627776 then some (fx σ.nobj 0 n.toNat, σ.new (List.replicate n.toNat (cst1 zv))) else none
      | _, _, _ => none)
  | .call { callee := .builtin .append, args := args, argTypes := ts } => (match args.toList, ts.toList with
      | [x, y], [t, t'] => aapp P t t' (aev s x) (aev s y) σ
      | _, _ => none)
  | _ => none

def Yld (G : Gh) (σ : St) (w : World) (r : Result Next) (x : AV) (σ' : St) : Prop :=
  ∃ v w' G', (r = .ok (.value v) w' ∨ (r = .ok .skip w' ∧ v = undef)) ∧ Inv G' σ' w' ∧ Ext G σ w G' σ' w' ∧ VR G' σ' w' v x

section
variable {P : Program} {G : Gh} {σ : St} {w : World} {s : Nat → AV} {a : Act}

theorem tez_some {t : TypeId} {z b : Nat} {zc : List Value} (h : tez P t = some (z, b, zc)) : ∃ e i zv, P.underlying t = some (.slice e) ∧ P.info? e = some i ∧ i.zero = some zv ∧ i.size = z ∧ i.bytes = b ∧ zv.cells.toList = zc := by
  unfold tez at h
  split at h
  · rename_i e he
    cases hi : P.info? e with
    | none => simp [hi] at h
    | some i =>
      cases hz : i.zero with
      | none => simp [hi, hz] at h
      | some zv => simp [hi, hz] at h; exact ⟨e, i, zv, he, hi, hz, h.1, h.2.1, h.2.2⟩
  · cases h

theorem lsp_length : ∀ (ys l : List AV) (off : Nat), (lsp l off ys).length = l.length
  | [], l, off => rfl
  | y :: ys, l, off => by simp [lsp, lsp_length ys]

theorem lsp_eq : ∀ (ys l : List AV) (off : Nat), off + ys.length ≤ l.length → lsp l off ys = l.take off ++ ys ++ l.drop (off + ys.length)
  | [], l, off, _ => by simp [lsp]
  | y :: ys, l, off, h => by
    have hl : off < l.length := by simp at h; omega
    rw [lsp, lsp_eq ys _ _ (by simp at h ⊢; omega)]
    have h1 : (l.set off y).take (off + 1) = l.take off ++ [y] := by
      rw [List.take_add_one, List.take_set]
      simp only [List.getElem?_set, hl, if_true]
      rw [List.set_eq_of_length_le (by simp; omega)]
      simp
    have h2 : (l.set off y).drop (off + 1 + ys.length) = l.drop (off + (y :: ys).length) := by
      rw [List.drop_set_of_lt (by omega)]
      congr 1
      simp; omega
    rw [h1, h2]
    simp

theorem map_range0 (f : Nat → Value) : Array.map f (Array.range 0) = #[] := by
  apply Array.ext'
  simp

theorem Inv.garbage (I : Inv G σ w) (o : Obj) : Inv G σ (w.alloc o) ∧ Ext G σ w G σ (w.alloc o) := by
  have E : Ext G σ w G σ (w.alloc o) := ⟨rfl, rfl, Nat.le_refl _, fun _ _ => rfl, Nat.le_refl _, fun _ _ => ⟨Nat.le_refl _, rfl, fun _ => ⟨rfl, rfl⟩⟩, fun b off p => ⟨p, cell_push (I.perlt _ _ p)⟩, fun o h => ⟨Nat.le_refl _, fun _ => heap_push (I.blk_lt h)⟩⟩
  have hold : ∀ b, b < w.heap.size → (w.alloc o).heap[b]? = w.heap[b]? := fun b h => Go.RowKit.Below.heap_alloc w _ b h
  refine ⟨⟨fun p hp => ?_, I.inj, fun k hk => ?_, I.linj, I.apart, fun b off p => ?_, I.perlo, I.below.alloc I.le _, ?_⟩, E⟩
  · obtain ⟨h1, ⟨arr, e, hb, ha⟩, h3⟩ := I.obj p hp
    exact ⟨h1, ⟨arr, e, by rw [hold _ (I.blk_lt hp)]; exact hb, VR.all E ha⟩, h3⟩
  · obtain ⟨h1, ⟨arr, e, hb, ha⟩, h3⟩ := I.lin k hk
    exact ⟨h1, ⟨arr, e, by rw [hold _ (I.cur_lt hk)]; exact hb, ha⟩, h3⟩
  · have := I.perlt _ _ p
    simp; omega
  · have := I.le
    simp; omega

theorem l_alloc (I : Inv G σ w) {t : TypeId} {x : AV} {σ' : St} {o : Oper} (hop : o.op = .alloc t) (h : al P s σ (.alloc t) = some (x, σ')) : Yld G σ w ((execOp a.eval o).run P w) x σ' := by
  simp only [al, tzero] at h
  cases hi : P.info? t with
  | none => simp [hi] at h
  | some i =>
    cases hz : i.zero with
    | none => simp [hi, hz] at h
    | some z =>
      simp [hi, hz] at h
      obtain ⟨rfl, rfl⟩ := h
      have hc : All2 (VR G σ w) z.cells.toList (z.cells.toList.map Abs.cst1) := by
        have := All2.of_map (R := VR G σ w) (fun v : Value => v) Abs.cst1 (fun v => VR.cst1 v) z.cells.toList
        simpa using this
      obtain ⟨G', I', E, hb⟩ := I.newObj z.cells t _ hc
      refine ⟨.pointer (some ⟨w.heap.size, 0, none⟩), _, G', .inl ?_, I', E, VR.fold ⟨by rw [hb], by simp [St.new]⟩⟩
      simp [execOp, hop, Instr.alloc, zeroValue, typeInfo, hi, hz, newVar, newRow]

theorem l_box (I : Inv G σ w) (hs : ∀ t, VR G σ w (a.tmps.getD t undef) (s t)) {t : TypeId} {y : Operand} {x : AV} {σ' : St} {o : Oper} (hop : o.op = .box t y) (h : al P s σ (.box t y) = some (x, σ')) : Yld G σ w ((execOp a.eval o).run P w) x σ' := by
  simp [al] at h
  obtain ⟨rfl, rfl⟩ := h
  obtain ⟨G', I', E, hb⟩ := I.newObj (a.eval y).cells t _ (aev_ok hs y).cells
  refine ⟨.pointer (some ⟨w.heap.size, 0, none⟩), _, G', .inl ?_, I', E, VR.fold ⟨by rw [hb], by simp [St.new]⟩⟩
  simp [execOp, hop, Instr.box, newVar, newRow]

theorem l_store (I : Inv G σ w) (hs : ∀ t, VR G σ w (a.tmps.getD t undef) (s t)) {t : TypeId} {y z : Operand} {x : AV} {σ' : St} {o : Oper} (hop : o.op = .store t y z) (h : al P s σ (.store t y z) = some (x, σ')) : Yld G σ w ((execOp a.eval o).run P w) x σ' := by
  simp only [al] at h
  split at h
  case h_2 => cases h
  rename_i ga n p off ht hx
  split at h
  case isFalse => cases h
  rename_i hc
  obtain ⟨h1, h2, h3⟩ := hc
  cases h
  have hy := aev_ok hs y
  rw [hx] at hy
  obtain ⟨hv, hp⟩ := VR.of_ptr hy
  have hz := (aev_ok hs z).cells
  obtain ⟨-, ⟨arr, e, hb, ha⟩, -⟩ := I.obj p hp
  have hlen : arr.size = (σ.obj p).length := by have := ha.1; simpa using this
  have hzl : (a.eval z).cells.size = n := by have := hz.1; simp at this; omega
  have hst := run_storeCells_at P (G.blk p) off e (a.eval z).cells.toList 0 arr w hb (by simp; omega) (all_flat hz h2)
  have hall : All2 (VR G σ w) (arr.toList.take off ++ (a.eval z).cells.toList ++ arr.toList.drop (off + (a.eval z).cells.toList.length)).toArray.toList (lsp (σ.obj p) off (acells (aev s z))) := by
    rw [lsp_eq _ _ _ (by omega), ← hz.1]
    exact ((ha.take off).append hz).append (ha.drop _)
  obtain ⟨I', E⟩ := I.setObj hp _ _ hall
  refine ⟨undef, _, G, .inr ⟨?_, rfl⟩, I', E, VR.sc _⟩
  simp only [Nat.add_zero] at hst
  simp [execOp, hop, Instr.storeAt, hv, Instr.sureAddr, storeVar, (run_isAgg ht w).2, hzl, hst]

theorem zeros_flatten {z : List Value} {n : Nat} : ((Array.range (n * z.length)).map (z.toArray[· % z.toArray.size]!)).toList = (List.replicate n z).flatten := by
  by_cases h0 : z.length = 0
  · have : z = [] := List.eq_nil_of_length_eq_zero h0
    subst this
    simp
  induction n with
  | zero => simp
  | succ n ih =>
    rw [List.replicate_succ', List.flatten_append, ← ih]
    simp only [Array.toList_map, Array.toList_range]
    rw [Nat.succ_mul, List.range_add, List.map_append, List.map_map]
    congr 1
    simp only [List.flatten_cons, List.flatten_nil, List.append_nil]
    apply List.ext_getElem?
    intro i
    by_cases hi : i < z.length
    · have : (n * z.length + i) % z.length = i := by rw [Nat.mul_comm, Nat.mul_add_mod]; exact Nat.mod_eq_of_lt hi
      simp [hi, this]
    · simp [hi]

theorem All2.flatten_replicate {R : Value → AV → Prop} {l : List Value} {m : List AV} (h : All2 R l m) : ∀ n, All2 R (List.replicate n l).flatten (List.replicate n m).flatten
  | 0 => by simp; exact All2.nil R
  | n + 1 => by simp only [List.replicate_succ, List.flatten_cons]; exact h.append (All2.flatten_replicate h n)

theorem l_buildSlice (I : Inv G σ w) (hs : ∀ t, VR G σ w (a.tmps.getD t undef) (s t)) {t : TypeId} {len : Nat} {parts : Array (Nat × Operand)} {x : AV} {σ' : St} {o : Oper} (hop : o.op = .buildSlice t len parts)
    (h : al P s σ (.buildSlice t len parts) = some (x, σ')) : Yld G σ w ((execOp a.eval o).run P w) x σ' := by
  simp only [al] at h
  split at h
  case h_2 => cases h
  rename_i z b zc ht
  obtain ⟨e, i, zv, hu, hi, hz, h1, h2, h3⟩ := tez_some ht
  split at h
  · rename_i h0
    subst h0
    split at h
    case isFalse => cases h
    rename_i hp
    cases h
    have hp' : parts = #[] := by simpa using hp
    subst hp'
    obtain ⟨I', E⟩ := I.garbage (.cells #[] e)
    refine ⟨.slice (some ⟨w.heap.size, 0, none⟩) 0 0, w.alloc (.cells #[] e), G, .inl ?_, I', E, VR.fold ⟨_, _, rfl, fun _ => ⟨rfl, rfl⟩, fun h => absurd rfl h, fun k hk => by omega⟩⟩
    simp [execOp, hop, Instr.buildSlice, run_underlying hu, sizeOf, typeInfo, hi, Instr.fill, newRow, map_range0]
  · rename_i h0
    split at h
    case isFalse => cases h
    rename_i hc
    obtain ⟨hc1, hc2, hc3⟩ := hc
    cases hf : afill (fun i => some (i * z, z)) ((List.replicate len (zc.map Abs.cst1)).flatten) (parts.toList.map fun p => (p.1, aev s p.2)) with
    | none => simp [hf] at h
    | some xs =>
      simp [hf] at h
      obtain ⟨rfl, rfl⟩ := h
      have hzc : All2 (VR G σ w) zc (zc.map Abs.cst1) := by
        have := All2.of_map (R := VR G σ w) (fun v : Value => v) Abs.cst1 (fun v => VR.cst1 v) zc
        simpa using this
      have hz0 : All2 (VR G σ w) ((Array.range (len * z)).map (zv.cells[· % zv.cells.size]!)).toList ((List.replicate len (zc.map Abs.cst1)).flatten) := by
        have e1 : zv.cells = zc.toArray := by rw [← h3]
        rw [e1, ← hc1, zeros_flatten]
        exact hzc.flatten_replicate len
      obtain ⟨cs, g1, g2⟩ := afill_ok (place' := fun i => some (i * z, z)) (fun _ => rfl) (parts.toList.map fun p => (p.1, a.eval p.2)) (parts.toList.map fun p => (p.1, aev s p.2)) _ _ xs hz0 (by simp)
        (fun i p q hp hq => by
          simp only [List.getElem?_map] at hp hq
          cases hi : parts.toList[i]? with
          | none => simp [hi] at hp
          | some r =>
            simp [hi] at hp hq
            subst hp; subst hq
            exact ⟨rfl, aev_ok hs r.2⟩) hf
      have hfl : ∀ (place : Nat → Option (Nat × Nat)) (l : List (Nat × AV)) (c ys : List AV), afill place c l = some ys → ys.length = c.length := by
        intro place l
        induction l with
        | nil => intro c ys h; simp [afill] at h; rw [h]
        | cons q l ih =>
          intro c ys h
          obtain ⟨j, y⟩ := q
          simp only [afill] at h
          split at h
          · cases h
          · split at h
            · cases h
            · rw [ih _ _ h, lsp_length]
      have hxl : xs.length = len * z := by
        rw [hfl _ _ _ _ hf]
        simp [hc1]
      have hcs : cs.size = len * z := by have := g2.1; simp at this; omega
      obtain ⟨G', I', E, k1, k2, k3, k4⟩ := I.newRow cs e len len z hcs (Nat.le_refl _)
      refine ⟨.slice (some ⟨w.heap.size, 0, none⟩) len len, w.alloc (.cells cs e), G', .inl ?_, I', E, VR.fold ⟨_, _, rfl, fun h => by omega, fun _ => ⟨w.heap.size, 0, rfl, fun j y hy => ?_⟩, fun k hk => ?_⟩⟩
      · have hne : len * z ≠ 0 := by
          have : 0 < len * z := Nat.mul_pos (by omega) hc3
          omega
        have hle : ¬ (16777216 < len * z) := by omega
        have hpm : (parts.map fun x => (x.1, a.eval x.2)).toList = parts.toList.map fun p => (p.1, a.eval p.2) := by simp
        simp only [execOp, hop, Instr.buildSlice, Sem.run_bind, run_underlying hu, Result.andThen_ok, sizeOf, typeInfo, run_program, hi, Sem.run_pure, h1]
        simp [hle, hne, zeroValue, typeInfo, hi, hz, g1, newRow]
      · obtain ⟨c, hc', hr⟩ := g2.get hy
        have hj : j < len * z := by rw [← hxl]; exact (List.getElem?_eq_some_iff.1 hy).1
        refine ⟨by simpa using k4 j hj, c, ?_, hr.ext E⟩
        have : (w.alloc (.cells cs e)).cell? ⟨w.heap.size, 0 + j, none⟩ = cs[0 + j]? := cell_push_new
        rw [this]
        simpa using hc'
      · have hk' : k = σ.ntop := by omega
        subst hk'
        refine ⟨by simp [St.lay], by simp [St.lay], by rw [k3]; exact hxl, fun _ => ⟨by rw [k1], by rw [k2]⟩⟩

theorem l_makeSlice (I : Inv G σ w) (hs : ∀ t, VR G σ w (a.tmps.getD t undef) (s t)) {t : TypeId} {l c : Operand} {x : AV} {σ' : St} {o : Oper} (hop : o.op = .makeSlice t l c)
    (h : al P s σ (.makeSlice t l c) = some (x, σ')) : Yld G σ w ((execOp a.eval o).run P w) x σ' := by
  simp only [al] at h
  split at h
  case h_2 => cases h
  rename_i z b zv n m ht hn hm
  split at h
  case isFalse => cases h
  rename_i hc
  obtain ⟨rfl, c2, rfl, c4, c5⟩ := hc
  cases h
  obtain ⟨e, i, zw, hu, hi, hz, h1, h2, h3⟩ := tez_some ht
  obtain ⟨k1, e1⟩ := aint_ok (aev_ok hs l) hn
  obtain ⟨k2, e2⟩ := aint_ok (aev_ok hs c) hm
  have hw : IntKind.i64.wrap n = n := Go.IntWalk.i64_in n ⟨by omega, by omega⟩
  have hzc : zw.cells = #[zv] := by
    apply Array.ext'
    simpa using h3
  have hcells : ((Array.range (n.toNat * 1)).map (zw.cells[· % zw.cells.size]!)).toList = List.replicate n.toNat zv := by
    rw [hzc]
    have := zeros_flatten (z := [zv]) (n := n.toNat)
    simpa using this
  have hall : All2 (VR G σ w) ((Array.range (n.toNat * 1)).map (zw.cells[· % zw.cells.size]!)).toList (List.replicate n.toNat (Abs.cst1 zv)) := by
    rw [hcells]
    have := All2.of_map (R := VR G σ w) (fun v : Value => v) Abs.cst1 (fun v => VR.cst1 v) (List.replicate n.toNat zv)
    simpa using this
  obtain ⟨G', I', E, hb⟩ := I.newObj _ e _ hall
  refine ⟨.slice (some ⟨w.heap.size, 0, none⟩) n.toNat n.toNat, _, G', .inl ?_, I', E, VR.fold ⟨⟨n.toNat, by rw [hb]⟩, by simp [St.new]⟩⟩
  have hneg : ¬ n < 0 := by omega
  have hbig : ¬ ((i.bytes : Int) * n > 281474976710656) := by rw [h2]; omega
  simp only [execOp, hop, Instr.makeSlice, Sem.run_bind, run_underlying hu, Result.andThen_ok, e1, e2, asInt, asIntOf, Sem.run_pure, typeInfo, run_program, hi, hw]
  by_cases hn0 : n.toNat = 0
  · simp [hneg, hbig, sizeOf, typeInfo, hi, h1, hn0, newRow, map_range0]
  · simp [hneg, hbig, sizeOf, typeInfo, hi, h1, hn0, zeroValue, hz, newRow]

theorem run_append_here (w : World) (t ty e : TypeId) (i : TypeInfo) (ht : P.underlying t = some (.slice e)) (hi : P.info? e = some i)
    (g sLen sCap : Nat) (cur : Array Value) (e' : TypeId) (hg : w.heap[g]? = some (.cells cur e' (0, 0)))
    (a : Addr) (m c : Nat) (news : List Value) (hl : news.length = m * i.size) (hnews : ∀ j u, news[j]? = some u → w.cell? (a.add j) = some u) (h1 : ∀ u ∈ news, u.oneCell' = true)
    (hroom : sLen + m ≤ sCap) (hfit : sLen * i.size + news.length ≤ cur.size) :
    (Builtin.append_ #[t, t] ty #[.slice (some ⟨g, 0, none⟩) sLen sCap, .slice (some a) m c]).run P w =
      .ok (.slice (some ⟨g, 0, none⟩) (sLen + m) sCap) (w.setRow g (cur.toList.take (sLen * i.size) ++ news ++ cur.toList.drop (sLen * i.size + news.length)).toArray) := by
  have hf := run_firstCells_some (P := P) w i.size m a m c news hl hnews
  have hst := run_storeCells_at P g (sLen * i.size) e' news 0 cur w hg (by simpa using hfit) h1
  simp only [Nat.add_zero] at hst
  simp [Builtin.append_, run_underlying ht, sizeOf, typeInfo, hi, Builtin.lenOf, hroom, hf, Addr.add_lit, hst]

theorem l_append (I : Inv G σ w) (hs : ∀ t, VR G σ w (a.tmps.getD t undef) (s t)) {args : Array Operand} {ts : Array TypeId} {x : AV} {σ' : St} {o : Oper} (hop : o.op = .call { callee := .builtin .append, args := args, argTypes := ts })
    (h : al P s σ (.call { callee := .builtin .append, args := args, argTypes := ts }) = some (x, σ')) : Yld G σ w ((execOp a.eval o).run P w) x σ' := by
  obtain ⟨args⟩ := args
  obtain ⟨ts⟩ := ts
  simp only [al] at h
  split at h
  case h_2 => cases h
  rename_i y1 y2 t t'
  unfold aapp at h
  split at h
  case h_2 => cases h
  rename_i xs id n ys id' m z b zc hx hy ht
  split at h
  case isFalse => cases h
  rename_i hc
  obtain ⟨rfl, c2, c3, c4, c5, c6, c7, c8, c9⟩ := hc
  obtain ⟨e, i, zv, hu, hi, hz, h1, h2, h3⟩ := tez_some ht
  have hv1 := aev_ok hs y1
  have hv2 := aev_ok hs y2
  rw [hx] at hv1
  rw [hy] at hv2
  obtain ⟨base1, cap1, e1, id1, lie1, lin1⟩ := VR.of_sl hv1
  obtain ⟨base2, cap2, e2, -, lie2, -⟩ := VR.of_sl hv2
  have hys : ys ≠ [] := fun e => by
    have : 0 < m * z := Nat.mul_pos c7 c2
    rw [e] at c5; simp at c5; omega
  obtain ⟨b2, o2, rfl, hl2⟩ := lie2 hys
  obtain ⟨news, hn1, hn2⟩ := hl2.list
  have hnl : news.length = m * i.size := by rw [hn1.1, c5, h1]
  have hflat := all_flat hn1 c6
  have hzs : zv.cells.size = z := by have : zv.cells.toList.length = zc.length := by rw [h3]
                                     simp at this; omega
  have hadd : ∀ (w' : World), (∀ j u, news[j]? = some u → w'.cell? ⟨b2, o2 + j, none⟩ = some u) → ∀ j u, news[j]? = some u → w'.cell? ((⟨b2, o2, none⟩ : Addr).add j) = some u := fun w' h j u hu => by rw [Addr.add_lit]; exact h j u hu
  have hnews := hadd w hn2
  have hexec : ∀ r, (Builtin.append_ #[t', t'] o.type #[a.eval y1, a.eval y2]).run P w = r → (execOp a.eval o).run P w = r.andThen fun v w' => .ok (.value v) w' := fun r hr => by
    subst hr
    simp only [execOp, hop, resolve, invoke, Go.builtin, Sem.run_bind, Sem.run_pure, Result.andThen_ok, List.map_toArray, List.map_cons, List.map_nil]
  -- a new row of (n + m) elements, made in the world w.drew
  split at h
  · cases h
  · cases h
    obtain ⟨hn0, hcap⟩ := id1 rfl
    subst hn0; subst hcap
    simp only [Nat.zero_mul] at c4
    have hxs : xs = [] := List.eq_nil_of_length_eq_zero c4
    subst hxs
    have hgc : m ≤ grownCap w m 0 e := grownCap_ge w m 0 e
    obtain ⟨I1, E1⟩ := I.drawn (w.drawn + 1)
    have hsz : (news.toArray ++ Builtin.zeroCells zv.cells (grownCap w m 0 e - m)).size = grownCap w m 0 e * z := by
      simp only [Array.size_append, List.size_toArray, size_zeroCells, hzs, hnl, h1, ← Nat.add_mul]
      congr 1; omega
    obtain ⟨G', I', E, k1, k2, k3, k4⟩ := I1.newRow (news.toArray ++ Builtin.zeroCells zv.cells (grownCap w m 0 e - m)) e m (grownCap w m 0 e) z hsz hgc
    have hrun : (Builtin.append_ #[t', t'] o.type #[a.eval y1, a.eval y2]).run P w = .ok (.slice (some ⟨w.heap.size, 0, none⟩) m (grownCap w m 0 e)) (w.drew.alloc (.cells (news.toArray ++ Builtin.zeroCells zv.cells (grownCap w m 0 e - m)) e)) := by
      rw [e1, e2]
      cases base1 with
      | none => exact run_append_nil (P := P) w t' o.type e i zv hu hi hz ⟨b2, o2, none⟩ m cap2 news hnl hnews c7 (by omega) (by rw [h2]; simp at c8; omega)
      | some ad =>
        have := run_append_grow (P := P) w t' o.type e i zv hu hi hz ad 0 0 [] (by simp) (fun j v hv => by simp at hv) ⟨b2, o2, none⟩ m cap2 news hnl hnews (by omega) (by omega) (growslice_fits (by omega) (by rw [h2]; exact c8))
        simpa using this
    refine ⟨_, _, G', .inl (by rw [hexec _ hrun]; rfl), I', E1.trans E, VR.fold ⟨_, _, rfl, fun h => by omega, fun _ => ⟨w.heap.size, 0, rfl, fun j y hj => ?_⟩, fun k hk => ?_⟩⟩
    · obtain ⟨c, hc', hr⟩ := hn1.get hj
      have hjl : j < m * z := by rw [← c5]; exact (List.getElem?_eq_some_iff.1 hj).1
      refine ⟨by simpa using k4 j hjl, c, ?_, hr.ext (E1.trans E)⟩
      have : (w.drew.alloc (.cells (news.toArray ++ Builtin.zeroCells zv.cells (grownCap w m 0 e - m)) e)).cell? ⟨w.heap.size, 0 + j, none⟩ = (news.toArray ++ Builtin.zeroCells zv.cells (grownCap w m 0 e - m))[0 + j]? := cell_push_new (w := w.drew)
      refine Eq.trans this ?_
      rw [Nat.zero_add, Array.getElem?_append_left (by simp; rw [hnl, h1]; omega)]
      simpa using hc'
    · have hk' : k = σ.ntop := by omega
      subst hk'
      exact ⟨by simp [St.lay], by simp [St.lay], by rw [k3]; exact c5, fun _ => ⟨by rw [k1], by rw [k2]⟩⟩
  · rename_i k
    split at h
    case isFalse => cases h
    rename_i hc2
    obtain ⟨ht0, hn0⟩ := hc2
    cases h
    obtain ⟨hk, hle, hxl, htop⟩ := lin1 k rfl
    obtain ⟨hb1, hcap⟩ := htop ht0.symm
    subst hb1; subst hcap
    have hsz : G.siz k = z := Nat.eq_of_mul_eq_mul_left hn0 (by omega)
    obtain ⟨lb, ⟨cur, ecur, hcur, hcs⟩, ltc, lper⟩ := I.lin k hk
    have hxne : xs ≠ [] := fun e => by
      have : 0 < n * z := Nat.mul_pos hn0 c2
      rw [e] at c4; simp at c4; omega
    obtain ⟨bb, oo, hbo, hl1⟩ := lie1 hxne
    cases hbo
    obtain ⟨olds, ho1, ho2⟩ := hl1.list
    have hol : olds.length = n * i.size := by rw [ho1.1, c4, h1]
    by_cases hroom : n + m ≤ G.cap k
    · have hfit : n * i.size + news.length ≤ cur.size := by
        rw [hnl, hcs, h1, hsz, ← Nat.add_mul]; exact Nat.mul_le_mul_right _ hroom
      have hrun : (Builtin.append_ #[t', t'] o.type #[a.eval y1, a.eval y2]).run P w = .ok (.slice (some ⟨G.cur k, 0, none⟩) (n + m) (G.cap k)) (w.setRow (G.cur k) (cur.toList.take (n * i.size) ++ news ++ cur.toList.drop (n * i.size + news.length)).toArray) := by
        rw [e1, e2]
        exact run_append_here w t' o.type e i hu hi (G.cur k) n (G.cap k) cur ecur hcur ⟨b2, o2, none⟩ m cap2 news hnl hnews hflat hroom hfit
      have hlen : (cur.toList.take (n * i.size) ++ news ++ cur.toList.drop (n * i.size + news.length)).toArray.size = G.cap k * G.siz k := by
        simp only [List.size_toArray, List.length_append, List.length_take, List.length_drop, Array.length_toList]
        omega
      have hget : ∀ off, off < n * z → (cur.toList.take (n * i.size) ++ news ++ cur.toList.drop (n * i.size + news.length)).toArray[off]? = cur[off]? := fun off ho => by
        have hl' : off < (cur.toList.take (n * i.size)).length := by
          rw [h1] at hfit ⊢
          simp; omega
        rw [List.getElem?_toArray, List.append_assoc, List.getElem?_append_left hl', List.getElem?_take, if_pos (by rw [h1]; exact ho)]
        simp
      obtain ⟨G', I', E, k1, k2, k3, k4⟩ := I.growRoom hk (n + m) hroom (by omega) _ hlen (fun off ho => by
        rw [ht0, hsz] at ho
        rw [hget off ho]
        simp [World.cell?, hcur])
      refine ⟨_, _, G', .inl (by rw [hexec _ hrun]; rfl), I', E, VR.fold ⟨_, _, rfl, fun h => by omega, fun _ => ⟨G.cur k, 0, rfl, fun j y hj => ?_⟩, fun k' hk' => ?_⟩⟩
      · have hjl : j < (n + m) * z := by
          have := (List.getElem?_eq_some_iff.1 hj).1
          simp only [List.length_append, c4, c5] at this
          rw [Nat.add_mul]; exact this
        have hcell : (w.setRow (G.cur k) (cur.toList.take (n * i.size) ++ news ++ cur.toList.drop (n * i.size + news.length)).toArray).cell? ⟨G.cur k, 0 + j, none⟩ = (cur.toList.take (n * i.size) ++ news ++ cur.toList.drop (n * i.size + news.length)).toArray[0 + j]? :=
          cell_setRow_same w _ _ cur _ ecur _ hcur
        refine ⟨by rw [hsz] at k1; simpa using k1 j hjl, ?_⟩
        rw [hcell, Nat.zero_add]
        by_cases hjn : j < n * z
        · rw [List.getElem?_append_left (by rw [c4]; exact hjn)] at hj
          obtain ⟨-, c, hc', hr⟩ := hl1 j y hj
          refine ⟨c, ?_, hr.ext E⟩
          rw [hget j hjn]
          have : w.cell? ⟨G.cur k, 0 + j, none⟩ = cur[0 + j]? := by simp [World.cell?, hcur]
          rw [Nat.zero_add] at this hc'
          rw [← this]; exact hc'
        · rw [List.getElem?_append_right (by rw [c4]; omega), c4] at hj
          obtain ⟨c, hc', hr⟩ := hn1.get hj
          refine ⟨c, ?_, hr.ext E⟩
          have hlt : (cur.toList.take (n * i.size)).length = n * z := by
            simp; rw [h1] at hfit ⊢; omega
          rw [List.getElem?_toArray, List.append_assoc, List.getElem?_append_right (by omega), hlt, List.getElem?_append_left (by rw [hnl, h1, Nat.add_mul] at *; omega)]
          exact hc'
      · have hkk : k' = k := by omega
        subst hkk
        refine ⟨hk, by simp [St.raise], ?_, fun _ => ⟨by rw [k2], by rw [k3]⟩⟩
        rw [k4, hsz, List.length_append, c4, c5, Nat.add_mul]
    · have holds : ∀ j u, olds[j]? = some u → w.cell? ((⟨G.cur k, 0, none⟩ : Addr).add j) = some u := fun j u hu => by rw [Addr.add_lit]; exact ho2 j u hu
      have hrun : (Builtin.append_ #[t', t'] o.type #[a.eval y1, a.eval y2]).run P w = .ok (.slice (some ⟨w.heap.size, 0, none⟩) (n + m) (grownCap w (n + m) (G.cap k) e)) (w.drew.alloc (.cells (olds.toArray ++ news.toArray ++ Builtin.zeroCells zv.cells (grownCap w (n + m) (G.cap k) e - (n + m))) e)) := by
        rw [e1, e2]
        exact run_append_grow (P := P) w t' o.type e i zv hu hi hz ⟨G.cur k, 0, none⟩ n (G.cap k) olds hol holds ⟨b2, o2, none⟩ m cap2 news hnl hnews (by omega) (by omega) (growslice_fits (by omega) (by rw [h2]; exact c8))
      have hgc : n + m ≤ grownCap w (n + m) (G.cap k) e := grownCap_ge w (n + m) (G.cap k) e
      obtain ⟨I1, E1⟩ := I.drawn (w.drawn + 1)
      have hsz2 : (olds.toArray ++ news.toArray ++ Builtin.zeroCells zv.cells (grownCap w (n + m) (G.cap k) e - (n + m))).size = grownCap w (n + m) (G.cap k) e * G.siz k := by
        simp only [Array.size_append, List.size_toArray, size_zeroCells, hzs, hnl, hol, h1, hsz, ← Nat.add_mul]
        congr 1; omega
      obtain ⟨G', I', E, k1, k2, k3, k4⟩ := I1.growNew hk (n + m) _ hgc (by omega) _ e hsz2
      refine ⟨_, _, G', .inl (by rw [hexec _ hrun]; rfl), I', E1.trans E, VR.fold ⟨_, _, rfl, fun h => by omega, fun _ => ⟨w.heap.size, 0, rfl, fun j y hj => ?_⟩, fun k' hk' => ?_⟩⟩
      · have hjl : j < (n + m) * z := by
          have := (List.getElem?_eq_some_iff.1 hj).1
          simp only [List.length_append, c4, c5] at this
          rw [Nat.add_mul]; exact this
        obtain ⟨c, hc', hr⟩ := (ho1.append hn1).get hj
        refine ⟨by rw [hsz] at k1; simpa using k1 j hjl, c, ?_, hr.ext (E1.trans E)⟩
        have hcell : (w.drew.alloc (.cells (olds.toArray ++ news.toArray ++ Builtin.zeroCells zv.cells (grownCap w (n + m) (G.cap k) e - (n + m))) e)).cell? ⟨w.heap.size, 0 + j, none⟩ = (olds.toArray ++ news.toArray ++ Builtin.zeroCells zv.cells (grownCap w (n + m) (G.cap k) e - (n + m)))[0 + j]? := cell_push_new (w := w.drew)
        refine Eq.trans hcell ?_
        rw [Nat.zero_add, Array.getElem?_append_left (by simp; rw [hol, hnl, h1, ← Nat.add_mul]; exact hjl)]
        simpa using hc'
      · have hkk : k' = k := by omega
        subst hkk
        refine ⟨hk, by simp [St.raise], ?_, fun _ => ⟨by rw [k2], by rw [k3]⟩⟩
        rw [k4, hsz, List.length_append, c4, c5, Nat.add_mul]

theorem al_ok (I : Inv G σ w) (hs : ∀ t, VR G σ w (a.tmps.getD t undef) (s t)) {o : Oper} {x : AV} {σ' : St} (h : al P s σ o.op = some (x, σ')) : Yld G σ w ((execOp a.eval o).run P w) x σ' := by
  cases hop : o.op <;> rw [hop] at h <;> try (simp [al] at h; done)
  case alloc t => exact l_alloc I hop h
  case box t y => exact l_box I hs hop h
  case store t y z => exact l_store I hs hop h
  case buildSlice t len parts => exact l_buildSlice I hs hop h
  case makeSlice t l c => exact l_makeSlice I hs hop h
  case call c =>
    obtain ⟨callee, args, ts⟩ := c
    cases callee with
    | value f => simp [al] at h
    | invoke r m => simp [al] at h
    | builtin b =>
      cases b <;> try (simp [al] at h; done)
      case append => exact l_append I hs hop h
end
end Go.Abs
