import Derived.Test.YtilaanolklhkaaaGreatDoorZAbsOps
/- What 'aq' says is what the model does. -/
namespace Go.Abs
set_option linter.unusedSimpArgs false
set_option linter.unusedVariables false

section
variable {P : Program} {F : Nat → Prop} {G : Gh} {σ : St} {w : World} {s : Nat → AV} {a : Act}

theorem aev_ok (hs : ∀ t, VR G σ w (a.tmps.getD t undef) (s t)) (x : Operand) : VR G σ w (a.eval x) (aev s x) := by
  cases x with
  | tmp t => exact hs t
  | const v => exact VR.cst v
  | global g => exact VR.sc _
  | func f => exact VR.sc _

theorem aint_ok {v : Value} {x : AV} {i : Int} (h : VR G σ w v x) (hi : aint x = some i) : ∃ k, v = .int k i := by
  unfold aint at hi
  split at hi
  · cases hi; exact ⟨_, h.of_sc⟩
  · cases hi

theorem VR.of_ptr {v : Value} {o off : Nat} (h : VR G σ w v (ptr o off)) : v = .pointer (some ⟨G.blk o, off, none⟩) ∧ o < σ.nobj := h.unfold
theorem VR.of_fx {v : Value} {o off len : Nat} (h : VR G σ w v (fx o off len)) : (∃ cap, v = .slice (some ⟨G.blk o, off, none⟩) len cap) ∧ o < σ.nobj := h.unfold
theorem VR.of_el {v : Value} {xs : List AV} (h : VR G σ w v (el xs)) : ∃ b o, v = .pointer (some ⟨b, o, none⟩) ∧ Lie w G.per (VR G σ w) b o xs := h.unfold
theorem VR.of_ag {v : Value} {xs : List AV} (h : VR G σ w v (ag xs)) : ∃ cs, v = .agg cs ∧ All2 (VR G σ w) cs.toList xs := h.unfold
theorem VR.of_tp {v : Value} {xs : List AV} (h : VR G σ w v (tp xs)) : ∃ cs, v = .tuple cs ∧ All2 (VR G σ w) cs.toList xs := h.unfold
theorem VR.of_sl {v : Value} {id n : Nat} {xs : List AV} (h : VR G σ w v (sl id n xs)) : ∃ base cap, v = .slice base n cap ∧ (id = 1 → n = 0 ∧ cap = 0) ∧
      (xs ≠ [] → ∃ b o, base = some ⟨b, o, none⟩ ∧ Lie w G.per (VR G σ w) b o xs) ∧
      (∀ k, id = k + 2 → k < σ.ntop ∧ n ≤ σ.top k ∧ xs.length = n * G.siz k ∧ (n = σ.top k → base = some ⟨G.cur k, 0, none⟩ ∧ cap = G.cap k)) := h.unfold

theorem q_load (I : Inv G σ w) (hs : ∀ t, VR G σ w (a.tmps.getD t undef) (s t)) {t : TypeId} {y : Operand} {x : AV} (h : aq P s σ (.load t y) = some x) (hF : ∀ o, rdo s (.load t y) = some o → F o) :
    ∃ v, VR G σ w v x ∧ ∀ w', Same F G σ w w' → (Instr.loadAt t (a.eval y)).run P w' = .ok v w' := by
  simp only [aq] at h
  split at h
  · rename_i ga n ys ht hb
    obtain ⟨b, o, cs, hv, hc, hl⟩ := behind_ok I (aev_ok hs y) hb hF
    obtain ⟨v, h1, h2⟩ := aload_ok (P := P) hc h ht b o (C := Same F G σ w) hl
    refine ⟨v, h1, fun w' S => ?_⟩
    simp [Instr.loadAt, hv, Instr.sureAddr, h2 w' S]
  · cases h

theorem q_fieldAddr (hs : ∀ t, VR G σ w (a.tmps.getD t undef) (s t)) {t : TypeId} {y : Operand} {f : Nat} {x : AV} (h : aq P s σ (.fieldAddr t y f) = some x) :
    ∃ v, VR G σ w v x ∧ ∀ w', (Instr.fieldAt t (a.eval y) f).run P w' = .ok v w' := by
  have hy := aev_ok hs y
  simp only [aq] at h
  split at h
  · rename_i d g n o off ht hx
    cases h
    obtain ⟨fs, fl, h1, h2, h3, h4, h5⟩ := tfld_some ht
    rw [hx] at hy
    obtain ⟨hv, ho⟩ := VR.of_ptr hy
    refine ⟨.pointer (some ⟨G.blk o, off + d, none⟩), VR.fold ⟨rfl, ho⟩, fun w' => ?_⟩
    simp [Instr.fieldAt, run_underlying h1, h2, hv, Instr.sureAddr, fieldPlace, (run_isAgg h4 w').2, h5, h3, Addr.add_lit]
  · rename_i d g n ys ht hx
    cases h
    obtain ⟨fs, fl, h1, h2, h3, h4, h5⟩ := tfld_some ht
    rw [hx] at hy
    obtain ⟨b, o, hv, hl⟩ := VR.of_el hy
    refine ⟨.pointer (some ⟨b, o + d, none⟩), VR.fold ⟨b, o + d, rfl, hl.drop d⟩, fun w' => ?_⟩
    simp [Instr.fieldAt, run_underlying h1, h2, hv, Instr.sureAddr, fieldPlace, (run_isAgg h4 w').2, h5, h3, Addr.add_lit]
  · cases h

theorem q_indexAddr (hs : ∀ t, VR G σ w (a.tmps.getD t undef) (s t)) {t : TypeId} {y z : Operand} {x : AV} (h : aq P s σ (.indexAddr t y z) = some x) :
    ∃ v, VR G σ w v x ∧ ∀ w', (Instr.indexAt t (a.eval y) (a.eval z)).run P w' = .ok v w' := by
  have hy := aev_ok hs y
  have hz := aev_ok hs z
  simp only [aq] at h
  split at h
  case h_2 => cases h
  rename_i i hi
  obtain ⟨k, hk⟩ := aint_ok hz hi
  split at h
  · rename_i xs id n m by_ hx hte
    split at h
    case isFalse => cases h
    rename_i hc
    cases h
    obtain ⟨e, ie, h1, h2, h3, -⟩ := telem_some hte
    rw [hx] at hy
    obtain ⟨base, cap, hv, -, hl, -⟩ := VR.of_sl hy
    have hne : xs ≠ [] := fun e => by
      have := hc.2.2
      rw [e] at this
      simp at this
    obtain ⟨b, o, hb, hl'⟩ := hl hne
    subst hb
    refine ⟨.pointer (some ⟨b, o + i.toNat * (m + 1), none⟩), VR.fold ⟨b, _, rfl, hl'.drop _⟩, fun w' => ?_⟩
    have hr : 0 ≤ i ∧ i < (n : Int) := ⟨hc.1, hc.2.1⟩
    simp [Instr.indexAt, asIntOf, hk, run_underlying h1, hv, hr, sizeOf, typeInfo, h2, h3, Addr.add_lit]
  · rename_i o off len m by_ hx hte
    split at h
    case isFalse => cases h
    rename_i hc
    cases h
    obtain ⟨e, ie, h1, h2, h3, -⟩ := telem_some hte
    rw [hx] at hy
    obtain ⟨⟨cap, hv⟩, ho⟩ := VR.of_fx hy
    refine ⟨.pointer (some ⟨G.blk o, off + i.toNat * m, none⟩), VR.fold ⟨rfl, ho⟩, fun w' => ?_⟩
    simp [Instr.indexAt, asIntOf, hk, run_underlying h1, hv, hc, sizeOf, typeInfo, h2, h3, Addr.add_lit]
  · rename_i o off len m hx hte
    split at h
    case isFalse => cases h
    rename_i hc
    cases h
    obtain ⟨e, ie, h1, h2, h3⟩ := tarr_some hte
    rw [hx] at hy
    obtain ⟨hv, ho⟩ := VR.of_ptr hy
    refine ⟨.pointer (some ⟨G.blk o, off + i.toNat * m, none⟩), VR.fold ⟨rfl, ho⟩, fun w' => ?_⟩
    simp [Instr.indexAt, asIntOf, hk, run_underlying h1, hv, Instr.sureAddr, hc, sizeOf, typeInfo, h2, h3, Addr.add_lit]
  · rename_i ys len m hx hte
    split at h
    case isFalse => cases h
    rename_i hc
    cases h
    obtain ⟨e, ie, h1, h2, h3⟩ := tarr_some hte
    rw [hx] at hy
    obtain ⟨b, o, hv, hl⟩ := VR.of_el hy
    refine ⟨.pointer (some ⟨b, o + i.toNat * m, none⟩), VR.fold ⟨b, _, rfl, hl.drop _⟩, fun w' => ?_⟩
    simp [Instr.indexAt, asIntOf, hk, run_underlying h1, hv, Instr.sureAddr, hc, sizeOf, typeInfo, h2, h3, Addr.add_lit]
  · cases h

theorem q_field (hs : ∀ t, VR G σ w (a.tmps.getD t undef) (s t)) {t : TypeId} {y : Operand} {f : Nat} {x : AV} (h : aq P s σ (.field t y f) = some x) :
    ∃ v, VR G σ w v x ∧ ∀ w', (Instr.field t (a.eval y) f).run P w' = .ok v w' := by
  have hy := aev_ok hs y
  simp only [aq] at h
  split at h
  case h_2 => cases h
  rename_i d ga n cs0 ht hx
  obtain ⟨fs, fl, h1, h2, h3, h4, h5⟩ := tfld_some ht
  rw [hx] at hy
  obtain ⟨cs, hv, hc⟩ := VR.of_ag hy
  unfold apart1 aload at h
  split at h
  · rename_i hg
    subst hg
    split at h
    case isFalse => cases h
    rename_i hn
    cases h
    refine ⟨.agg (cs.extract d (d + n)), VR.fold ⟨_, rfl, ?_⟩, fun w' => ?_⟩
    · have := (hc.drop d).take n
      simpa [Array.toList_extract, List.extract_eq_take_drop] using this
    · simp [Instr.field, run_underlying h1, h2, hv, asAgg, part, (run_isAgg h4 w').1, (run_isAgg h4 w').2, h3]
  · rename_i hg
    have hg' : ga = false := by simpa using hg
    subst hg'
    obtain ⟨v, hv', hr⟩ := (hc.drop d).get (i := 0) (x := x) (by rw [← List.head?_eq_getElem?]; exact h)
    refine ⟨v, hr, fun w' => ?_⟩
    rw [List.getElem?_drop] at hv'
    simp only [Nat.add_zero, Array.getElem?_toList] at hv'
    simp [Instr.field, run_underlying h1, h2, hv, asAgg, part, (run_isAgg h4 w').1, h3, hv']

theorem run_equal_bool {t : TypeId} (hu : P.underlying t = some .bool) (u v : Bool) (w' : World) : (Op.equal t (.bool u) (.bool v)).run P w' = .ok (u == v) w' := by
  unfold Op.equal
  rw [show Op.maxDepth = 9999 + 1 from rfl]
  unfold Op.equalIn
  simp [run_underlying hu]

theorem q_bin {op : BinOp} {t : TypeId} {u v r : Value} {x y : Operand} (h : abin P op t u v = some r) (w' : World) :
    (do eqGuard op t x y u v; Go.binOp op t u v : Sem Value).run P w' = .ok r w' := by
  unfold abin at h
  split at h
  · rename_i k a k' b
    split at h
    case isFalse => cases h
    rename_i hk
    subst hk
    split at h <;> first
      | (cases h; simp [eqGuard, Go.binOp, Op.intArith, Op.intCmp]; done)
      | (split at h
         · cases h
         · rename_i hb
           cases h; simp [eqGuard, Go.binOp, Op.intDiv, hb])
      | cases h
  · rename_i a b
    split at h
    · split at h
      case isFalse => cases h
      rename_i hb
      cases h
      have hm : (a.size : Int) + (b.size : Int) ≤ 9223372036854775807 := by omega
      simp [eqGuard, Go.binOp, Op.stringOp, hm]
    · cases h; simp [eqGuard, Go.binOp, Op.stringOp]
    · cases h; simp [eqGuard, Go.binOp, Op.stringOp]
    · cases h
  · split at h
    · rename_i hu
      cases h; simp [eqGuard, Go.binOp, run_equal_bool hu]
    · rename_i hu
      cases h; simp [eqGuard, Go.binOp, run_equal_bool hu]
    · cases h
  · cases h

theorem run_sliceBound {u : Value} {x : AV} {y h d : Nat} {c : BoundsCode} (hx : VR G σ w u x) (hb : bnd y (some x) d = some h) (w' : World) : (Instr.sliceBound u y c).run P w' = .ok h w' := by
  unfold bnd at hb
  simp only at hb
  split at hb
  · rename_i i hi
    split at hb
    · rename_i hc
      cases hb
      obtain ⟨k, hk⟩ := aint_ok hx hi
      simp [Instr.sliceBound, hk, asIntOf, hc]
    · cases hb
  · cases hb

theorem q_slice (hs : ∀ t, VR G σ w (a.tmps.getD t undef) (s t)) {t : TypeId} {y : Operand} {lo hi mx : Option Operand} {x : AV} (h : aq P s σ (.slice t y lo hi mx) = some x) :
    ∃ v, VR G σ w v x ∧ ∀ w', (Instr.sliceAt t (a.eval y) (lo.map a.eval) (hi.map a.eval) (mx.map a.eval)).run P w' = .ok v w' := by
  have hy := aev_ok hs y
  simp only [aq] at h
  split at h
  case h_2 => cases h
  rename_i b hx hu
  rw [hx] at hy
  have hv := hy.of_sc
  split at h
  case h_2 => cases h
  rename_i e he
  split at h
  case h_2 => cases h
  rename_i l hl
  cases h
  refine ⟨_, VR.sc _, fun w' => ?_⟩
  have hbd : (Instr.sliceBounds false b.size b.size (lo.map a.eval) (hi.map a.eval) none).run P w' = .ok (l, e, b.size) w' := by
    cases hi with
    | none =>
      simp [bnd] at he
      subst he
      cases lo with
      | none => simp [bnd] at hl; subst hl; simp [Instr.sliceBounds]
      | some lo =>
        have := run_sliceBound (P := P) (c := .sliceB) (aev_ok hs lo) hl w'
        simp [Instr.sliceBounds, this]
    | some hi =>
      have h1 := run_sliceBound (P := P) (c := .sliceAlen) (aev_ok hs hi) he w'
      cases lo with
      | none => simp [bnd] at hl; subst hl; simp [Instr.sliceBounds, h1]
      | some lo =>
        have := run_sliceBound (P := P) (c := .sliceB) (aev_ok hs lo) hl w'
        simp [Instr.sliceBounds, h1, this]
  simp [Instr.sliceAt, run_underlying hu, Instr.slice, hv, hbd]

theorem abytes_ok {cs : List Value} {xs : List AV} {bs : List UInt8} (hc : All2 (VR G σ w) cs xs) (h : abytes xs = some bs) :
    ∃ ns : List Int, cs = ns.map (Value.int .u8) ∧ bs = ns.map fun n => UInt8.ofNat n.toNat := by
  induction xs generalizing cs bs with
  | nil =>
    have : cs = [] := List.eq_nil_of_length_eq_zero (by rw [hc.1]; rfl)
    simp [abytes] at h
    exact ⟨[], by simp [this], by simp [h]⟩
  | cons x xs ih =>
    cases cs with
    | nil => have := hc.1; simp at this
    | cons c cs =>
      unfold abytes at h
      split at h
      · rename_i e; cases e
      · rename_i n r e
        cases e
        have h0 := (hc.2 0 c (sc (.int .u8 n)) rfl rfl).of_sc
        cases hr : abytes xs with
        | none => simp [hr] at h
        | some r =>
          simp [hr] at h
          obtain ⟨ns, h1, h2⟩ := ih (cs := cs) (bs := r) ⟨by have := hc.1; simpa using this, fun i a b ha hb => hc.2 (i + 1) a b (by simpa using ha) (by simpa using hb)⟩ hr
          exact ⟨n :: ns, by simp [h0, h1], by simp [← h, h2]⟩
      · cases h

theorem run_bytes {cs : List Value} {ns : List Int} (hcs : cs = ns.map (Value.int .u8)) (b o cap : Nat) (w' : World) (hl : ∀ j u, cs[j]? = some u → w'.cell? ⟨b, o + j, none⟩ = some u) :
    (Conv.bytesToString (.slice (some ⟨b, o, none⟩) cs.length cap)).run P w' = .ok (.string ⟨(ns.map fun n => UInt8.ofNat n.toNat).toArray⟩) w' := by
  have h1 := run_loadCells_list (P := P) w' ⟨b, o, none⟩ cs (fun j u hu => by rw [Addr.add_lit]; exact hl j u hu)
  rw [hcs] at h1
  have h2 := run_bytesToString w' ⟨b, o, none⟩ _ cap ns h1
  rw [← hcs] at h2
  rw [h2]
  have key : ∀ (ms : List Int) (acc : ByteArray), ms.foldl (fun r n => r.push (UInt8.ofNat n.toNat)) acc = ⟨acc.data ++ (ms.map fun n => UInt8.ofNat n.toNat).toArray⟩ := by
    intro ms
    induction ms with
    | nil => intro acc; simp
    | cons m ms ih =>
      intro acc
      simp only [List.foldl_cons, ih]
      congr 1
      apply Array.ext'
      simp [ByteArray.push]
  rw [key]
  simp

theorem q_convert (I : Inv G σ w) (hs : ∀ t, VR G σ w (a.tmps.getD t undef) (s t)) {src dst : TypeId} {y : Operand} {x : AV} (h : aq P s σ (.convert src dst y) = some x) :
    ∃ v, VR G σ w v x ∧ ∀ w', Same F G σ w w' → (Go.convert src dst (a.eval y)).run P w' = .ok v w' := by
  have hy := aev_ok hs y
  simp only [aq] at h
  split at h
  · rename_i u hx
    rw [hx] at hy
    have hv := hy.of_sc
    cases hc : aconv P src dst u with
    | none => simp [hc] at h
    | some r =>
      simp [hc] at h
      subst h
      refine ⟨r, VR.sc r, fun w' _ => ?_⟩
      unfold aconv at hc
      split at hc
      · split at hc
        · rename_i h1 h2
          cases hc
          simp [Go.convert, run_underlying h1, run_underlying h2, hv, Conv.intToInt]
        · cases hc
      · cases hc
  · rename_i xs id n hx
    rw [hx] at hy
    split at h
    case h_2 => cases h
    rename_i e h1 h2
    split at h
    case h_2 => cases h
    rename_i bs h3 h4
    split at h
    case isFalse => cases h
    rename_i hn
    cases h
    refine ⟨_, VR.sc _, fun w' S => ?_⟩
    obtain ⟨base, cap, hv, -, hl, -⟩ := VR.of_sl hy
    subst hn
    rw [List.take_length] at h4
    rw [hv, run_convert_bytes_string w' src dst e base _ cap h1 h3 h2]
    by_cases hne : xs = []
    · subst hne
      simp [abytes] at h4
      subst h4
      cases base with
      | none => simp [Conv.bytesToString]; rfl
      | some ad => simp [Conv.bytesToString, loadCells, loadCellsFrom]; rfl
    · obtain ⟨b, o, hb, hl'⟩ := hl hne
      subst hb
      obtain ⟨cs, hc1, hc2⟩ := hl'.list
      obtain ⟨ns, e1, e2⟩ := abytes_ok hc1 h4
      rw [e2, ← hc1.1]
      exact run_bytes e1 b o cap w' (fun j u hu => by
        have hj : j < cs.length := (List.getElem?_eq_some_iff.1 hu).1
        have hx' : xs[j]? = some (xs[j]'(by rw [← hc1.1]; exact hj)) := List.getElem?_eq_getElem _
        rw [S.1 _ _ (hl' j _ hx').1]
        exact hc2 j u hu)
  · cases h

theorem All2.set {R : Value → AV → Prop} {l : List Value} {m : List AV} (h : All2 R l m) {v : Value} {x : AV} (hv : R v x) (i : Nat) : All2 R (l.set i v) (m.set i x) := by
  refine ⟨by simp [h.1], fun j a b ha hb => ?_⟩
  rw [List.getElem?_set] at ha hb
  have := h.1
  by_cases hij : i = j
  · subst hij
    simp at ha hb
    rw [← ha.2, ← hb.2]
    exact hv
  · rw [if_neg hij] at ha hb
    exact h.2 j a b ha hb

theorem All2.lsp {R : Value → AV → Prop} : ∀ (vs : List Value) (ys : List AV) (off k : Nat) (cells : Array Value) (xs : List AV), All2 R vs ys → All2 R cells.toList xs →
    All2 R ((vs.zipIdx k).foldl (fun cs c => cs.setIfInBounds (off + c.2) c.1) cells).toList (Abs.lsp xs (off + k) ys)
  | [], ys, off, k, cells, xs, h, hc => by
    have : ys = [] := List.eq_nil_of_length_eq_zero (by rw [← h.1]; rfl)
    subst this
    exact hc
  | v :: vs, [], off, k, cells, xs, h, hc => by have := h.1; simp at this
  | v :: vs, y :: ys, off, k, cells, xs, h, hc => by
    simp only [List.zipIdx_cons, List.foldl_cons, Abs.lsp]
    have h0 : R v y := h.2 0 v y rfl rfl
    have ht : All2 R vs ys := ⟨by have := h.1; simpa using this, fun i a b ha hb => h.2 (i + 1) a b (by simpa using ha) (by simpa using hb)⟩
    have := All2.lsp vs ys off (k + 1) (cells.setIfInBounds (off + k) v) (xs.set (off + k) y) ht (by rw [Array.toList_setIfInBounds]; exact hc.set h0 _)
    rwa [Nat.add_assoc]

theorem afill_ok {place place' : Nat → Option (Nat × Nat)} (hpl : ∀ i, place' i = place i) : ∀ (parts : List (Nat × Value)) (aparts : List (Nat × AV)) (cells : Array Value) (xs ys : List AV), All2 (VR G σ w) cells.toList xs →
    parts.length = aparts.length → (∀ (i : Nat) (p : Nat × Value) (q : Nat × AV), parts[i]? = some p → aparts[i]? = some q → p.1 = q.1 ∧ VR G σ w p.2 q.2) → afill place xs aparts = some ys →
    ∃ cs, Instr.fill place' cells parts = some cs ∧ All2 (VR G σ w) cs.toList ys
  | [], aparts, cells, xs, ys, hc, hl, hp, h => by
    have : aparts = [] := List.eq_nil_of_length_eq_zero (by rw [← hl]; rfl)
    subst this
    simp [afill] at h
    subst h
    exact ⟨cells, rfl, hc⟩
  | p :: parts, [], cells, xs, ys, hc, hl, hp, h => by simp at hl
  | (i, v) :: parts, (j, x) :: aparts, cells, xs, ys, hc, hl, hp, h => by
    obtain ⟨he, hv⟩ := hp 0 _ _ rfl rfl
    simp only at he hv
    subst he
    simp only [afill] at h
    split at h
    · cases h
    · rename_i off size ho
      split at h
      · cases h
      · rename_i hn
        have hcl := hv.cells
        have hsz : v.cells.size = size := by have := hcl.1; simp at this; omega
        have hcs : cells.size = xs.length := by have := hc.1; simpa using this
        have := All2.lsp v.cells.toList (acells x) off 0 cells xs hcl hc
        obtain ⟨cs, h1, h2⟩ := afill_ok hpl parts aparts _ _ ys this (by simpa using hl) (fun i p q a b => hp (i + 1) p q (by simpa using a) (by simpa using b)) h
        refine ⟨cs, ?_, h2⟩
        have hcond : ¬ (v.cells.size ≠ size || decide (off + v.cells.size > cells.size)) = true := by simp; omega
        have hfold : v.cells.zipIdx.foldl (fun cs c => cs.setIfInBounds (off + c.2) c.1) cells = (v.cells.toList.zipIdx 0).foldl (fun cs c => cs.setIfInBounds (off + c.2) c.1) cells := by
          rw [← Array.foldl_toList, Array.toList_zipIdx]
        simp only [Instr.fill, hpl, ho]
        rw [if_neg hcond]
        rw [← h1, ← hfold]

theorem q_build (hs : ∀ t, VR G σ w (a.tmps.getD t undef) (s t)) {t : TypeId} {parts : Array (Nat × Operand)} {x : AV} (h : aq P s σ (.build t parts) = some x) :
    ∃ v, VR G σ w v x ∧ ∀ w', (Instr.build t (parts.map fun (i, x) => (i, a.eval x))).run P w' = .ok v w' := by
  simp only [aq] at h
  split at h
  case h_2 => cases h
  rename_i z places ht
  cases hf : afill (places[·]?) (z.map Abs.cst1) (parts.toList.map fun p => (p.1, aev s p.2)) with
  | none => simp [hf] at h
  | some ys =>
    simp [hf] at h
    subst h
    have hz : All2 (VR G σ w) z.toArray.toList (z.map Abs.cst1) := by
      have := All2.of_map (R := VR G σ w) (fun v : Value => v) Abs.cst1 (fun v => VR.cst1 v) z
      simpa using this
    obtain ⟨cs, h1, h2⟩ := afill_ok (place' := fun i => places.toArray[i]?) (fun i => by simp) (parts.toList.map fun p => (p.1, a.eval p.2)) (parts.toList.map fun p => (p.1, aev s p.2)) z.toArray _ ys hz (by simp)
      (fun i p q hp hq => by
        simp only [List.getElem?_map] at hp hq
        cases hi : parts.toList[i]? with
        | none => simp [hi] at hp
        | some r =>
          simp [hi] at hp hq
          subst hp; subst hq
          exact ⟨rfl, aev_ok hs r.2⟩) hf
    refine ⟨.agg cs, VR.fold ⟨cs, rfl, h2⟩, fun w' => run_build w' t _ cs ?_⟩
    unfold tstr at ht
    split at ht
    case h_2 => cases ht
    rename_i it fields hi hu
    split at ht
    case h_2 => cases ht
    rename_i zv pl hzv hpl
    simp at ht
    obtain ⟨rfl, rfl⟩ := ht
    unfold Program.built
    simp only [hi, hu, hzv, hpl]
    simpa using h1

/-- What 'aq' says is what the model does, in every world that reads the same. -/
theorem aq_ok (I : Inv G σ w) (hs : ∀ t, VR G σ w (a.tmps.getD t undef) (s t)) {o : Oper} {x : AV} (h : aq P s σ o.op = some x) (hF : ∀ p, rdo s o.op = some p → F p) :
    ∃ v, VR G σ w v x ∧ ∀ w', Same F G σ w w' → (execOp a.eval o).run P w' = .ok (.value v) w' := by
  cases hop : o.op <;> rw [hop] at h hF <;> try (simp [aq] at h; done)
  case move y => simp [aq] at h; subst h; exact ⟨_, aev_ok hs y, fun w' _ => by simp [execOp, hop]⟩
  case assign y => simp [aq] at h; subst h; exact ⟨_, aev_ok hs y, fun w' _ => by simp [execOp, hop]⟩
  case pick c y z =>
    simp only [aq] at h
    split at h
    case h_2 => cases h
    rename_i t hc
    have hv := aev_ok hs c
    rw [hc] at hv
    have hv := hv.of_sc
    cases h
    cases t with
    | true => exact ⟨_, aev_ok hs y, fun w' _ => by simp [execOp, hop, hv, asBool]⟩
    | false => exact ⟨_, aev_ok hs z, fun w' _ => by simp [execOp, hop, hv, asBool]⟩
  case load t y =>
    obtain ⟨v, h1, h2⟩ := q_load I hs h hF
    exact ⟨v, h1, fun w' S => by simp [execOp, hop, h2 w' S]⟩
  case nilCheck y =>
    simp only [aq] at h
    split at h
    · rename_i p off hx
      cases h
      have hv := aev_ok hs y
      rw [hx] at hv
      exact ⟨_, hv, fun w' _ => by simp [execOp, hop, (VR.of_ptr hv).1]⟩
    · rename_i ys hx
      cases h
      have hv := aev_ok hs y
      rw [hx] at hv
      obtain ⟨b, q, he, hl⟩ := VR.of_el hv
      exact ⟨_, hv, fun w' _ => by simp [execOp, hop, he]⟩
    · cases h
  case fieldAddr t y f =>
    obtain ⟨v, h1, h2⟩ := q_fieldAddr hs h
    exact ⟨v, h1, fun w' S => by simp [execOp, hop, h2 w']⟩
  case field t y f =>
    obtain ⟨v, h1, h2⟩ := q_field hs h
    exact ⟨v, h1, fun w' S => by simp [execOp, hop, h2 w']⟩
  case indexAddr t y z =>
    obtain ⟨v, h1, h2⟩ := q_indexAddr hs h
    exact ⟨v, h1, fun w' S => by simp [execOp, hop, h2 w']⟩
  case index t y z =>
    simp only [aq] at h
    split at h
    case h_2 => cases h
    rename_i i b hi hx hu
    split at h
    case isFalse => cases h
    rename_i h0
    cases hb : b[i.toNat]? with
    | none => simp [hb] at h
    | some c =>
      simp [hb] at h
      subst h
      have hv := aev_ok hs y
      rw [hx] at hv
      have hv := hv.of_sc
      obtain ⟨k, hk⟩ := aint_ok (aev_ok hs z) hi
      exact ⟨_, VR.sc _, fun w' _ => by simp [execOp, hop, Instr.index, hk, asIntOf, run_underlying hu, hv, h0, hb]⟩
  case build t parts =>
    obtain ⟨v, h1, h2⟩ := q_build hs h
    exact ⟨v, h1, fun w' S => by simp only [execOp, hop]; rw [Sem.run_bind, h2 w']; rfl⟩
  case extract y i =>
    simp only [aq] at h
    split at h
    case h_2 => cases h
    rename_i xs hx
    have hv := aev_ok hs y
    rw [hx] at hv
    obtain ⟨cs, he, ha⟩ := VR.of_tp hv
    obtain ⟨v, h1, h2⟩ := ha.get h
    exact ⟨v, h2, fun w' _ => by
      have : cs[i]? = some v := by simpa using h1
      simp [execOp, hop, Instr.extract, he, this]⟩
  case binOp op t y z t' =>
    simp only [aq] at h
    split at h
    case h_2 => cases h
    rename_i u u' hx hy
    cases hb : abin P op t u u' with
    | none => simp [hb] at h
    | some r =>
      simp [hb] at h
      subst h
      have hv := aev_ok hs y
      rw [hx] at hv
      have hv := hv.of_sc
      have hv' := aev_ok hs z
      rw [hy] at hv'
      have hv' := hv'.of_sc
      exact ⟨r, VR.sc r, fun w' _ => by
        have := q_bin (x := y) (y := z) hb w'
        simp only [execOp, hop, hv, hv']
        rw [Sem.run_bind, this]
        rfl⟩
  case unOp op t y =>
    simp only [aq] at h
    split at h
    · rename_i b hx
      cases h
      have hv := aev_ok hs y
      rw [hx] at hv
      have hv := hv.of_sc
      exact ⟨_, VR.sc _, fun w' _ => by simp [execOp, hop, hv, Op.unary]⟩
    · rename_i k n hx
      cases h
      have hv := aev_ok hs y
      rw [hx] at hv
      have hv := hv.of_sc
      exact ⟨_, VR.sc _, fun w' _ => by simp [execOp, hop, hv, Op.unary, Op.intArith]⟩
    · cases h
  case convert src dst y =>
    obtain ⟨v, h1, h2⟩ := q_convert (F := F) I hs h
    exact ⟨v, h1, fun w' S => by simp [execOp, hop, h2 w' S]⟩
  case slice t y lo hi mx =>
    obtain ⟨v, h1, h2⟩ := q_slice hs h
    exact ⟨v, h1, fun w' S => by simp [execOp, hop, h2 w']⟩
  case call c =>
    obtain ⟨callee, args, ts⟩ := c
    cases callee with
    | value f => simp [aq] at h
    | invoke r m => simp [aq] at h
    | builtin b =>
      cases b <;> try (simp [aq] at h; done)
      case len =>
        simp only [aq] at h
        obtain ⟨args⟩ := args
        obtain ⟨ts⟩ := ts
        split at h
        · rename_i b t hx ht
          simp at hx ht
          cases args with
          | nil => simp at hx
          | cons y r =>
            cases r with
            | cons z r => simp at hx
            | nil =>
              simp at hx
              split at h
              · rename_i hu
                simp at h
                subst h
                have hv := aev_ok hs y
                rw [hx] at hv
                have hv := hv.of_sc
                exact ⟨_, VR.sc _, fun w' _ => by simp [execOp, hop, resolve, invoke, Go.builtin, Builtin.len_, ht, hv, run_underlying hu, goInt]⟩
              · simp at h
        · rename_i xs id n t hx ht
          simp at hx ht
          cases args with
          | nil => simp at hx
          | cons y r =>
            cases r with
            | cons z r => simp at hx
            | nil =>
              simp at hx
              split at h
              · rename_i hu
                obtain ⟨⟨z, q⟩, hz⟩ := Option.isSome_iff_exists.1 hu
                obtain ⟨e, ie, h1, -⟩ := telem_some hz
                cases h
                have hv := aev_ok hs y
                rw [hx] at hv
                obtain ⟨base, cap, he, -⟩ := VR.of_sl hv
                exact ⟨_, VR.sc _, fun w' _ => by simp [execOp, hop, resolve, invoke, Go.builtin, Builtin.len_, ht, he, run_underlying h1, goInt]⟩
              · cases h
        · rename_i p off n t hx ht
          simp at hx ht
          cases args with
          | nil => simp at hx
          | cons y r =>
            cases r with
            | cons z r => simp at hx
            | nil =>
              simp at hx
              split at h
              · rename_i hu
                obtain ⟨⟨z, q⟩, hz⟩ := Option.isSome_iff_exists.1 hu
                obtain ⟨e, ie, h1, -⟩ := telem_some hz
                cases h
                have hv := aev_ok hs y
                rw [hx] at hv
                obtain ⟨⟨cap, he⟩, -⟩ := VR.of_fx hv
                exact ⟨_, VR.sc _, fun w' _ => by simp [execOp, hop, resolve, invoke, Go.builtin, Builtin.len_, ht, he, run_underlying h1, goInt]⟩
              · cases h
        · cases h
end
end Go.Abs
