import Derived.Test.YtilaanolklhkaaaGreatDoorZAbsMem
/- The operations that leave memory alone: what each yields, and that the model's does. -/
namespace Go.Abs

/-! ### What of a type is looked at -/
def isAggD : TypeDesc → Bool
  | .struct _ => true
  | .array _ _ => true
  | _ => false
/-- is it laid in several cells; how many -/
def tsz (P : Program) (t : TypeId) : Option (Bool × Nat) :=
  match P.underlying t, P.info? t with
  | some d, some i => some (isAggD d, i.size)
  | _, _ => none
/-- the zero value's cells -/
def tzero (P : Program) (t : TypeId) : Option (List Value) := ((P.info? t).bind (·.zero)).map (·.cells.toList)
/-- a field's offset (of a field that takes a cell at least), and how it is laid -/
def tfld (P : Program) (t : TypeId) (f : Nat) : Option (Nat × Bool × Nat) :=
  match P.underlying t with
  | some (.struct fs) => match fs[f]? with
    | some fl => match tsz P fl.type with
      | some (g, n + 1) => some (fl.offset, g, n + 1)
      | _ => none
    | none => none
  | _ => none
/-- a slice type's element: cells, bytes -/
def telem (P : Program) (t : TypeId) : Option (Nat × Nat) :=
  match P.underlying t with
  | some (.slice e) => (P.info? e).map fun i => (i.size, i.bytes)
  | _ => none
/-- an array type: its length, an element's cells -/
def tarr (P : Program) (t : TypeId) : Option (Nat × Nat) :=
  match P.underlying t with
  | some (.array n e) => (P.info? e).map fun i => (n, i.size)
  | _ => none
def tstr (P : Program) (t : TypeId) : Option (List Value × List (Nat × Nat)) :=
  match P.info? t, P.underlying t with
  | some it, some (.struct fields) =>
    match it.zero, fields.toList.mapM (fun f => (P.info? f.type).map fun i => (f.offset, i.size)) with
    | some z, some places => some (z.cells.toList, places)
    | _, _ => none
  | _, _ => none

/-! ### Values -/
def cst1 : Value → AV
  | .slice none 0 0 => nilS
  | v => sc v
def cst : Value → AV
  | .agg cs => ag (cs.toList.map cst1)
  | .slice none 0 0 => nilS
  | v => sc v
def aev (s : Nat → AV) : Operand → AV
  | .tmp t => s t
  | .const v => cst v
  | .global g => sc (.pointer (some ⟨g, 0, none⟩))
  | .func f => sc (.func (.func f) #[] #[])
def acells : AV → List AV
  | .agg xs => xs
  | .held (.inl v) => v.cells.toList.map sc
  | x => [x]
def flat : AV → Bool
  | .agg _ => false
  | .ptr (.agg _) => false
  | .held (.inl v) => v.oneCell'
  | _ => true

theorem VR.sc {G : Gh} {σ : St} {w : World} (v : Value) : VR G σ w v (sc v) := VR.fold rfl
theorem VR.of_sc {G : Gh} {σ : St} {w : World} {v u : Value} (h : VR G σ w v (Abs.sc u)) : v = u := h.unfold
theorem VR.nilS {G : Gh} {σ : St} {w : World} : VR G σ w (.slice none 0 0) nilS :=
  VR.fold ⟨none, 0, rfl, fun _ => ⟨rfl, rfl⟩, fun h => absurd rfl h, fun k h => by omega⟩
theorem VR.cst1 {G : Gh} {σ : St} {w : World} (v : Value) : VR G σ w v (cst1 v) := by
  unfold Abs.cst1
  split
  · exact VR.nilS
  · exact VR.sc v
theorem VR.cst {G : Gh} {σ : St} {w : World} (v : Value) : VR G σ w v (cst v) := by
  unfold Abs.cst
  split
  · exact VR.fold ⟨_, rfl, by
      have := All2.of_map (R := VR G σ w) (fun v : Value => v) Abs.cst1 (fun v => VR.cst1 v)
      rename_i cs
      simpa using this cs.toList⟩
  · exact VR.nilS
  · exact VR.sc v

theorem VR.cells {G : Gh} {σ : St} {w : World} {v : Value} {x : AV} (h : VR G σ w v x) : All2 (VR G σ w) v.cells.toList (acells x) := by
  have hu := h.unfold
  unfold Abs.acells
  split
  · obtain ⟨cs, rfl, ha⟩ := hu; exact ha
  · have hv : v = _ := hu
    subst hv
    have := All2.of_map (R := VR G σ w) (fun v : Value => v) (fun v => Abs.sc v) (fun v => VR.sc v)
    simpa using this v.cells.toList
  · rename_i h1 h2
    have hv : v.cells = #[v] := by
      cases v with
      | agg cs =>
        exfalso
        unfold Stp at hu
        split at hu
        · exact h2 _ rfl
        · simp at hu
        · obtain ⟨⟨c, hc⟩, -⟩ := hu; cases hc
        · exact h1 _ rfl
        · obtain ⟨cs, e, -⟩ := hu; cases e
        · obtain ⟨b, o, e, -⟩ := hu; cases e
        · obtain ⟨b, o, e, -⟩ := hu; cases e
        · exact hu
      | _ => rfl
    rw [hv]
    exact All2.cons h (All2.nil _)

theorem VR.flat {G : Gh} {σ : St} {w : World} {v : Value} {x : AV} (h : VR G σ w v x) (hf : flat x = true) : v.oneCell' = true := by
  have hu := h.unfold
  unfold Stp at hu
  split at hu
  · subst hu; exact hf
  · rw [hu.1]; rfl
  · obtain ⟨⟨c, hc⟩, -⟩ := hu; rw [hc]; rfl
  · simp [Abs.flat] at hf
  · simp [Abs.flat] at hf
  · obtain ⟨b, o, e, -⟩ := hu; rw [e]; rfl
  · obtain ⟨b, o, e, -⟩ := hu; rw [e]; rfl
  · exact hu.elim

theorem all_flat {G : Gh} {σ : St} {w : World} {l : List Value} {m : List AV} (h : All2 (VR G σ w) l m) (hf : m.all flat = true) : ∀ v ∈ l, v.oneCell' = true := by
  intro v hv
  obtain ⟨i, hi, he⟩ := List.mem_iff_getElem.1 hv
  have hm : i < m.length := by rw [← h.1]; exact hi
  have hx := List.getElem?_eq_getElem hm
  have := h.2 i v m[i] (by rw [← he]; exact List.getElem?_eq_getElem hi) hx
  exact this.flat (List.all_eq_true.1 hf _ (List.mem_of_getElem? hx))

/-! ### Worlds in which what is read here reads the same -/
def Same (F : Nat → Prop) (G : Gh) (σ : St) (w w' : World) : Prop :=
  (∀ b o, G.per b o → w'.cell? ⟨b, o, none⟩ = w.cell? ⟨b, o, none⟩) ∧ ∀ o, o < σ.nobj → F o → w'.heap[G.blk o]? = w.heap[G.blk o]?
theorem Same.refl (F : Nat → Prop) (G : Gh) (σ : St) (w : World) : Same F G σ w w := ⟨fun _ _ _ => rfl, fun _ _ _ => rfl⟩
/-- the object that a pointer leads to -/
def objOf : AV → Option Nat
  | .held (.inr (o, _, none)) => some o
  | _ => none
/-- the object that an operation reads -/
def rdo (s : Nat → AV) : Op → Option Nat
  | .load _ x => objOf (aev s x)
  | _ => none

/-- the cells from where a pointer points -/
def behind (σ : St) : AV → Option (List AV)
  | .held (.inr (o, off, none)) => some ((σ.obj o).drop off)
  | .ptr (.ptr (.agg ys)) => some ys
  | _ => none

theorem behind_ok {F : Nat → Prop} {G : Gh} {σ : St} {w : World} (I : Inv G σ w) {v : Value} {x : AV} {ys : List AV} (h : VR G σ w v x) (hb : behind σ x = some ys) (hF : ∀ o, objOf x = some o → F o) :
    ∃ b o cs, v = .pointer (some ⟨b, o, none⟩) ∧ All2 (VR G σ w) cs ys ∧ ∀ w', Same F G σ w w' → ∀ j u, cs[j]? = some u → w'.cell? ⟨b, o + j, none⟩ = some u := by
  unfold behind at hb
  split at hb
  · rename_i o off
    obtain ⟨hv, ho⟩ := h.unfold
    cases hb
    obtain ⟨-, ⟨arr, e, hh, ha⟩, -⟩ := I.obj o ho
    refine ⟨G.blk o, off, arr.toList.drop off, hv, ha.drop off, fun w' S j u hu => ?_⟩
    rw [List.getElem?_drop] at hu
    unfold World.cell?
    rw [S.2 o ho (hF o rfl), hh]
    simpa using hu
  · obtain ⟨b, o, hv, hl⟩ := h.unfold
    cases hb
    obtain ⟨cs, h1, h2⟩ := hl.list
    refine ⟨b, o, cs, hv, h1, fun w' S j u hu => ?_⟩
    have hj : j < cs.length := (List.getElem?_eq_some_iff.1 hu).1
    have hx : ys[j]? = some (ys[j]'(by rw [← h1.1]; exact hj)) := List.getElem?_eq_getElem _
    rw [S.1 _ _ (hl j _ hx).1]
    exact h2 j u hu
  · cases hb

/-! ### The operations -/
def aload (ga : Bool) (n : Nat) (ys : List AV) : Option AV :=
  if ga then (if n ≤ ys.length then some (ag (ys.take n)) else none) else ys.head?
def apart1 (ga : Bool) (n off : Nat) (cs : List AV) : Option AV := aload ga n (cs.drop off)

def abin (P : Program) (op : BinOp) (t : TypeId) : Value → Value → Option Value
  | .int k a, .int k' b => if k = k' then (match op with
      | .add => some (.int k (k.wrap (a + b)))
      | .sub => some (.int k (k.wrap (a - b)))
      | .mul => some (.int k (k.wrap (a * b)))
      | .quo => if b = 0 then none else some (.int k (k.wrap (a.tdiv b)))
      | .rem => if b = 0 then none else some (.int k (a.tmod b))
      | .eql => some (.bool (a == b))
      | .neq => some (.bool (a != b))
      | .lss => some (.bool (a < b))
      | .leq => some (.bool (a ≤ b))
      | .gtr => some (.bool (a > b))
      | .geq => some (.bool (a ≥ b))
      | _ => none) else none
  | .string a, .string b => (match op with
      | .add => if a.size + b.size ≤ 1099511627776 then some (.string (a ++ b)) else none
      | .eql => some (.bool (a.toList == b.toList))
      | .neq => some (.bool !(a.toList == b.toList))
      | _ => none)
  | .bool a, .bool b => (match op, P.underlying t with
      | .eql, some .bool => some (.bool (a == b))
      | .neq, some .bool => some (.bool !(a == b))
      | _, _ => none)
  | _, _ => none

def aconv (P : Program) (src dst : TypeId) : Value → Option Value
  | .int _ n => (match P.underlying src, P.underlying dst with
      | some _, some (.int k) => some (.int k (k.wrap n))
      | _, _ => none)
  | _ => none

def abytes : List AV → Option (List UInt8)
  | [] => some []
  | .held (.inl (.int .u8 n)) :: r => (abytes r).map (UInt8.ofNat n.toNat :: ·)
  | _ => none

def aint : AV → Option Int
  | .held (.inl (.int _ n)) => some n
  | _ => none
def bnd (y : Nat) : Option AV → Nat → Option Nat
  | none, d => some d
  | some x, _ => match aint x with
    | some i => if 0 ≤ i ∧ i ≤ y then some i.toNat else none
    | none => none

/-- cells laid over others from a place on -/
def lsp (l : List AV) (off : Nat) : List AV → List AV
  | [] => l
  | x :: xs => lsp (l.set off x) (off + 1) xs
def afill (place : Nat → Option (Nat × Nat)) (cells : List AV) : List (Nat × AV) → Option (List AV)
  | [] => some cells
  | (i, x) :: rest =>
    match place i with
    | none => none
    | some (off, size) => if (acells x).length ≠ size ∨ off + size > cells.length then none else afill place (lsp cells off (acells x)) rest

/-- What an operation yields that changes nothing. -/
def aq (P : Program) (s : Nat → AV) (σ : St) : Op → Option AV
  | .move x => some (aev s x)
  | .assign x => some (aev s x)
  | .pick c a b => (match aev s c with
      | .held (.inl (.bool t)) => some (if t then aev s a else aev s b)
      | _ => none)
  | .load t x => (match tsz P t, behind σ (aev s x) with
      | some (ga, n), some ys => aload ga n ys
      | _, _ => none)
  | .nilCheck x => (match aev s x with
      | .held (.inr (o, off, none)) => some (ptr o off)
      | .ptr (.ptr (.agg ys)) => some (el ys)
      | _ => none)
  | .fieldAddr t x f => (match tfld P t f, aev s x with
      | some (d, _, _), .held (.inr (o, off, none)) => some (ptr o (off + d))
      | some (d, _, _), .ptr (.ptr (.agg ys)) => some (el (ys.drop d))
      | _, _ => none)
  | .field t x f => (match tfld P t f, aev s x with
      | some (d, ga, n), .agg cs => apart1 ga n d cs
      | _, _ => none)
  | .indexAddr t x i => (match aint (aev s i) with
      | some i => (match aev s x, telem P t, tarr P t with
        | .slice xs [.held (.inr (_, n, none))], some (z + 1, _), _ => if 0 ≤ i ∧ i < n ∧ (i.toNat + 1) * (z + 1) ≤ xs.length then some (el (xs.drop (i.toNat * (z + 1)))) else none
        | .held (.inr (o, off, some len)), some (z, _), _ => if 0 ≤ i ∧ i < len then some (ptr o (off + i.toNat * z)) else none
        | .held (.inr (o, off, none)), _, some (len, z) => if 0 ≤ i ∧ i < len then some (ptr o (off + i.toNat * z)) else none
        | .ptr (.ptr (.agg ys)), _, some (len, z) => if 0 ≤ i ∧ i < len then some (el (ys.drop (i.toNat * z))) else none
        | _, _, _ => none)
      | none => none)
  | .index t x i => (match aint (aev s i), aev s x, P.underlying t with
      | some i, .held (.inl (.string b)), some .string => if 0 ≤ i then (b[i.toNat]?).map fun c => sc (.int .u8 c.toNat) else none
      | _, _, _ => none)
  | .build t parts => (match tstr P t with
      | some (z, places) => (afill (places[·]?) (z.map cst1) (parts.toList.map fun p => (p.1, aev s p.2))).map ag
      | none => none)
  | .extract x i => (match aev s x with
      | .ptr (.agg xs) => xs[i]?
      | _ => none)
  | .binOp op t x y _ => (match aev s x, aev s y with
      | .held (.inl a), .held (.inl b) => (abin P op t a b).map sc
      | _, _ => none)
  | .unOp op _ x => (match op, aev s x with
      | .not, .held (.inl (.bool b)) => some (sc (.bool !b))
      | .neg, .held (.inl (.int k n)) => some (sc (.int k (k.wrap (0 - n))))
      | _, _ => none)
  | .convert src dst x => (match aev s x with
      | .held (.inl v) => (aconv P src dst v).map sc
      | .slice xs [.held (.inr (_, n, none))] => (match P.underlying src, P.underlying dst with
        | some (.slice e), some .string => (match P.underlying e, abytes (xs.take n) with
          | some (.int .u8), some bs => if n = xs.length then some (sc (.string ⟨bs.toArray⟩)) else none
          | _, _ => none)
        | _, _ => none)
      | _ => none)
  | .slice t x lo hi mx => (match mx, aev s x, P.underlying t with
      | none, .held (.inl (.string b)), some .string => (match bnd b.size (hi.map (aev s)) b.size with
        | some h => (match bnd h (lo.map (aev s)) 0 with
          | some l => some (sc (.string (b.extract l h)))
          | none => none)
        | none => none)
      | _, _, _ => none)
  | .call { callee := .builtin .len, args := args, argTypes := ts } => (match args.toList.map (aev s), ts.toList with
      | [.held (.inl (.string b))], [t] => if P.underlying t matches some .string then some (sc (.int .i64 b.size)) else none
      | [.slice _ [.held (.inr (_, n, none))]], [t] => if (telem P t).isSome then some (sc (.int .i64 n)) else none
      | [.held (.inr (_, _, some n))], [t] => if (telem P t).isSome then some (sc (.int .i64 n)) else none
      | _, _ => none)
  | _ => none

theorem telem_some {P : Program} {t : TypeId} {z y : Nat} (h : telem P t = some (z, y)) : ∃ e i, P.underlying t = some (.slice e) ∧ P.info? e = some i ∧ i.size = z ∧ i.bytes = y := by
  unfold telem at h
  split at h
  · rename_i e he
    cases hi : P.info? e with
    | none => simp [hi] at h
    | some i => simp [hi] at h; exact ⟨e, i, he, hi, h.1, h.2⟩
  · cases h
theorem tarr_some {P : Program} {t : TypeId} {n z : Nat} (h : tarr P t = some (n, z)) : ∃ e i, P.underlying t = some (.array n e) ∧ P.info? e = some i ∧ i.size = z := by
  unfold tarr at h
  split at h
  · rename_i m e he
    cases hi : P.info? e with
    | none => simp [hi] at h
    | some i => simp [hi] at h; obtain ⟨rfl, h2⟩ := h; exact ⟨e, i, he, hi, h2⟩
  · cases h
theorem tsz_some {P : Program} {t : TypeId} {g : Bool} {n : Nat} (h : tsz P t = some (g, n)) : ∃ d i, P.underlying t = some d ∧ P.info? t = some i ∧ isAggD d = g ∧ i.size = n := by
  unfold tsz at h
  split at h
  · rename_i d i hd hi; simp at h; exact ⟨d, i, hd, hi, h.1, h.2⟩
  · cases h
theorem tfld_some {P : Program} {t : TypeId} {f d : Nat} {g : Bool} {n : Nat} (h : tfld P t f = some (d, g, n)) :
    ∃ fs fl, P.underlying t = some (.struct fs) ∧ fs[f]? = some fl ∧ fl.offset = d ∧ tsz P fl.type = some (g, n) ∧ n ≠ 0 := by
  unfold tfld at h
  split at h
  · rename_i fs hs
    split at h
    · rename_i fl hf
      split at h
      · rename_i g' m hz
        simp at h
        obtain ⟨rfl, rfl, rfl⟩ := h
        exact ⟨fs, fl, hs, hf, rfl, hz, by omega⟩
      · cases h
    · cases h
  · cases h

theorem run_isAgg {P : Program} {t : TypeId} {g : Bool} {n : Nat} (h : tsz P t = some (g, n)) (w : World) : (isAgg t).run P w = .ok g w ∧ (sizeOf t).run P w = .ok n w := by
  obtain ⟨d, i, hd, hi, hg, hn⟩ := tsz_some h
  refine ⟨?_, by simp [sizeOf, typeInfo, hi, hn]⟩
  unfold isAgg
  simp only [Sem.run_bind, run_underlying hd, Result.andThen_ok]
  cases d <;> simp [isAggD] at hg <;> subst hg <;> rfl

theorem aload_ok {P : Program} {G : Gh} {σ : St} {w : World} {ga : Bool} {n : Nat} {cs : List Value} {ys : List AV} {x : AV} (hc : All2 (VR G σ w) cs ys) (h : aload ga n ys = some x) {t : TypeId} (ht : tsz P t = some (ga, n)) (b o : Nat)
    {C : World → Prop} (hl : ∀ w', C w' → ∀ j u, cs[j]? = some u → w'.cell? ⟨b, o + j, none⟩ = some u) : ∃ v, VR G σ w v x ∧ ∀ w', C w' → (loadVar t ⟨b, o, none⟩).run P w' = .ok v w' := by
  unfold aload at h
  split at h
  · rename_i hg
    subst hg
    split at h
    · rename_i hn
      cases h
      refine ⟨.agg (cs.take n).toArray, VR.fold ⟨_, rfl, by simpa using hc.take n⟩, fun w' hw => ?_⟩
      have hlen : (cs.take n).length = n := by simp [hc.1]; omega
      have := run_loadCells_list (P := P) w' ⟨b, o, none⟩ (cs.take n) (fun j u hu => by
        rw [Addr.add_lit]
        rw [List.getElem?_take] at hu
        split at hu
        · exact hl w' hw j u hu
        · cases hu)
      rw [hlen] at this
      simp [loadVar, (run_isAgg ht w').1, (run_isAgg ht w').2, this]
    · cases h
  · rename_i hg
    have hg' : ga = false := by simpa using hg
    subst hg'
    obtain ⟨v, hv, hr⟩ := hc.get (i := 0) (x := x) (by rw [← List.head?_eq_getElem?]; exact h)
    refine ⟨v, hr, fun w' hw => ?_⟩
    have := hl w' hw 0 v hv
    simp only [Nat.add_zero] at this
    simp [loadVar, (run_isAgg ht w').1, this]
end Go.Abs
