import Derived.Test.YtilaanolklhkaaaGreatDoorZAbsDraw
/- Strings as lists of bytes; lists laid in cells; what a call keeps; a slice of one's own. -/
namespace Go.Abs
set_option linter.unusedSimpArgs false
set_option linter.unusedVariables false

/-! ### Strings -/
def bs (l : List UInt8) : ByteArray := ⟨l.toArray⟩
abbrev str (l : List UInt8) : AV := sc (.string (bs l))
theorem bs_size (l : List UInt8) : (bs l).size = l.length := by simp [bs, ByteArray.size]
theorem bs_get (l : List UInt8) (i : Nat) : (bs l)[i]? = l[i]? := by
  by_cases h : i < l.length
  · have h2 : i < (bs l).size := by rw [bs_size]; exact h
    rw [getElem?_pos (bs l) i h2, List.getElem?_eq_getElem h]
    rfl
  · have h2 : ¬ i < (bs l).size := by rw [bs_size]; exact h
    rw [getElem?_neg (bs l) i h2, List.getElem?_eq_none (by omega)]
theorem bs_toList (l : List UInt8) : (bs l).toList = l := by unfold bs; exact ByteArray.toList_mk l
theorem bs_extract (l : List UInt8) (i j : Nat) : (bs l).extract i j = bs ((l.drop i).take (j - i)) := by unfold bs; exact ByteArray.extract_mk l i j
theorem bs_append (l m : List UInt8) : bs l ++ bs m = bs (l ++ m) := by unfold bs; exact ByteArray.mk_append_mk l m
theorem bs_of (b : ByteArray) : b = bs b.data.toList := by
  cases b; simp [bs]
theorem bs_mk (l : List UInt8) : (⟨l.toArray⟩ : ByteArray) = bs l := rfl
theorem bs_nil : (⟨#[]⟩ : ByteArray) = bs [] := rfl

/-! ### Lists in cells -/
def EL {α : Type} (E : α → List AV → Prop) : List α → List AV → Prop
  | [], cs => cs = []
  | a :: l, cs => ∃ c d, E a c ∧ EL E l d ∧ cs = c ++ d

section
variable {α : Type} {E : α → List AV → Prop} {z : Nat}
theorem EL.length (hz : ∀ a c, E a c → c.length = z) : ∀ {l : List α} {cs : List AV}, EL E l cs → cs.length = l.length * z
  | [], cs, h => by simp [EL] at h; simp [h]
  | a :: l, cs, ⟨c, d, hc, hd, e⟩ => by rw [e, List.length_append, hz a c hc, EL.length hz hd, List.length_cons, Nat.succ_mul]; omega
theorem EL.append : ∀ {l m : List α} {cs ds : List AV}, EL E l cs → EL E m ds → EL E (l ++ m) (cs ++ ds)
  | [], m, cs, ds, h, h' => by simp [EL] at h; subst h; exact h'
  | a :: l, m, cs, ds, ⟨c, d, hc, hd, e⟩, h' => ⟨c, d ++ ds, hc, EL.append hd h', by rw [e, List.append_assoc]⟩
theorem EL.single {a : α} {c : List AV} (h : E a c) : EL E [a] c := ⟨c, [], h, rfl, by simp⟩
theorem EL.get (hz : ∀ a c, E a c → c.length = z) : ∀ {l : List α} {cs : List AV} {i : Nat} {a : α}, EL E l cs → l[i]? = some a → ∃ c r, E a c ∧ cs.drop (i * z) = c ++ r
  | [], cs, i, a, h, hi => by simp at hi
  | b :: l, cs, 0, a, ⟨c, d, hc, hd, e⟩, hi => by simp at hi; subst hi; exact ⟨c, d, hc, by simp [e]⟩
  | b :: l, cs, i + 1, a, ⟨c, d, hc, hd, e⟩, hi => by
    obtain ⟨c', r, h1, h2⟩ := EL.get hz hd (i := i) (by simpa using hi)
    refine ⟨c', r, h1, ?_⟩
    rw [← h2, e, show (i + 1) * z = c.length + i * z by rw [hz b c hc, Nat.succ_mul]; omega, List.drop_append, List.drop_eq_nil_of_le (by omega), Nat.add_sub_cancel_left]; rfl
theorem EL.mono {E' : α → List AV → Prop} (h : ∀ a c, E a c → E' a c) : ∀ {l : List α} {cs : List AV}, EL E l cs → EL E' l cs
  | [], cs, hl => hl
  | a :: l, cs, ⟨c, d, hc, hd, e⟩ => ⟨c, d, h a c hc, EL.mono h hd, e⟩
theorem EL.flat (hf : ∀ a c, E a c → c.all flat = true) : ∀ {l : List α} {cs : List AV}, EL E l cs → cs.all flat = true
  | [], cs, h => by simp [EL] at h; simp [h]
  | a :: l, cs, ⟨c, d, hc, hd, e⟩ => by rw [e, List.all_append, hf a c hc, EL.flat hf hd]; rfl
end
/-- an element of one cell, by a function -/
def E1 {α : Type} (f : α → AV) (a : α) (c : List AV) : Prop := c = [f a]
theorem E1_len {α : Type} {f : α → AV} (a : α) (c : List AV) (h : E1 f a c) : c.length = 1 := by rw [h]; rfl
theorem EL_map {α : Type} {f : α → AV} : ∀ (l : List α), EL (E1 f) l (l.map f)
  | [] => rfl
  | a :: l => ⟨[f a], l.map f, rfl, EL_map l, rfl⟩
theorem EL_map_eq {α : Type} {f : α → AV} : ∀ {l : List α} {cs : List AV}, EL (E1 f) l cs → cs = l.map f
  | [], cs, h => h
  | a :: l, cs, ⟨c, d, hc, hd, e⟩ => by rw [e, hc, EL_map_eq hd]; rfl

/-! ### What is kept -/
structure Keep (σ σ' : St) : Prop where
  nobj : σ.nobj ≤ σ'.nobj
  obj : ∀ o, o < σ.nobj → σ'.obj o = σ.obj o
  ver : ∀ o, o < σ.nobj → σ'.ver o = σ.ver o
  ntop : σ.ntop ≤ σ'.ntop
  top : ∀ k, k < σ.ntop → σ'.top k = σ.top k
theorem Keep.refl (σ : St) : Keep σ σ := ⟨Nat.le_refl _, fun _ _ => rfl, fun _ _ => rfl, Nat.le_refl _, fun _ _ => rfl⟩
theorem Keep.trans {a b c : St} (h : Keep a b) (k : Keep b c) : Keep a c :=
  ⟨Nat.le_trans h.nobj k.nobj, fun o ho => (k.obj o (Nat.lt_of_lt_of_le ho h.nobj)).trans (h.obj o ho), fun o ho => (k.ver o (Nat.lt_of_lt_of_le ho h.nobj)).trans (h.ver o ho),
   Nat.le_trans h.ntop k.ntop, fun o ho => (k.top o (Nat.lt_of_lt_of_le ho h.ntop)).trans (h.top o ho)⟩
theorem Keep.new {a b : St} (h : Keep a b) (cs : List AV) : Keep a (b.new cs) := by
  have := h.nobj
  exact ⟨by simp [St.new]; omega, fun o ho => by simp [St.new]; rw [if_neg (by omega)]; exact h.obj o ho, h.ver, h.ntop, h.top⟩
theorem Keep.put {a b : St} (h : Keep a b) {o : Nat} (ho : a.nobj ≤ o) (cs : List AV) : Keep a (b.put o cs) :=
  ⟨h.nobj, fun p hp => by simp [St.put]; rw [if_neg (by omega)]; exact h.obj p hp, fun p hp => by simp [St.put]; rw [if_neg (by omega)]; exact h.ver p hp, h.ntop, h.top⟩
theorem Keep.lay {a b : St} (h : Keep a b) (n : Nat) : Keep a (b.lay n) := by
  have := h.ntop
  exact ⟨h.nobj, h.obj, h.ver, by simp [St.lay]; omega, fun k hk => by simp [St.lay]; rw [if_neg (by omega)]; exact h.top k hk⟩
theorem Keep.raise {a b : St} (h : Keep a b) {k : Nat} (hk : a.ntop ≤ k) (n : Nat) : Keep a (b.raise k n) :=
  ⟨h.nobj, h.obj, h.ver, h.ntop, fun j hj => by simp [St.raise]; rw [if_neg (by omega)]; exact h.top j hj⟩

theorem new_same {σ : St} {cs : List AV} : (σ.new cs).obj σ.nobj = cs := by simp [St.new]
theorem new_at {σ : St} {cs : List AV} {o : Nat} (h1 : o ≤ σ.nobj) (h2 : σ.nobj ≤ o) : (σ.new cs).obj o = cs := by simp [St.new]; intro h; omega
theorem new_lt {σ : St} {cs : List AV} {o : Nat} (h : o < σ.nobj) : (σ.new cs).obj o = σ.obj o := by simp [St.new]; intro e; omega
theorem new_nobj {σ : St} {cs : List AV} : (σ.new cs).nobj = σ.nobj + 1 := rfl
theorem new_top {σ : St} {cs : List AV} : (σ.new cs).top = σ.top := rfl
theorem new_ntop {σ : St} {cs : List AV} : (σ.new cs).ntop = σ.ntop := rfl
theorem new_ver {σ : St} {cs : List AV} : (σ.new cs).ver = σ.ver := rfl
theorem put_same {σ : St} {cs : List AV} {o : Nat} : (σ.put o cs).obj o = cs := by simp [St.put]
theorem put_ne {σ : St} {cs : List AV} {o p : Nat} (h : p < o) : (σ.put o cs).obj p = σ.obj p := by simp [St.put]; intro e; omega
theorem put_ne' {σ : St} {cs : List AV} {o p : Nat} (h : o < p) : (σ.put o cs).obj p = σ.obj p := by simp [St.put]; intro e; omega
theorem put_nobj {σ : St} {cs : List AV} {o : Nat} : (σ.put o cs).nobj = σ.nobj := rfl
theorem put_top {σ : St} {cs : List AV} {o : Nat} : (σ.put o cs).top = σ.top := rfl
theorem put_ntop {σ : St} {cs : List AV} {o : Nat} : (σ.put o cs).ntop = σ.ntop := rfl
theorem put_put {σ : St} {cs ds : List AV} {o : Nat} : ((σ.put o cs).put o ds).obj = (σ.put o ds).obj := by
  funext p; simp [St.put]; split <;> rfl
theorem lay_obj {σ : St} {n : Nat} : (σ.lay n).obj = σ.obj := rfl
theorem lay_nobj {σ : St} {n : Nat} : (σ.lay n).nobj = σ.nobj := rfl
theorem lay_ntop {σ : St} {n : Nat} : (σ.lay n).ntop = σ.ntop + 1 := rfl
theorem lay_ver {σ : St} {n : Nat} : (σ.lay n).ver = σ.ver := rfl

/-! ### A slice of one's own -/
def Own (σ0 σ : St) (id n : Nat) : Prop := (id = 1 ∧ n = 0) ∨ ∃ k, id = k + 2 ∧ σ0.ntop ≤ k ∧ k < σ.ntop ∧ σ.top k = n ∧ 0 < n
theorem Own.nil (σ0 σ : St) : Own σ0 σ 1 0 := .inl ⟨rfl, rfl⟩
theorem Own.keep {σ0 σ σ' : St} {id n : Nat} (h : Own σ0 σ id n) (k : Keep σ σ') : Own σ0 σ' id n := by
  rcases h with h | ⟨j, h1, h2, h3, h4, h5⟩
  · exact .inl h
  · exact .inr ⟨j, h1, h2, Nat.lt_of_lt_of_le h3 k.ntop, (k.top j h3).trans h4, h5⟩
theorem Own.made {σ0 σ : St} (h : Keep σ0 σ) {n : Nat} (hn : 0 < n) : Own σ0 (σ.lay n) (σ.ntop + 2) n :=
  .inr ⟨σ.ntop, rfl, h.ntop, by simp [St.lay], by simp [St.lay], hn⟩

theorem aApp_own {P : Program} {t : TypeId} {z b : Nat} {zc : List Value} {σ0 σ : St} {id id2 n m m' : Nat} {xs ys : List AV} {K : AV → St → Prop} (ht : tez P t = some (z, b, zc)) (hK : Keep σ0 σ) (hO : Own σ0 σ id n)
    (hz : 0 < z) (hzc : zc.length = z) (hx : xs.length = n * z) (hy : ys.length = m * z) (hf : ys.all flat = true) (hm : 0 < m) (hb : (n + m) * b ≤ 140737488355328) (hl : n + m ≤ 1099511627776)
    (h : ∀ id' σ', Own σ0 σ' id' (n + m) → Keep σ0 σ' → σ'.obj = σ.obj → σ'.nobj = σ.nobj → σ'.ver = σ.ver → σ.ntop < σ'.ntop → K (sl id' (n + m) (xs ++ ys)) σ') : aApp P t t (sl id n xs) (sl id2 m ys) (σ.lay m') K := by
  unfold aApp aapp
  simp only [ht]
  rw [if_pos ⟨trivial, hz, hzc, hx, hy, hf, hm, hb, hl⟩]
  rcases hO with ⟨rfl, rfl⟩ | ⟨k, rfl, h2, h3, h4, h5⟩
  · have hxs : xs = [] := List.eq_nil_of_length_eq_zero (by simpa using hx)
    subst hxs
    have := h ((σ.lay m').ntop + 2) ((σ.lay m').lay m) (by rw [Nat.zero_add]; exact Own.made (hK.lay m') hm) ((hK.lay m').lay m) rfl rfl rfl (by simp [St.lay]; omega)
    simpa using this
  · have e1 : (σ.lay m').top k = n := by simp [St.lay]; rw [if_neg (by omega)]; exact h4
    simp only
    rw [if_pos ⟨e1, h5⟩]
    exact h (k + 2) _ (.inr ⟨k, rfl, h2, by simp [St.raise, St.lay]; omega, by simp [St.raise], by omega⟩) ((hK.lay m').raise h2 _) rfl rfl rfl (by simp [St.raise, St.lay])

theorem mapA_nil {α β : Type} (f : α → β) : (#[] : Array α).toList.map f = [] := rfl
theorem mapA_cons {α β : Type} (f : α → β) (a : α) (l : List α) : (List.toArray (a :: l)).toList.map f = f a :: (List.toArray l).toList.map f := rfl
/-! what stands at the head of a goal -/
theorem gd_go {P : Program} {o : Oper} {s : Sl} {σ : St} {k : Sl → St → Prop} {g : Option Bool} (h : gd P o s σ k g) : gd P o s σ k g := h
theorem gt_go {P : Program} {o : Oper} {s : Sl} {F : Nat → Prop} {σ0 : St} {k : Sl → Prop} {g : Option Bool} (h : gt P o s F σ0 k g) : gt P o s F σ0 k g := h
theorem and_go {a b : Prop} (h : a ∧ b) : a ∧ b := h
theorem cond_go {P : Program} {n : Nat} {Q : Post} {s : Sl} {σ : St} {c : Operand} {x y : Code} (h : AWp P n (.cond c x y) Q s σ) : AWp P n (.cond c x y) Q s σ := h
theorem aapp_go {P : Program} {t t' : TypeId} {x y : AV} {σ : St} {K : AV → St → Prop} (h : aApp P t t' x y σ K) : aApp P t t' x y σ K := h
theorem acalls_go {P : Program} {f : FuncId} {args : List AV} {σ : St} {R : AV → St → Prop} (h : ACalls P f args σ R) : ACalls P f args σ R := h
/-- a fact kept from the walk -/
def Hid (p : Prop) : Prop := p
theorem Hid.out {p : Prop} (h : Hid p) : p := h
theorem awp_region_k {P : Program} {n : Nat} {Q : Post} {s : Sl} {σ : St} {id : Nat} {l : List Oper} (h : ∀ K : Sl → St → Prop, Hid (∀ s σ, Q .normal s σ → K s σ) → aRun P n l K l s σ) : AWp P n (.region id l.toArray false) Q s σ :=
  awp_region (h (Q .normal) fun _ _ h => h)
theorem awp_draw_k {P : Program} {n : Nat} {Q : Post} {s : Sl} {σ : St} {id : Nat} {l : List Oper} (hm : P.follows .mixedOrders = true) (F : Nat → Prop) (lasts ts us : List Nat) (hB : planB l lasts ts us = true) (hp : ∀ c s σ, ¬ Q (.panic c) s σ)
    (h : ∀ K : Sl → St → Prop, Hid (∀ s σ, Q .normal s σ → K s σ) → aT P n l F σ (fun s' => aU P n l (fun j => !lasts.contains j) F σ K us s' σ) ts s) : AWp P n (.region id l.toArray true) Q s σ :=
  awp_draw hm F lasts ts us hB hp (h (Q .normal) fun _ _ h => h)

theorem awp_cond_t {P : Program} {n : Nat} {Q : Post} {s : Sl} {σ : St} {c : Operand} {x y : Code} (hc : aev s c = sc (.bool true)) (h : AWp P n x Q s σ) : AWp P n (.cond c x y) Q s σ := awp_cond hc h
theorem awp_cond_f {P : Program} {n : Nat} {Q : Post} {s : Sl} {σ : St} {c : Operand} {x y : Code} (hc : aev s c = sc (.bool false)) (h : AWp P n y Q s σ) : AWp P n (.cond c x y) Q s σ := awp_cond hc h

/-- many like cells -/
def zrep (n : Nat) (v : Value) : List Value := List.replicate n v
def arep (n : Nat) (v : Value) : List AV := List.replicate n (cst1 v)
theorem map_zrep {n : Nat} {v : Value} : (zrep n v).map cst1 = arep n v := by simp [zrep, arep]

theorem kept_refl {A : Nat → Bool} {F : Nat → Prop} {σ : St} {i : Nat} : Kept A F σ i σ := fun _ _ _ _ => rfl
theorem kept_keep {A : Nat → Bool} {F : Nat → Prop} {σ σ' : St} {i : Nat} (h : Keep σ σ') : Kept A F σ i σ' := fun _ o ho _ => h.ver o ho
theorem kept_last {A : Nat → Bool} {F : Nat → Prop} {σ σ' : St} {i : Nat} (h : A i = false) : Kept A F σ i σ' := fun h' => by rw [h] at h'; cases h'
end Go.Abs
