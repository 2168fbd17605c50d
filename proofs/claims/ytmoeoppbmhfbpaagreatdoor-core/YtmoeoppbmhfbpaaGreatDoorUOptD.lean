import Derived.Test.YtmoeoppbmhfbpaaGreatDoorUOptB
/- The program: items in place of one. -/
namespace Go.Proofs.YtmoeoppbmhfbpaaGreatDoorU
open Go.Abs
set_option linter.unusedSimpArgs false
set_option linter.unusedVariables false
set_option maxRecDepth 100000
def rpl {α : Type} (n : Nat) (o : List α) (l : List α) : List α := l.zipIdx.flatMap fun p => if p.2 = n then o else [p.1]
theorem rpl_step {α : Type} {n : Nat} {o l : List α} {i : Nat} {x : α} (h : l[i]? = some x) : rpl n o (l.take (i + 1)) = rpl n o (l.take i) ++ if i = n then o else [x] := by
 have hi := (List.getElem?_eq_some_iff.1 h).1
 unfold rpl
 rw [List.take_add_one, h, Option.toList_some, List.zipIdx_append, List.flatMap_append, List.length_take, Nat.min_eq_left (by omega)]
 simp
theorem rpl_len {α : Type} {n : Nat} {o : List α} (l : List α) : ∀ i, (rpl n o (l.take i)).length ≤ i * (o.length + 1)
 | 0 => by simp [rpl]
 | i + 1 => by
  have ih := rpl_len l i (n := n) (o := o)
  cases h : l[i]? with
  | none =>
   rw [List.take_add_one, h, Option.toList_none, List.append_nil]
   rw [Nat.add_mul]; omega
  | some x =>
   rw [rpl_step h, List.length_append, Nat.add_mul]
   split <;> simp <;> omega
set_option maxHeartbeats 32000000 in
theorem pwith_spec (N : List Tx) (l o : List RItem) (cs co : List AV) (idn idi ido n : Nat) (hE : EL (PI N) l cs) (hO' : EL (PI N) o co) (hl : l.length ≤ 1000) (ho : o.length ≤ 1000) (σ : St) :
  ACalls Tryz.prog 194 [bookA N idn l idi cs, sl ido o.length co, sc (.int .i64 n)] σ fun r σ' => (∃ id c', r = sl id (rpl n o l).length c' ∧ EL (PI N) (rpl n o l) c') ∧ Keep σ σ' := by
 have hcl := EL.length PI_len hE
 have hol := EL.length PI_len hO'
 refine acalls 41 [.tmp 6] Tryz.func194 rfl (by decide) rfl rfl (Nat.le_of_ble_eq_true rfl) ?_
 repeat' (first
 |with_reducible first|apply Xa|apply Xb|(refine Xc ?_;intro κ hκ)|(apply hκ.out;clear hκ κ)|apply Xd|apply Xe|apply Xf
 |((with_reducible first|refine Xl ?_ ?_|refine Xk ?_ ?_)<;> intro h hari<;> try exact Xp)
 |((with_reducible refine aapp_go ?_);refine Xt ?_;intro idn σn hOn hKn eobj enobj ever entop)
 |((with_reducible refine aappn_go ?_);refine Xu ?_)
 |refine Xr ?_
 |exact True.intro
 |(apply hκ.out;clear hκ κ))
 refine awp_loop (fun m s σ' => ∃ (i id : Nat) (R : List RItem) (c : List AV), m = l.length - i ∧ i ≤ l.length ∧ s 1 = sl ido o.length co ∧ s 2 = sc (.int .i64 n) ∧ s 7 = sl id R.length c ∧ s 14 = sl idi l.length cs ∧ s 15 = sc (.int .i64 l.length) ∧ s 16 = sc (.int .i64 i) ∧ Keep σ σ' ∧ Own σ σ' id R.length ∧ c.length = R.length * 4 ∧ R.length ≤ i * (o.length + 1) ∧ Abs.Hid (R = rpl n o (l.take i) ∧ EL (PI N) R c)) l.length
  ⟨0, 1, [], [], by omega, by omega, rfl, rfl, by simp [upd], by simp [upd], by simp [upd], rfl, by exact Xs, Own.nil _ _, by simp, by simp, ⟨by simp [rpl], rfl⟩⟩ ?_
 rintro m s σ' ⟨i, id, R, c, rfl, hi, h1, h2, h7, h14, h15, h16, hK, hO, hcr, hRl, hA⟩
 have kno := hK.nobj
 by_cases hlt : i < l.length
 ·have hget := List.getElem?_eq_getElem hlt
  obtain ⟨hmm, ih, idb, b, r, hbd, hd⟩ := EL_PI hE hget
  generalize l[i] = x at hd hget hmm hbd
  have hR6 : R.length ≤ 1001000 := Nat.le_trans hRl (Nat.le_trans (Nat.mul_le_mul (by omega : i ≤ 1000) (by omega : o.length + 1 ≤ 1001)) (by decide))
  have hrl1 := rpl_len (n := n) (o := o) l (i + 1)
  have hst := rpl_step (n := n) (o := o) hget
  rw [← hA.out.1] at hst
  by_cases hin : i = n
  ·rw [if_pos hin] at hst
   have hnb : ((i : Int) != (n : Int)) = false := by simp [hin]
   have HST : Abs.Hid _ := hst
   have HEL : Abs.Hid (EL (PI N) R c) := hA.out.2
   rw [hst, List.length_append] at hrl1
   clear hst hget hA hin
   repeat' (first
 |with_reducible first|apply Xa|apply Xb|(refine Xc ?_;intro κ hκ)|(apply hκ.out;clear hκ κ)|apply Xd|apply Xe|apply Xf
 |((with_reducible first|refine Xl ?_ ?_|refine Xk ?_ ?_)<;> intro h hari<;> try exact Xp)
 |((with_reducible refine aapp_go ?_);refine Xt ?_;intro idn σn hOn hKn eobj enobj ever entop)
 |((with_reducible refine aappn_go ?_);refine Xu ?_)
 |refine Xr ?_
 |exact True.intro
 |(apply hκ.out;clear hκ κ))
   refine awp_loop (fun m s σ2 => ∃ (j id : Nat) (c' : List AV), m = o.length - j ∧ j ≤ o.length ∧ s 1 = sl ido o.length co ∧ s 2 = sc (.int .i64 n) ∧ s 7 = sl id (R.length + j) c' ∧ s 14 = sl idi l.length cs ∧ s 15 = sc (.int .i64 l.length) ∧ s 16 = sc (.int .i64 i) ∧ s 28 = sl ido o.length co ∧ s 29 = sc (.int .i64 o.length) ∧ s 30 = sc (.int .i64 j) ∧ Keep σ σ2 ∧ Own σ σ2 id (R.length + j) ∧ c'.length = (R.length + j) * 4 ∧ Abs.Hid (EL (PI N) (R ++ o.take j) c')) o.length
    ⟨0, id, c, by omega, by omega, by simp [upd, *], by simp [upd, *], by simp [upd, *], by simp [upd, *], by simp [upd, *], by simp [upd, *], by simp [upd, *], by simp [upd, *], by simp [upd], by exact Xs, (by simpa using Own.put (Own.new hO _) _ _), by simpa using hcr, by simpa using HEL⟩ ?_
   clear h1 h2 h7 h14 h15 h16 hK hO kno hcr HEL
   rintro m s σ2 ⟨j, id, c', rfl, hj, h1, h2, h7, h14, h15, h16, h28, h29, h30, hK, hO, hcr, hEl⟩
   have kno := hK.nobj
   by_cases hltj : j < o.length
   ·have hgj := List.getElem?_eq_getElem hltj
    obtain ⟨hmj, ihj, idj, bj, rj, hbj, hdj⟩ := EL_PI hO' hgj
    generalize o[j] = y at hdj hgj hmj hbj
    have HE2 : Abs.Hid (EL (PI N) (R ++ o.take (j + 1)) (c' ++ [sc (.bool y.out), sc (.int .i64 (N.idxOf y.head.pred : Nat)), sl ihj y.head.terms.length (tcells y.head.terms), sl idj y.body.length bj])) := by
     rw [Abs.Hid, List.take_add_one, hgj, Option.toList_some, ← List.append_assoc]
     exact EL.append hEl.out (EL.single (PI.of hmj hbj))
    clear hgj hEl
    repeat' (first
 |with_reducible first|apply Xa|apply Xb|(refine Xc ?_;intro κ hκ)|(apply hκ.out;clear hκ κ)|apply Xd|apply Xe|apply Xf
 |((with_reducible first|refine Xl ?_ ?_|refine Xk ?_ ?_)<;> intro h hari<;> try exact Xp)
 |((with_reducible refine aapp_go ?_);refine Xt ?_;intro idn σn hOn hKn eobj enobj ever entop)
 |((with_reducible refine aappn_go ?_);refine Xu ?_)
 |refine Xr ?_
 |exact True.intro
 |(apply hκ.out;clear hκ κ))
    refine aApp_own (by first | exact tez_64) ((hK.new _).put hK.nobj _) (Own.put (Own.new hO _) _ _) (by decide) (by rfl) (hcr) (by rfl) (by rfl) (by decide) (by omega) (by omega) ?_
    intro idn σn hOn hKn eobj enobj ever entop
    simp only [put_nobj, new_nobj] at enobj
    refine Xr ?_
    repeat' (first
 |with_reducible first|apply Xa|apply Xb|(refine Xc ?_;intro κ hκ)|(apply hκ.out;clear hκ κ)|apply Xd|apply Xe|apply Xf
 |((with_reducible first|refine Xl ?_ ?_|refine Xk ?_ ?_)<;> intro h hari<;> try exact Xp)
 |((with_reducible refine aapp_go ?_);refine Xt ?_;intro idn σn hOn hKn eobj enobj ever entop)
 |((with_reducible refine aappn_go ?_);refine Xu ?_)
 |refine Xr ?_
 |exact True.intro
 |(apply hκ.out;clear hκ κ))
    refine ⟨o.length - (j + 1), by omega, j + 1, idn, c' ++ [sc (.bool y.out), sc (.int .i64 (N.idxOf y.head.pred : Nat)), sl ihj y.head.terms.length (tcells y.head.terms), sl idj y.body.length bj], ?_⟩
    ((repeat' with_reducible refine And.intro ?_ ?_)<;> first|exact Xq|exact (HE2)|exact (hOn)|exact ((by simp [hcr]; omega))|exact Xs)
   ·have hjl : j = o.length := by omega
    subst hjl
    rw [List.take_length] at hEl
    have HA : Abs.Hid (R ++ o = rpl n o (l.take (i + 1)) ∧ EL (PI N) (R ++ o) c') := ⟨HST.out.symm, hEl.out⟩
    clear hEl HST
    have hcr2 : c'.length = (R ++ o).length * 4 := by rw [hcr, List.length_append]
    have hO2 : Own σ σ2 id (R ++ o).length := by rw [List.length_append]; exact hO
    rw [← List.length_append] at h7
    have hrl3 : (R ++ o).length ≤ (i + 1) * (o.length + 1) := by rw [List.length_append]; exact hrl1
    repeat' (first
 |with_reducible first|apply Xa|apply Xb|(refine Xc ?_;intro κ hκ)|(apply hκ.out;clear hκ κ)|apply Xd|apply Xe|apply Xf
 |((with_reducible first|refine Xl ?_ ?_|refine Xk ?_ ?_)<;> intro h hari<;> try exact Xp)
 |((with_reducible refine aapp_go ?_);refine Xt ?_;intro idn σn hOn hKn eobj enobj ever entop)
 |((with_reducible refine aappn_go ?_);refine Xu ?_)
 |refine Xr ?_
 |exact True.intro
 |(apply hκ.out;clear hκ κ))
    refine ⟨l.length - (i + 1), by omega, i + 1, id, R ++ o, c', ?_⟩
    ((repeat' with_reducible refine And.intro ?_ ?_)<;> first|exact Xq|exact (HA)|exact Xs)
  ·rw [if_neg hin] at hst
   have hnb : ((i : Int) != (n : Int)) = true := by simpa using (by omega : ¬ (i : Int) = n)
   have HA : Abs.Hid (R ++ [x] = rpl n o (l.take (i + 1)) ∧ EL (PI N) (R ++ [x]) (c ++ [sc (.bool x.out), sc (.int .i64 (N.idxOf x.head.pred : Nat)), sl ih x.head.terms.length (tcells x.head.terms), sl idb x.body.length b])) := ⟨hst.symm, EL.append hA.out.2 (EL.single (PI.of hmm hbd))⟩
   rw [hst] at hrl1
   clear hst hget hA hin
   repeat' (first
 |with_reducible first|apply Xa|apply Xb|(refine Xc ?_;intro κ hκ)|(apply hκ.out;clear hκ κ)|apply Xd|apply Xe|apply Xf
 |((with_reducible first|refine Xl ?_ ?_|refine Xk ?_ ?_)<;> intro h hari<;> try exact Xp)
 |((with_reducible refine aapp_go ?_);refine Xt ?_;intro idn σn hOn hKn eobj enobj ever entop)
 |((with_reducible refine aappn_go ?_);refine Xu ?_)
 |refine Xr ?_
 |exact True.intro
 |(apply hκ.out;clear hκ κ))
   refine aApp_own (by first | exact tez_64) ((hK.new _).put hK.nobj _) (Own.put (Own.new hO _) _ _) (by decide) (by rfl) (hcr) (by rfl) (by rfl) (by decide) (by omega) (by omega) ?_
   intro idn σn hOn hKn eobj enobj ever entop
   simp only [put_nobj, new_nobj] at enobj
   refine Xr ?_
   repeat' (first
 |with_reducible first|apply Xa|apply Xb|(refine Xc ?_;intro κ hκ)|(apply hκ.out;clear hκ κ)|apply Xd|apply Xe|apply Xf
 |((with_reducible first|refine Xl ?_ ?_|refine Xk ?_ ?_)<;> intro h hari<;> try exact Xp)
 |((with_reducible refine aapp_go ?_);refine Xt ?_;intro idn σn hOn hKn eobj enobj ever entop)
 |((with_reducible refine aappn_go ?_);refine Xu ?_)
 |refine Xr ?_
 |exact True.intro
 |(apply hκ.out;clear hκ κ))
   refine ⟨l.length - (i + 1), by omega, i + 1, idn, R ++ [x], c ++ [sc (.bool x.out), sc (.int .i64 (N.idxOf x.head.pred : Nat)), sl ih x.head.terms.length (tcells x.head.terms), sl idb x.body.length b], ?_⟩
   ((repeat' with_reducible refine And.intro ?_ ?_)<;> first|exact Xq|exact (HA)|exact ((by simpa using hOn))|exact ((by simp [hcr]; omega))|exact Xs)
 ·have hil : i = l.length := by omega
  subst hil
  rw [List.take_length] at hA
  have HA1 : Abs.Hid (rpl n o l = R) := hA.out.1.symm
  have HA2 : Abs.Hid (EL (PI N) R c) := hA.out.2
  clear hA
  repeat' (first
 |with_reducible first|apply Xa|apply Xb|(refine Xc ?_;intro κ hκ)|(apply hκ.out;clear hκ κ)|apply Xd|apply Xe|apply Xf
 |((with_reducible first|refine Xl ?_ ?_|refine Xk ?_ ?_)<;> intro h hari<;> try exact Xp)
 |((with_reducible refine aapp_go ?_);refine Xt ?_;intro idn σn hOn hKn eobj enobj ever entop)
 |((with_reducible refine aappn_go ?_);refine Xu ?_)
 |refine Xr ?_
 |exact True.intro
 |(apply hκ.out;clear hκ κ))
  first | exact ⟨_, rfl, ⟨id, c, by rw [HA1.out], by rw [HA1.out]; exact HA2.out⟩, hK⟩ | exact ⟨_, rfl, id, c, by rw [HA1.out], by rw [HA1.out]; exact HA2.out⟩
/- The program: the pass a. -/
structure GL (N : List Tx) (l : List RItem) : Prop where
 len : l.length ≤ 16
 nm : N.length ≤ 2000
 msr : ∀ x ∈ l, Msr N x
 fits : ∀ x ∈ l, x.fits
 pos : ∀ x ∈ l, ∀ a ∈ atomsL x, 0 < a.terms.length
 va : ∀ x ∈ l, ∀ a ∈ atomsL x, VA a
 ar : ∀ x ∈ l, ∀ a ∈ x.body, ∀ b ∈ x.body, a.pred = b.pred → a.terms.length = b.terms.length
theorem GL.bkm {N : List Tx} {l : List RItem} {cs : List AV} (h : GL N l) (hE : EL (PI N) l cs) : BkM N l cs := ⟨hE, by have := h.len; omega, h.nm, h.msr, h.fits, h.pos, h.va⟩
theorem rpl_mem {α : Type} {n : Nat} {o l : List α} {x : α} (h : x ∈ rpl n o l) : x ∈ l ∨ x ∈ o := by
 unfold rpl at h
 obtain ⟨p, hp, hx⟩ := List.mem_flatMap.1 h
 split at hx
 ·exact .inr hx
 ·simp at hx
  subst hx
  exact .inl (List.fst_mem_of_mem_zipIdx hp)
theorem rpl_one {α : Type} {n : Nat} {y : α} (l : List α) : (rpl n [y] l).length = l.length := by
 unfold rpl
 rw [List.length_flatMap]
 have key : ∀ (l : List α) (k : Nat), ((l.zipIdx k).map fun p => (if p.2 = n then [y] else [p.1]).length).sum = l.length := by
  intro l
  induction l with
  | nil => intro k; simp
  | cons x l ih =>
   intro k
   have := ih (k + 1)
   simp only [List.zipIdx_cons, List.map_cons, List.sum_cons, List.length_cons]
   rw [this]
   split <;> simp <;> omega
 exact key l 0
theorem rpl_none_len {α : Type} {n : Nat} (l : List α) : (rpl n [] l).length ≤ l.length := by
 unfold rpl
 rw [List.length_flatMap]
 have key : ∀ (l : List α) (k : Nat), ((l.zipIdx k).map fun p => (if p.2 = n then [] else [p.1]).length).sum ≤ l.length := by
  intro l
  induction l with
  | nil => intro k; simp
  | cons x l ih =>
   intro k
   have := ih (k + 1)
   simp only [List.zipIdx_cons, List.map_cons, List.sum_cons, List.length_cons]
   split <;> simp <;> omega
 exact key l 0
theorem wo_atoms {x : RItem} {k : Nat} (ho : x.out = false) {a : RAtom} (h : a ∈ atomsL (woL x k)) : a ∈ atomsL x := by
 have h' : a = x.head ∨ a ∈ x.body.eraseIdx k := by simpa [atomsL, woL] using h
 rcases h' with rfl | h'
 ·exact atoms_mem (.inl ⟨ho, rfl⟩)
 ·exact atoms_mem (.inr (List.mem_of_mem_eraseIdx h'))
theorem GL.wo {N : List Tx} {l : List RItem} (h : GL N l) {i k : Nat} {x : RItem} (hx : l[i]? = some x) (ho : x.out = false) : GL N (rpl i [woL x k] l) := by
 have hxm := List.mem_of_getElem? hx
 have hm : ∀ y ∈ rpl i [woL x k] l, y ∈ l ∨ y = woL x k := fun y hy => by
  rcases rpl_mem hy with h | h
  ·exact .inl h
  ·exact .inr (by simpa using h)
 have m := h.msr x hxm
 refine ⟨by rw [rpl_one]; exact h.len, h.nm, fun y hy => ?_, fun y hy => ?_, fun y hy => ?_, fun y hy => ?_, fun y hy => ?_⟩
 ·rcases hm y hy with hy | rfl
  ·exact h.msr y hy
  ·exact ⟨(fun e => by cases e), Nat.le_trans (List.length_eraseIdx_le _ _) m.body, m.mem, m.hpl, fun a ha => m.at_ a (wo_atoms ho ha)⟩
 ·rcases hm y hy with hy | rfl
  ·exact h.fits y hy
  ·exact woL_fits (h.fits x hxm)
 ·rcases hm y hy with hy | rfl
  ·exact h.pos y hy
  ·exact fun a ha => h.pos x hxm a (wo_atoms ho ha)
 ·rcases hm y hy with hy | rfl
  ·exact h.va y hy
  ·exact fun a ha => h.va x hxm a (wo_atoms ho ha)
 ·rcases hm y hy with hy | rfl
  ·exact h.ar y hy
  ·exact fun a ha b hb => h.ar x hxm a (List.mem_of_mem_eraseIdx ha) b (List.mem_of_mem_eraseIdx hb)
def spE (N : List Tx) (x : RItem) (k : Nat) : Option Sw := (withL sw0 (x.head.terms.map encT) (x.head.terms.map encT)).bind fun s0 => spareE N x k s0
theorem pspareG_spec {N : List Tx} {l : List RItem} (h : GL N l) {x : RItem} (hx : x ∈ l) (ho : x.out = false) (c : List AV) (k : Nat) (hc : PI N x c) (σ : St) : ACalls Tryz.prog 64 [ag c, sc (.int .i64 k)] σ fun r σ' => r = wRes (spE N x k) ∧ Keep σ σ' := by
 have m := h.msr x hx
 have hh := m.at_ x.head (atoms_mem (.inl ⟨ho, rfl⟩))
 obtain ⟨s0, hs0, -⟩ := with_self tellU x.head.terms hh.2.2
 have := pspare_spec N x c k s0 hc (h.fits x hx) hs0 (fun t ht => (hh.2.2 t ht).varOk) (fun a ha => ⟨(h.fits x hx).2.2 a ha, fun t ht => ((m.at_ a (atoms_mem (.inr ha))).2.2 t ht).varOk, fun b hb => h.ar x hx a ha b (List.mem_of_mem_eraseIdx hb)⟩) σ
 rw [spE, hs0]
 exact this
def Two (x : AV) : Prop := ∃ id1 n1 c1 id2 n2 c2, x = ag [sl id1 n1 c1, sl id2 n2 c2]
def okA (N : List Tx) (l : List RItem) (i k : Nat) : Bool := match l[i]? with
 | some x => (spE N x k).isSome && behB N l (rpl i [woL x k] l)
 | none => false
def noAl (N : List Tx) (l : List RItem) (n : Nat) : Prop := ∀ i y, i < n → l[i]? = some y → ∀ k, k < y.body.length → okA N l i k = false
def chA (N : List Tx) (l : List RItem) (idn : Nat) (x : AV) (b : Bool) : Prop :=
 (b = false ∧ noAl N l l.length) ∨ (b = true ∧ ∃ i k y, l[i]? = some y ∧ y.out = false ∧ k < y.body.length ∧ okA N l i k = true ∧ noAl N l i ∧ (∀ k', k' < k → okA N l i k' = false) ∧ ∃ id c', x = bookA N idn (rpl i [woL y k] l) id c' ∧ EL (PI N) (rpl i [woL y k] l) c')
set_option maxHeartbeats 64000000 in
theorem withoutSpare_spec (N : List Tx) (l : List RItem) (cs : List AV) (idn idi : Nat) (hG : GL N l) (hE : EL (PI N) l cs) (σ : St) :
  ACalls Tryz.prog 156 [bookA N idn l idi cs] σ fun r σ' => (∃ x b, r = tp [x, sc (.bool b)] ∧ chA N l idn x b ∧ Two x) ∧ Keep σ σ' := by
 have hcl := EL.length PI_len hE
 have hl16 := hG.len
 have hsl := swC_len
 have hsz := swC_zero
 have htk : ∀ s, List.take 78 (swC s) = swC s := fun s => List.take_of_length_le (by rw [swC_len]; exact Nat.le_refl _)
 have hls : ∀ s s', lsp (swC s) 0 (swC s') = swC s' := fun s s' => lsp_whole (by rw [swC_len, swC_len])
 have hfl : ∀ s, (swC s).all flat = true := fun s => by
  rw [List.all_eq_true]
  intro x hx
  obtain ⟨n, -, rfl⟩ := List.mem_map.1 hx
  unfold swF
  split
  ·rfl
  ·split <;> rfl
 refine acalls 53 [.cell 2 66, .tmp 3] Tryz.func156 rfl (by decide) rfl rfl (Nat.le_of_ble_eq_true rfl) ?_
 repeat' (first
 |with_reducible first|apply Xa|apply Xb|(refine Xc ?_;intro κ hκ)|(apply hκ.out;clear hκ κ)|apply Xd|apply Xe|apply Xf
 |((with_reducible first|refine Xl ?_ ?_|refine Xk ?_ ?_)<;> intro h hari<;> try exact Xp)
 |refine Xr ?_
 |exact True.intro
 |(apply hκ.out;clear hκ κ))
 refine awp_loop (fun m s σ' => ∃ (i : Nat), m = l.length - i ∧ i ≤ l.length ∧ s 1 = ptr σ.nobj 0 ∧ s 2 = ptr (σ.nobj + 1) 0 ∧ s 13 = sl idi l.length cs ∧ s 14 = sc (.int .i64 l.length) ∧ s 15 = sc (.int .i64 i) ∧ Keep σ σ' ∧ σ.nobj + 1 < σ'.nobj ∧ σ'.obj σ.nobj = [sl idn N.length (N.map str), sl idi l.length cs] ∧ σ'.obj (σ.nobj + 1) = [nilS, nilS] ∧ Abs.Hid (noAl N l i)) l.length
  ⟨0, by omega, by omega, by simp [upd], by simp [upd], by simp [upd], by simp [upd], rfl, by exact Xs, by simp only [new_nobj]; omega, by rw [new_lt (by simp only [new_nobj]; omega), new_same], by first | exact new_same | simp [new_same], fun i y h => by omega⟩ ?_
 rintro m s σ' ⟨i, rfl, hi, h1, h2, h13, h14, h15, hK, hno, ob0, ob1, hA⟩
 have kno := hK.nobj
 by_cases hlt : i < l.length
 ·have hget := List.getElem?_eq_getElem hlt
  have hxm := List.getElem_mem hlt
  have hfx := hG.fits l[i] hxm
  have hmx := hG.msr l[i] hxm
  obtain ⟨hmm, ih, idb, b, r, hbd, hd⟩ := EL_PI hE hget
  generalize l[i] = x at hd hget hmm hbd hxm hfx hmx
  have hb1 := hfx.1
  have hbl := EL.length PL_len hbd
  have HG : Abs.Hid (l[i]? = some x) := hget
  clear hget
  repeat' (first
 |with_reducible first|apply Xa|apply Xb|(refine Xc ?_;intro κ hκ)|(apply hκ.out;clear hκ κ)|apply Xd|apply Xe|apply Xf
 |((with_reducible first|refine Xl ?_ ?_|refine Xk ?_ ?_)<;> intro h hari<;> try exact Xp)
 |refine Xr ?_
 |exact True.intro
 |(apply hκ.out;clear hκ κ))
  refine awp_loop (fun m s σ2 => ∃ (k : Nat), m = x.body.length - k ∧ k ≤ x.body.length ∧ s 1 = ptr σ.nobj 0 ∧ s 2 = ptr (σ.nobj + 1) 0 ∧ s 4 = sc (.int .i64 i) ∧ s 5 = ptr σ'.nobj 0 ∧ s 13 = sl idi l.length cs ∧ s 14 = sc (.int .i64 l.length) ∧ s 15 = sc (.int .i64 i) ∧ s 21 = sl idb x.body.length b ∧ s 22 = sc (.int .i64 x.body.length) ∧ s 23 = sc (.int .i64 k) ∧ Keep σ σ2 ∧ σ'.nobj < σ2.nobj ∧ σ2.obj σ.nobj = [sl idn N.length (N.map str), sl idi l.length cs] ∧ σ2.obj (σ.nobj + 1) = [nilS, nilS] ∧ σ2.obj σ'.nobj = [sc (.bool x.out), sc (.int .i64 (N.idxOf x.head.pred : Nat)), sl ih x.head.terms.length (tcells x.head.terms), sl idb x.body.length b] ∧ Abs.Hid (∀ k', k' < k → okA N l i k' = false)) x.body.length
   ⟨0, by omega, by omega, by simp [upd, *], by simp [upd, *], by simp [upd, *], by simp [upd, *], by simp [upd, *], by simp [upd, *], by simp [upd, *], by simp [upd], by simp [upd], by simp [upd], by exact Xs, by simp only [put_nobj, new_nobj]; omega, by rw [put_ne (by omega), new_lt (by omega), ob0], by rw [put_ne (by omega), new_lt (by omega), ob1], by rw [put_same], fun k' h => by omega⟩ ?_
  clear h1 h2 h13 h14 h15 hK ob0 ob1
  rintro m s σ2 ⟨k, rfl, hk, h1, h2, h4, h5, h13, h14, h15, h21, h22, h23, hK, hno2, ob0, ob1, ob5, hN⟩
  have kno2 := hK.nobj
  by_cases hltk : k < x.body.length
  ·have hxo : x.out = false := by
    cases h : x.out with
    | false => rfl
    | true => rw [hmx.out h] at hltk; cases hltk
   have hSp := fun σ => pspareG_spec hG hxm hxo _ k (PI.of (ih := ih) (id := idb) hmm hbd) σ
   simp only [hxo] at hSp ob5
   have hok : okA N l i k = ((spE N x k).isSome && behB N l (rpl i [woL x k] l)) := by unfold okA; rw [HG.out]
   cases hs : spE N x k with
   | none =>
    rw [hs] at hSp hok
    simp only [wRes] at hSp
    have HN : Abs.Hid (∀ k', k' < k + 1 → okA N l i k' = false) := fun k' hk' => by
     rcases Nat.lt_or_ge k' k with h | h
     ·exact hN.out k' h
     ·rw [show k' = k by omega, hok]; rfl
    clear hN hok hs
    repeat' (first
 |with_reducible first|apply Xa|apply Xb|(refine Xc ?_;intro κ hκ)|(apply hκ.out;clear hκ κ)|apply Xd|apply Xe|apply Xf
 |((with_reducible first|refine Xl ?_ ?_|refine Xk ?_ ?_)<;> intro h hari<;> try exact Xp)
 |((with_reducible refine Xh ?_);refine Xi (hSp _) ?_;rintro _ _ ⟨rfl,hK3⟩;(have kno3:=hK3.nobj;have kob3:=hK3.obj))
 |refine Xr ?_
 |exact True.intro
 |(apply hκ.out;clear hκ κ))
    rename_i σ3
    have hKz : Keep σ ((σ3.new (swC sw0)).put σ3.nobj (swC sw0)) := ((hK.trans hK3).new _).put (by omega) _
    have hz0 : ((σ3.new (swC sw0)).put σ3.nobj (swC sw0)).obj σ.nobj = [sl idn N.length (N.map str), sl idi l.length cs] := by rw [put_ne (by omega), new_lt (by omega), kob3 _ (by omega), ob0]
    have hz1 : ((σ3.new (swC sw0)).put σ3.nobj (swC sw0)).obj (σ.nobj + 1) = [nilS, nilS] := by rw [put_ne (by omega), new_lt (by omega), kob3 _ (by omega), ob1]
    have hz2 : ((σ3.new (swC sw0)).put σ3.nobj (swC sw0)).obj σ'.nobj = [sc (.bool x.out), sc (.int .i64 (N.idxOf x.head.pred : Nat)), sl ih x.head.terms.length (tcells x.head.terms), sl idb x.body.length b] := by rw [put_ne (by omega), new_lt (by omega), kob3 _ (by omega), ob5, hxo]
    refine ⟨x.body.length - (k + 1), by omega, k + 1, ?_⟩
    ((repeat' with_reducible refine And.intro ?_ ?_)<;> first|exact Xq|exact (HN)|exact (hKz)|exact (hz0)|exact (hz1)|exact (hz2)|exact Xs)
   | some sw =>
    rw [hs] at hSp hok
    simp only [wRes] at hSp
    simp only [Option.isSome_some, Bool.true_and] at hok
    have hWo := fun σ => pwithout_spec N x _ k (PI.of (ih := ih) (id := idb) hmm hbd) hb1 σ
    simp only [hxo] at hWo
    have hG' := hG.wo (k := k) HG.out hxo
    have hWi := fun co ido (hco : EL (PI N) [woL x k] co) σ => pwith_spec N l [woL x k] cs co idn idi ido i hE hco (by omega) (by simp) σ
    have hBe := fun c' id' (hc' : EL (PI N) (rpl i [woL x k] l) c') σ => behind_spec N l (rpl i [woL x k] l) cs c' idn idi id' (hG.bkm hE) (hG'.bkm hc') σ
    simp only [List.length_singleton] at hWi
    rw [← hok] at hBe
    cases hbk : okA N l i k with
    | true =>
     rw [hbk] at hBe
     have HC : Abs.Hid (∀ id c' x', x' = bookA N idn (rpl i [woL x k] l) id c' → EL (PI N) (rpl i [woL x k] l) c' → chA N l idn x' true) := fun id c' x' hx' hc' => .inr ⟨rfl, i, k, x, HG.out, hxo, hltk, hbk, hA.out, hN.out, id, c', hx', hc'⟩
     clear hN hok hs hG' hbk hA HG
     repeat' (first
 |with_reducible first|apply Xa|apply Xb|(refine Xc ?_;intro κ hκ)|(apply hκ.out;clear hκ κ)|apply Xd|apply Xe|apply Xf
 |((with_reducible first|refine Xl ?_ ?_|refine Xk ?_ ?_)<;> intro h hari<;> try exact Xp)
 |((with_reducible refine Xh ?_);first|(refine Xi (hSp _) ?_;rintro _ _ ⟨rfl,hK3⟩;(have kno3:=hK3.nobj;have kob3:=hK3.obj))|(refine Xi (hWo _) ?_;rintro _ _ ⟨c2,rfl,hP2,hK4⟩;(have kno4:=hK4.nobj;have kob4:=hK4.obj;(try simp only [put_nobj,new_nobj] at kno4 kob4);obtain ⟨hm2,ih2,id2,b2,hb2,rfl⟩:=hP2))|(refine Xi (hWi _ _ (EL.single (PI.of (ih:=ih2) (id:=id2) hm2 hb2)) _) ?_;rintro _ _ ⟨⟨id6,c6,rfl,hE6⟩,hK6⟩;(have kno6:=hK6.nobj;have kob6:=hK6.obj;(try simp only [put_nobj,new_nobj,lay_nobj] at kno6 kob6)))|(refine Xi (hBe c6 id6 hE6 _) ?_;rintro _ _ ⟨⟨x7,rfl,hx7,⟨id71,n71,c71,id72,n72,c72,rfl⟩⟩,hK7⟩;(have kno7:=hK7.nobj;have kob7:=hK7.obj)))
 |refine Xr ?_
 |exact True.intro
 |(apply hκ.out;clear hκ κ))
     exact ⟨_, rfl, ⟨_, true, rfl, HC.out _ _ _ (hx7 rfl) hE6, _, _, _, _, _, _, rfl⟩, by exact Xs⟩
    | false =>
     rw [hbk] at hBe
     have HN : Abs.Hid (∀ k', k' < k + 1 → okA N l i k' = false) := fun k' hk' => by
      rcases Nat.lt_or_ge k' k with h | h
      ·exact hN.out k' h
      ·rw [show k' = k by omega, hbk]
     clear hN hok hs hG' hbk
     repeat' (first
 |with_reducible first|apply Xa|apply Xb|(refine Xc ?_;intro κ hκ)|(apply hκ.out;clear hκ κ)|apply Xd|apply Xe|apply Xf
 |((with_reducible first|refine Xl ?_ ?_|refine Xk ?_ ?_)<;> intro h hari<;> try exact Xp)
 |((with_reducible refine Xh ?_);first|(refine Xi (hSp _) ?_;rintro _ _ ⟨rfl,hK3⟩;(have kno3:=hK3.nobj;have kob3:=hK3.obj))|(refine Xi (hWo _) ?_;rintro _ _ ⟨c2,rfl,hP2,hK4⟩;(have kno4:=hK4.nobj;have kob4:=hK4.obj;(try simp only [put_nobj,new_nobj] at kno4 kob4);obtain ⟨hm2,ih2,id2,b2,hb2,rfl⟩:=hP2))|(refine Xi (hWi _ _ (EL.single (PI.of (ih:=ih2) (id:=id2) hm2 hb2)) _) ?_;rintro _ _ ⟨⟨id6,c6,rfl,hE6⟩,hK6⟩;(have kno6:=hK6.nobj;have kob6:=hK6.obj;(try simp only [put_nobj,new_nobj,lay_nobj] at kno6 kob6)))|(refine Xi (hBe c6 id6 hE6 _) ?_;rintro _ _ ⟨⟨x7,rfl,hx7,⟨id71,n71,c71,id72,n72,c72,rfl⟩⟩,hK7⟩;(have kno7:=hK7.nobj;have kob7:=hK7.obj)))
 |refine Xr ?_
 |exact True.intro
 |(apply hκ.out;clear hκ κ))
     refine ⟨x.body.length - (k + 1), by omega, k + 1, ?_⟩
     ((repeat' with_reducible refine And.intro ?_ ?_)<;> first|exact Xq|exact (HN)|exact Xs)
  ·have hkl : k = x.body.length := by omega
   have HA : Abs.Hid (noAl N l (i + 1)) := fun j y hj hy k' hk' => by
    rcases Nat.lt_or_ge j i with h | h
    ·exact hA.out j y h hy k' hk'
    ·have : j = i := by omega
     subst this
     rw [HG.out] at hy
     cases hy
     exact hN.out k' (by omega)
   clear hN HG hA
   repeat' (first
 |with_reducible first|apply Xa|apply Xb|(refine Xc ?_;intro κ hκ)|(apply hκ.out;clear hκ κ)|apply Xd|apply Xe|apply Xf
 |((with_reducible first|refine Xl ?_ ?_|refine Xk ?_ ?_)<;> intro h hari<;> try exact Xp)
 |refine Xr ?_
 |exact True.intro
 |(apply hκ.out;clear hκ κ))
   refine ⟨l.length - (i + 1), by omega, i + 1, ?_⟩
   ((repeat' with_reducible refine And.intro ?_ ?_)<;> first|exact Xq|exact (HA)|exact Xs)
 ·have hil : i = l.length := by omega
  subst hil
  repeat' (first
 |with_reducible first|apply Xa|apply Xb|(refine Xc ?_;intro κ hκ)|(apply hκ.out;clear hκ κ)|apply Xd|apply Xe|apply Xf
 |((with_reducible first|refine Xl ?_ ?_|refine Xk ?_ ?_)<;> intro h hari<;> try exact Xp)
 |refine Xr ?_
 |exact True.intro
 |(apply hκ.out;clear hκ κ))
  exact ⟨_, rfl, ⟨_, false, rfl, .inl ⟨rfl, hA.out⟩, _, _, _, _, _, _, rfl⟩, by exact Xs⟩
end Go.Proofs.YtmoeoppbmhfbpaaGreatDoorU
