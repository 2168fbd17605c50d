import Derived.Test.YtmoeoppbmhfbpaaGreatDoorBProgP
import Derived.Test.YtmoeoppbmhfbpaaGreatDoorBProgN
import Derived.ProofKit
import Derived.OpenShut
import Derived.Below
import Derived.Carry
import Derived.Deep.Slices
import Derived.Shelf.Strconv.Itoa3
import Derived.Test.YtmoeoppbmhfbpaaGreatDoorProg
import Derived.Test.YtmoeoppbmhfbpaaGreatDoorBAbsWp
/- The program's faults are the document's. -/
namespace Go.Proofs.YtmoeoppbmhfbpaaGreatDoorB
open Go.Abs
set_option linter.unusedSimpArgs false
set_option linter.unusedVariables false
set_option maxRecDepth 100000
/-! ### Terms that were read -/
def VT (w : Tx) : Prop := (∃ b, w = [b] ∧ largeB b.toNat = true) ∨ (w ≠ [] ∧ ∀ b ∈ w, digitB b.toNat = true)
def VA (a : RAtom) : Prop := ∀ w ∈ a.terms, VT w
theorem pTerm_vt {s r w : Tx} (h : pTerm s = .got w r) : VT w := by
 cases s with
 | nil => cases h
 | cons b q =>
  unfold pTerm at h; dsimp only at h
  split at h
  ·rename_i hl; cases h; exact .inl ⟨b, rfl, hl⟩
  split at h
  ·rename_i h0; cases h; refine .inr ⟨by simp, fun c hc => ?_⟩
   simp at hc; subst hc; rw [digit_iff]; exact .inr h0
  split at h
  ·rename_i h9; cases h; refine .inr ⟨by simp, fun c hc => ?_⟩
   rcases List.mem_cons.1 hc with rfl | hc
   ·rw [digit_iff]; exact .inl h9
   ·exact (pWhile_took digitB 2 q).2 c hc
  ·cases h
theorem pMore_all {α : Type} {f : Tx → Rd α} {P : α → Prop} (hf : ∀ s x r, f s = .got x r → P x) : ∀ (n : Nat) (s : Tx) (xs : List α) (r : Tx), pMore f n s = .got xs r → ∀ x ∈ xs, P x
 | 0, s, xs, r, h => by unfold pMore at h; cases h; simp
 | n + 1, [], xs, r, h => by unfold pMore at h; cases h; simp
 | n + 1, b :: q, xs, r, h => by
  unfold pMore at h
  split at h
  ·obtain ⟨x, q1, h1, h2⟩ := bnd_got h
   obtain ⟨ys, q2, h3, h4⟩ := bnd_got h2
   cases h4
   intro y hy
   rcases List.mem_cons.1 hy with rfl | hy
   ·exact hf _ _ _ h1
   ·exact pMore_all hf n _ _ _ h3 y hy
  ·cases h; simp
theorem pAtom_all {T : Tx → Prop} (hT : ∀ s w r, pTerm s = .got w r → T w) {nt : Bool} {s r : Tx} {a : RAtom} (h : pAtom nt s = .got a r) : ∀ w ∈ a.terms, T w := by
 unfold pAtom pArgs at h
 obtain ⟨p, q1, -, h⟩ := bnd_got h
 obtain ⟨u, q2, -, h⟩ := bnd_got h
 obtain ⟨w, q3, h1, h⟩ := bnd_got h
 obtain ⟨ws, q4, h2, h⟩ := bnd_got h
 obtain ⟨u2, q5, -, h⟩ := bnd_got h
 cases h
 intro y hy
 rcases List.mem_cons.1 hy with rfl | hy
 ·exact hT _ _ _ h1
 ·exact pMore_all hT _ _ _ _ h2 y hy
theorem pLit_all {T : Tx → Prop} (hT : ∀ s w r, pTerm s = .got w r → T w) {s r : Tx} {a : RAtom} (h : pLit s = .got a r) : ∀ w ∈ a.terms, T w := by rw [pLit_eq] at h; exact pAtom_all hT h
theorem pItem_all {T : Tx → Prop} (hT : ∀ s w r, pTerm s = .got w r → T w) {s r : Tx} {x : RItem} (h : pItem s = .got x r) : ∀ a ∈ atomsL x, ∀ w ∈ a.terms, T w := by
 rw [pItem_eq] at h
 split at h
 ·unfold pOut at h
  obtain ⟨p, q1, -, h⟩ := bnd_got h
  obtain ⟨u, q2, -, h⟩ := bnd_got h
  cases h
  simp [atomsL]
 ·unfold pRule at h
  obtain ⟨a, q1, h1, h⟩ := bnd_got h
  rw [pTail_eq] at h
  split at h
  ·cases h
   intro y hy
   simp [atomsL] at hy
   subst hy; exact pAtom_all hT h1
  ·obtain ⟨u, q2, -, h⟩ := bnd_got h
   obtain ⟨ls, q3, h3, h⟩ := bnd_got h
   obtain ⟨u2, q4, -, h⟩ := bnd_got h
   cases h
   intro y hy
   simp [atomsL] at hy
   rcases hy with rfl | hy
   ·exact pAtom_all hT h1
   ·unfold pLits pSep at h3
    obtain ⟨l, q5, h5, h3⟩ := bnd_got h3
    obtain ⟨ls2, q6, h6, h3⟩ := bnd_got h3
    cases h3
    rcases List.mem_cons.1 hy with rfl | hy
    ·exact pLit_all hT h5
    ·exact pMore_all (fun _ _ _ h => pLit_all hT h) _ _ _ _ h6 y hy
theorem pItems_all {T : Tx → Prop} (hT : ∀ s w r, pTerm s = .got w r → T w) : ∀ (n : Nat) (s : Tx) (l : List RItem) (r : Tx), pItems n s = .got l r → ∀ x ∈ l, ∀ a ∈ atomsL x, ∀ w ∈ a.terms, T w
 | n, [], l, r, h => by rw [pItems_nil] at h; cases h; simp
 | 0, b :: q, l, r, h => by rw [pItems_zero] at h; cases h
 | n + 1, b :: q, l, r, h => by
  rw [pItems_succ] at h
  obtain ⟨x, q1, h1, h⟩ := bnd_got h
  obtain ⟨xs, q2, h2, h⟩ := bnd_got h
  cases h
  intro y hy
  rcases List.mem_cons.1 hy with rfl | hy
  ·exact pItem_all hT h1
  ·exact pItems_all hT n _ _ _ h2 y hy
theorem pItems_va (n : Nat) (s : Tx) (l : List RItem) (r : Tx) (h : pItems n s = .got l r) : ∀ x ∈ l, ∀ a ∈ atomsL x, VA a := pItems_all (T := VT) (fun _ _ _ h => pTerm_vt h) n s l r h
/-! ### Safe -/
theorem enc_var {w : Tx} (h : VT w) : (encT w).1 = variableB w := by
 rcases h with ⟨b, rfl, hl⟩ | ⟨hn, hd⟩
 ·rw [encT_large hl]; simp [variableB, hl]
 ·cases w with
  | nil => exact absurd rfl hn
  | cons b r =>
   have hb := hd b (by simp)
   have hl : largeB b.toNat = false := by
    cases hl : largeB b.toNat with
    | false => rfl
    | true => simp [digitB] at hb; simp [largeB] at hl; omega
   rw [encT_num hl]; simp [variableB, hl]
theorem hit_eq {u t : Tx} (hu : VT u) (ht : VT t) (hv : variableB t = true) : hitT (encT t).2 u = (u == t) := by
 obtain ⟨b, rfl, hl⟩ : ∃ b, t = [b] ∧ largeB b.toNat = true := by
  rcases ht with h | ⟨hn, hd⟩
  ·exact h
  ·exfalso
   cases t with
   | nil => exact hn rfl
   | cons b r =>
    have hb := hd b (by simp)
    simp [variableB] at hv
    simp [digitB] at hb; simp [largeB] at hv; omega
 rw [encT_large hl]
 unfold hitT
 rcases hu with ⟨c, rfl, hc⟩ | ⟨hn, hd⟩
 ·rw [encT_large hc]
  simp only [Bool.true_and]
  by_cases e : c = b
  ·subst e; simp
  ·have : (c.toNat : Int) ≠ b.toNat := fun h => e (UInt8.toNat_inj.1 (by omega))
   have h1 : ((c.toNat : Int) - 65 == (b.toNat : Int) - 65) = false := by simp; omega
   have h2 : (([c] : Tx) == [b]) = false := by simpa using e
   rw [h1, h2]
 ·have h1 : (encT u).1 = false := by
   rw [enc_var (.inr ⟨hn, hd⟩)]
   cases u with
   | nil => rfl
   | cons c r =>
    have hb := hd c (by simp)
    cases hv : variableB (c :: r) with
    | false => rfl
    | true => simp [variableB, largeB] at hv; simp [digitB] at hb; omega
  have h2 : (u == [b]) = false := by
   simp
   rintro rfl
   have := hd b (by simp)
   simp [digitB] at this; simp [largeB] at hl; omega
  rw [h1, h2]; rfl
theorem any_congr' {α : Type} {l : List α} {p q : α → Bool} (h : ∀ a ∈ l, p a = q a) : l.any p = l.any q := by
 induction l with
 | nil => rfl
 | cons a l ih => simp only [List.any_cons]; rw [h a (by simp), ih (fun b hb => h b (by simp [hb]))]
theorem binds_eq {x : RItem} (hV : ∀ a ∈ atomsL x, VA a) {t : Tx} (ht : VT t) (hv : variableB t = true) : bindsB x (encT t).2 = boundB x t := by
 unfold bindsB boundB
 apply any_congr'
 intro a ha
 have hA : VA a := hV a (by unfold atomsL; simp [ha])
 cases hn : a.nt with
 | true => simp
 | false =>
  simp only [Bool.not_false, Bool.true_and]
  exact any_congr' fun u hu => hit_eq (hA u hu) ht hv
theorem safe_eq {x : RItem} (hV : ∀ a ∈ atomsL x, VA a) : psafeB x = safeB x := by
 unfold psafeB safeB
 congr 1
 apply any_congr'
 intro a ha
 unfold badA badT
 apply any_congr'
 intro w hw
 have hA := hV a ha w hw
 rw [enc_var hA]
 cases hv : variableB w with
 | false => rfl
 | true => rw [binds_eq hV hA hv]
theorem firstN_congr {p q : Nat → Bool} {n : Nat} (h : ∀ i, i < n → p i = q i) : firstN p n = firstN q n := by
 have e : (List.range n).find? p = (List.range n).find? q := by
  have hm : ∀ i ∈ List.range n, p i = q i := fun i hi => h i (by simpa using hi)
  generalize List.range n = l at hm
  induction l with
  | nil => rfl
  | cons a l ih => simp only [List.find?_cons]; rw [hm a (by simp), ih (fun b hb => hm b (by simp [hb]))]
 unfold firstN; rw [e]
/-! ### Uses -/
theorem way_names {N : List Tx} {l : List RItem} (hN : ∀ x ∈ l, x.head.pred ∈ N ∧ ∀ a ∈ x.body, a.pred ∈ N) {i j : Nat} (h : Way (onceP N l) i j) : ∃ p q, p ∈ N ∧ q ∈ N ∧ N.idxOf p = i ∧ N.idxOf q = j ∧ Way (atOnce l) p q := by
 induction h with
 | one e =>
  obtain ⟨x, hx, h1, a, ha, h2⟩ := e
  exact ⟨x.head.pred, a.pred, (hN x hx).1, (hN x hx).2 a ha, h1, h2, .one ⟨x, hx, rfl, a, ha, rfl⟩⟩
 | more e _ ih =>
  obtain ⟨x, hx, h1, a, ha, h2⟩ := e
  obtain ⟨p, q, hp, hq, e1, e2, w⟩ := ih
  have : a.pred = p := idx_inj ((hN x hx).2 a ha) hp (by omega)
  subst this
  exact ⟨x.head.pred, q, (hN x hx).1, hq, h1, e2, .more ⟨x, hx, rfl, a, ha, rfl⟩ w⟩
theorem way_places {N : List Tx} {l : List RItem} {p q : Tx} (h : Way (atOnce l) p q) : Way (onceP N l) (N.idxOf p) (N.idxOf q) := by
 induction h with
 | one e =>
  obtain ⟨x, hx, rfl, a, ha, rfl⟩ := e
  exact .one ⟨x, hx, rfl, a, ha, rfl⟩
 | more e _ ih =>
  obtain ⟨x, hx, rfl, a, ha, rfl⟩ := e
  exact .more ⟨x, hx, rfl, a, ha, rfl⟩ ih
theorem Way.map' {α : Type} {E F : α → α → Prop} (h : ∀ a b, E a b → F a b) {a b : α} (w : Way E a b) : Way F a b := by
 induction w with
 | one e => exact .one (h _ _ e)
 | more e _ ih => exact .more (h _ _ e) ih
theorem uses_eq {N : List Tx} {l : List RItem} {M : Nat → Nat → Bool} (hN : ∀ x ∈ l, x.head.pred ∈ N ∧ ∀ a ∈ x.body, a.pred ∈ N) (ho : ∀ x ∈ l, x.out = true → x.body = []) (hM : isOnce N l M) {p q : Tx} (hp : p ∈ N) (hq : q ∈ N) (hy : ∃ y ∈ l, y.out = false ∧ y.head.pred = q) :
  fwR N.length M N.length (N.idxOf p) (N.idxOf q) = usesB l p q := by
 have hS : Supp N.length M := by
  intro a b hab
  obtain ⟨x, hx, rfl, c, hc, rfl⟩ := (hM a b).1 hab
  exact ⟨List.idxOf_lt_length_of_mem (hN x hx).1, List.idxOf_lt_length_of_mem ((hN x hx).2 c hc)⟩
 rw [Bool.eq_iff_iff, fwR_iff hS, usesB_iff ho hy]
 constructor
 ·intro w
  obtain ⟨p', q', hp', hq', e1, e2, w'⟩ := way_names hN (w.map' fun a b h => (hM a b).1 h)
  rw [← idx_inj hp' hp e1, ← idx_inj hq' hq e2]; exact w'
 ·intro w
  exact (way_places w).map' fun a b h => (hM a b).2 h
theorem EL_PL_mem {N : List Tx} : ∀ {l : List RAtom} {cs : List AV}, EL (PL N) l cs → ∀ a ∈ l, a.pred ∈ N
 | [], cs, h, a, ha => by cases ha
 | b :: l, cs, ⟨c, d, hc, hd, e⟩, a, ha => by
  rcases List.mem_cons.1 ha with rfl | ha
  ·exact hc.1
  ·exact EL_PL_mem hd a ha
theorem EL_PI_mem {N : List Tx} : ∀ {l : List RItem} {cs : List AV}, EL (PI N) l cs → ∀ x ∈ l, x.head.pred ∈ N ∧ ∀ a ∈ x.body, a.pred ∈ N
 | [], cs, h, a, ha => by cases ha
 | b :: l, cs, ⟨c, d, hc, hd, e⟩, a, ha => by
  rcases List.mem_cons.1 ha with rfl | ha
  ·obtain ⟨hm, ih, id, bb, hb, -⟩ := hc
   exact ⟨hm, EL_PL_mem hb⟩
  ·exact EL_PI_mem hd a ha
theorem knot_eq {N : List Tx} {l : List RItem} {cs : List AV} {M : Nat → Nat → Bool} (hB : Bk N l cs) (hM : isOnce N l M) : firstN (pknot N l (fwR N.length M N.length)) l.length = firstN (knotP l) l.length := by
 have hN := EL_PI_mem hB.el
 apply firstN_congr
 intro i hi
 unfold pknot knotP
 rw [List.getElem?_eq_getElem hi]
 dsimp only
 have hx := List.getElem_mem hi
 generalize l[i] = x at hx
 apply any_congr'
 intro a ha
 unfold pbad badK
 have ho : x.out = false := by
  cases h : x.out with
  | false => rfl
  | true => rw [hB.out x hx h] at ha; cases ha
 rw [uses_eq hN hB.out hM ((hN x hx).2 a ha) (hN x hx).1 ⟨x, hx, ho, rfl⟩]
 congr 2
 rw [Bool.eq_iff_iff]
 simp only [beq_iff_eq]
 constructor
 ·intro e; exact idx_inj ((hN x hx).2 a ha) (hN x hx).1 (by omega)
 ·intro e; rw [e]
theorem unsafe_eq {l : List RItem} (hV : ∀ x ∈ l, ∀ a ∈ atomsL x, VA a) : firstN (punsafe l) l.length = firstN (unsafeP l) l.length := by
 apply firstN_congr
 intro i hi
 unfold punsafe unsafeP
 rw [List.getElem?_eq_getElem hi]
 dsimp only
 rw [safe_eq (hV _ (List.getElem_mem hi))]
set_option maxHeartbeats 16000000 in
theorem fault_spec (N : List Tx) (l : List RItem) (cs : List AV) (idn idi : Nat) (hB : Bk N l cs) (hV : ∀ x ∈ l, ∀ a ∈ atomsL x, VA a) (σ : St) : ACalls Tryz.prog 71 [bookA N idn l idi cs] σ fun r σ' => r = two (wrongM l) ∧ Keep σ σ' := by
 have g1 := @firstN_ge (oddP l) l.length
 have g2 := @firstN_ge (unsafeP l) l.length
 have g3 := @firstN_ge (knotP l) l.length
 have hU := unsafe_eq hV
 have hS2 := firstUnsafe_spec N l cs idn idi hB
 rw [hU] at hS2
 have hS3 : ∀ σ, ACalls Tryz.prog 123 [bookA N idn l idi cs] σ fun r σ' => r = sc (.int .i64 (firstN (knotP l) l.length)) ∧ Keep σ σ' := fun σ => by
  refine ACalls.mono (firstNot_spec N l cs idn idi hB σ) ?_
  rintro _ _ ⟨M, hM, rfl, hK⟩
  exact ⟨by rw [knot_eq hB hM], hK⟩
 clear hU
 refine acalls 20 [.tmp 2, .tmp 3] Tryz.func71 rfl (by decide) rfl rfl (Nat.le_of_ble_eq_true rfl) ?_
 repeat' (first
 |with_reducible first|apply Xa|apply Xb|(refine Xc ?_;intro κ hκ)|(apply hκ.out;clear hκ κ)|apply Xd|apply Xe|apply Xf
 |((with_reducible first|refine Xl ?_ ?_|refine Xk ?_ ?_)<;> intro h hari<;> try exact Xp)
 |((with_reducible refine Xh ?_);first|(refine Xi (firstOther_spec N l cs idn idi hB _) ?_;rintro _ _ ⟨rfl,hK1⟩;(have kob1:=hK1.obj;have kno1:=hK1.nobj;(try simp only [new_nobj,put_nobj,lay_nobj] at kno1)))|(refine Xi (hS2 _) ?_;rintro _ _ ⟨rfl,hK2⟩;(have kob2:=hK2.obj;have kno2:=hK2.nobj))|(refine Xi (hS3 _) ?_;rintro _ _ ⟨rfl,hK3⟩))
 |refine Xr ?_
 |exact True.intro
 |(apply hκ.out;clear hκ κ))
 ·have e1 : firstN (oddP l) l.length ≠ -1 := by simpa using h
  exact ⟨_, rfl, by unfold wrongM; rw [if_pos (by omega)], by exact Xs⟩
 ·have e1 : firstN (oddP l) l.length = -1 := by simpa using (show (firstN (oddP l) l.length != -1) = false by assumption)
  have e2 : firstN (unsafeP l) l.length ≠ -1 := by simpa using h
  exact ⟨_, rfl, by unfold wrongM; rw [if_neg (by omega), if_pos (by omega)], by exact Xs⟩
 ·have e1 : firstN (oddP l) l.length = -1 := by simpa using (show (firstN (oddP l) l.length != -1) = false by assumption)
  have e2 : firstN (unsafeP l) l.length = -1 := by simpa using (show (firstN (unsafeP l) l.length != -1) = false by assumption)
  have e3 : firstN (knotP l) l.length ≠ -1 := by simpa using h
  exact ⟨_, rfl, by unfold wrongM; rw [if_neg (by omega), if_neg (by omega), if_pos (by omega)], by exact Xs⟩
 ·have e1 : firstN (oddP l) l.length = -1 := by simpa using (show (firstN (oddP l) l.length != -1) = false by assumption)
  have e2 : firstN (unsafeP l) l.length = -1 := by simpa using (show (firstN (unsafeP l) l.length != -1) = false by assumption)
  have e3 : firstN (knotP l) l.length = -1 := by simpa using h
  exact ⟨_, rfl, by unfold wrongM; rw [if_neg (by omega), if_neg (by omega), if_neg (by omega)], by exact Xs⟩
/- The program: load and Check. -/
theorem W_bk {N : List Tx} {l : List RItem} {cs : List AV} (hE : EL (PI N) l cs) (hl : l.length ≤ 16) (hW : ∀ x ∈ l, WItem x) (hN : N.length ≤ 2000) : Bk N l cs := by
 refine ⟨hE, hl, fun x hx => ?_, fun x hx ho => ((hW x hx).2.1 ho).2.2, hN, fun x hx a ha => ?_⟩
 ·obtain ⟨-, h2, h3⟩ := hW x hx
  cases ho : x.out with
  | true =>
   obtain ⟨-, q1, q2⟩ := h2 ho
   exact ⟨by simp [q2], by simp [q1], by simp [q2]⟩
  | false =>
   obtain ⟨q1, -, q2, q3⟩ := h3 ho
   have := q1.2.2.1
   exact ⟨by omega, by omega, fun a ha => by have := (q3 a ha).2.2.1; omega⟩
 ·obtain ⟨-, h2, h3⟩ := hW x hx
  unfold atomsL at ha
  cases ho : x.out with
  | true =>
   obtain ⟨-, q1, q2⟩ := h2 ho
   simp [ho, q2] at ha
  | false =>
   obtain ⟨q1, -, q2, q3⟩ := h3 ho
   simp [ho] at ha
   have hp : WAtom a → 0 < a.terms.length := fun w => by
    have := w.2.1
    cases hh : a.terms with
    | nil => exact absurd hh this
    | cons y ys => simp
   rcases ha with rfl | ha
   ·exact hp q1
   ·exact hp (q3 a ha)
theorem wrongM_zero {l : List RItem} (h : (wrongM l).1 = 0) : wrongM l = (0, 0) := by
 unfold wrongM at h ⊢
 split
 ·rename_i h1; rw [if_pos h1] at h; cases h
 ·rename_i h1
  rw [if_neg h1] at h
  split
  ·rename_i h2; rw [if_pos h2] at h; cases h
  ·rename_i h2
   rw [if_neg h2] at h
   split
   ·rename_i h3; rw [if_pos h3] at h; cases h
   ·rfl
def isBook (t : Tx) (n1 : Nat) (c1 : List AV) (n2 : Nat) (c2 : List AV) : Prop :=
 ∃ N l, pItems 16 t = .got l [] ∧ Bk N l c2 ∧ n1 = N.length ∧ c1 = N.map str ∧ n2 = l.length ∧ (∀ x ∈ l, ∀ a ∈ atomsL x, VA a) ∧ ∀ x ∈ l, WItem x
set_option maxHeartbeats 16000000 in
theorem load_specN (t : Tx) (σ : St) : ACalls Tryz.prog 44 [str t] σ fun r σ' => ∃ idn n1 c1 idi n2 c2, r = tp [ag [sl idn n1 c1, sl idi n2 c2], sc (.int .i64 (refCheck t).1), sc (.int .i64 (refCheck t).2)] ∧ Keep σ σ' ∧ ((refCheck t).1 = 0 → n1 ≤ 600 ∧ isBook t n1 c1 n2 c2) := by
 refine acalls 41 [.cell 2 66, .tmp 3, .tmp 4] Tryz.func44 rfl (by decide) rfl rfl (Nat.le_of_ble_eq_true rfl) ?_
 by_cases hL : 600 < t.length
 ·have hrc : refCheck t = (1, 0) := by unfold refCheck; rw [if_pos hL]
  have HRC : Abs.Hid _ := hrc
  clear hrc
  repeat' (first
 |with_reducible first|apply Xa|apply Xb|(refine Xc ?_;intro κ hκ)|(apply hκ.out;clear hκ κ)|apply Xd|apply Xe|apply Xf
 |((with_reducible first|refine Xl ?_ ?_|refine Xm ?_ ?_|refine Xk ?_ ?_)<;> intro h hari<;> try exact Xp)
 |refine Xr ?_
 |exact True.intro
 |((with_reducible refine Xg ?_);refine Xj ?_)
 |(apply hκ.out;clear hκ κ))
  refine ⟨_, rfl, 1, 0, [], 1, 0, [], by rw [HRC.out], by exact Xs, by rw [HRC.out]; intro h; simp at h⟩
 ·have hplace := placeL_parse t
  have ht : t.length ≤ 1000 := by omega
  have hRS : RS 0 t (σ.nobj + 1) [] 1 t (((σ.new [nilS, nilS]).new [str [], sc (.int .i64 0), nilS]).put (σ.nobj + 1) [str t, sc (.int .i64 0), nilS]) := by
   refine ⟨?_, Nat.lt_succ_self _, .inl ⟨rfl, rfl⟩, List.suffix_refl _, by simp⟩
   rw [put_same]; simp [rdS, rdr]
  have hR := readItems_R ht hRS
  have hK0 : Keep σ (((σ.new [nilS, nilS]).new [str [], sc (.int .i64 0), nilS]).put (σ.nobj + 1) [str t, sc (.int .i64 0), nilS]) := (((Keep.refl σ).new _).new _).put (by omega) _
  cases hp : pItems 16 t with
  | bad e =>
   rw [hp] at hR hplace
   dsimp only at hplace
   have hrc : refCheck t = (2, ((t.length - e.length : Nat) : Int)) := by
    unfold refCheck; rw [if_neg hL, hplace, if_pos (Int.natCast_nonneg _)]
   have HRC : Abs.Hid _ := hrc
   have HR : Abs.Hid _ := hR
   have HK0 : Abs.Hid _ := hK0
   clear hrc hplace hRS hR hp hK0
   repeat' (first
 |with_reducible first|apply Xa|apply Xb|(refine Xc ?_;intro κ hκ)|(apply hκ.out;clear hκ κ)|apply Xd|apply Xe|apply Xf
 |((with_reducible first|refine Xl ?_ ?_|refine Xm ?_ ?_|refine Xk ?_ ?_)<;> intro h hari<;> try exact Xp)
 |((with_reducible refine Xh ?_);refine Xi (HR.out) ?_;rintro _ _ ⟨n,ids,c,N',id',rfl,hS1,hR1,hP1,hV1⟩;(have kob1:=hS1.keep.obj;have kno1:=hS1.keep.nobj;(try simp only [new_nobj,put_nobj,lay_nobj] at kno1)))
 |refine Xr ?_
 |exact True.intro
 |((with_reducible refine Xg ?_);refine Xj ?_)
 |(apply hκ.out;clear hκ κ))
   rename_i σ1
   have hob1 := hR1.obj
   unfold rdS rdr at hob1
   simp only [Rd.rest] at hob1
   have hob0 : σ1.obj σ.nobj = [nilS, nilS] := by
    rw [kob1 _ (by simp only [put_nobj, new_nobj]; omega) (by omega), put_ne (by omega), new_lt (by rw [new_nobj]; omega), new_same]
   have hKs : Keep σ σ1 := KeepR.keep HK0.out hS1.keep (by omega) (.inl (by omega))
   clear kob1
   refine awp_draw_k follows_mixed (fun p => p = σ.nobj + 1) [5] [0, 1, 2] [3, 4, 5] (by kernel_rfl) (fun _ _ _ h => h) ?_
   intro κ hκ
   have hkp : ∀ i, Kept (fun j => !([5] : List Nat).contains j) (fun p => p = σ.nobj + 1) σ1 i (σ1.put σ.nobj [nilS, nilS]) := fun i _ p hp hF => by
    subst hF; simp [St.put]
   refine Xr ?_
   refine ⟨fun p h => h.elim, fun p h => h.elim, fun p h => by cases h; rfl, ?_⟩
   try (refine And.intro (hkp _) ?_)
   try (refine And.intro (hkp _) ?_)
   repeat' (first
 |with_reducible first|apply Xa|apply Xb|(refine Xc ?_;intro κ hκ)|(apply hκ.out;clear hκ κ)|apply Xd|apply Xe|apply Xf
 |((with_reducible first|refine Xl ?_ ?_|refine Xm ?_ ?_|refine Xk ?_ ?_)<;> intro h hari<;> try exact Xp)
 |refine Xr ?_
 |exact True.intro
 |((with_reducible refine Xg ?_);refine Xj ?_)
 |(apply hκ.out;clear hκ κ))
   refine ⟨_, rfl, 1, 0, [], 1, 0, [], by rw [HRC.out], hKs.put (Nat.le_refl _) _, by rw [HRC.out]; intro h; simp at h⟩
  | got l r =>
   rw [hp] at hR hplace
   dsimp only at hplace
   obtain ⟨p1, p2, p3, p4⟩ := parse_good ht hp
   have hva := pItems_va _ _ _ _ hp
   have hr0 := (pItems_took _ _ _ _ hp).2.1
   subst hr0
   have hrc : refCheck t = wrongM l := by
    unfold refCheck; rw [if_neg hL, hplace, if_neg (by omega), p2]
   have HRC : Abs.Hid _ := hrc
   have HR : Abs.Hid _ := hR
   have HK0 : Abs.Hid _ := hK0
   have HP : Abs.Hid _ := hp
   clear hrc hplace hRS hR hp hK0 p2 p1
   repeat' (first
 |with_reducible first|apply Xa|apply Xb|(refine Xc ?_;intro κ hκ)|(apply hκ.out;clear hκ κ)|apply Xd|apply Xe|apply Xf
 |((with_reducible first|refine Xl ?_ ?_|refine Xm ?_ ?_|refine Xk ?_ ?_)<;> intro h hari<;> try exact Xp)
 |((with_reducible refine Xh ?_);first|(refine Xi (HR.out) ?_;rintro _ _ ⟨n,ids,c,N',id',rfl,hS1,hR1,hP1,hV1⟩;(have kob1:=hS1.keep.obj;have kno1:=hS1.keep.nobj;(try simp only [new_nobj,put_nobj,lay_nobj] at kno1);have hob1:=hR1.obj;unfold rdS rdr at hob1;obtain ⟨rfl,hEL⟩ : n = l.length ∧ EL (PI N') l c:=hV1;have hBk:=W_bk hEL p3 p4 (by have:=hR1.len;omega)))|(refine Xi (fault_spec N' l c id' ids hBk hva _) ?_;rintro _ _ ⟨rfl,hKf⟩;(have kobf:=hKf.obj;have knof:=hKf.nobj;(try simp only [new_nobj,put_nobj,lay_nobj] at knof))))
 |refine Xr ?_
 |exact True.intro
 |((with_reducible refine Xg ?_);refine Xj ?_)
 |(apply hκ.out;clear hκ κ))
   ·rename_i σ1 hok _ σ2
    have hKs : Keep σ σ1 := KeepR.keep HK0.out hS1.keep (by omega) (.inl (by omega))
    have hKz := (((hKs.new [nilS, nilS]).put hKs.nobj _).trans hKf)
    exact ⟨_, rfl, 1, 0, [], 1, 0, [], by rw [HRC.out], hKz.put (Nat.le_refl _) _, by rw [HRC.out]; intro h0; simp [h0] at h⟩
   ·rename_i σ1 hok _ σ2
    have hKs : Keep σ σ1 := KeepR.keep HK0.out hS1.keep (by omega) (.inl (by omega))
    have hKz := (((hKs.new [nilS, nilS]).put hKs.nobj _).trans hKf)
    have hw := wrongM_zero (l := l) (by simpa using h)
    exact ⟨_, rfl, id', N'.length, N'.map str, ids, l.length, c, by rw [HRC.out, hw], hKz.put (Nat.le_refl _) _, fun _ => ⟨by have := hR1.len; simp only [Rd.rest, List.length_nil] at this; omega, N', l, HP.out, hBk, rfl, rfl, rfl, hva, p4⟩⟩
/- The law: Checks. -/
/- From the abstract machine to the row: a script that came in. -/
open Go.RowKit (Below)
def st0 : St := { obj := fun _ => [], nobj := 0, top := fun _ => 0, ntop := 0, ver := fun _ => 0 }
def gh0 (W : World) : Gh := { blk := fun _ => 0, cur := fun _ => 0, cap := fun _ => 0, siz := fun _ => 0, per := fun b _ => b < W.heap.size, base := W.heap.size, w0 := W }
theorem inv0 (W : World) (hy : Abs.Hyp W.heap.size W) : Abs.Inv (gh0 W) st0 W :=
 ⟨fun o h => absurd h (Nat.not_lt_zero _), fun o o' h => absurd h (Nat.not_lt_zero _), fun k h => absurd h (Nat.not_lt_zero _), fun k k' h => absurd h (Nat.not_lt_zero _), fun o k h => absurd h (Nat.not_lt_zero _),
  fun b off h => h, fun b off h => h, Below.refl _ _, Nat.le_refl _, hy⟩
end Go.Proofs.YtmoeoppbmhfbpaaGreatDoorB
/- The contract of the library's Itoa, laid at this program (by the shelf's own tool). -/
namespace Go.Proofs
open Go.Shelf
def Tryz.laysM171_ren : Go.Shelf.Ren := ⟨fun | 171 => 69 | 243 => 119 | 246 => 162 | 283 => 200 | 284 => 201 | 285 => 202 | 286 => 203 | 129 => 238 | 317 => 237 | 318 => 239 | 319 => 240 | 320 => 241 | 337 => 265 | 338 => 266 | n => n, fun | 3 => 3 | 9 => 9 | 2 => 2 | 4 => 4 | 171 => 246 | 0 => 0 | 53 => 247 | 37 => 204 | 5 => 5 | 173 => 250 | 212 => 283 | 51 => 284 | 20 => 20 | 213 => 285 | 46 => 286 | 232 => 303 | 233 => 304 | n => n, fun | 17 => 0 | 18 => 1 | 19 => 2 | n => n⟩
theorem Tryz.laysM171 : Go.Proofs.LaysM.n171 Tryz.prog Tryz.laysM171_ren := {
 mixed := by kernel_rfl
 f129 := Tryz.func238.trans (congrArg some (by kernel_rfl))
 f171 := Tryz.func69.trans (congrArg some (by kernel_rfl))
 f243 := Tryz.func119.trans (congrArg some (by kernel_rfl))
 f246 := Tryz.func162.trans (congrArg some (by kernel_rfl))
 f283 := Tryz.func200.trans (congrArg some (by kernel_rfl))
 f284 := Tryz.func201.trans (congrArg some (by kernel_rfl))
 f285 := Tryz.func202.trans (congrArg some (by kernel_rfl))
 f286 := Tryz.func203.trans (congrArg some (by kernel_rfl))
 f317 := Tryz.func237.trans (congrArg some (by kernel_rfl))
 f318 := Tryz.func239.trans (congrArg some (by kernel_rfl))
 f319 := Tryz.func240.trans (congrArg some (by kernel_rfl))
 f320 := Tryz.func241.trans (congrArg some (by kernel_rfl))
 f337 := Tryz.func265.trans (congrArg some (by kernel_rfl))
 f338 := Tryz.func266.trans (congrArg some (by kernel_rfl))
 t0 := Tryz.underlying0
 a0 := Tryz.isAgg0
 z0 := Tryz.sizeOf0
 v0 := Tryz.zeroValue0
 t2 := Tryz.underlying2
 a2 := Tryz.isAgg2
 z2 := Tryz.sizeOf2
 v2 := Tryz.zeroValue2
 t3 := Tryz.underlying3
 a3 := Tryz.isAgg3
 z3 := Tryz.sizeOf3
 v3 := Tryz.zeroValue3
 t4 := Tryz.underlying4
 a4 := Tryz.isAgg4
 z4 := Tryz.sizeOf4
 v4 := Tryz.zeroValue4
 t5 := Tryz.underlying5
 a5 := Tryz.isAgg5
 z5 := Tryz.sizeOf5
 v5 := Tryz.zeroValue5
 t9 := Tryz.underlying9
 a9 := Tryz.isAgg9
 z9 := Tryz.sizeOf9
 v9 := Tryz.zeroValue9
 t20 := Tryz.underlying20
 a20 := Tryz.isAgg20
 z20 := Tryz.sizeOf20
 v20 := Tryz.zeroValue20
 t37 := Tryz.underlying204
 a37 := Tryz.isAgg204
 z37 := Tryz.sizeOf204
 v37 := Tryz.zeroValue204
 t46 := Tryz.underlying286
 a46 := Tryz.isAgg286
 z46 := Tryz.sizeOf286
 v46 := Tryz.zeroValue286
 t51 := Tryz.underlying284
 a51 := Tryz.isAgg284
 z51 := Tryz.sizeOf284
 v51 := Tryz.zeroValue284
 t53 := Tryz.underlying247
 a53 := Tryz.isAgg247
 z53 := Tryz.sizeOf247
 v53 := Tryz.zeroValue247
 t171 := Tryz.underlying246
 a171 := Tryz.isAgg246
 z171 := Tryz.sizeOf246
 v171 := Tryz.zeroValue246
 t173 := Tryz.underlying250
 a173 := Tryz.isAgg250
 z173 := Tryz.sizeOf250
 v173 := Tryz.zeroValue250
 t212 := Tryz.underlying283
 a212 := Tryz.isAgg283
 z212 := Tryz.sizeOf283
 v212 := Tryz.zeroValue283
 t213 := Tryz.underlying285
 a213 := Tryz.isAgg285
 z213 := Tryz.sizeOf285
 t232 := Tryz.underlying303
 a232 := Tryz.isAgg303
 z232 := Tryz.sizeOf303
 v232 := Tryz.zeroValue303
 t233 := Tryz.underlying304
 a233 := Tryz.isAgg304
 z233 := Tryz.sizeOf304
 v233 := Tryz.zeroValue304
 g17 := by kernel_rfl
 g18 := by kernel_rfl
 g19 := by kernel_rfl
 i0 := by kernel_rfl
 i2 := by kernel_rfl
 i3 := by kernel_rfl
 i4 := by kernel_rfl
 i5 := by kernel_rfl
 i9 := by kernel_rfl
 i20 := by kernel_rfl
 i37 := by kernel_rfl
 i46 := by kernel_rfl
 i51 := by kernel_rfl
 i53 := by kernel_rfl
 i171 := by kernel_rfl
 i173 := by kernel_rfl
 i212 := by kernel_rfl
 i232 := by kernel_rfl
 i233 := by kernel_rfl
 m17 := by kernel_rfl
 m18 := by kernel_rfl
 m19 := by kernel_rfl }
end Go.Proofs
/- The library's Itoa, as the abstract machine takes it. -/
namespace Go.Proofs.YtmoeoppbmhfbpaaGreatDoorB
open Go.Abs Go.Sort
open Go.RowKit (Below)
set_option linter.unusedVariables false
theorem grow_old (w : World) (k : Nat) (os : Array Obj) {b : Nat} (h : b < w.heap.size) : (grow (w.drewN k) os).heap[b]? = w.heap[b]? := by
 show (w.heap ++ os)[b]? = w.heap[b]?
 exact Array.getElem?_append_left h
theorem grow_cell (w : World) (k : Nat) (os : Array Obj) {b o : Nat} (h : b < w.heap.size) : (grow (w.drewN k) os).cell? ⟨b, o, none⟩ = w.cell? ⟨b, o, none⟩ := by
 unfold World.cell?
 rw [grow_old w k os h]
theorem inv_grown {G : Gh} {σ : St} {w : World} (I : Abs.Inv G σ w) (k : Nat) (os : Array Obj) : Abs.Inv G σ (grow (w.drewN k) os) ∧ Ext G σ w G σ (grow (w.drewN k) os) := by
 have E : Ext G σ w G σ (grow (w.drewN k) os) := ⟨rfl, rfl, Nat.le_refl _, fun _ _ => rfl, Nat.le_refl _, fun _ _ => ⟨Nat.le_refl _, rfl, fun _ => ⟨rfl, rfl⟩⟩, fun b off p => ⟨p, grow_cell w k os (I.perlt _ _ p)⟩, fun o h => ⟨Nat.le_refl _, fun _ => grow_old w k os (I.blk_lt h)⟩⟩
 have hsz : w.heap.size ≤ (grow (w.drewN k) os).heap.size := by
  show w.heap.size ≤ (w.heap ++ os).size
  rw [Array.size_append]; omega
 refine ⟨⟨fun p hp => ?_, I.inj, fun k hk => ?_, I.linj, I.apart, fun b off p => Nat.lt_of_lt_of_le (I.perlt _ _ p) hsz, I.perlo, ?_, Nat.le_trans I.le hsz, I.hyp⟩, E⟩
 ·obtain ⟨h1, h2, h3⟩ := I.obj p hp
  refine ⟨h1, Nat.lt_of_lt_of_le h2 hsz, fun hne => ?_⟩
  obtain ⟨⟨arr, e, hb, ha⟩, h4⟩ := h3 hne
  exact ⟨⟨arr, e, by rw [grow_old _ _ _ (I.blk_lt hp)]; exact hb, VR.all E ha⟩, h4⟩
 ·obtain ⟨h1, ⟨arr, e, hb, ha⟩, h3⟩ := I.lin k hk
  exact ⟨h1, ⟨arr, e, by rw [grow_old _ _ _ (I.cur_lt hk)]; exact hb, ha⟩, h3⟩
 ·have hb := I.below
  have hl := I.le
  exact ⟨hb.os, hb.tape, hb.output, Nat.le_trans hb.size hsz, fun j hj => by rw [grow_old _ _ _ (by omega)]; exact hb.block j hj⟩
theorem itoa_spec (n : Int) (h0 : 0 ≤ n) (h1 : n ≤ 9999) (σ : St) : ACalls Tryz.prog 69 [sc (.int .i64 n)] σ fun x σ' => x = str (Lib.itoa n) ∧ σ' = σ := by
 refine ⟨by kernel_rfl, fun G w cargs I A => ?_⟩
 obtain ⟨v, rfl⟩ : ∃ v, cargs = #[v] := by
  have hl := A.1
  match cargs, hl with
  | ⟨[v]⟩, _ => exact ⟨v, rfl⟩
 have hv : v = .int .i64 n := (A.2 0 v _ rfl rfl).unfold
 subst hv
 refine (Any.strconv_Itoa Tryz.laysM171 n (by omega) (by omega) w (I.hyp w I.below)).mono ?_
 rintro e w' ⟨rfl, k, os, rfl⟩
 obtain ⟨I', E⟩ := inv_grown I k os
 exact ⟨_, G, _, σ, rfl, I', E, VR.sc _, rfl, rfl⟩
/- Numbers: a text and its value. -/
def DT (w : Tx) : Prop := variableB w = true ∨ (variableB w = false ∧ Lib.itoa (encT w).2 = w ∧ 0 ≤ (encT w).2 ∧ (encT w).2 ≤ 999)
theorem u8_of {b : UInt8} {m : Nat} (h : b.toNat = m) : UInt8.ofNat m = b := by rw [← h]; exact UInt8.ofNat_toNat
theorem dec_snoc {v d : Nat} (hv : 1 ≤ v) (hd : d ≤ 9) : Lib.decDigits (v * 10 + d) = Lib.decDigits v ++ [UInt8.ofNat (48 + d)] := by
 rw [Lib.decDigits, dif_neg (by omega), show (v * 10 + d) / 10 = v by omega, show (v * 10 + d) % 10 = d by omega]
theorem dt_num {w : Tx} {m : Nat} (hv : variableB w = false) (hw : w ≠ []) (hn : numV w = (m : Int)) (hm : m ≤ 999) (hd : Lib.decDigits m = w) : DT w := by
 cases w with
 | nil => exact absurd rfl hw
 | cons b r =>
  refine .inr ⟨hv, ?_⟩
  rw [encT_num hv]
  dsimp only
  rw [hn]
  exact ⟨by rw [Lib.itoa_nonneg, hd], by omega, by omega⟩
theorem pTerm_dt (s w r : Tx) (h : pTerm s = .got w r) : DT w := by
 cases s with
 | nil => cases h
 | cons b q =>
  unfold pTerm at h; dsimp only at h
  split at h
  ·rename_i hl; cases h; exact .inl hl
  rename_i hl
  have hl : largeB b.toNat = false := by simpa using hl
  split at h
  ·rename_i h0
   cases h
   have h48 : b.toNat = 48 := by
    have : (b.toNat : Int) = 48 := by simpa using h0
    omega
   exact dt_num (m := 0) hl (by simp) (by simp [numV, h48]) (by omega) (by rw [Lib.decDigits_one (by omega), u8_of h48])
  split at h
  ·rename_i h9
   cases h
   have hb : 49 ≤ b.toNat ∧ b.toNat ≤ 57 := by simp [nineB] at h9; omega
   have hds := (pWhile_took digitB 2 q).2
   have hln : (pWhile digitB 2 q).1.length ≤ 2 := by
    cases q with
    | nil => simp [pWhile]
    | cons c q =>
     unfold pWhile
     split
     ·cases q with
      | nil => simp [pWhile]
      | cons d q => unfold pWhile; split <;> simp [pWhile]
     ·simp
   have hdig : ∀ c : UInt8, digitB c.toNat = true → 48 ≤ c.toNat ∧ c.toNat ≤ 57 := fun c hc => by simp [digitB] at hc; omega
   have d1 : Lib.decDigits (b.toNat - 48) = [b] := by rw [Lib.decDigits_one (by omega), u8_of (show b.toNat = 48 + (b.toNat - 48) by omega)]
   generalize (pWhile digitB 2 q).1 = ds at hds hln
   match ds, hds, hln with
   | [], _, _ => exact dt_num (m := b.toNat - 48) hl (by simp) (by simp [numV]; omega) (by omega) d1
   | [c], hds, _ =>
    have hc := hdig c (hds c (by simp))
    have d2 : Lib.decDigits ((b.toNat - 48) * 10 + (c.toNat - 48)) = [b, c] := by rw [dec_snoc (by omega) (by omega), d1, u8_of (show c.toNat = 48 + (c.toNat - 48) by omega)]; rfl
    exact dt_num (m := (b.toNat - 48) * 10 + (c.toNat - 48)) hl (by simp) (by simp [numV]; omega) (by omega) d2
   | [c, d], hds, _ =>
    have hc := hdig c (hds c (by simp))
    have hd := hdig d (hds d (by simp))
    have d2 : Lib.decDigits ((b.toNat - 48) * 10 + (c.toNat - 48)) = [b, c] := by rw [dec_snoc (by omega) (by omega), d1, u8_of (show c.toNat = 48 + (c.toNat - 48) by omega)]; rfl
    have d3 : Lib.decDigits (((b.toNat - 48) * 10 + (c.toNat - 48)) * 10 + (d.toNat - 48)) = [b, c, d] := by rw [dec_snoc (by omega) (by omega), d2, u8_of (show d.toNat = 48 + (d.toNat - 48) by omega)]; rfl
    exact dt_num (m := ((b.toNat - 48) * 10 + (c.toNat - 48)) * 10 + (d.toNat - 48)) hl (by simp) (by simp [numV]; omega) (by omega) d3
  ·cases h
/- The document's own answer: Print. -/
/-! ### Written -/
/- The document's own answer: Print, whole. -/
/- The document's Print of a text. -/
end Go.Proofs.YtmoeoppbmhfbpaaGreatDoorB
