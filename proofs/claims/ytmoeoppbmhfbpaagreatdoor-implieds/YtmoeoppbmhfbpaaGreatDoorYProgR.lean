import Derived.Test.YtmoeoppbmhfbpaaGreatDoorYProgP
import Derived.Test.YtmoeoppbmhfbpaaGreatDoorYProgM
import Derived.ProofKit
import Derived.OpenShut
import Derived.Below
import Derived.Carry
import Derived.Deep.Slices
/- The program's faults are the document's. -/
namespace Go.Proofs.YtmoeoppbmhfbpaaGreatDoorY
open Go.Abs
set_option linter.unusedSimpArgs false
set_option linter.unusedVariables false
set_option maxRecDepth 100000
/-! ### Terms that were read -/
def VT (w : Tx) : Prop := (∃ b, w = [b] ∧ largeB b.toNat = true) ∨ (w ≠ [] ∧ ∀ b ∈ w, digitB b.toNat = true)
def VA (a : RAtom) : Prop := ∀ w ∈ a.terms, VT w
theorem pTerm_vt {s r w : Tx} (h : pTerm s = .got w r) : VT w := by
 cases s with
 | nil => cases h
 | cons b q =>
  unfold pTerm at h; dsimp only at h
  split at h
  ·rename_i hl; cases h; exact .inl ⟨b, rfl, hl⟩
  split at h
  ·rename_i h0; cases h; refine .inr ⟨by simp, fun c hc => ?_⟩
   simp at hc; subst hc; rw [digit_iff]; exact .inr h0
  split at h
  ·rename_i h9; cases h; refine .inr ⟨by simp, fun c hc => ?_⟩
   rcases List.mem_cons.1 hc with rfl | hc
   ·rw [digit_iff]; exact .inl h9
   ·exact (pWhile_took digitB 2 q).2 c hc
  ·cases h
theorem pMore_all {α : Type} {f : Tx → Rd α} {P : α → Prop} (hf : ∀ s x r, f s = .got x r → P x) : ∀ (n : Nat) (s : Tx) (xs : List α) (r : Tx), pMore f n s = .got xs r → ∀ x ∈ xs, P x
 | 0, s, xs, r, h => by unfold pMore at h; cases h; simp
 | n + 1, [], xs, r, h => by unfold pMore at h; cases h; simp
 | n + 1, b :: q, xs, r, h => by
  unfold pMore at h
  split at h
  ·obtain ⟨x, q1, h1, h2⟩ := bnd_got h
   obtain ⟨ys, q2, h3, h4⟩ := bnd_got h2
   cases h4
   intro y hy
   rcases List.mem_cons.1 hy with rfl | hy
   ·exact hf _ _ _ h1
   ·exact pMore_all hf n _ _ _ h3 y hy
  ·cases h; simp
theorem pAtom_all {T : Tx → Prop} (hT : ∀ s w r, pTerm s = .got w r → T w) {nt : Bool} {s r : Tx} {a : RAtom} (h : pAtom nt s = .got a r) : ∀ w ∈ a.terms, T w := by
 unfold pAtom pArgs at h
 obtain ⟨p, q1, -, h⟩ := bnd_got h
 obtain ⟨u, q2, -, h⟩ := bnd_got h
 obtain ⟨w, q3, h1, h⟩ := bnd_got h
 obtain ⟨ws, q4, h2, h⟩ := bnd_got h
 obtain ⟨u2, q5, -, h⟩ := bnd_got h
 cases h
 intro y hy
 rcases List.mem_cons.1 hy with rfl | hy
 ·exact hT _ _ _ h1
 ·exact pMore_all hT _ _ _ _ h2 y hy
theorem pLit_all {T : Tx → Prop} (hT : ∀ s w r, pTerm s = .got w r → T w) {s r : Tx} {a : RAtom} (h : pLit s = .got a r) : ∀ w ∈ a.terms, T w := by rw [pLit_eq] at h; exact pAtom_all hT h
theorem pItem_all {T : Tx → Prop} (hT : ∀ s w r, pTerm s = .got w r → T w) {s r : Tx} {x : RItem} (h : pItem s = .got x r) : ∀ a ∈ atomsL x, ∀ w ∈ a.terms, T w := by
 rw [pItem_eq] at h
 split at h
 ·unfold pOut at h
  obtain ⟨p, q1, -, h⟩ := bnd_got h
  obtain ⟨u, q2, -, h⟩ := bnd_got h
  cases h
  simp [atomsL]
 ·unfold pRule at h
  obtain ⟨a, q1, h1, h⟩ := bnd_got h
  rw [pTail_eq] at h
  split at h
  ·cases h
   intro y hy
   simp [atomsL] at hy
   subst hy; exact pAtom_all hT h1
  ·obtain ⟨u, q2, -, h⟩ := bnd_got h
   obtain ⟨ls, q3, h3, h⟩ := bnd_got h
   obtain ⟨u2, q4, -, h⟩ := bnd_got h
   cases h
   intro y hy
   simp [atomsL] at hy
   rcases hy with rfl | hy
   ·exact pAtom_all hT h1
   ·unfold pLits pSep at h3
    obtain ⟨l, q5, h5, h3⟩ := bnd_got h3
    obtain ⟨ls2, q6, h6, h3⟩ := bnd_got h3
    cases h3
    rcases List.mem_cons.1 hy with rfl | hy
    ·exact pLit_all hT h5
    ·exact pMore_all (fun _ _ _ h => pLit_all hT h) _ _ _ _ h6 y hy
theorem pItems_all {T : Tx → Prop} (hT : ∀ s w r, pTerm s = .got w r → T w) : ∀ (n : Nat) (s : Tx) (l : List RItem) (r : Tx), pItems n s = .got l r → ∀ x ∈ l, ∀ a ∈ atomsL x, ∀ w ∈ a.terms, T w
 | n, [], l, r, h => by rw [pItems_nil] at h; cases h; simp
 | 0, b :: q, l, r, h => by rw [pItems_zero] at h; cases h
 | n + 1, b :: q, l, r, h => by
  rw [pItems_succ] at h
  obtain ⟨x, q1, h1, h⟩ := bnd_got h
  obtain ⟨xs, q2, h2, h⟩ := bnd_got h
  cases h
  intro y hy
  rcases List.mem_cons.1 hy with rfl | hy
  ·exact pItem_all hT h1
  ·exact pItems_all hT n _ _ _ h2 y hy
theorem pItems_va (n : Nat) (s : Tx) (l : List RItem) (r : Tx) (h : pItems n s = .got l r) : ∀ x ∈ l, ∀ a ∈ atomsL x, VA a := pItems_all (T := VT) (fun _ _ _ h => pTerm_vt h) n s l r h
/-! ### Safe -/
theorem enc_var {w : Tx} (h : VT w) : (encT w).1 = variableB w := by
 rcases h with ⟨b, rfl, hl⟩ | ⟨hn, hd⟩
 ·rw [encT_large hl]; simp [variableB, hl]
 ·cases w with
  | nil => exact absurd rfl hn
  | cons b r =>
   have hb := hd b (by simp)
   have hl : largeB b.toNat = false := by
    cases hl : largeB b.toNat with
    | false => rfl
    | true => simp [digitB] at hb; simp [largeB] at hl; omega
   rw [encT_num hl]; simp [variableB, hl]
theorem hit_eq {u t : Tx} (hu : VT u) (ht : VT t) (hv : variableB t = true) : hitT (encT t).2 u = (u == t) := by
 obtain ⟨b, rfl, hl⟩ : ∃ b, t = [b] ∧ largeB b.toNat = true := by
  rcases ht with h | ⟨hn, hd⟩
  ·exact h
  ·exfalso
   cases t with
   | nil => exact hn rfl
   | cons b r =>
    have hb := hd b (by simp)
    simp [variableB] at hv
    simp [digitB] at hb; simp [largeB] at hv; omega
 rw [encT_large hl]
 unfold hitT
 rcases hu with ⟨c, rfl, hc⟩ | ⟨hn, hd⟩
 ·rw [encT_large hc]
  simp only [Bool.true_and]
  by_cases e : c = b
  ·subst e; simp
  ·have : (c.toNat : Int) ≠ b.toNat := fun h => e (UInt8.toNat_inj.1 (by omega))
   have h1 : ((c.toNat : Int) - 65 == (b.toNat : Int) - 65) = false := by simp; omega
   have h2 : (([c] : Tx) == [b]) = false := by simpa using e
   rw [h1, h2]
 ·have h1 : (encT u).1 = false := by
   rw [enc_var (.inr ⟨hn, hd⟩)]
   cases u with
   | nil => rfl
   | cons c r =>
    have hb := hd c (by simp)
    cases hv : variableB (c :: r) with
    | false => rfl
    | true => simp [variableB, largeB] at hv; simp [digitB] at hb; omega
  have h2 : (u == [b]) = false := by
   simp
   rintro rfl
   have := hd b (by simp)
   simp [digitB] at this; simp [largeB] at hl; omega
  rw [h1, h2]; rfl
theorem any_congr' {α : Type} {l : List α} {p q : α → Bool} (h : ∀ a ∈ l, p a = q a) : l.any p = l.any q := by
 induction l with
 | nil => rfl
 | cons a l ih => simp only [List.any_cons]; rw [h a (by simp), ih (fun b hb => h b (by simp [hb]))]
theorem binds_eq {x : RItem} (hV : ∀ a ∈ atomsL x, VA a) {t : Tx} (ht : VT t) (hv : variableB t = true) : bindsB x (encT t).2 = boundB x t := by
 unfold bindsB boundB
 apply any_congr'
 intro a ha
 have hA : VA a := hV a (by unfold atomsL; simp [ha])
 cases hn : a.nt with
 | true => simp
 | false =>
  simp only [Bool.not_false, Bool.true_and]
  exact any_congr' fun u hu => hit_eq (hA u hu) ht hv
theorem safe_eq {x : RItem} (hV : ∀ a ∈ atomsL x, VA a) : psafeB x = safeB x := by
 unfold psafeB safeB
 congr 1
 apply any_congr'
 intro a ha
 unfold badA badT
 apply any_congr'
 intro w hw
 have hA := hV a ha w hw
 rw [enc_var hA]
 cases hv : variableB w with
 | false => rfl
 | true => rw [binds_eq hV hA hv]
theorem firstN_congr {p q : Nat → Bool} {n : Nat} (h : ∀ i, i < n → p i = q i) : firstN p n = firstN q n := by
 have e : (List.range n).find? p = (List.range n).find? q := by
  have hm : ∀ i ∈ List.range n, p i = q i := fun i hi => h i (by simpa using hi)
  generalize List.range n = l at hm
  induction l with
  | nil => rfl
  | cons a l ih => simp only [List.find?_cons]; rw [hm a (by simp), ih (fun b hb => hm b (by simp [hb]))]
 unfold firstN; rw [e]
/-! ### Uses -/
theorem way_names {N : List Tx} {l : List RItem} (hN : ∀ x ∈ l, x.head.pred ∈ N ∧ ∀ a ∈ x.body, a.pred ∈ N) {i j : Nat} (h : Way (onceP N l) i j) : ∃ p q, p ∈ N ∧ q ∈ N ∧ N.idxOf p = i ∧ N.idxOf q = j ∧ Way (atOnce l) p q := by
 induction h with
 | one e =>
  obtain ⟨x, hx, h1, a, ha, h2⟩ := e
  exact ⟨x.head.pred, a.pred, (hN x hx).1, (hN x hx).2 a ha, h1, h2, .one ⟨x, hx, rfl, a, ha, rfl⟩⟩
 | more e _ ih =>
  obtain ⟨x, hx, h1, a, ha, h2⟩ := e
  obtain ⟨p, q, hp, hq, e1, e2, w⟩ := ih
  have : a.pred = p := idx_inj ((hN x hx).2 a ha) hp (by omega)
  subst this
  exact ⟨x.head.pred, q, (hN x hx).1, hq, h1, e2, .more ⟨x, hx, rfl, a, ha, rfl⟩ w⟩
theorem way_places {N : List Tx} {l : List RItem} {p q : Tx} (h : Way (atOnce l) p q) : Way (onceP N l) (N.idxOf p) (N.idxOf q) := by
 induction h with
 | one e =>
  obtain ⟨x, hx, rfl, a, ha, rfl⟩ := e
  exact .one ⟨x, hx, rfl, a, ha, rfl⟩
 | more e _ ih =>
  obtain ⟨x, hx, rfl, a, ha, rfl⟩ := e
  exact .more ⟨x, hx, rfl, a, ha, rfl⟩ ih
theorem Way.map' {α : Type} {E F : α → α → Prop} (h : ∀ a b, E a b → F a b) {a b : α} (w : Way E a b) : Way F a b := by
 induction w with
 | one e => exact .one (h _ _ e)
 | more e _ ih => exact .more (h _ _ e) ih
theorem uses_eq {N : List Tx} {l : List RItem} {M : Nat → Nat → Bool} (hN : ∀ x ∈ l, x.head.pred ∈ N ∧ ∀ a ∈ x.body, a.pred ∈ N) (ho : ∀ x ∈ l, x.out = true → x.body = []) (hM : isOnce N l M) {p q : Tx} (hp : p ∈ N) (hq : q ∈ N) (hy : ∃ y ∈ l, y.out = false ∧ y.head.pred = q) :
  fwR N.length M N.length (N.idxOf p) (N.idxOf q) = usesB l p q := by
 have hS : Supp N.length M := by
  intro a b hab
  obtain ⟨x, hx, rfl, c, hc, rfl⟩ := (hM a b).1 hab
  exact ⟨List.idxOf_lt_length_of_mem (hN x hx).1, List.idxOf_lt_length_of_mem ((hN x hx).2 c hc)⟩
 rw [Bool.eq_iff_iff, fwR_iff hS, usesB_iff ho hy]
 constructor
 ·intro w
  obtain ⟨p', q', hp', hq', e1, e2, w'⟩ := way_names hN (w.map' fun a b h => (hM a b).1 h)
  rw [← idx_inj hp' hp e1, ← idx_inj hq' hq e2]; exact w'
 ·intro w
  exact (way_places w).map' fun a b h => (hM a b).2 h
theorem EL_PL_mem {N : List Tx} : ∀ {l : List RAtom} {cs : List AV}, EL (PL N) l cs → ∀ a ∈ l, a.pred ∈ N
 | [], cs, h, a, ha => by cases ha
 | b :: l, cs, ⟨c, d, hc, hd, e⟩, a, ha => by
  rcases List.mem_cons.1 ha with rfl | ha
  ·exact hc.1
  ·exact EL_PL_mem hd a ha
theorem EL_PI_mem {N : List Tx} : ∀ {l : List RItem} {cs : List AV}, EL (PI N) l cs → ∀ x ∈ l, x.head.pred ∈ N ∧ ∀ a ∈ x.body, a.pred ∈ N
 | [], cs, h, a, ha => by cases ha
 | b :: l, cs, ⟨c, d, hc, hd, e⟩, a, ha => by
  rcases List.mem_cons.1 ha with rfl | ha
  ·obtain ⟨hm, ih, id, bb, hb, -⟩ := hc
   exact ⟨hm, EL_PL_mem hb⟩
  ·exact EL_PI_mem hd a ha
theorem knot_eq {N : List Tx} {l : List RItem} {cs : List AV} {M : Nat → Nat → Bool} (hB : Bk N l cs) (hM : isOnce N l M) : firstN (pknot N l (fwR N.length M N.length)) l.length = firstN (knotP l) l.length := by
 have hN := EL_PI_mem hB.el
 apply firstN_congr
 intro i hi
 unfold pknot knotP
 rw [List.getElem?_eq_getElem hi]
 dsimp only
 have hx := List.getElem_mem hi
 generalize l[i] = x at hx
 apply any_congr'
 intro a ha
 unfold pbad badK
 have ho : x.out = false := by
  cases h : x.out with
  | false => rfl
  | true => rw [hB.out x hx h] at ha; cases ha
 rw [uses_eq hN hB.out hM ((hN x hx).2 a ha) (hN x hx).1 ⟨x, hx, ho, rfl⟩]
 congr 2
 rw [Bool.eq_iff_iff]
 simp only [beq_iff_eq]
 constructor
 ·intro e; exact idx_inj ((hN x hx).2 a ha) (hN x hx).1 (by omega)
 ·intro e; rw [e]
theorem unsafe_eq {l : List RItem} (hV : ∀ x ∈ l, ∀ a ∈ atomsL x, VA a) : firstN (punsafe l) l.length = firstN (unsafeP l) l.length := by
 apply firstN_congr
 intro i hi
 unfold punsafe unsafeP
 rw [List.getElem?_eq_getElem hi]
 dsimp only
 rw [safe_eq (hV _ (List.getElem_mem hi))]
set_option maxHeartbeats 16000000 in
theorem fault_spec (N : List Tx) (l : List RItem) (cs : List AV) (idn idi : Nat) (hB : Bk N l cs) (hV : ∀ x ∈ l, ∀ a ∈ atomsL x, VA a) (σ : St) : ACalls Tryz.prog 71 [bookA N idn l idi cs] σ fun r σ' => r = two (wrongM l) ∧ Keep σ σ' := by
 have g1 := @firstN_ge (oddP l) l.length
 have g2 := @firstN_ge (unsafeP l) l.length
 have g3 := @firstN_ge (knotP l) l.length
 have hU := unsafe_eq hV
 have hS2 := firstUnsafe_spec N l cs idn idi hB
 rw [hU] at hS2
 have hS3 : ∀ σ, ACalls Tryz.prog 123 [bookA N idn l idi cs] σ fun r σ' => r = sc (.int .i64 (firstN (knotP l) l.length)) ∧ Keep σ σ' := fun σ => by
  refine ACalls.mono (firstNot_spec N l cs idn idi hB σ) ?_
  rintro _ _ ⟨M, hM, rfl, hK⟩
  exact ⟨by rw [knot_eq hB hM], hK⟩
 clear hU
 refine acalls 20 [.tmp 2, .tmp 3] Tryz.func71 rfl (by decide) rfl rfl (Nat.le_of_ble_eq_true rfl) ?_
 repeat' (first
 |with_reducible first|apply Xa|apply Xb|(refine Xc ?_;intro κ hκ)|(apply hκ.out;clear hκ κ)|apply Xd|apply Xe|apply Xf
 |((with_reducible first|refine Xl ?_ ?_|refine Xk ?_ ?_)<;> intro h hari<;> try exact Xp)
 |((with_reducible refine Xh ?_);first|(refine Xi (firstOther_spec N l cs idn idi hB _) ?_;rintro _ _ ⟨rfl,hK1⟩;(have kob1:=hK1.obj;have kno1:=hK1.nobj;(try simp only [new_nobj,put_nobj,lay_nobj] at kno1)))|(refine Xi (hS2 _) ?_;rintro _ _ ⟨rfl,hK2⟩;(have kob2:=hK2.obj;have kno2:=hK2.nobj))|(refine Xi (hS3 _) ?_;rintro _ _ ⟨rfl,hK3⟩))
 |refine Xr ?_
 |exact True.intro
 |(apply hκ.out;clear hκ κ))
 ·have e1 : firstN (oddP l) l.length ≠ -1 := by simpa using h
  exact ⟨_, rfl, by unfold wrongM; rw [if_pos (by omega)], by exact Xs⟩
 ·have e1 : firstN (oddP l) l.length = -1 := by simpa using (show (firstN (oddP l) l.length != -1) = false by assumption)
  have e2 : firstN (unsafeP l) l.length ≠ -1 := by simpa using h
  exact ⟨_, rfl, by unfold wrongM; rw [if_neg (by omega), if_pos (by omega)], by exact Xs⟩
 ·have e1 : firstN (oddP l) l.length = -1 := by simpa using (show (firstN (oddP l) l.length != -1) = false by assumption)
  have e2 : firstN (unsafeP l) l.length = -1 := by simpa using (show (firstN (unsafeP l) l.length != -1) = false by assumption)
  have e3 : firstN (knotP l) l.length ≠ -1 := by simpa using h
  exact ⟨_, rfl, by unfold wrongM; rw [if_neg (by omega), if_neg (by omega), if_pos (by omega)], by exact Xs⟩
 ·have e1 : firstN (oddP l) l.length = -1 := by simpa using (show (firstN (oddP l) l.length != -1) = false by assumption)
  have e2 : firstN (unsafeP l) l.length = -1 := by simpa using (show (firstN (unsafeP l) l.length != -1) = false by assumption)
  have e3 : firstN (knotP l) l.length = -1 := by simpa using h
  exact ⟨_, rfl, by unfold wrongM; rw [if_neg (by omega), if_neg (by omega), if_neg (by omega)], by exact Xs⟩
/- The program: load and Check. -/
theorem W_bk {N : List Tx} {l : List RItem} {cs : List AV} (hE : EL (PI N) l cs) (hl : l.length ≤ 16) (hW : ∀ x ∈ l, WItem x) (hN : N.length ≤ 2000) : Bk N l cs := by
 refine ⟨hE, hl, fun x hx => ?_, fun x hx ho => ((hW x hx).2.1 ho).2.2, hN, fun x hx a ha => ?_⟩
 ·obtain ⟨-, h2, h3⟩ := hW x hx
  cases ho : x.out with
  | true =>
   obtain ⟨-, q1, q2⟩ := h2 ho
   exact ⟨by simp [q2], by simp [q1], by simp [q2]⟩
  | false =>
   obtain ⟨q1, -, q2, q3⟩ := h3 ho
   have := q1.2.2.1
   exact ⟨by omega, by omega, fun a ha => by have := (q3 a ha).2.2.1; omega⟩
 ·obtain ⟨-, h2, h3⟩ := hW x hx
  unfold atomsL at ha
  cases ho : x.out with
  | true =>
   obtain ⟨-, q1, q2⟩ := h2 ho
   simp [ho, q2] at ha
  | false =>
   obtain ⟨q1, -, q2, q3⟩ := h3 ho
   simp [ho] at ha
   have hp : WAtom a → 0 < a.terms.length := fun w => by
    have := w.2.1
    cases hh : a.terms with
    | nil => exact absurd hh this
    | cons y ys => simp
   rcases ha with rfl | ha
   ·exact hp q1
   ·exact hp (q3 a ha)
theorem wrongM_zero {l : List RItem} (h : (wrongM l).1 = 0) : wrongM l = (0, 0) := by
 unfold wrongM at h ⊢
 split
 ·rename_i h1; rw [if_pos h1] at h; cases h
 ·rename_i h1
  rw [if_neg h1] at h
  split
  ·rename_i h2; rw [if_pos h2] at h; cases h
  ·rename_i h2
   rw [if_neg h2] at h
   split
   ·rename_i h3; rw [if_pos h3] at h; cases h
   ·rfl
def isBook (t : Tx) (n1 : Nat) (c1 : List AV) (n2 : Nat) (c2 : List AV) : Prop :=
 ∃ N l, pItems 16 t = .got l [] ∧ Bk N l c2 ∧ n1 = N.length ∧ c1 = N.map str ∧ n2 = l.length ∧ (∀ x ∈ l, ∀ a ∈ atomsL x, VA a) ∧ ∀ x ∈ l, WItem x
set_option maxHeartbeats 16000000 in
theorem load_spec (t : Tx) (σ : St) : ACalls Tryz.prog 44 [str t] σ fun r σ' => ∃ idn n1 c1 idi n2 c2, r = tp [ag [sl idn n1 c1, sl idi n2 c2], sc (.int .i64 (refCheck t).1), sc (.int .i64 (refCheck t).2)] ∧ Keep σ σ' ∧ ((refCheck t).1 = 0 → isBook t n1 c1 n2 c2) := by
 refine acalls 41 [.cell 2 66, .tmp 3, .tmp 4] Tryz.func44 rfl (by decide) rfl rfl (Nat.le_of_ble_eq_true rfl) ?_
 by_cases hL : 600 < t.length
 ·have hrc : refCheck t = (1, 0) := by unfold refCheck; rw [if_pos hL]
  have HRC : Abs.Hid _ := hrc
  clear hrc
  repeat' (first
 |with_reducible first|apply Xa|apply Xb|(refine Xc ?_;intro κ hκ)|(apply hκ.out;clear hκ κ)|apply Xd|apply Xe|apply Xf
 |((with_reducible first|refine Xl ?_ ?_|refine Xm ?_ ?_|refine Xk ?_ ?_)<;> intro h hari<;> try exact Xp)
 |refine Xr ?_
 |exact True.intro
 |((with_reducible refine Xg ?_);refine Xj ?_)
 |(apply hκ.out;clear hκ κ))
  refine ⟨_, rfl, 1, 0, [], 1, 0, [], by rw [HRC.out], by exact Xs, by rw [HRC.out]; intro h; simp at h⟩
 ·have hplace := placeL_parse t
  have ht : t.length ≤ 1000 := by omega
  have hRS : RS t (σ.nobj + 1) [] 1 t (((σ.new [nilS, nilS]).new [str [], sc (.int .i64 0), nilS]).put (σ.nobj + 1) [str t, sc (.int .i64 0), nilS]) := by
   refine ⟨?_, Nat.lt_succ_self _, .inl ⟨rfl, rfl⟩, List.suffix_refl _, by simp⟩
   rw [put_same]; simp [rdS, rdr]
  have hR := readItems_R ht hRS
  have hK0 : Keep σ (((σ.new [nilS, nilS]).new [str [], sc (.int .i64 0), nilS]).put (σ.nobj + 1) [str t, sc (.int .i64 0), nilS]) := (((Keep.refl σ).new _).new _).put (by omega) _
  cases hp : pItems 16 t with
  | bad e =>
   rw [hp] at hR hplace
   dsimp only at hplace
   have hrc : refCheck t = (2, ((t.length - e.length : Nat) : Int)) := by
    unfold refCheck; rw [if_neg hL, hplace, if_pos (Int.natCast_nonneg _)]
   have HRC : Abs.Hid _ := hrc
   have HR : Abs.Hid _ := hR
   have HK0 : Abs.Hid _ := hK0
   clear hrc hplace hRS hR hp hK0
   repeat' (first
 |with_reducible first|apply Xa|apply Xb|(refine Xc ?_;intro κ hκ)|(apply hκ.out;clear hκ κ)|apply Xd|apply Xe|apply Xf
 |((with_reducible first|refine Xl ?_ ?_|refine Xm ?_ ?_|refine Xk ?_ ?_)<;> intro h hari<;> try exact Xp)
 |((with_reducible refine Xh ?_);refine Xi (HR.out) ?_;rintro _ _ ⟨n,ids,c,N',id',rfl,hS1,hR1,hP1,hV1⟩;(have kob1:=hS1.keep.obj;have kno1:=hS1.keep.nobj;(try simp only [new_nobj,put_nobj,lay_nobj] at kno1)))
 |refine Xr ?_
 |exact True.intro
 |((with_reducible refine Xg ?_);refine Xj ?_)
 |(apply hκ.out;clear hκ κ))
   rename_i σ1
   have hob1 := hR1.obj
   unfold rdS rdr at hob1
   simp only [Rd.rest] at hob1
   have hob0 : σ1.obj σ.nobj = [nilS, nilS] := by
    rw [kob1 _ (by simp only [put_nobj, new_nobj]; omega) (by omega), put_ne (by omega), new_lt (by rw [new_nobj]; omega), new_same]
   have hKs : Keep σ σ1 := KeepR.keep HK0.out hS1.keep (by omega) (.inl (by omega))
   clear kob1
   refine awp_draw_k follows_mixed (fun p => p = σ.nobj + 1) [5] [0, 1, 2] [3, 4, 5] (by kernel_rfl) (fun _ _ _ h => h) ?_
   intro κ hκ
   have hkp : ∀ i, Kept (fun j => !([5] : List Nat).contains j) (fun p => p = σ.nobj + 1) σ1 i (σ1.put σ.nobj [nilS, nilS]) := fun i _ p hp hF => by
    subst hF; simp [St.put]
   refine Xr ?_
   refine ⟨fun p h => h.elim, fun p h => h.elim, fun p h => by cases h; rfl, ?_⟩
   try (refine And.intro (hkp _) ?_)
   try (refine And.intro (hkp _) ?_)
   repeat' (first
 |with_reducible first|apply Xa|apply Xb|(refine Xc ?_;intro κ hκ)|(apply hκ.out;clear hκ κ)|apply Xd|apply Xe|apply Xf
 |((with_reducible first|refine Xl ?_ ?_|refine Xm ?_ ?_|refine Xk ?_ ?_)<;> intro h hari<;> try exact Xp)
 |refine Xr ?_
 |exact True.intro
 |((with_reducible refine Xg ?_);refine Xj ?_)
 |(apply hκ.out;clear hκ κ))
   refine ⟨_, rfl, 1, 0, [], 1, 0, [], by rw [HRC.out], hKs.put (Nat.le_refl _) _, by rw [HRC.out]; intro h; simp at h⟩
  | got l r =>
   rw [hp] at hR hplace
   dsimp only at hplace
   obtain ⟨p1, p2, p3, p4⟩ := parse_good ht hp
   have hva := pItems_va _ _ _ _ hp
   have hr0 := (pItems_took _ _ _ _ hp).2.1
   subst hr0
   have hrc : refCheck t = wrongM l := by
    unfold refCheck; rw [if_neg hL, hplace, if_neg (by omega), p2]
   have HRC : Abs.Hid _ := hrc
   have HR : Abs.Hid _ := hR
   have HK0 : Abs.Hid _ := hK0
   have HP : Abs.Hid _ := hp
   clear hrc hplace hRS hR hp hK0 p2 p1
   repeat' (first
 |with_reducible first|apply Xa|apply Xb|(refine Xc ?_;intro κ hκ)|(apply hκ.out;clear hκ κ)|apply Xd|apply Xe|apply Xf
 |((with_reducible first|refine Xl ?_ ?_|refine Xm ?_ ?_|refine Xk ?_ ?_)<;> intro h hari<;> try exact Xp)
 |((with_reducible refine Xh ?_);first|(refine Xi (HR.out) ?_;rintro _ _ ⟨n,ids,c,N',id',rfl,hS1,hR1,hP1,hV1⟩;(have kob1:=hS1.keep.obj;have kno1:=hS1.keep.nobj;(try simp only [new_nobj,put_nobj,lay_nobj] at kno1);have hob1:=hR1.obj;unfold rdS rdr at hob1;obtain ⟨rfl,hEL⟩ : n = l.length ∧ EL (PI N') l c:=hV1;have hBk:=W_bk hEL p3 p4 (by have:=hR1.len;omega)))|(refine Xi (fault_spec N' l c id' ids hBk hva _) ?_;rintro _ _ ⟨rfl,hKf⟩;(have kobf:=hKf.obj;have knof:=hKf.nobj;(try simp only [new_nobj,put_nobj,lay_nobj] at knof))))
 |refine Xr ?_
 |exact True.intro
 |((with_reducible refine Xg ?_);refine Xj ?_)
 |(apply hκ.out;clear hκ κ))
   ·rename_i σ1 hok _ σ2
    have hKs : Keep σ σ1 := KeepR.keep HK0.out hS1.keep (by omega) (.inl (by omega))
    have hKz := (((hKs.new [nilS, nilS]).put hKs.nobj _).trans hKf)
    exact ⟨_, rfl, 1, 0, [], 1, 0, [], by rw [HRC.out], hKz.put (Nat.le_refl _) _, by rw [HRC.out]; intro h0; simp [h0] at h⟩
   ·rename_i σ1 hok _ σ2
    have hKs : Keep σ σ1 := KeepR.keep HK0.out hS1.keep (by omega) (.inl (by omega))
    have hKz := (((hKs.new [nilS, nilS]).put hKs.nobj _).trans hKf)
    have hw := wrongM_zero (l := l) (by simpa using h)
    exact ⟨_, rfl, id', N'.length, N'.map str, ids, l.length, c, by rw [HRC.out, hw], hKz.put (Nat.le_refl _) _, fun _ => ⟨N', l, HP.out, hBk, rfl, rfl, rfl, hva, p4⟩⟩
/- The law: Checks. -/
structure OpD where
 kind : Int
 n : Int
 m : Int
 s : Tx
 e : Tx
 f : Tx
def EO (o : OpD) (c : List AV) : Prop := c = [sc (.int .i64 o.kind), sc (.int .i64 o.n), sc (.int .i64 o.m), str o.s, str o.e, str o.f]
theorem EO_len (o : OpD) (c : List AV) (h : EO o c) : c.length = 6 := by rw [h]; rfl
theorem EL_op {l : List OpD} {cs : List AV} {i : Nat} {o : OpD} (h : EL EO l cs) (hi : l[i]? = some o) : ∃ r, cs.drop (i * 6) = sc (.int .i64 o.kind) :: sc (.int .i64 o.n) :: sc (.int .i64 o.m) :: str o.s :: str o.e :: str o.f :: r := by
 obtain ⟨c, r, rfl, e⟩ := EL.get EO_len h hi
 exact ⟨r, e⟩
theorem rcheck_spec (s : Tx) (σ : St) : ACalls Tryz.prog 82 [str s] σ fun r σ' => r = two (refCheck s) ∧ Keep σ σ' := by
 have hp := placeL_parse s
 refine refCheck_spec s (fun hl h0 => ?_) ?_ σ
 ·cases h : pItems 16 s with
  | bad e => rw [h] at hp; exact absurd (by rw [hp]; exact Int.natCast_nonneg _) h0
  | got l r => exact (parse_good (by omega) h).1
 ·rw [hp]
  cases h : pItems 16 s with
  | bad e => exact ⟨Int.le_trans (by decide) (Int.natCast_nonneg (s.length - e.length)), Int.ofNat_le.2 (Nat.sub_le _ _)⟩
  | got l r => exact ⟨show (-1 : Int) ≤ -1 by decide, show (-1 : Int) ≤ (s.length : Int) by omega⟩
theorem num_spec (c : Int) (σ : St) : ACalls Tryz.prog 54 [sc (.int .i64 c)] σ fun x σ' => x = sc (.int .i64 c) ∧ σ' = σ := by
 refine acalls 4 [.tmp 2] Tryz.func54 rfl (by decide) rfl rfl (Nat.le_of_ble_eq_true rfl) ?_
 repeat' (first
 |with_reducible first|apply Xa|apply Xb|(refine Xc ?_;intro κ hκ)|(apply hκ.out;clear hκ κ)|apply Xd|apply Xe|apply Xf
 |((with_reducible first|refine Xl ?_ ?_|refine Xk ?_ ?_)<;> intro h hari<;> try exact Xp)
 |refine Xr ?_
 |exact True.intro
 |(apply hκ.out;clear hκ κ))
 first | exact ⟨_, rfl, rfl, rfl⟩ | exact ⟨_, rfl, rfl⟩ | exact ⟨_, rfl⟩
def Plays (lo hi : Int) (l : List OpD) : Prop := ∀ o ∈ l, lo ≤ o.kind → o.kind ≤ hi → ∀ c, EO o c → ∀ σ, ACalls Tryz.prog 27 [ag c] σ fun r σ' => r = sc (.bool true) ∧ Keep σ σ'
set_option maxHeartbeats 16000000 in
theorem upto_spec (l : List OpD) (cs : List AV) (ids : Nat) (lo hi : Int) (hE : EL EO l cs) (hl : l.length ≤ 9223372036854775807) (hP : Plays lo hi l) (σ : St) : ACalls Tryz.prog 14 [sl ids l.length cs, sc (.int .i64 lo), sc (.int .i64 hi)] σ fun r σ' => r = sc (.int .i64 (-1)) ∧ Keep σ σ' := by
 have hcl := EL.length EO_len hE
 refine acalls 35 [.tmp 6] Tryz.func14 rfl (by decide) rfl rfl (Nat.le_of_ble_eq_true rfl) ?_
 repeat' (first
 |with_reducible first|apply Xa|apply Xb|(refine Xc ?_;intro κ hκ)|(apply hκ.out;clear hκ κ)|apply Xd|apply Xe|apply Xf
 |((with_reducible first|refine Xl ?_ ?_|refine Xk ?_ ?_)<;> intro h hari<;> try exact Xp)
 |refine Xr ?_
 |exact True.intro
 |(apply hκ.out;clear hκ κ))
 refine awp_loop (fun m s σ' => ∃ i : Nat, m = l.length - i ∧ i ≤ l.length ∧ s 0 = sl ids l.length cs ∧ s 1 = sc (.int .i64 lo) ∧ s 2 = sc (.int .i64 hi) ∧ s 7 = sc (.int .i64 i) ∧ Keep σ σ') l.length
  ⟨0, by omega, by omega, rfl, rfl, rfl, rfl, Keep.refl _⟩ ?_
 rintro m s σ' ⟨i, rfl, hi', h0, h1, h2, h7, hK⟩
 have kno := hK.nobj
 by_cases hlt : i < l.length
 ·have hget := List.getElem?_eq_getElem hlt
  have hPi := hP l[i] (List.getElem_mem hlt)
  obtain ⟨r, hd⟩ := EL_op hE hget
  generalize l[i] = o at hd hget hPi
  clear hget
  by_cases hk : lo ≤ o.kind ∧ o.kind ≤ hi
  ·have hPj := hPi hk.1 hk.2 _ rfl
   have hk1 := hk.1
   have hk2 := hk.2
   clear hPi hk
   repeat' (first
 |with_reducible first|apply Xa|apply Xb|(refine Xc ?_;intro κ hκ)|(apply hκ.out;clear hκ κ)|apply Xd|apply Xe|apply Xf
 |((with_reducible first|refine Xl ?_ ?_|refine Xk ?_ ?_)<;> intro h hari<;> try exact Xp)
 |((with_reducible refine Xh ?_);refine Xi (hPj _) ?_;rintro _ _ ⟨rfl,hK1⟩)
 |refine Xr ?_
 |exact True.intro
 |(apply hκ.out;clear hκ κ))
   all_goals
    first
    | exact ⟨l.length - (i + 1), by omega, i + 1, rfl, by omega, by simp, by exact Xs⟩
  ·clear hPi
   repeat' (first
 |with_reducible first|apply Xa|apply Xb|(refine Xc ?_;intro κ hκ)|(apply hκ.out;clear hκ κ)|apply Xd|apply Xe|apply Xf
 |((with_reducible first|refine Xl ?_ ?_|refine Xk ?_ ?_)<;> intro h hari<;> try exact Xp)
 |refine Xr ?_
 |exact True.intro
 |(apply hκ.out;clear hκ κ))
   all_goals
    first
    | exact ⟨l.length - (i + 1), by omega, i + 1, rfl, by omega, by simp, by exact Xs⟩
    | (exfalso; simp only [decide_eq_true_eq] at *; omega)
 ·have hil : i = l.length := by omega
  subst hil
  repeat' (first
 |with_reducible first|apply Xa|apply Xb|(refine Xc ?_;intro κ hκ)|(apply hκ.out;clear hκ κ)|apply Xd|apply Xe|apply Xf
 |((with_reducible first|refine Xl ?_ ?_|refine Xk ?_ ?_)<;> intro h hari<;> try exact Xp)
 |refine Xr ?_
 |exact True.intro
 |(apply hκ.out;clear hκ κ))
  first | exact ⟨_, rfl, rfl, hK⟩ | exact ⟨_, rfl, rfl⟩ | exact ⟨_, rfl⟩
/- From the abstract machine to the row: a script that came in. -/
open Go.RowKit (Below)
def st0 : St := { obj := fun _ => [], nobj := 0, top := fun _ => 0, ntop := 0, ver := fun _ => 0 }
def gh0 (W : World) : Gh := { blk := fun _ => 0, cur := fun _ => 0, cap := fun _ => 0, siz := fun _ => 0, per := fun b _ => b < W.heap.size, base := W.heap.size, w0 := W }
theorem inv0 (W : World) (hy : Abs.Hyp W.heap.size W) : Abs.Inv (gh0 W) st0 W :=
 ⟨fun o h => absurd h (Nat.not_lt_zero _), fun o o' h => absurd h (Nat.not_lt_zero _), fun k h => absurd h (Nat.not_lt_zero _), fun k k' h => absurd h (Nat.not_lt_zero _), fun o k h => absurd h (Nat.not_lt_zero _),
  fun b off h => h, fun b off h => h, Below.refl _ _, Nat.le_refl _, hy⟩
theorem calls_law {f : FuncId} {x : AV} {W : World} {v : Value} (h : ACalls Tryz.prog f [x] st0 fun r σ' => r = sc (.bool true) ∧ Keep st0 σ') (hv : VR (gh0 W) st0 W v x) (hy : Abs.Hyp W.heap.size W) :
  Calls Tryz.prog f #[v] W fun e w' => e = .returned (.bool true) ∧ Below W.heap.size W w' := by
 refine (h.2 (gh0 W) W #[v] (inv0 W hy) (All2.cons hv (All2.nil _))).mono ?_
 rintro e w' ⟨v2, G', y, σ', rfl, I', E, hvr, rfl, -⟩
 have h2 : v2 = .bool true := hvr.unfold
 refine ⟨by rw [h2], ?_⟩
 have hb := I'.below
 rw [E.base, E.w0] at hb
 exact hb
theorem lie_append {w : World} {per : Nat → Nat → Prop} {R : Value → AV → Prop} {b o : Nat} {xs ys : List AV} (h : Lie w per R b o xs) (g : Lie w per R b (o + xs.length) ys) : Lie w per R b o (xs ++ ys) := fun i x hx => by
 rw [List.getElem?_append] at hx
 split at hx
 ·exact h i x hx
 ·rename_i hi
  have := g (i - xs.length) x hx
  rwa [show o + xs.length + (i - xs.length) = o + i by omega] at this
def opC (o : OpD) : List AV := [sc (.int .i64 o.kind), sc (.int .i64 o.n), sc (.int .i64 o.m), str o.s, str o.e, str o.f]
def opV (o : OpD) : List Value := [.int .i64 o.kind, .int .i64 o.n, .int .i64 o.m, .string (bs o.s), .string (bs o.e), .string (bs o.f)]
def opAt (w : World) (b off : Nat) (o : OpD) : Prop := ∀ r, r < 6 → w.cell? ⟨b, off + r, none⟩ = (opV o)[r]?
theorem lie_op {w : World} {per : Nat → Nat → Prop} {G : Gh} {σ : St} {b off : Nat} {o : OpD} (hp : ∀ k, per b k) (h : opAt w b off o) : Lie w per (VR G σ w) b off (opC o) := fun i x hx => by
 refine ⟨hp _, ?_⟩
 match i, hx with
 | 0, hx => simp [opC] at hx; subst hx; exact ⟨_, h 0 (by decide), VR.sc _⟩
 | 1, hx => simp [opC] at hx; subst hx; exact ⟨_, h 1 (by decide), VR.sc _⟩
 | 2, hx => simp [opC] at hx; subst hx; exact ⟨_, h 2 (by decide), VR.sc _⟩
 | 3, hx => simp [opC] at hx; subst hx; exact ⟨_, h 3 (by decide), VR.sc _⟩
 | 4, hx => simp [opC] at hx; subst hx; exact ⟨_, h 4 (by decide), VR.sc _⟩
 | 5, hx => simp [opC] at hx; subst hx; exact ⟨_, h 5 (by decide), VR.sc _⟩
 | i + 6, hx => simp [opC] at hx
theorem lie_ops {w : World} {per : Nat → Nat → Prop} {G : Gh} {σ : St} {b : Nat} (hp : ∀ k, per b k) : ∀ (l : List OpD) (off : Nat), (∀ i o, l[i]? = some o → opAt w b (off + i * 6) o) → Lie w per (VR G σ w) b off (l.flatMap opC)
 | [], off, h => fun i x hx => by simp at hx
 | o :: l, off, h => by
  rw [List.flatMap_cons]
  refine lie_append (lie_op hp (by simpa using h 0 o rfl)) (lie_ops hp l _ fun i o' hi => ?_)
  have := h (i + 1) o' (by simpa using hi)
  rwa [show off + (i + 1) * 6 = off + (opC o).length + i * 6 by simp [opC]; omega] at this
theorem el_ops : ∀ l : List OpD, EL EO l (l.flatMap opC)
 | [] => rfl
 | o :: l => ⟨opC o, l.flatMap opC, rfl, el_ops l, by rw [List.flatMap_cons]⟩
theorem list_of {p : Nat → OpD → Prop} : ∀ (n : Nat), (∀ i, i < n → ∃ o, p i o) → ∃ l : List OpD, l.length = n ∧ ∀ i o, l[i]? = some o → p i o
 | 0, _ => ⟨[], rfl, fun i o h => by simp at h⟩
 | n + 1, h => by
  obtain ⟨l, hl, hp⟩ := list_of n fun i hi => h i (by omega)
  obtain ⟨o, ho⟩ := h n (by omega)
  refine ⟨l ++ [o], by simp [hl], fun i o' hi => ?_⟩
  rw [List.getElem?_append] at hi
  split at hi
  ·exact hp i o' hi
  ·rename_i hlt
   have : i = n := by
    by_cases e : i - l.length = 0
    ·omega
    ·rw [List.getElem?_eq_none (by simp; omega)] at hi; cases hi
   subst this
   rw [show i - l.length = 0 by omega] at hi
   simp at hi; subst hi; exact ho
theorem cells43 : Tryz.prog.cellsOf 43 = 6 := by kernel_rfl
theorem cells3 : Tryz.prog.cellsOf 3 = 1 := by kernel_rfl
theorem cells9 : Tryz.prog.cellsOf 9 = 1 := by kernel_rfl
theorem open_op {H : Type} {enc : TypeId × Value → H} {w : World} {base : Nat} {spare : Nat → Bool} {held : Bool} {fuel : Nat} {cs : List Value} {x : DataW H × List MemPlace} (h : DataW.trod enc Tryz.prog w base spare held fuel 43 cs = some x) : ∃ o : OpD, cs = opV o := by
 obtain ⟨xs, n, -, -, hl, hlen, hf⟩ := DataW.trod_struct Tryz.underlying43 h
 rw [cells43] at hl
 match xs, hlen with
 | [y0, y1, y2, y3, y4, y5], _ =>
  have f0 : DataW.trod enc Tryz.prog w base spare held n 3 ((cs.drop 0).take (Tryz.prog.cellsOf 3)) = some y0 := hf 0 _ rfl
  have f1 : DataW.trod enc Tryz.prog w base spare held n 3 ((cs.drop 1).take (Tryz.prog.cellsOf 3)) = some y1 := hf 1 _ rfl
  have f2 : DataW.trod enc Tryz.prog w base spare held n 3 ((cs.drop 2).take (Tryz.prog.cellsOf 3)) = some y2 := hf 2 _ rfl
  have f3 : DataW.trod enc Tryz.prog w base spare held n 9 ((cs.drop 3).take (Tryz.prog.cellsOf 9)) = some y3 := hf 3 _ rfl
  have f4 : DataW.trod enc Tryz.prog w base spare held n 9 ((cs.drop 4).take (Tryz.prog.cellsOf 9)) = some y4 := hf 4 _ rfl
  have f5 : DataW.trod enc Tryz.prog w base spare held n 9 ((cs.drop 5).take (Tryz.prog.cellsOf 9)) = some y5 := hf 5 _ rfl
  rw [cells3] at f0 f1 f2
  rw [cells9] at f3 f4 f5
  obtain ⟨k, e0, -, -⟩ := DataW.trod_int Tryz.underlying3 f0
  obtain ⟨a, e1, -, -⟩ := DataW.trod_int Tryz.underlying3 f1
  obtain ⟨b, e2, -, -⟩ := DataW.trod_int Tryz.underlying3 f2
  obtain ⟨s, e3, -, -⟩ := DataW.trod_string Tryz.underlying9 f3
  obtain ⟨t, e4, -, -⟩ := DataW.trod_string Tryz.underlying9 f4
  obtain ⟨u, e5, -, -⟩ := DataW.trod_string Tryz.underlying9 f5
  match cs, hl with
  | [c0, c1, c2, c3, c4, c5], _ =>
   simp at e0 e1 e2 e3 e4 e5
   subst e0 e1 e2 e3 e4 e5
   exact ⟨⟨k, a, b, s.data.toList, t.data.toList, u.data.toList⟩, by simp only [opV, ← bs_of]⟩
theorem open_script {H : Type} {enc : TypeId × Value → H} {W : World} {spare : Nat → Bool} {held : Bool} {fuel : Nat} {a : Option Addr} {len cap : Nat} {x : DataW H × List MemPlace} (h : DataW.trod enc Tryz.prog W 0 spare held fuel 22 [.slice a len cap] = some x) :
  ∃ (l : List OpD) (cs : List AV), EL EO l cs ∧ l.length ≤ 9223372036854775807 ∧ VR (gh0 W) st0 W (.slice a len cap) (sl 0 l.length cs) := by
 rcases Deep.open_slice Tryz.underlying22 h with ⟨hcs, -⟩ | ⟨a', len', cap', m, n, D, Pl, hcs, -, hl, hm, hmm, -, hel⟩
 ·simp at hcs
  obtain ⟨rfl, rfl, rfl⟩ := hcs
  exact ⟨[], [], rfl, by simp, VR.fold ⟨none, 0, rfl, ⟨Nat.le_refl _, fun h => by omega⟩, fun h => absurd rfl h, fun k hk => by omega⟩⟩
 ·simp at hcs
  obtain ⟨rfl, rfl, rfl⟩ := hcs
  have hle : len ≤ m := by rw [hmm]; split <;> omega
  rw [cells43] at hel
  have hone : ∀ i, i < len → ∃ o : OpD, ∀ r, r < 6 → W.cell? ((a'.add (i * 6)).add r) = (opV o)[r]? := by
   intro i hi
   obtain ⟨cs', h1, h2⟩ := hel i (by omega)
   obtain ⟨o, rfl⟩ := open_op h2
   obtain ⟨-, -, h3⟩ := World.cells?_some h1
   exact ⟨o, h3⟩
  obtain ⟨l, hll, hp⟩ := list_of len hone
  refine ⟨l, l.flatMap opC, el_ops l, by rw [hll]; unfold maxLen at hm; omega, VR.fold ⟨some a', cap, by rw [hll], ⟨by omega, fun h => by omega⟩, fun hne => ?_, fun k hk => by omega⟩⟩
  have hl0 : 0 < l.length := by
   cases l with
   | nil => exact absurd rfl hne
   | cons o r => simp
  obtain ⟨b, off, spot⟩ := a'
  have hc0 := hp 0 l[0] (List.getElem?_eq_getElem hl0) 0 (by decide)
  have hsp : spot = none := by
   have : W.cell? ⟨b, off, spot⟩ = some (.int .i64 l[0].kind) := by simpa [Addr.add, opV] using hc0
   exact World.cell?_spot this
  subst hsp
  have hblk : b < W.heap.size := by
   have : W.cell? ⟨b, off, none⟩ = some (.int .i64 l[0].kind) := by simpa [Addr.add, opV] using hc0
   unfold World.cell? at this
   rcases Nat.lt_or_ge b W.heap.size with h | h
   ·exact h
   ·simp [Array.getElem?_eq_none h] at this
  refine ⟨b, off, rfl, lie_ops (fun _ => hblk) l off fun i o hi r hr => ?_⟩
  have := hp i o hi r hr
  rw [← this]
  congr 1
  unfold Addr.add
  split <;> split <;> simp_all <;> omega
end Go.Proofs.YtmoeoppbmhfbpaaGreatDoorY
