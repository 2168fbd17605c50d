import Derived.Test.YtmoeoppbmhfbpaaDoorXProgP
import Derived.Test.YtmoeoppbmhfbpaaDoorXProgN
/- The program's faults are the document's. -/
namespace Go.Proofs.YtmoeoppbmhfbpaaDoorX
open Go.Abs
set_option linter.unusedSimpArgs false
set_option linter.unusedVariables false
set_option maxRecDepth 100000

/-! ### Terms that were read -/
def VT (w : Tx) : Prop := (∃ b, w = [b] ∧ largeB b.toNat = true) ∨ (w ≠ [] ∧ ∀ b ∈ w, digitB b.toNat = true)
def VA (a : RAtom) : Prop := ∀ w ∈ a.terms, VT w
theorem pTerm_vt {s r w : Tx} (h : pTerm s = .got w r) : VT w := by
  cases s with
  | nil => cases h
  | cons b q =>
    unfold pTerm at h; dsimp only at h
    split at h
    · rename_i hl; cases h; exact .inl ⟨b, rfl, hl⟩
    split at h
    · rename_i h0; cases h; refine .inr ⟨by simp, fun c hc => ?_⟩
      simp at hc; subst hc; rw [digit_iff]; exact .inr h0
    split at h
    · rename_i h9; cases h; refine .inr ⟨by simp, fun c hc => ?_⟩
      rcases List.mem_cons.1 hc with rfl | hc
      · rw [digit_iff]; exact .inl h9
      · exact (pWhile_took digitB 2 q).2 c hc
    · cases h
theorem pMore_all {α : Type} {f : Tx → Rd α} {P : α → Prop} (hf : ∀ s x r, f s = .got x r → P x) : ∀ (n : Nat) (s : Tx) (xs : List α) (r : Tx), pMore f n s = .got xs r → ∀ x ∈ xs, P x
  | 0, s, xs, r, h => by unfold pMore at h; cases h; simp
  | n + 1, [], xs, r, h => by unfold pMore at h; cases h; simp
  | n + 1, b :: q, xs, r, h => by
    unfold pMore at h
    split at h
    · obtain ⟨x, q1, h1, h2⟩ := bnd_got h
      obtain ⟨ys, q2, h3, h4⟩ := bnd_got h2
      cases h4
      intro y hy
      rcases List.mem_cons.1 hy with rfl | hy
      · exact hf _ _ _ h1
      · exact pMore_all hf n _ _ _ h3 y hy
    · cases h; simp
theorem pAtom_all {T : Tx → Prop} (hT : ∀ s w r, pTerm s = .got w r → T w) {nt : Bool} {s r : Tx} {a : RAtom} (h : pAtom nt s = .got a r) : ∀ w ∈ a.terms, T w := by
  unfold pAtom pArgs at h
  obtain ⟨p, q1, -, h⟩ := bnd_got h
  obtain ⟨u, q2, -, h⟩ := bnd_got h
  obtain ⟨w, q3, h1, h⟩ := bnd_got h
  obtain ⟨ws, q4, h2, h⟩ := bnd_got h
  obtain ⟨u2, q5, -, h⟩ := bnd_got h
  cases h
  intro y hy
  rcases List.mem_cons.1 hy with rfl | hy
  · exact hT _ _ _ h1
  · exact pMore_all hT _ _ _ _ h2 y hy
theorem pLit_all {T : Tx → Prop} (hT : ∀ s w r, pTerm s = .got w r → T w) {s r : Tx} {a : RAtom} (h : pLit s = .got a r) : ∀ w ∈ a.terms, T w := by rw [pLit_eq] at h; exact pAtom_all hT h
theorem pItem_all {T : Tx → Prop} (hT : ∀ s w r, pTerm s = .got w r → T w) {s r : Tx} {x : RItem} (h : pItem s = .got x r) : ∀ a ∈ atomsL x, ∀ w ∈ a.terms, T w := by
  rw [pItem_eq] at h
  split at h
  · unfold pOut at h
    obtain ⟨p, q1, -, h⟩ := bnd_got h
    obtain ⟨u, q2, -, h⟩ := bnd_got h
    cases h
    simp [atomsL]
  · unfold pRule at h
    obtain ⟨a, q1, h1, h⟩ := bnd_got h
    rw [pTail_eq] at h
    split at h
    · cases h
      intro y hy
      simp [atomsL] at hy
      subst hy; exact pAtom_all hT h1
    · obtain ⟨u, q2, -, h⟩ := bnd_got h
      obtain ⟨ls, q3, h3, h⟩ := bnd_got h
      obtain ⟨u2, q4, -, h⟩ := bnd_got h
      cases h
      intro y hy
      simp [atomsL] at hy
      rcases hy with rfl | hy
      · exact pAtom_all hT h1
      · unfold pLits pSep at h3
        obtain ⟨l, q5, h5, h3⟩ := bnd_got h3
        obtain ⟨ls2, q6, h6, h3⟩ := bnd_got h3
        cases h3
        rcases List.mem_cons.1 hy with rfl | hy
        · exact pLit_all hT h5
        · exact pMore_all (fun _ _ _ h => pLit_all hT h) _ _ _ _ h6 y hy
theorem pItems_all {T : Tx → Prop} (hT : ∀ s w r, pTerm s = .got w r → T w) : ∀ (n : Nat) (s : Tx) (l : List RItem) (r : Tx), pItems n s = .got l r → ∀ x ∈ l, ∀ a ∈ atomsL x, ∀ w ∈ a.terms, T w
  | n, [], l, r, h => by rw [pItems_nil] at h; cases h; simp
  | 0, b :: q, l, r, h => by rw [pItems_zero] at h; cases h
  | n + 1, b :: q, l, r, h => by
    rw [pItems_succ] at h
    obtain ⟨x, q1, h1, h⟩ := bnd_got h
    obtain ⟨xs, q2, h2, h⟩ := bnd_got h
    cases h
    intro y hy
    rcases List.mem_cons.1 hy with rfl | hy
    · exact pItem_all hT h1
    · exact pItems_all hT n _ _ _ h2 y hy
theorem pItems_va (n : Nat) (s : Tx) (l : List RItem) (r : Tx) (h : pItems n s = .got l r) : ∀ x ∈ l, ∀ a ∈ atomsL x, VA a := pItems_all (T := VT) (fun _ _ _ h => pTerm_vt h) n s l r h

/-! ### Safe -/
theorem enc_var {w : Tx} (h : VT w) : (encT w).1 = variableB w := by
  rcases h with ⟨b, rfl, hl⟩ | ⟨hn, hd⟩
  · rw [encT_large hl]; simp [variableB, hl]
  · cases w with
    | nil => exact absurd rfl hn
    | cons b r =>
      have hb := hd b (by simp)
      have hl : largeB b.toNat = false := by
        cases hl : largeB b.toNat with
        | false => rfl
        | true => simp [digitB] at hb; simp [largeB] at hl; omega
      rw [encT_num hl]; simp [variableB, hl]
theorem hit_eq {u t : Tx} (hu : VT u) (ht : VT t) (hv : variableB t = true) : hitT (encT t).2 u = (u == t) := by
  obtain ⟨b, rfl, hl⟩ : ∃ b, t = [b] ∧ largeB b.toNat = true := by
    rcases ht with h | ⟨hn, hd⟩
    · exact h
    · exfalso
      cases t with
      | nil => exact hn rfl
      | cons b r =>
        have hb := hd b (by simp)
        simp [variableB] at hv
        simp [digitB] at hb; simp [largeB] at hv; omega
  rw [encT_large hl]
  unfold hitT
  rcases hu with ⟨c, rfl, hc⟩ | ⟨hn, hd⟩
  · rw [encT_large hc]
    simp only [Bool.true_and]
    by_cases e : c = b
    · subst e; simp
    · have : (c.toNat : Int) ≠ b.toNat := fun h => e (UInt8.toNat_inj.1 (by omega))
      have h1 : ((c.toNat : Int) - 65 == (b.toNat : Int) - 65) = false := by simp; omega
      have h2 : (([c] : Tx) == [b]) = false := by simpa using e
      rw [h1, h2]
  · have h1 : (encT u).1 = false := by
      rw [enc_var (.inr ⟨hn, hd⟩)]
      cases u with
      | nil => rfl
      | cons c r =>
        have hb := hd c (by simp)
        cases hv : variableB (c :: r) with
        | false => rfl
        | true => simp [variableB, largeB] at hv; simp [digitB] at hb; omega
    have h2 : (u == [b]) = false := by
      simp
      rintro rfl
      have := hd b (by simp)
      simp [digitB] at this; simp [largeB] at hl; omega
    rw [h1, h2]; rfl
theorem any_congr' {α : Type} {l : List α} {p q : α → Bool} (h : ∀ a ∈ l, p a = q a) : l.any p = l.any q := by
  induction l with
  | nil => rfl
  | cons a l ih => simp only [List.any_cons]; rw [h a (by simp), ih (fun b hb => h b (by simp [hb]))]
theorem binds_eq {x : RItem} (hV : ∀ a ∈ atomsL x, VA a) {t : Tx} (ht : VT t) (hv : variableB t = true) : bindsB x (encT t).2 = boundB x t := by
  unfold bindsB boundB
  apply any_congr'
  intro a ha
  have hA : VA a := hV a (by unfold atomsL; simp [ha])
  cases hn : a.nt with
  | true => simp
  | false =>
    simp only [Bool.not_false, Bool.true_and]
    exact any_congr' fun u hu => hit_eq (hA u hu) ht hv
theorem safe_eq {x : RItem} (hV : ∀ a ∈ atomsL x, VA a) : psafeB x = safeB x := by
  unfold psafeB safeB
  congr 1
  apply any_congr'
  intro a ha
  unfold badA badT
  apply any_congr'
  intro w hw
  have hA := hV a ha w hw
  rw [enc_var hA]
  cases hv : variableB w with
  | false => rfl
  | true => rw [binds_eq hV hA hv]
theorem firstN_congr {p q : Nat → Bool} {n : Nat} (h : ∀ i, i < n → p i = q i) : firstN p n = firstN q n := by
  have e : (List.range n).find? p = (List.range n).find? q := by
    have hm : ∀ i ∈ List.range n, p i = q i := fun i hi => h i (by simpa using hi)
    generalize List.range n = l at hm
    induction l with
    | nil => rfl
    | cons a l ih => simp only [List.find?_cons]; rw [hm a (by simp), ih (fun b hb => hm b (by simp [hb]))]
  unfold firstN; rw [e]

/-! ### Uses -/
theorem way_names {N : List Tx} {l : List RItem} (hN : ∀ x ∈ l, x.head.pred ∈ N ∧ ∀ a ∈ x.body, a.pred ∈ N) {i j : Nat} (h : Way (onceP N l) i j) : ∃ p q, p ∈ N ∧ q ∈ N ∧ N.idxOf p = i ∧ N.idxOf q = j ∧ Way (atOnce l) p q := by
  induction h with
  | one e =>
    obtain ⟨x, hx, h1, a, ha, h2⟩ := e
    exact ⟨x.head.pred, a.pred, (hN x hx).1, (hN x hx).2 a ha, h1, h2, .one ⟨x, hx, rfl, a, ha, rfl⟩⟩
  | more e _ ih =>
    obtain ⟨x, hx, h1, a, ha, h2⟩ := e
    obtain ⟨p, q, hp, hq, e1, e2, w⟩ := ih
    have : a.pred = p := idx_inj ((hN x hx).2 a ha) hp (by omega)
    subst this
    exact ⟨x.head.pred, q, (hN x hx).1, hq, h1, e2, .more ⟨x, hx, rfl, a, ha, rfl⟩ w⟩
theorem way_places {N : List Tx} {l : List RItem} {p q : Tx} (h : Way (atOnce l) p q) : Way (onceP N l) (N.idxOf p) (N.idxOf q) := by
  induction h with
  | one e =>
    obtain ⟨x, hx, rfl, a, ha, rfl⟩ := e
    exact .one ⟨x, hx, rfl, a, ha, rfl⟩
  | more e _ ih =>
    obtain ⟨x, hx, rfl, a, ha, rfl⟩ := e
    exact .more ⟨x, hx, rfl, a, ha, rfl⟩ ih
theorem Way.map' {α : Type} {E F : α → α → Prop} (h : ∀ a b, E a b → F a b) {a b : α} (w : Way E a b) : Way F a b := by
  induction w with
  | one e => exact .one (h _ _ e)
  | more e _ ih => exact .more (h _ _ e) ih
theorem uses_eq {N : List Tx} {l : List RItem} {M : Nat → Nat → Bool} (hN : ∀ x ∈ l, x.head.pred ∈ N ∧ ∀ a ∈ x.body, a.pred ∈ N) (ho : ∀ x ∈ l, x.out = true → x.body = []) (hM : isOnce N l M) {p q : Tx} (hp : p ∈ N) (hq : q ∈ N) (hy : ∃ y ∈ l, y.out = false ∧ y.head.pred = q) :
    fwR N.length M N.length (N.idxOf p) (N.idxOf q) = usesB l p q := by
  have hS : Supp N.length M := by
    intro a b hab
    obtain ⟨x, hx, rfl, c, hc, rfl⟩ := (hM a b).1 hab
    exact ⟨List.idxOf_lt_length_of_mem (hN x hx).1, List.idxOf_lt_length_of_mem ((hN x hx).2 c hc)⟩
  rw [Bool.eq_iff_iff, fwR_iff hS, usesB_iff ho hy]
  constructor
  · intro w
    obtain ⟨p', q', hp', hq', e1, e2, w'⟩ := way_names hN (w.map' fun a b h => (hM a b).1 h)
    rw [← idx_inj hp' hp e1, ← idx_inj hq' hq e2]; exact w'
  · intro w
    exact (way_places w).map' fun a b h => (hM a b).2 h
theorem EL_PL_mem {N : List Tx} : ∀ {l : List RAtom} {cs : List AV}, EL (PL N) l cs → ∀ a ∈ l, a.pred ∈ N
  | [], cs, h, a, ha => by cases ha
  | b :: l, cs, ⟨c, d, hc, hd, e⟩, a, ha => by
    rcases List.mem_cons.1 ha with rfl | ha
    · exact hc.1
    · exact EL_PL_mem hd a ha
theorem EL_PI_mem {N : List Tx} : ∀ {l : List RItem} {cs : List AV}, EL (PI N) l cs → ∀ x ∈ l, x.head.pred ∈ N ∧ ∀ a ∈ x.body, a.pred ∈ N
  | [], cs, h, a, ha => by cases ha
  | b :: l, cs, ⟨c, d, hc, hd, e⟩, a, ha => by
    rcases List.mem_cons.1 ha with rfl | ha
    · obtain ⟨hm, ih, id, bb, hb, -⟩ := hc
      exact ⟨hm, EL_PL_mem hb⟩
    · exact EL_PI_mem hd a ha
theorem knot_eq {N : List Tx} {l : List RItem} {cs : List AV} {M : Nat → Nat → Bool} (hB : Bk N l cs) (hM : isOnce N l M) : firstN (pknot N l (fwR N.length M N.length)) l.length = firstN (knotP l) l.length := by
  have hN := EL_PI_mem hB.el
  apply firstN_congr
  intro i hi
  unfold pknot knotP
  rw [List.getElem?_eq_getElem hi]
  dsimp only
  have hx := List.getElem_mem hi
  generalize l[i] = x at hx
  apply any_congr'
  intro a ha
  unfold pbad badK
  have ho : x.out = false := by
    cases h : x.out with
    | false => rfl
    | true => rw [hB.out x hx h] at ha; cases ha
  rw [uses_eq hN hB.out hM ((hN x hx).2 a ha) (hN x hx).1 ⟨x, hx, ho, rfl⟩]
  congr 2
  rw [Bool.eq_iff_iff]
  simp only [beq_iff_eq]
  constructor
  · intro e; exact idx_inj ((hN x hx).2 a ha) (hN x hx).1 (by omega)
  · intro e; rw [e]
theorem unsafe_eq {l : List RItem} (hV : ∀ x ∈ l, ∀ a ∈ atomsL x, VA a) : firstN (punsafe l) l.length = firstN (unsafeP l) l.length := by
  apply firstN_congr
  intro i hi
  unfold punsafe unsafeP
  rw [List.getElem?_eq_getElem hi]
  dsimp only
  rw [safe_eq (hV _ (List.getElem_mem hi))]

set_option maxHeartbeats 16000000 in
theorem fault_spec (N : List Tx) (l : List RItem) (cs : List AV) (idn idi : Nat) (hB : Bk N l cs) (hV : ∀ x ∈ l, ∀ a ∈ atomsL x, VA a) (σ : St) : ACalls Tryd.prog 22 [bookA N idn l idi cs] σ fun r σ' => r = two (wrongM l) ∧ Keep σ σ' := by
  have g1 := @firstN_ge (oddP l) l.length
  have g2 := @firstN_ge (unsafeP l) l.length
  have g3 := @firstN_ge (knotP l) l.length
  have hU := unsafe_eq hV
  have hS2 := firstUnsafe_spec N l cs idn idi hB
  rw [hU] at hS2
  have hS3 : ∀ σ, ACalls Tryd.prog 37 [bookA N idn l idi cs] σ fun r σ' => r = sc (.int .i64 (firstN (knotP l) l.length)) ∧ Keep σ σ' := fun σ => by
    refine ACalls.mono (firstNot_spec N l cs idn idi hB σ) ?_
    rintro _ _ ⟨M, hM, rfl, hK⟩
    exact ⟨by rw [knot_eq hB hM], hK⟩
  clear hU
  refine acalls 20 [.tmp 2, .tmp 3] Tryd.func22 rfl (by decide) rfl rfl (Nat.le_of_ble_eq_true rfl) ?_
  repeat' (first
 |with_reducible (first|apply awp_seq|apply awp_block|(refine awp_region_k ?_;intro κ hκ)|(refine hκ.out _ _ ?_;clear hκ κ)|apply awp_skip|apply awp_exit|apply awp_ret)
 |((first|with_reducible apply gd_split|((with_reducible refine cond_go ?_);refine awp_cond_split rfl ?_ ?_))<;>intro h<;>(try simp only [upd, ↓reduceIte,Nat.reduceEqDiff,B2] at h)<;>(try simp only [*,reduceCtorEq,decide_true,decide_false] at h)<;>(try (have hari:=h;simp only [B3] at hari))<;>(try (first|contradiction|(exfalso;omega)|(exfalso;simp at h;done)))<;>(try simp only [B5]))
 |((with_reducible refine acalls_go ?_);refine ACalls.mono (firstOther_spec N l cs idn idi hB _) ?_;rintro _ _ ⟨rfl,hK1⟩;(have kob1:=hK1.obj;have kno1:=hK1.nobj;(try simp only [new_nobj,put_nobj,lay_nobj] at kno1)))
 |((with_reducible refine acalls_go ?_);refine ACalls.mono (hS2 _) ?_;rintro _ _ ⟨rfl,hK2⟩;(have kob2:=hK2.obj;have kno2:=hK2.nobj))
 |((with_reducible refine acalls_go ?_);refine ACalls.mono (hS3 _) ?_;rintro _ _ ⟨rfl,hK3⟩)
 |(simp (maxSteps:=3000000) (disch:=(first|omega|(simp only [B1, *];omega))) only [↓mapA_nil, ↓mapA_cons,B0,B4,awant,undef,aq,al,cst,cst1,acells,flat,behind,abin,aconv,aint,thenQ,blkQ,retQ,Value.cells,Value.oneCell',Int.reduceToNat, ↓reduceIte,Nat.reduceLT,Nat.reduceEqDiff,reduceCtorEq,Nat.reduceAdd,Nat.reduceMul,Nat.reduceLeDiff,u_3,tsz_32, *])
 |(refine hκ.out _ _ ?_;clear hκ κ))
  · have e1 : firstN (oddP l) l.length ≠ -1 := by simpa using h
    exact ⟨_, rfl, by unfold wrongM; rw [if_pos (by omega)], by repeat (first | exact Keep.refl _ | assumption | (refine Keep.put ?_ (by first | omega | (simp only [new_nobj, put_nobj, lay_nobj, *]; omega)) _) | (refine Keep.new ?_ _) | (refine Keep.lay ?_ _) | (refine Keep.trans ?_ (by assumption)))⟩
  · have e1 : firstN (oddP l) l.length = -1 := by simpa using (show (firstN (oddP l) l.length != -1) = false by assumption)
    have e2 : firstN (unsafeP l) l.length ≠ -1 := by simpa using h
    exact ⟨_, rfl, by unfold wrongM; rw [if_neg (by omega), if_pos (by omega)], by repeat (first | exact Keep.refl _ | assumption | (refine Keep.put ?_ (by first | omega | (simp only [new_nobj, put_nobj, lay_nobj, *]; omega)) _) | (refine Keep.new ?_ _) | (refine Keep.lay ?_ _) | (refine Keep.trans ?_ (by assumption)))⟩
  · have e1 : firstN (oddP l) l.length = -1 := by simpa using (show (firstN (oddP l) l.length != -1) = false by assumption)
    have e2 : firstN (unsafeP l) l.length = -1 := by simpa using (show (firstN (unsafeP l) l.length != -1) = false by assumption)
    have e3 : firstN (knotP l) l.length ≠ -1 := by simpa using h
    exact ⟨_, rfl, by unfold wrongM; rw [if_neg (by omega), if_neg (by omega), if_pos (by omega)], by repeat (first | exact Keep.refl _ | assumption | (refine Keep.put ?_ (by first | omega | (simp only [new_nobj, put_nobj, lay_nobj, *]; omega)) _) | (refine Keep.new ?_ _) | (refine Keep.lay ?_ _) | (refine Keep.trans ?_ (by assumption)))⟩
  · have e1 : firstN (oddP l) l.length = -1 := by simpa using (show (firstN (oddP l) l.length != -1) = false by assumption)
    have e2 : firstN (unsafeP l) l.length = -1 := by simpa using (show (firstN (unsafeP l) l.length != -1) = false by assumption)
    have e3 : firstN (knotP l) l.length = -1 := by simpa using h
    exact ⟨_, rfl, by unfold wrongM; rw [if_neg (by omega), if_neg (by omega), if_neg (by omega)], by repeat (first | exact Keep.refl _ | assumption | (refine Keep.put ?_ (by first | omega | (simp only [new_nobj, put_nobj, lay_nobj, *]; omega)) _) | (refine Keep.new ?_ _) | (refine Keep.lay ?_ _) | (refine Keep.trans ?_ (by assumption)))⟩
/- The program: load and Check. -/

theorem W_bk {N : List Tx} {l : List RItem} {cs : List AV} (hE : EL (PI N) l cs) (hl : l.length ≤ 16) (hW : ∀ x ∈ l, WItem x) (hN : N.length ≤ 2000) : Bk N l cs := by
  refine ⟨hE, hl, fun x hx => ?_, fun x hx ho => ((hW x hx).2.1 ho).2.2, hN, fun x hx a ha => ?_⟩
  · obtain ⟨-, h2, h3⟩ := hW x hx
    cases ho : x.out with
    | true =>
      obtain ⟨-, q1, q2⟩ := h2 ho
      exact ⟨by simp [q2], by simp [q1], by simp [q2]⟩
    | false =>
      obtain ⟨q1, -, q2, q3⟩ := h3 ho
      have := q1.2.2.1
      exact ⟨by omega, by omega, fun a ha => by have := (q3 a ha).2.2.1; omega⟩
  · obtain ⟨-, h2, h3⟩ := hW x hx
    unfold atomsL at ha
    cases ho : x.out with
    | true =>
      obtain ⟨-, q1, q2⟩ := h2 ho
      simp [ho, q2] at ha
    | false =>
      obtain ⟨q1, -, q2, q3⟩ := h3 ho
      simp [ho] at ha
      have hp : WAtom a → 0 < a.terms.length := fun w => by
        have := w.2.1
        cases hh : a.terms with
        | nil => exact absurd hh this
        | cons y ys => simp
      rcases ha with rfl | ha
      · exact hp q1
      · exact hp (q3 a ha)

theorem wrongM_zero {l : List RItem} (h : (wrongM l).1 = 0) : wrongM l = (0, 0) := by
  unfold wrongM at h ⊢
  split
  · rename_i h1; rw [if_pos h1] at h; cases h
  · rename_i h1
    rw [if_neg h1] at h
    split
    · rename_i h2; rw [if_pos h2] at h; cases h
    · rename_i h2
      rw [if_neg h2] at h
      split
      · rename_i h3; rw [if_pos h3] at h; cases h
      · rfl
def isBook (t : Tx) (n1 : Nat) (c1 : List AV) (n2 : Nat) (c2 : List AV) : Prop :=
  ∃ N l, pItems 16 t = .got l [] ∧ Bk N l c2 ∧ n1 = N.length ∧ c1 = N.map str ∧ n2 = l.length ∧ (∀ x ∈ l, ∀ a ∈ atomsL x, VA a) ∧ ∀ x ∈ l, WItem x

set_option maxHeartbeats 16000000 in
theorem load_spec (t : Tx) (σ : St) : ACalls Tryd.prog 9 [str t] σ fun r σ' => ∃ idn n1 c1 idi n2 c2, r = tp [ag [sl idn n1 c1, sl idi n2 c2], sc (.int .i64 (refCheck t).1), sc (.int .i64 (refCheck t).2)] ∧ Keep σ σ' ∧ ((refCheck t).1 = 0 → isBook t n1 c1 n2 c2) := by
  refine acalls 41 [.cell 2 32, .tmp 3, .tmp 4] Tryd.func9 rfl (by decide) rfl rfl (Nat.le_of_ble_eq_true rfl) ?_
  by_cases hL : 600 < t.length
  · have hrc : refCheck t = (1, 0) := by unfold refCheck; rw [if_pos hL]
    have HRC : Abs.Hid _ := hrc
    clear hrc
    repeat' (first
 |with_reducible (first|apply awp_seq|apply awp_block|(refine awp_region_k ?_;intro κ hκ)|(refine hκ.out _ _ ?_;clear hκ κ)|apply awp_skip|apply awp_exit|apply awp_ret)
 |((first|with_reducible (first|apply gd_split|apply gt_split)|((with_reducible refine cond_go ?_);refine awp_cond_split rfl ?_ ?_))<;>intro h<;>(try simp only [upd, ↓reduceIte,Nat.reduceEqDiff,B2] at h)<;>(try simp only [*,reduceCtorEq,decide_true,decide_false] at h)<;>(try (have hari:=h;simp only [B3] at hari))<;>(try (first|contradiction|(exfalso;omega)|(exfalso;simp at h;done)))<;>(try simp only [B5]))
 |(simp (maxSteps:=3000000) (disch:=(first|omega|(simp only [B1, *];omega))) only [↓mapA_nil, ↓mapA_cons,B0,B4,awant,undef,aq,al,cst,cst1,acells,flat,behind,abin,aconv,aint,thenQ,blkQ,retQ,rdo,objOf,Value.cells,Value.oneCell',Int.reduceToNat, ↓reduceIte,Nat.reduceLT,Nat.reduceEqDiff,reduceCtorEq,Nat.reduceAdd,Nat.reduceMul,Nat.reduceLeDiff,u_22,u_3,u_9,telem_9,tfld_60_1,tfld_60_2,tstr_32,tstr_60,tsz_26,tsz_3,tsz_32,tsz_60,tzero_32,tzero_60, *])
 |((with_reducible refine and_go ?_);refine And.intro (by first|exact kept_refl|exact kept_last rfl|exact kept_keep (by assumption)) ?_)
 |(refine hκ.out _ _ ?_;clear hκ κ))
    refine ⟨_, rfl, 1, 0, [], 1, 0, [], by rw [HRC.out], by repeat (first | exact Keep.refl _ | assumption | (refine Keep.put ?_ (by first | omega | (simp only [new_nobj, put_nobj, lay_nobj, *]; omega)) _) | (refine Keep.new ?_ _) | (refine Keep.lay ?_ _) | (refine Keep.trans ?_ (by assumption))), by rw [HRC.out]; intro h; simp at h⟩
  · have hplace := placeL_parse t
    have ht : t.length ≤ 1000 := by omega
    have hRS : RS t (σ.nobj + 1) [] 1 t (((σ.new [nilS, nilS]).new [str [], sc (.int .i64 0), nilS]).put (σ.nobj + 1) [str t, sc (.int .i64 0), nilS]) := by
      refine ⟨?_, Nat.lt_succ_self _, .inl ⟨rfl, rfl⟩, List.suffix_refl _, by simp⟩
      rw [put_same]; simp [rdS, rdr]
    have hR := readItems_R ht hRS
    have hK0 : Keep σ (((σ.new [nilS, nilS]).new [str [], sc (.int .i64 0), nilS]).put (σ.nobj + 1) [str t, sc (.int .i64 0), nilS]) := (((Keep.refl σ).new _).new _).put (by omega) _
    cases hp : pItems 16 t with
    | bad e =>
      rw [hp] at hR hplace
      dsimp only at hplace
      have hrc : refCheck t = (2, ((t.length - e.length : Nat) : Int)) := by
        unfold refCheck; rw [if_neg hL, hplace, if_pos (Int.natCast_nonneg _)]
      have HRC : Abs.Hid _ := hrc
      have HR : Abs.Hid _ := hR
      have HK0 : Abs.Hid _ := hK0
      clear hrc hplace hRS hR hp hK0
      repeat' (first
 |with_reducible (first|apply awp_seq|apply awp_block|(refine awp_region_k ?_;intro κ hκ)|(refine hκ.out _ _ ?_;clear hκ κ)|apply awp_skip|apply awp_exit|apply awp_ret)
 |((first|with_reducible (first|apply gd_split|apply gt_split)|((with_reducible refine cond_go ?_);refine awp_cond_split rfl ?_ ?_))<;>intro h<;>(try simp only [upd, ↓reduceIte,Nat.reduceEqDiff,B2] at h)<;>(try simp only [*,reduceCtorEq,decide_true,decide_false] at h)<;>(try (have hari:=h;simp only [B3] at hari))<;>(try (first|contradiction|(exfalso;omega)|(exfalso;simp at h;done)))<;>(try simp only [B5]))
 |((with_reducible refine acalls_go ?_);refine ACalls.mono (HR.out) ?_;rintro _ _ ⟨n,ids,c,N',id',rfl,hS1,hR1,hP1,hV1⟩;(have kob1:=hS1.keep.obj;have kno1:=hS1.keep.nobj;(try simp only [new_nobj,put_nobj,lay_nobj] at kno1)))
 |(simp (maxSteps:=3000000) (disch:=(first|omega|(simp only [B1, *];omega))) only [↓mapA_nil, ↓mapA_cons,B0,B4,awant,undef,aq,al,cst,cst1,acells,flat,behind,abin,aconv,aint,thenQ,blkQ,retQ,rdo,objOf,Value.cells,Value.oneCell',Int.reduceToNat, ↓reduceIte,Nat.reduceLT,Nat.reduceEqDiff,reduceCtorEq,Nat.reduceAdd,Nat.reduceMul,Nat.reduceLeDiff,u_22,u_3,u_9,telem_9,tfld_60_1,tfld_60_2,tstr_32,tstr_60,tsz_26,tsz_3,tsz_32,tsz_60,tzero_32,tzero_60, *])
 |((with_reducible refine and_go ?_);refine And.intro (by first|exact kept_refl|exact kept_last rfl|exact kept_keep (by assumption)) ?_)
 |(refine hκ.out _ _ ?_;clear hκ κ))
      rename_i σ1
      have hob1 := hR1.obj
      unfold rdS rdr at hob1
      simp only [Rd.rest] at hob1
      have hob0 : σ1.obj σ.nobj = [nilS, nilS] := by
        rw [kob1 _ (by simp only [put_nobj, new_nobj]; omega) (by omega), put_ne (by omega), new_lt (by rw [new_nobj]; omega), new_same]
      have hKs : Keep σ σ1 := KeepR.keep HK0.out hS1.keep (by omega) (.inl (by omega))
      clear kob1
      refine awp_draw_k follows_mixed (fun p => p = σ.nobj + 1) [5] [0, 1, 2] [3, 4, 5] (by kernel_rfl) (fun _ _ _ h => h) ?_
      intro κ hκ
      have hkp : ∀ i, Kept (fun j => !([5] : List Nat).contains j) (fun p => p = σ.nobj + 1) σ1 i (σ1.put σ.nobj [nilS, nilS]) := fun i _ p hp hF => by
        subst hF; simp [St.put]
      simp (maxSteps:=3000000) (disch:=(first|omega|(simp only [B1, *];omega))) only [↓mapA_nil, ↓mapA_cons,B0,B4,awant,undef,aq,al,cst,cst1,acells,flat,behind,abin,aconv,aint,thenQ,blkQ,retQ,rdo,objOf,Value.cells,Value.oneCell',Int.reduceToNat, ↓reduceIte,Nat.reduceLT,Nat.reduceEqDiff,reduceCtorEq,Nat.reduceAdd,Nat.reduceMul,Nat.reduceLeDiff,u_22,u_3,u_9,telem_9,tfld_60_1,tfld_60_2,tstr_32,tstr_60,tsz_26,tsz_3,tsz_32,tsz_60,tzero_32,tzero_60, *]
      refine ⟨fun p h => h.elim, fun p h => h.elim, fun p h => by cases h; rfl, ?_⟩
      try (refine And.intro (hkp _) ?_)
      try (refine And.intro (hkp _) ?_)
      repeat' (first
 |with_reducible (first|apply awp_seq|apply awp_block|(refine awp_region_k ?_;intro κ hκ)|(refine hκ.out _ _ ?_;clear hκ κ)|apply awp_skip|apply awp_exit|apply awp_ret)
 |((first|with_reducible (first|apply gd_split|apply gt_split)|((with_reducible refine cond_go ?_);refine awp_cond_split rfl ?_ ?_))<;>intro h<;>(try simp only [upd, ↓reduceIte,Nat.reduceEqDiff,B2] at h)<;>(try simp only [*,reduceCtorEq,decide_true,decide_false] at h)<;>(try (have hari:=h;simp only [B3] at hari))<;>(try (first|contradiction|(exfalso;omega)|(exfalso;simp at h;done)))<;>(try simp only [B5]))
 |(simp (maxSteps:=3000000) (disch:=(first|omega|(simp only [B1, *];omega))) only [↓mapA_nil, ↓mapA_cons,B0,B4,awant,undef,aq,al,cst,cst1,acells,flat,behind,abin,aconv,aint,thenQ,blkQ,retQ,rdo,objOf,Value.cells,Value.oneCell',Int.reduceToNat, ↓reduceIte,Nat.reduceLT,Nat.reduceEqDiff,reduceCtorEq,Nat.reduceAdd,Nat.reduceMul,Nat.reduceLeDiff,u_22,u_3,u_9,telem_9,tfld_60_1,tfld_60_2,tstr_32,tstr_60,tsz_26,tsz_3,tsz_32,tsz_60,tzero_32,tzero_60, *])
 |((with_reducible refine and_go ?_);refine And.intro (by first|exact kept_refl|exact kept_last rfl|exact kept_keep (by assumption)) ?_)
 |(refine hκ.out _ _ ?_;clear hκ κ))
      refine ⟨_, rfl, 1, 0, [], 1, 0, [], by rw [HRC.out], hKs.put (Nat.le_refl _) _, by rw [HRC.out]; intro h; simp at h⟩
    | got l r =>
      rw [hp] at hR hplace
      dsimp only at hplace
      obtain ⟨p1, p2, p3, p4⟩ := parse_good ht hp
      have hva := pItems_va _ _ _ _ hp
      have hr0 := (pItems_took _ _ _ _ hp).2.1
      subst hr0
      have hrc : refCheck t = wrongM l := by
        unfold refCheck; rw [if_neg hL, hplace, if_neg (by omega), p2]
      have HRC : Abs.Hid _ := hrc
      have HR : Abs.Hid _ := hR
      have HK0 : Abs.Hid _ := hK0
      have HP : Abs.Hid _ := hp
      clear hrc hplace hRS hR hp hK0 p2 p1
      repeat' (first
 |with_reducible (first|apply awp_seq|apply awp_block|(refine awp_region_k ?_;intro κ hκ)|(refine hκ.out _ _ ?_;clear hκ κ)|apply awp_skip|apply awp_exit|apply awp_ret)
 |((first|with_reducible (first|apply gd_split|apply gt_split)|((with_reducible refine cond_go ?_);refine awp_cond_split rfl ?_ ?_))<;>intro h<;>(try simp only [upd, ↓reduceIte,Nat.reduceEqDiff,B2] at h)<;>(try simp only [*,reduceCtorEq,decide_true,decide_false] at h)<;>(try (have hari:=h;simp only [B3] at hari))<;>(try (first|contradiction|(exfalso;omega)|(exfalso;simp at h;done)))<;>(try simp only [B5]))
 |((with_reducible refine acalls_go ?_);refine ACalls.mono (HR.out) ?_;rintro _ _ ⟨n,ids,c,N',id',rfl,hS1,hR1,hP1,hV1⟩;(have kob1:=hS1.keep.obj;have kno1:=hS1.keep.nobj;(try simp only [new_nobj,put_nobj,lay_nobj] at kno1);have hob1:=hR1.obj;unfold rdS rdr at hob1;obtain ⟨rfl,hEL⟩ : n = l.length ∧ EL (PI N') l c:=hV1;have hBk:=W_bk hEL p3 p4 (by have:=hR1.len;omega)))
 |((with_reducible refine acalls_go ?_);refine ACalls.mono (fault_spec N' l c id' ids hBk hva _) ?_;rintro _ _ ⟨rfl,hKf⟩;(have kobf:=hKf.obj;have knof:=hKf.nobj;(try simp only [new_nobj,put_nobj,lay_nobj] at knof)))
 |(simp (maxSteps:=3000000) (disch:=(first|omega|(simp only [B1, *];omega))) only [↓mapA_nil, ↓mapA_cons,B0,B4,awant,undef,aq,al,cst,cst1,acells,flat,behind,abin,aconv,aint,thenQ,blkQ,retQ,rdo,objOf,Value.cells,Value.oneCell',Int.reduceToNat, ↓reduceIte,Nat.reduceLT,Nat.reduceEqDiff,reduceCtorEq,Nat.reduceAdd,Nat.reduceMul,Nat.reduceLeDiff,u_22,u_3,u_9,telem_9,tfld_60_1,tfld_60_2,tstr_32,tstr_60,tsz_26,tsz_3,tsz_32,tsz_60,tzero_32,tzero_60, *])
 |((with_reducible refine and_go ?_);refine And.intro (by first|exact kept_refl|exact kept_last rfl|exact kept_keep (by assumption)) ?_)
 |(refine hκ.out _ _ ?_;clear hκ κ))
      · rename_i σ1 hok σ2
        have hKs : Keep σ σ1 := KeepR.keep HK0.out hS1.keep (by omega) (.inl (by omega))
        have hKz := (((hKs.new [nilS, nilS]).put hKs.nobj _).trans hKf)
        exact ⟨_, rfl, 1, 0, [], 1, 0, [], by rw [HRC.out], hKz.put (Nat.le_refl _) _, by rw [HRC.out]; intro h0; simp [h0] at h⟩
      · rename_i σ1 hok σ2
        have hKs : Keep σ σ1 := KeepR.keep HK0.out hS1.keep (by omega) (.inl (by omega))
        have hKz := (((hKs.new [nilS, nilS]).put hKs.nobj _).trans hKf)
        have hw := wrongM_zero (l := l) (by simpa using h)
        exact ⟨_, rfl, id', N'.length, N'.map str, ids, l.length, c, by rw [HRC.out, hw], hKz.put (Nat.le_refl _) _, fun _ => ⟨N', l, HP.out, hBk, rfl, rfl, rfl, hva, p4⟩⟩

end Go.Proofs.YtmoeoppbmhfbpaaDoorX
