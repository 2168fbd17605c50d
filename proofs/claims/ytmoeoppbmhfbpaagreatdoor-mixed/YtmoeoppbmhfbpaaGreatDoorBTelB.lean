import Derived.Test.YtmoeoppbmhfbpaaGreatDoorBFacC
import Derived.Test.YtmoeoppbmhfbpaaGreatDoorBEngW
/- The program tells a model: tuples in rank. -/
namespace Go.Proofs.YtmoeoppbmhfbpaaGreatDoorB
open Go.Abs
set_option linter.unusedSimpArgs false
set_option linter.unusedVariables false
set_option maxRecDepth 100000
def Rank (l : List Tup) : Prop := l.Pairwise fun a b => lexL b a = false
theorem tcs_set {l : List Tup} {i : Nat} {t : Tup} (h3 : T3 l) (ht : t.length = 3) (hi : i < l.length) : lsp (tcs l) (i * 3) (icells t) = tcs (l.set i t) := by
 have hl := tcs_len h3
 have ht3 := i3_len ht
 rw [lsp_eq _ _ _ (by rw [ht3, hl]; omega), ht3]
 have e : l = l.take i ++ l[i] :: l.drop (i + 1) := by rw [← List.drop_eq_getElem_cons hi, List.take_append_drop]
 have e2 : l.set i t = l.take i ++ t :: l.drop (i + 1) := by
  rw [List.set_eq_take_append_cons_drop, if_pos hi]
 have h3a : (tcs (l.take i)).length = i * 3 := by
  rw [tcs_len (fun x hx => h3 x (List.mem_of_mem_take hx)), List.length_take, Nat.min_eq_left (Nat.le_of_lt hi)]
 have h3b := i3_len (h3 _ (List.getElem_mem hi))
 have e3 : tcs l = tcs (l.take i) ++ (icells l[i] ++ tcs (l.drop (i + 1))) := by
  unfold tcs
  conv => lhs; rw [e]
  rw [List.flatMap_append, List.flatMap_cons]
 have e4 : tcs (l.set i t) = tcs (l.take i) ++ (icells t ++ tcs (l.drop (i + 1))) := by
  rw [e2]; simp [tcs]
 rw [e4, e3, ← h3a, List.take_left, List.append_assoc]
 congr 1
 congr 1
 rw [show (tcs (l.take i)).length + 3 = (tcs (l.take i)).length + (icells l[i]).length by rw [h3b], List.drop_length_add_append, List.drop_left]
structure Ins (acc : List Tup) (t : Tup) (A B : List Tup) : Prop where
 eq : A ++ B = acc
 le : ∀ b ∈ B, lexL t b = true
theorem Ins.done {acc : List Tup} {t : Tup} {A B : List Tup} (h : Ins acc t A B) (hr : Rank acc) (h3 : T3 acc) (ht : t.length = 3) (hA : ∀ a, A.getLast? = some a → lexL t a = false) : Rank (A ++ t :: B) ∧ (A ++ t :: B).Perm (acc ++ [t]) := by
 have hr2 := hr
 rw [← h.eq] at hr2 h3
 unfold Rank at hr2
 rw [List.pairwise_append] at hr2
 obtain ⟨p1, p2, p3⟩ := hr2
 have hAl : ∀ a ∈ A, lexL t a = false := fun a ha => by
  rcases List.eq_nil_or_concat A with e | ⟨A', z, e⟩
  ·rw [e] at ha; cases ha
  ·rw [List.concat_eq_append] at e
   have hz := hA z (by rw [e]; simp)
   rw [e] at ha p1
   rcases List.mem_append.1 ha with ha' | ha'
   ·have h1 := (List.pairwise_append.1 p1).2.2 a ha' z (by simp)
    exact lex_trans (h3 a (by rw [e]; simp [ha'])) (h3 z (by rw [e]; simp)) ht h1 hz
   ·simp at ha'; rw [ha']; exact hz
 refine ⟨?_, ?_⟩
 ·unfold Rank
  rw [List.pairwise_append, List.pairwise_cons]
  refine ⟨p1, ⟨fun b hb => lex_asym (h.le b hb), p2⟩, fun a ha b hb => ?_⟩
  rcases List.mem_cons.1 hb with rfl | hb
  ·exact hAl a ha
  ·exact p3 a ha b hb
 ·rw [← h.eq]
  exact List.perm_middle.trans ((List.perm_append_singleton t (A ++ B)).symm)
theorem aApp_PX {P : Program} {t : TypeId} {b : Nat} {zc : List Value} {σ0 σ : St} {id2 n lo : Nat} {x : AV} {xs ys : List AV} {K : AV → St → Prop} (ht : tez P t = some (3, b, zc)) (hzc : zc.length = 3) (hy : ys.length = 3) (hf : ys.all Abs.flat = true) (hb : (n + 1) * b ≤ 140737488355328) (hl : n + 1 ≤ 1099511627776)
  (hlo : lo ≤ σ.nobj) (h0 : σ0.nobj ≤ lo) (hK : Keep σ0 σ) (hx : PS lo σ x n xs) (h : ∀ o cap σ', PS lo σ' (Abs.gx o (n + 1) cap) (n + 1) (xs ++ ys) → σ.nobj ≤ σ'.nobj → (∀ p, p < σ.nobj → (∀ c, x ≠ Abs.gx p n c) → σ'.obj p = σ.obj p ∧ o ≠ p) → Keep σ0 σ' → K (Abs.gx o (n + 1) cap) σ') : aApp P t t x (sl id2 1 ys) σ K := by
 refine aApp_obj (xs := xs) ht (by omega) hzc (by omega) hf (by omega) hb hl ?_ ?_ ?_
 ·rcases hx with h | ⟨o, cap, h1, h2, h3, h4, h5, -, -⟩
  ·exact .inl h
  ·exact .inr ⟨o, cap, h1, h2, h3, h4, h5⟩
 ·rintro o cap cs ⟨c0, e1, e2, rfl⟩ hcl hct
  rcases hx with ⟨rfl, -, -⟩ | ⟨o', cap', rfl, h2, h3, h4, h5, h6, h7⟩
  ·simp at e1
  ·simp at e1
   obtain ⟨rfl, rfl⟩ := e1
   refine h _ _ _ (.inr ⟨_, _, rfl, by omega, e2, by rw [put_same]; exact hcl, by rw [put_same]; exact hct, h6, h7⟩) (Nat.le_refl _) (fun p hp hne => ?_) (hK.put (by omega) _)
   have hop : p ≠ o' := fun e => hne cap' (by rw [e])
   exact ⟨put_other hop, fun e => hop e.symm⟩
 ·intro cap cs hcl hc hct
  exact h _ _ _ (.inr ⟨_, _, rfl, by omega, hc, by rw [new_same]; exact hcl, by rw [new_same]; exact hct, hlo, by simp only [new_nobj]; omega⟩) (by simp only [new_nobj]; omega) (fun p hp _ => ⟨new_lt (by omega), by omega⟩) (hK.new _)
theorem PS.tup {lo : Nat} {σ : St} {o cap n i : Nat} {L : List Tup} {t : Tup} (h : PS lo σ (Abs.gx o n cap) n (tcs L)) (h3 : T3 L) (hn : n = L.length) (hi : L[i]? = some t) : ∃ r, (σ.obj o).drop (i * 3) = icells t ++ r := by
 obtain ⟨o', cap', e, -, -, -, -, htk⟩ := h.gx (by have := (List.getElem?_eq_some_iff.1 hi).1; omega)
 simp at e
 obtain ⟨rfl, rfl⟩ := e
 obtain ⟨-, r, hd⟩ := tcs_get3 h3 hi
 have hl := tcs_len h3
 have hil := (List.getElem?_eq_some_iff.1 hi).1
 refine ⟨r ++ (σ.obj o).drop (n * 3), ?_⟩
 conv => lhs; rw [← List.take_append_drop (n * 3) (σ.obj o), htk]
 rw [List.drop_append_of_le_length (by rw [hl]; omega), hd, List.append_assoc]
theorem PS.len {lo : Nat} {σ : St} {o cap n : Nat} {pc : List AV} (h : PS lo σ (Abs.gx o n cap) n pc) (hn : 0 < n) : (σ.obj o).length = cap * 3 ∧ n ≤ cap ∧ lo ≤ o ∧ o < σ.nobj := by
 obtain ⟨o', cap', e, h1, h2, h3, h4, -⟩ := h.gx hn
 simp at e
 obtain ⟨rfl, rfl⟩ := e
 exact ⟨h3, h4, h1, h2⟩
set_option maxHeartbeats 64000000 in
theorem inRank_spec (l : List Tup) (idl : Nat) (h3 : T3 l) (hl : l.length ≤ 5000) (σ : St) : ACalls Tryz.prog 80 [sl idl l.length (tcs l)] σ fun r σ' => ∃ id L, r = sl id L.length (tcs L) ∧ L.Perm l ∧ Rank L ∧ Keep σ σ' := by
 have htl := tcs_len h3
 refine acalls 52 [.tmp 2] Tryz.func80 rfl (by decide) rfl rfl (Nat.le_of_ble_eq_true rfl) ?_
 repeat' (first
 |with_reducible first|apply Xa|apply Xb|(refine Xc ?_;intro κ hκ)|(apply hκ.out;clear hκ κ)|apply Xd|apply Xe|apply Xf
 |((with_reducible first|refine Xl ?_ ?_|refine Xm ?_ ?_|refine Xk ?_ ?_)<;> intro h hari<;> try exact Xp)
 |((with_reducible refine aapp_go ?_);refine Xt ?_;intro idn σn hOn hKn eobj enobj ever entop)
 |((with_reducible refine aappn_go ?_);refine Xu ?_)
 |refine Xr ?_
 |exact True.intro
 |((with_reducible refine Xg ?_);refine Xj ?_)
 |(apply hκ.out;clear hκ κ))
 refine awp_loop (fun m s σ' => ∃ (i : Nat) (X : AV) (L : List Tup), m = l.length - i ∧ i ≤ l.length ∧ s 3 = X ∧ s 8 = sl idl l.length (tcs l) ∧ s 9 = ic l.length ∧ s 10 = ic i ∧ Keep σ σ' ∧ PS σ.nobj σ' X L.length (tcs L) ∧ L.length ≤ 5000 ∧ Abs.Hid (L.Perm (l.take i) ∧ Rank L)) l.length
  ⟨0, nilS, [], by omega, by omega, by simp [upd], by simp [upd, initS], by simp [upd], by simp [upd], by exact Xs, .inl ⟨rfl, rfl, rfl⟩, by simp, by simp, List.Pairwise.nil⟩ ?_
 rintro m s σ' ⟨i, X, L, rfl, hi, h3', h8, h9, h10, hK, hX, hLl, hL⟩
 have kno := hK.nobj
 by_cases hlt : i < l.length
 ·have hget := List.getElem?_eq_getElem hlt
  obtain ⟨ht3, r, hd⟩ := tcs_get3 h3 hget
  generalize l[i] = t at hd hget ht3
  have HTK : Abs.Hid (l.take (i + 1) = l.take i ++ [t]) := by rw [Abs.Hid, List.take_add_one, hget, Option.toList_some]
  have hL3 : T3 L := fun x hx => h3 x (List.mem_of_mem_take (hL.out.1.subset hx))
  have hLi : L.length = i := by have := hL.out.1.length_eq; rw [List.length_take, Nat.min_eq_left hi] at this; exact this
  have hLi1 : L.length ≤ i := by omega
  clear hget hLi
  have f1 := i3_len ht3
  have f2 := i3_take ht3
  have f3 := i3_take0 ht3
  have f4 := i3_lsp ht3
  have f5 := icells_flat t
  have f6 := i3_le ht3
  have hfX := hX.flat
  repeat' (first
 |with_reducible first|apply Xa|apply Xb|(refine Xc ?_;intro κ hκ)|(apply hκ.out;clear hκ κ)|apply Xd|apply Xe|apply Xf
 |((with_reducible first|refine Xl ?_ ?_|refine Xm ?_ ?_|refine Xk ?_ ?_)<;> intro h hari<;> try exact Xp)
 |((with_reducible refine aapp_go ?_);refine Xt ?_;intro idn σn hOn hKn eobj enobj ever entop)
 |((with_reducible refine aappn_go ?_);refine Xu ?_)
 |refine Xr ?_
 |exact True.intro
 |((with_reducible refine Xg ?_);refine Xj ?_)
 |(apply hκ.out;clear hκ κ))
  have hXn : ∀ c, X ≠ gx σ'.nobj L.length c := fun c e => by
   rcases hX with ⟨e2, -, -⟩ | ⟨o, cap, e2, -, -, -, -, -, h7⟩
   ·rw [e2] at e; simp at e
   ·rw [e2] at e; simp at e; omega
  refine aApp_PX (lo := σ.nobj) (σ0 := σ) (by first | exact tez_122) (by rfl) f1 f5 (by omega) (by omega) (by simp only [lay_nobj, put_nobj, new_nobj]; omega) (by omega) (((hK.new _).put hK.nobj _).lay 1) (hX.keep ((((Keep.refl _).new _).put (Nat.le_refl _) _).lay 1)) ?_
  intro og cg σn hX' hn' hob' hKn
  simp only [lay_nobj, put_nobj, new_nobj] at hn'
  obtain ⟨ot5, hog⟩ := hob' σ'.nobj (by simp only [lay_nobj, put_nobj, new_nobj]; omega) hXn
  rw [lay_obj, put_same] at ot5
  rw [← tcs_snoc] at hX'
  clear hob' hXn hX hfX
  refine Xr ?_
  repeat' (first
 |with_reducible first|apply Xa|apply Xb|(refine Xc ?_;intro κ hκ)|(apply hκ.out;clear hκ κ)|apply Xd|apply Xe|apply Xf
 |((with_reducible first|refine Xl ?_ ?_|refine Xm ?_ ?_|refine Xk ?_ ?_)<;> intro h hari<;> try exact Xp)
 |((with_reducible refine aapp_go ?_);refine Xt ?_;intro idn σn hOn hKn eobj enobj ever entop)
 |((with_reducible refine aappn_go ?_);refine Xu ?_)
 |refine Xr ?_
 |exact True.intro
 |((with_reducible refine Xg ?_);refine Xj ?_)
 |(apply hκ.out;clear hκ κ))
  refine awp_loop (fun m s σ2 => ∃ (A B : List Tup), m = A.length ∧ s 3 = gx og (L.length + 1) cg ∧ s 5 = ptr σ'.nobj 0 ∧ s 6 = ic A.length ∧ s 8 = sl idl l.length (tcs l) ∧ s 9 = ic l.length ∧ s 10 = ic i ∧ Keep σ σ2 ∧ σ'.nobj < σ2.nobj ∧ σ2.obj σ'.nobj = icells t ∧ PS σ.nobj σ2 (gx og (L.length + 1) cg) (L.length + 1) (tcs (A ++ t :: B)) ∧ Abs.Hid (Ins L t A B)) L.length
   ⟨L, [], rfl, by simp [upd, *], by simp [upd, *], by simp [upd], by simp [upd, *], by simp [upd, *], by simp [upd, *], hKn, by omega, ot5, hX', by simp, by simp⟩ ?_
  clear h3' h8 h9 h10 hX' ot5 hKn hK kno hn'
  rintro m s σ2 ⟨A, B, rfl, h3', h5, h6, h8, h9, h10, hK, hno, ot5, hX, hI⟩
  have kno := hK.nobj
  have hAB : A.length + B.length = L.length := by have := congrArg List.length hI.out.eq; simpa using this
  have hABl : (A ++ t :: B).length = L.length + 1 := by simp; omega
  have hAB3 : T3 (A ++ t :: B) := fun x hx => by
   rcases List.mem_append.1 hx with h | h
   ·exact hL3 x (by rw [← hI.out.eq]; simp [h])
   ·rcases List.mem_cons.1 h with rfl | h
    ·exact ht3
    ·exact hL3 x (by rw [← hI.out.eq]; simp [h])
  obtain ⟨xl1, xl2, xl3, xl4⟩ := hX.len (by omega)
  have HD : Abs.Hid ((∀ a, A.getLast? = some a → lexL t a = false) → (A ++ t :: B).Perm (l.take (i + 1)) ∧ Rank (A ++ t :: B)) := fun hA => by
   obtain ⟨r1, r2⟩ := hI.out.done hL.out.2 hL3 ht3 hA
   refine ⟨?_, r1⟩
   rw [HTK.out]
   exact r2.trans (hL.out.1.append_right [t])
  rcases List.eq_nil_or_concat A with rfl | ⟨A', u, hAu⟩
  ·have HN : Abs.Hid (([] ++ t :: B).Perm (l.take (i + 1)) ∧ Rank ([] ++ t :: B)) := HD.out (by simp)
   have hPS : PS σ.nobj σ2 (gx og (L.length + 1) cg) ([] ++ t :: B).length (tcs ([] ++ t :: B)) := by rw [hABl]; exact hX
   have h60 : s 6 = ic 0 := h6
   have h00 : decide ((0 : Int) < 0) = false := rfl
   have h01 : decide ((0 : Int) > 0) = false := rfl
   clear HD h6
   repeat' (first
 |with_reducible first|apply Xa|apply Xb|(refine Xc ?_;intro κ hκ)|(apply hκ.out;clear hκ κ)|apply Xd|apply Xe|apply Xf
 |((with_reducible first|refine Xl ?_ ?_|refine Xm ?_ ?_|refine Xk ?_ ?_)<;> intro h hari<;> try exact Xp)
 |((with_reducible refine aapp_go ?_);refine Xt ?_;intro idn σn hOn hKn eobj enobj ever entop)
 |((with_reducible refine aappn_go ?_);refine Xu ?_)
 |refine Xr ?_
 |exact True.intro
 |((with_reducible refine Xg ?_);refine Xj ?_)
 |(apply hκ.out;clear hκ κ))
   refine awp_mono (Q := fun e s' σ'' => e = .normal ∧ s' 34 = sc (.bool false) ∧ s' 3 = gx og (L.length + 1) cg ∧ s' 5 = ptr σ'.nobj 0 ∧ s' 8 = sl idl l.length (tcs l) ∧ s' 9 = ic l.length ∧ s' 10 = ic i ∧ σ'' = σ2) ?_ ?_
   ·refine awp_draw_h follows_mixed (fun _ => True) [] [0, 1, 2, 3, 4, 5, 6, 7, 8, 9, 10, 11] 2 #[true, true, true, true, true, true, true, true, true, true, true, true, false, false] (by kernel_rfl) (fun _ _ _ h => by cases h.1) ?_; intro κ hκ; refine Xr ?_; refine hκ.out _ ?_; clear hκ κ
    refine uany_one (i := 12) (by kernel_rfl) ?_; refine aOne_k ?_; intro κ hκ; refine Xr ?_
    refine hκ.out _ _ ⟨kept_refl, ?_⟩; clear hκ κ
    refine uany_rest [13] (by kernel_rfl) (by kernel_rfl) (fun _ _ _ h => by cases h.1) (Nat.le_refl _) (fun o ho _ => rfl) ?_
    intro κ hκ
    refine Xr ?_
    refine hκ.out _ _ ⟨rfl, ?_⟩
    simp [upd, *]
   ·rintro e s' σ3 ⟨rfl, g34, g3, g5, g8, g9, g10, rfl⟩
    refine awp_cond_f g34 ?_
    repeat' (first
 |with_reducible first|apply Xa|apply Xb|(refine Xc ?_;intro κ hκ)|(apply hκ.out;clear hκ κ)|apply Xd|apply Xe|apply Xf
 |((with_reducible first|refine Xl ?_ ?_|refine Xm ?_ ?_|refine Xk ?_ ?_)<;> intro h hari<;> try exact Xp)
 |((with_reducible refine aapp_go ?_);refine Xt ?_;intro idn σn hOn hKn eobj enobj ever entop)
 |((with_reducible refine aappn_go ?_);refine Xu ?_)
 |refine Xr ?_
 |exact True.intro
 |((with_reducible refine Xg ?_);refine Xj ?_)
 |(apply hκ.out;clear hκ κ))
    refine ⟨l.length - (i + 1), by omega, i + 1, gx og (L.length + 1) cg, [] ++ t :: B, ?_⟩
    ((repeat' with_reducible refine And.intro ?_ ?_)<;> first|exact Xq|exact (hPS)|exact (HN)|exact (by rw [hABl]; omega)|exact Xs)
  ·rw [List.concat_eq_append] at hAu
   subst hAu
   rw [show (A' ++ [u]).length = A'.length + 1 by simp] at h6 hAB
   have hlu : (A' ++ [u] ++ t :: B)[A'.length]? = some u := by simp
   have hlt2 : (A' ++ [u] ++ t :: B)[A'.length + 1]? = some t := by rw [List.getElem?_append_right (by simp)]; simp
   obtain ⟨r1, hd1⟩ := hX.tup hAB3 hABl.symm hlu
   obtain ⟨r2, hd2⟩ := hX.tup hAB3 hABl.symm hlt2
   have hu3 := hAB3 u (by simp)
   have hLs := fun σ => eless_spec t u ht3 hu3 σ
   have HDf : Abs.Hid (lexL t u = false → (A' ++ [u] ++ t :: B).Perm (l.take (i + 1)) ∧ Rank (A' ++ [u] ++ t :: B)) := fun h => HD.out (fun a ha => by simp at ha; subst ha; exact h)
   have HI2 : Abs.Hid (lexL t u = true → Ins L t A' (u :: B)) := fun h => ⟨by rw [← hI.out.eq]; simp, fun b hb => by
    rcases List.mem_cons.1 hb with rfl | hb
    ·exact h
    ·exact hI.out.le b hb⟩
   have HSet : Abs.Hid (((A' ++ [u] ++ t :: B).set (A'.length + 1) u).set A'.length t = A' ++ t :: u :: B) := by
    rw [Abs.Hid, List.set_append_right _ _ (by simp)]
    simp
   have ht1 := tcs_set (l := A' ++ [u] ++ t :: B) (i := A'.length + 1) (t := u) hAB3 hu3 (by rw [hABl]; omega)
   have h3s : T3 ((A' ++ [u] ++ t :: B).set (A'.length + 1) u) := fun x hx => by
    rcases List.mem_or_eq_of_mem_set hx with h | rfl
    ·exact hAB3 x h
    ·exact hu3
   have ht2 := tcs_set (l := (A' ++ [u] ++ t :: B).set (A'.length + 1) u) (i := A'.length) (t := t) h3s ht3 (by rw [List.length_set, hABl]; omega)
   rw [HSet.out] at ht2
   have HPS : Abs.Hid (∀ σ3, PS σ.nobj σ3 (gx og (L.length + 1) cg) (L.length + 1) (tcs (A' ++ [u] ++ t :: B)) → PS σ.nobj ((σ3.put og (lsp (σ3.obj og) ((A'.length + 1) * 3) (icells u))).put og (lsp (lsp (σ3.obj og) ((A'.length + 1) * 3) (icells u)) (A'.length * 3) (icells t))) (gx og (L.length + 1) cg) (L.length + 1) (tcs (A' ++ t :: u :: B))) := fun σ3 h => by
    have g1 := h.set (i := A'.length + 1) (c := icells u) (by omega) (i3_len hu3)
    rw [ht1] at g1
    have g2 := g1.set (i := A'.length) (c := icells t) (by omega) (i3_len ht3)
    rw [ht2, put_same] at g2
    exact g2
   have k1 := i3_len hu3
   have k2 := i3_take hu3
   have k3 := i3_take0 hu3
   have k5 := icells_flat u
   have k6 := i3_le hu3
   have hPSf : PS σ.nobj σ2 (gx og (L.length + 1) cg) (A' ++ [u] ++ t :: B).length (tcs (A' ++ [u] ++ t :: B)) := by rw [hABl]; exact hX
   have hsub : ((A'.length : Int) + 1) - 1 = (A'.length : Int) := by omega
   have h6' : s 6 = ic ((A'.length : Int) + 1) := by rw [h6]; simp
   clear HD hI hlu hlt2 ht1 ht2 h3s HSet h6
   generalize hAj : A'.length = j at *
   have HAJ : Abs.Hid (A'.length = j) := hAj
   clear hAj
   have h00 : decide ((0 : Int) < (j : Int) + 1) = true := by rw [decide_eq_true_eq]; omega
   have h01 : decide ((j : Int) + 1 > 0) = true := by rw [decide_eq_true_eq]; omega
   have htn : ((j : Int) + 1).toNat = j + 1 := by omega
   repeat' (first
 |with_reducible first|apply Xa|apply Xb|(refine Xc ?_;intro κ hκ)|(apply hκ.out;clear hκ κ)|apply Xd|apply Xe|apply Xf
 |((with_reducible first|refine Xl ?_ ?_|refine Xm ?_ ?_|refine Xk ?_ ?_)<;> intro h hari<;> try exact Xp)
 |((with_reducible refine aapp_go ?_);refine Xt ?_;intro idn σn hOn hKn eobj enobj ever entop)
 |((with_reducible refine aappn_go ?_);refine Xu ?_)
 |refine Xr ?_
 |exact True.intro
 |((with_reducible refine Xg ?_);refine Xj ?_)
 |(apply hκ.out;clear hκ κ))
   refine awp_mono (Q := fun e s' σ'' => e = .normal ∧ s' 34 = sc (.bool (lexL t u)) ∧ s' 3 = gx og (L.length + 1) cg ∧ s' 5 = ptr σ'.nobj 0 ∧ s' 6 = ic ((j : Int) + 1) ∧ s' 8 = sl idl l.length (tcs l) ∧ s' 9 = ic l.length ∧ s' 10 = ic i ∧ Keep σ2 σ'') ?_ ?_
   ·refine awp_draw_h follows_mixed (fun _ => True) [] [0, 1, 2, 3, 4, 5, 6, 7, 8, 9, 10, 11] 2 #[true, true, true, true, true, true, true, true, true, true, true, true, false, false] (by kernel_rfl) (fun _ _ _ h => by cases h.1) ?_; intro κ hκ; refine Xr ?_; refine hκ.out _ ?_; clear hκ κ
    refine uany_one (i := 12) (by kernel_rfl) ?_; refine aOne_k ?_; intro κ hκ; refine Xr ?_
    refine ACalls.mono (hLs _) ?_
    rintro _ σ5 ⟨rfl, hK5⟩
    refine Xr ?_
    refine hκ.out _ _ ⟨kept_keep hK5, ?_⟩; clear hκ κ
    refine uany_rest [13] (by kernel_rfl) (by kernel_rfl) (fun _ _ _ h => by cases h.1) hK5.nobj (fun o ho _ => hK5.ver o ho) ?_
    intro κ hκ
    refine Xr ?_
    refine hκ.out _ _ ⟨rfl, ?_⟩
    simp [upd, *]
   ·rintro e s' σ5 ⟨rfl, g34, g3, g5, g6, g8, g9, g10, hK5⟩
    have kn5 := hK5.nobj
    have kob5 := hK5.obj
    have oog : σ5.obj og = σ2.obj og := kob5 _ xl4
    have hd1' : (σ5.obj og).drop (j * 3) = icells u ++ r1 := by rw [oog]; exact hd1
    have hd2' : (σ5.obj og).drop ((j + 1) * 3) = icells t ++ r2 := by rw [oog]; exact hd2
    have xl1' : (σ5.obj og).length = cg * 3 := by rw [oog]; exact xl1
    have ot5' : σ5.obj σ'.nobj = icells t := by rw [kob5 _ hno]; exact ot5
    have hKx := hK.trans hK5
    have HPS2 : Abs.Hid _ := HPS.out σ5 (hX.keep hK5)
    have hPSf2 := hPSf.keep hK5
    clear h3' h5 h6' h8 h9 h10 hd1 hd2 xl1 ot5 oog kob5 hX hPSf HPS
    cases hb : lexL t u with
    | false =>
     have HN : Abs.Hid _ := HDf.out hb
     rw [hb] at g34
     refine awp_cond_f g34 ?_
     clear hb HDf HI2
     repeat' (first
 |with_reducible first|apply Xa|apply Xb|(refine Xc ?_;intro κ hκ)|(apply hκ.out;clear hκ κ)|apply Xd|apply Xe|apply Xf
 |((with_reducible first|refine Xl ?_ ?_|refine Xm ?_ ?_|refine Xk ?_ ?_)<;> intro h hari<;> try exact Xp)
 |((with_reducible refine aapp_go ?_);refine Xt ?_;intro idn σn hOn hKn eobj enobj ever entop)
 |((with_reducible refine aappn_go ?_);refine Xu ?_)
 |refine Xr ?_
 |exact True.intro
 |((with_reducible refine Xg ?_);refine Xj ?_)
 |(apply hκ.out;clear hκ κ))
     refine ⟨l.length - (i + 1), by omega, i + 1, gx og (L.length + 1) cg, A' ++ [u] ++ t :: B, ?_⟩
     ((repeat' with_reducible refine And.intro ?_ ?_)<;> first|exact Xq|exact (hPSf2)|exact (HN)|exact (by rw [hABl]; omega)|exact Xs)
    | true =>
     have HN : Abs.Hid _ := HI2.out hb
     rw [hb] at g34
     refine awp_cond_t g34 ?_
     clear hb HDf HI2
     have hjl : j + 1 < L.length + 1 := by omega
     have hpo : ∀ c, (σ5.put og c).obj σ'.nobj = icells t := fun c => by rw [put_other (Ne.symm hog)]; exact ot5'
     have hlsp : (lsp (σ5.obj og) ((j + 1) * 3) (icells u)).length = cg * 3 := by rw [lsp_length]; exact xl1'
     have hj3 : j * 3 + 3 ≤ cg * 3 := by omega
     repeat' (first
 |with_reducible first|apply Xa|apply Xb|(refine Xc ?_;intro κ hκ)|(apply hκ.out;clear hκ κ)|apply Xd|apply Xe|apply Xf
 |((with_reducible first|refine Xl ?_ ?_|refine Xm ?_ ?_|refine Xk ?_ ?_)<;> intro h hari<;> try exact Xp)
 |((with_reducible refine aapp_go ?_);refine Xt ?_;intro idn σn hOn hKn eobj enobj ever entop)
 |((with_reducible refine aappn_go ?_);refine Xu ?_)
 |refine Xr ?_
 |exact True.intro
 |((with_reducible refine Xg ?_);refine Xj ?_)
 |(apply hκ.out;clear hκ κ))
     refine ⟨A'.length, by simp, A', u :: B, ?_⟩
     ((repeat' with_reducible refine And.intro ?_ ?_)<;> first|exact Xq|exact (HPS2)|exact (HN)|exact ((hKx.put xl3 _).put xl3 _)|exact (by rw [HAJ.out])|exact (by rw [put_other (Ne.symm hog), put_other (Ne.symm hog)]; exact ot5')|exact Xs)
 ·have hil : i = l.length := by omega
  subst hil
  obtain ⟨e1, e2⟩ := hL.out
  rw [List.take_length] at e1
  rcases hX with ⟨rfl, hn, -⟩ | ⟨o, cap, rfl, g2, g3, g4, g5, g6, g7⟩
  ·have : L = [] := List.eq_nil_of_length_eq_zero hn
   subst this
   repeat' (first
 |with_reducible first|apply Xa|apply Xb|(refine Xc ?_;intro κ hκ)|(apply hκ.out;clear hκ κ)|apply Xd|apply Xe|apply Xf
 |((with_reducible first|refine Xl ?_ ?_|refine Xm ?_ ?_|refine Xk ?_ ?_)<;> intro h hari<;> try exact Xp)
 |((with_reducible refine aapp_go ?_);refine Xt ?_;intro idn σn hOn hKn eobj enobj ever entop)
 |((with_reducible refine aappn_go ?_);refine Xu ?_)
 |refine Xr ?_
 |exact True.intro
 |((with_reducible refine Xg ?_);refine Xj ?_)
 |(apply hκ.out;clear hκ κ))
   exact ⟨_, rfl, 1, [], rfl, e1, e2⟩
  ·refine awp_freeze_tmp (t := 3) (o := o) (k := L.length * 3) g7 h3' (by rw [g4]; omega) ?_
   rw [g5]
   repeat' (first
 |with_reducible first|apply Xa|apply Xb|(refine Xc ?_;intro κ hκ)|(apply hκ.out;clear hκ κ)|apply Xd|apply Xe|apply Xf
 |((with_reducible first|refine Xl ?_ ?_|refine Xm ?_ ?_|refine Xk ?_ ?_)<;> intro h hari<;> try exact Xp)
 |((with_reducible refine aapp_go ?_);refine Xt ?_;intro idn σn hOn hKn eobj enobj ever entop)
 |((with_reducible refine aappn_go ?_);refine Xu ?_)
 |refine Xr ?_
 |exact True.intro
 |((with_reducible refine Xg ?_);refine Xj ?_)
 |(apply hκ.out;clear hκ κ))
   exact ⟨_, rfl, 0, L, rfl, e1, e2, hK.put g6 _⟩
end Go.Proofs.YtmoeoppbmhfbpaaGreatDoorB
