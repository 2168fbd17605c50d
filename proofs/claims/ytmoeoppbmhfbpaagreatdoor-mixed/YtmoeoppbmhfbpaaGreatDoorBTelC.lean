import Derived.Test.YtmoeoppbmhfbpaaGreatDoorBTelB
import Derived.Test.YtmoeoppbmhfbpaaGreatDoorBProgR
import Derived.Test.YtmoeoppbmhfbpaaGreatDoorBImpB
import Derived.Test.YtmoeoppbmhfbpaaGreatDoorBFacC
/- The program tells a model. -/
namespace Go.Proofs.YtmoeoppbmhfbpaaGreatDoorB
open Go.Abs
set_option linter.unusedSimpArgs false
set_option linter.unusedVariables false
set_option maxRecDepth 100000
theorem rank_uniq : ∀ {L L' : List Tup}, T3 L → L.Perm L' → Rank L → Rank L' → L = L'
 | [], L', _, hp, _, _ => by rw [hp.nil_eq]
 | a :: L, [], _, hp, _, _ => by have := hp.length_eq; simp at this
 | a :: L, b :: L', h3, hp, h1, h2 => by
  unfold Rank at h1 h2
  rw [List.pairwise_cons] at h1 h2
  have h3' : T3 (b :: L') := fun x hx => h3 x (hp.symm.subset hx)
  have hab : a = b := by
   have ha : a ∈ b :: L' := hp.subset (by simp)
   have hb : b ∈ a :: L := hp.symm.subset (by simp)
   rcases List.mem_cons.1 ha with e | ha
   ·exact e
   ·rcases List.mem_cons.1 hb with e | hb
    ·exact e.symm
    ·exact lex_tot (h3 a (by simp)) (h3' b (by simp)) (h2.1 a ha) (h1.1 b hb)
  subst hab
  rw [rank_uniq (fun x hx => h3 x (List.mem_cons_of_mem _ hx)) (List.perm_cons a |>.1 hp) h1.2 h2.2]
def insK (t : Tup) : List Tup → List Tup
 | [] => [t]
 | u :: l => if lexL t u = true then t :: u :: l else u :: insK t l
def rankL : List Tup → List Tup
 | [] => []
 | t :: l => insK t (rankL l)
theorem insK_perm (t : Tup) : ∀ l, (insK t l).Perm (t :: l)
 | [] => List.Perm.refl _
 | u :: l => by
  unfold insK
  split
  ·exact List.Perm.refl _
  ·exact ((insK_perm t l).cons u).trans (List.Perm.swap _ _ _)
theorem rankL_perm : ∀ l, (rankL l).Perm l
 | [] => List.Perm.refl _
 | t :: l => (insK_perm t _).trans ((rankL_perm l).cons t)
theorem insK_rank {t : Tup} (ht : t.length = 3) : ∀ {l : List Tup}, T3 l → Rank l → Rank (insK t l)
 | [], _, _ => by simp [insK, Rank]
 | u :: l, h3, h => by
  unfold Rank at h
  rw [List.pairwise_cons] at h
  have hu := h3 u (by simp)
  unfold insK
  split
  ·rename_i hc
   unfold Rank
   rw [List.pairwise_cons, List.pairwise_cons]
   refine ⟨fun x hx => ?_, h.1, h.2⟩
   rcases List.mem_cons.1 hx with rfl | hx
   ·exact lex_asym hc
   ·exact lex_trans ht hu (h3 x (List.mem_cons_of_mem _ hx)) (lex_asym hc) (h.1 x hx)
  ·rename_i hc
   have := insK_rank ht (fun x hx => h3 x (List.mem_cons_of_mem _ hx)) h.2
   unfold Rank at this ⊢
   rw [List.pairwise_cons]
   refine ⟨fun x hx => ?_, this⟩
   rcases List.mem_cons.1 ((insK_perm t l).subset hx) with rfl | hx
   ·simpa using hc
   ·exact h.1 x hx
theorem rankL_rank : ∀ {l : List Tup}, T3 l → Rank (rankL l)
 | [], _ => List.Pairwise.nil
 | t :: l, h3 => insK_rank (h3 t (by simp)) (fun x hx => h3 x (List.mem_cons_of_mem _ ((rankL_perm l).subset hx))) (rankL_rank (fun x hx => h3 x (List.mem_cons_of_mem _ hx)))
theorem rank_is {L l : List Tup} (h3 : T3 l) (hp : L.Perm l) (hr : Rank L) : L = rankL l :=
 rank_uniq (fun x hx => h3 x (hp.subset hx)) (hp.trans (rankL_perm l).symm) hr (rankL_rank h3)
def pieceT (nm : Tx) (t : Tup) : Tx := nm ++ [40] ++ tupX t ++ [41, 46]
def tellF (N : List Tx) (rk : Nat → List Tup) (acc : Tx × List Int) (x : RItem) : Tx × List Int :=
 if x.out = true ∧ ((N.idxOf x.head.pred : Nat) : Int) ∉ acc.2 then (acc.1 ++ (rk (N.idxOf x.head.pred)).flatMap (pieceT x.head.pred), acc.2 ++ [((N.idxOf x.head.pred : Nat) : Int)]) else acc
def tellA (N : List Tx) (rk : Nat → List Tup) (l : List RItem) : Tx × List Int := l.foldl (tellF N rk) ([], [])
def tellT (N : List Tx) (rk : Nat → List Tup) (l : List RItem) : Tx := (tellA N rk l).1
theorem tellA_snoc {N : List Tx} {rk : Nat → List Tup} {l : List RItem} {i : Nat} {x : RItem} (h : l[i]? = some x) : tellA N rk (l.take (i + 1)) = tellF N rk (tellA N rk (l.take i)) x := by
 unfold tellA
 rw [List.take_add_one, h, Option.toList_some, List.foldl_append]
 rfl
theorem tupX_len {t : Tup} (ht : t.length = 3) (hb : ∀ y ∈ t, -1 ≤ y ∧ y ≤ 9999) : (tupX t).length ≤ 60 := by
 have hl : (tups t).length ≤ 3 := by
  unfold tups
  have := (List.takeWhile_prefix (fun x => decide (x ≠ -1)) (l := t)).length_le
  omega
 have hs : ∀ y ∈ tups t, 0 ≤ y ∧ y ≤ 9999 := fun y hy => by
  have h1 := (List.takeWhile_subset _ hy : y ∈ t)
  have h2 : ∀ (l : List Int), y ∈ l.takeWhile (fun x => decide (x ≠ -1)) → y ≠ -1 := fun l => by
   induction l with
   | nil => intro h; cases h
   | cons z l ih =>
    intro h
    rw [List.takeWhile_cons] at h
    split at h
    ·rename_i hz
     rcases List.mem_cons.1 h with rfl | h
     ·simpa using hz
     ·exact ih h
    ·cases h
  have h3 := h2 t hy
  have := hb y h1
  omega
 unfold tupX
 generalize tups t = l at hl hs
 match l, hl with
 | [], _ => simp [jn]
 | [a], _ => have := itoa_len a (hs a (by simp)).1 (hs a (by simp)).2; simp [jn]; omega
 | [a, b], _ =>
  have h1 := itoa_len a (hs a (by simp)).1 (hs a (by simp)).2
  have h2 := itoa_len b (hs b (by simp)).1 (hs b (by simp)).2
  simp [jn]; omega
 | [a, b, c], _ =>
  have h1 := itoa_len a (hs a (by simp)).1 (hs a (by simp)).2
  have h2 := itoa_len b (hs b (by simp)).1 (hs b (by simp)).2
  have h3 := itoa_len c (hs c (by simp)).1 (hs c (by simp)).2
  simp [jn]; omega
set_option maxHeartbeats 64000000 in
theorem emodelText_spec (N : List Tx) (l : List RItem) (cs : List AV) (idb idi : Nat) (hB : Bk N l cs) (hNn : ∀ x ∈ l, x.head.pred.length ≤ 600) (om ot : Nat) (M : MM) (d b : Int) (hle : N.length ≤ M.length) (hnum : ∀ x ∈ M, ∀ t ∈ x.2, ∀ y ∈ t, -1 ≤ y ∧ y ≤ 9999) (σ : St) (hM : MOb σ om ot M d b) :
  ACalls Tryz.prog 49 [ptr om 0, bookA N idb l idi cs] σ fun r σ' => r = str (tellT N (fun k => rankL (tupsOf M (k : Int))) l) ∧ Keep σ σ' := by
 have hcl := EL.length PI_len hB.el
 have hl16 := hB.len
 have hN2 := hB.nm
 have hE := hB.el
 have lo := hM.lo
 have lt := hM.lt
 have hob := hM.ob
 have hoc := hM.oc
 have hpl := hM.pl
 have hml := mcells_len M
 have hc1 : ({ data := #[40] } : ByteArray) = bs [40] := rfl
 have hc2 : ({ data := #[41, 46] } : ByteArray) = bs [41, 46] := rfl
 have hc0 : ({ data := #[] } : ByteArray) = bs [] := rfl
 generalize hrk : (fun k : Nat => rankL (tupsOf M (k : Int))) = rk
 have HRK : Abs.Hid (∀ k : Nat, rk k = rankL (tupsOf M (k : Int))) := fun k => by rw [← hrk]
 clear hrk
 unfold bookA
 refine acalls 64 [.tmp 4] Tryz.func49 rfl (by decide) rfl rfl (Nat.le_of_ble_eq_true rfl) ?_
 repeat' (first
 |with_reducible first|apply Xa|apply Xb|(refine Xc ?_;intro κ hκ)|(apply hκ.out;clear hκ κ)|apply Xd|apply Xe|apply Xf
 |((with_reducible first|refine Xl ?_ ?_|refine Xm ?_ ?_|refine Xk ?_ ?_)<;> intro h hari<;> try exact Xp)
 |((with_reducible refine aapp_go ?_);refine Xt ?_;intro idn σn hOn hKn eobj enobj ever entop)
 |((with_reducible refine aappn_go ?_);refine Xu ?_)
 |refine Xw ?_
 |exact True.intro
 |((with_reducible refine Xg ?_);refine Xj ?_)
 |(apply hκ.out;clear hκ κ))
 refine awp_loop (fun m s σ' => ∃ (i i6 : Nat), m = l.length - i ∧ i ≤ l.length ∧ s 0 = ptr om 0 ∧ s 3 = ptr σ.nobj 0 ∧ s 5 = str (tellA N rk (l.take i)).1 ∧ s 6 = sl i6 (tellA N rk (l.take i)).2.length (icells (tellA N rk (l.take i)).2) ∧ s 14 = sl idi l.length cs ∧ s 15 = ic l.length ∧ s 16 = ic i ∧ Keep σ σ' ∧ σ.nobj < σ'.nobj ∧ σ'.obj σ.nobj = [sl idb N.length (N.map str), sl idi l.length cs] ∧ Own σ σ' i6 (tellA N rk (l.take i)).2.length ∧ (tellA N rk (l.take i)).2.length ≤ i ∧ (tellA N rk (l.take i)).1.length ≤ i * 4000000) l.length
  ⟨0, 1, by omega, by omega, by simp [upd, initS], by simp [upd], by simp [upd, tellA]; try rfl, by simp [upd, tellA, icells], by simp [upd], by simp [upd], by simp [upd], by exact Xs, by simp only [new_nobj]; omega, by rw [new_same], by simp [tellA, Own.nil], by simp [tellA], by simp [tellA]⟩ ?_
 rintro m s σ' ⟨i, i6, rfl, hi, h0, h3, h5, h6, h14, h15, h16, hK, hno, ob0, hO, htl, hxl⟩
 have kno := hK.nobj
 by_cases hlt : i < l.length
 ·have hget := List.getElem?_eq_getElem hlt
  obtain ⟨hm, ih, id, bb, r, hb, hd⟩ := EL_PI hE hget
  have hxm := List.getElem_mem hlt
  generalize l[i] = x at hd hget hb hm hxm
  have HS : Abs.Hid _ := tellA_snoc (N := N) (rk := rk) hget
  generalize hTe : tellA N rk (l.take i) = T at *
  clear hget hTe
  obtain ⟨T1, T2⟩ := T
  simp only at h5 h6 hO htl hxl
  cases hxo : x.out with
  | false =>
   rw [hxo] at hd
   have HN : Abs.Hid (tellA N rk (l.take (i + 1)) = (T1, T2)) := by rw [Abs.Hid, HS.out, tellF, if_neg (by simp [hxo])]
   clear hxo HS
   repeat' (first
 |with_reducible first|apply Xa|apply Xb|(refine Xc ?_;intro κ hκ)|(apply hκ.out;clear hκ κ)|apply Xd|apply Xe|apply Xf
 |((with_reducible first|refine Xl ?_ ?_|refine Xm ?_ ?_|refine Xk ?_ ?_)<;> intro h hari<;> try exact Xp)
 |((with_reducible refine aapp_go ?_);refine Xt ?_;intro idn σn hOn hKn eobj enobj ever entop)
 |((with_reducible refine aappn_go ?_);refine Xu ?_)
 |refine Xw ?_
 |exact True.intro
 |((with_reducible refine Xg ?_);refine Xj ?_)
 |(apply hκ.out;clear hκ κ))
   refine ⟨l.length - (i + 1), by omega, i + 1, i6, ?_⟩
   rw [HN.out]
   refine ⟨rfl, by omega, rfl, rfl, by simp, (hK.new _).put hK.nobj _, by omega, Own.put (Own.new hO _) _ _, Nat.le_trans htl (Nat.le_succ i), ?_⟩
   exact Nat.le_trans hxl (Nat.mul_le_mul_right _ (Nat.le_succ i))
  | true =>
   rw [hxo] at hd
   have hix := List.idxOf_lt_length_iff.2 hm
   have hPl := fun σ => eplaceOf_spec ((N.idxOf x.head.pred : Nat) : Int) T2 i6 (by omega) σ
   have hti := icells_len T2
   by_cases hin : ((N.idxOf x.head.pred : Nat) : Int) ∈ T2
   ·have HN : Abs.Hid (tellA N rk (l.take (i + 1)) = (T1, T2)) := by rw [Abs.Hid, HS.out, tellF, if_neg (by simp [hin])]
    rw [if_pos hin] at hPl
    have hne : (((T2.idxOf ((N.idxOf x.head.pred : Nat) : Int) : Nat) : Int) != -1) = true := by simp
    generalize T2.idxOf ((N.idxOf x.head.pred : Nat) : Int) = q at hPl hne
    clear hxo HS hin
    repeat' (first
 |with_reducible first|apply Xa|apply Xb|(refine Xc ?_;intro κ hκ)|(apply hκ.out;clear hκ κ)|apply Xd|apply Xe|apply Xf
 |((with_reducible first|refine Xl ?_ ?_|refine Xm ?_ ?_|refine Xk ?_ ?_)<;> intro h hari<;> try exact Xp)
 |((with_reducible refine aapp_go ?_);refine Xt ?_;intro idn σn hOn hKn eobj enobj ever entop)
 |((with_reducible refine aappn_go ?_);refine Xu ?_)
 |((with_reducible refine Xh ?_);refine Xi (hPl _) ?_;rintro _ _ ⟨rfl,hK2⟩;(have hKx:=((hK.new _).put hK.nobj _).trans hK2;have kno2:=hK2.nobj;have kob2:=hK2.obj;simp only [put_nobj,new_nobj] at kno2 kob2;have hOx:=Own.keep (Own.put (Own.new hO _) _ _) hK2))
 |refine Xw ?_
 |exact True.intro
 |((with_reducible refine Xg ?_);refine Xj ?_)
 |(apply hκ.out;clear hκ κ))
    rename_i σ2
    have ob2 : σ2.obj σ.nobj = [sl idb N.length (N.map str), sl idi l.length cs] := by rw [kob2 _ (by omega), put_ne (by omega), new_lt (by omega), ob0]
    refine ⟨l.length - (i + 1), by omega, i + 1, i6, ?_⟩
    rw [HN.out]
    refine ⟨rfl, by omega, rfl, rfl, by simp, by omega, hOx, Nat.le_trans htl (Nat.le_succ i), ?_⟩
    exact Nat.le_trans hxl (Nat.mul_le_mul_right _ (Nat.le_succ i))
   ·rw [if_neg hin] at hPl
    have hgx : M[N.idxOf x.head.pred]? = some (M[N.idxOf x.head.pred]'(by omega)) := List.getElem?_eq_getElem (by omega)
    generalize M[N.idxOf x.head.pred]'(by omega) = y at hgx
    have hym := List.mem_of_getElem? hgx
    have hmg := mcells_get hgx
    have hRk := fun σ => inRank_spec y.2 y.1 (hM.t3 y hym) (hM.ln y hym) σ
    have HN : Abs.Hid (∀ L, L.Perm y.2 → Rank L → tellA N rk (l.take (i + 1)) = (T1 ++ L.flatMap (pieceT x.head.pred), T2 ++ [((N.idxOf x.head.pred : Nat) : Int)])) := fun L h1 h2 => by
     rw [HS.out, tellF, if_pos ⟨hxo, hin⟩]
     have : rk (N.idxOf x.head.pred) = L := by rw [HRK.out, show tupsOf M ((N.idxOf x.head.pred : Nat) : Int) = y.2 by simp [tupsOf, hgx], rank_is (hM.t3 y hym) h1 h2]
     rw [this]
    have hnd : (N.map str).drop (N.idxOf x.head.pred) = str x.head.pred :: (N.map str).drop (N.idxOf x.head.pred + 1) := by
     rw [List.drop_eq_getElem_cons (by simpa using hix)]
     simp
    have hnl := hNn x hxm
    have hyl := hM.ln y hym
    have hyn := hnum y hym
    have hy3 := hM.t3 y hym
    generalize (N.map str).drop (N.idxOf x.head.pred + 1) = rest at hnd
    generalize hxe : N.idxOf x.head.pred = ix at *
    generalize x.head.pred = nm at *
    clear hxo HS hin hxe hgx
    have hobm' : σ'.obj om = [fx ot 0 M.length, ic d, ic b] := by rw [hK.obj _ lo, hob]
    have hobt' : σ'.obj ot = mcells M := by rw [hK.obj _ lt, hoc]
    repeat' (first
 |with_reducible first|apply Xa|apply Xb|(refine Xc ?_;intro κ hκ)|(apply hκ.out;clear hκ κ)|apply Xd|apply Xe|apply Xf
 |((with_reducible first|refine Xl ?_ ?_|refine Xm ?_ ?_|refine Xk ?_ ?_)<;> intro h hari<;> try exact Xp)
 |((with_reducible refine aapp_go ?_);refine Xt ?_;intro idn σn hOn hKn eobj enobj ever entop)
 |((with_reducible refine aappn_go ?_);refine Xu ?_)
 |((with_reducible refine Xh ?_);first|(refine Xi (hPl _) ?_;rintro _ _ ⟨rfl,hK2⟩;(have hKx:=((hK.new _).put hK.nobj _).trans hK2;have kno2:=hK2.nobj;have kob2:=hK2.obj;simp only [put_nobj,new_nobj] at kno2 kob2;have hOx:=Own.keep (Own.put (Own.new hO _) _ _) hK2;have hobm:=hKx.obj om lo;rw [hob] at hobm;have hobt:=hKx.obj ot lt;rw [hoc] at hobt;have ob2:=kob2 σ.nobj (by omega);rw [put_ne (by omega),new_lt (by omega),ob0] at ob2))|(refine Xi (hRk _) ?_;rintro _ _ ⟨idr,L,rfl,hLp,hLr,hK3⟩;(have hKy:=hKn.trans hK3;have kno3:=hK3.nobj;have kob3:=hK3.obj;have hOy:=Own.keep hOn hK3;have HN2 : Abs.Hid _:=HN.out L hLp hLr)))
 |refine Xw ?_
 |exact True.intro
 |((with_reducible refine Xg ?_);refine Xj ?_)
 |(apply hκ.out;clear hκ κ))
    rename_i σ2 _ σ3
    have ob3 : σ3.obj σ.nobj = [sl idb N.length (N.map str), sl idi l.length cs] := by rw [kob3 _ (by omega), eobj, ob2]
    have hLl : L.length ≤ 5000 := by rw [hLp.length_eq]; exact hyl
    have hL3 : T3 L := fun u hu => hy3 u (hLp.subset hu)
    have hLn : ∀ u ∈ L, ∀ z ∈ u, -1 ≤ z ∧ z ≤ 9999 := fun u hu => hyn u (hLp.subset hu)
    have htc := tcs_len hL3
    refine awp_loop (fun m s σ4 => ∃ (j : Nat) (W : Tx), m = L.length - j ∧ j ≤ L.length ∧ s 0 = ptr om 0 ∧ s 3 = ptr σ.nobj 0 ∧ s 5 = str W ∧ s 6 = sl idn (T2.length + 1) (icells T2 ++ [ic ix]) ∧ s 9 = ic ix ∧ s 14 = sl idi l.length cs ∧ s 15 = ic l.length ∧ s 16 = ic i ∧ s 43 = sl idr L.length (tcs L) ∧ s 44 = ic L.length ∧ s 45 = ic j ∧ Keep σ σ4 ∧ σ.nobj < σ4.nobj ∧ σ4.obj σ.nobj = [sl idb N.length (N.map str), sl idi l.length cs] ∧ Own σ σ4 idn (T2.length + 1) ∧ W.length ≤ i * 4000000 + j * 700 ∧ Abs.Hid (W = T1 ++ (L.take j).flatMap (pieceT nm))) L.length
     ⟨0, T1, by omega, by omega, by simp [upd, *], by simp [upd, *], by simp [upd, *], by simp [upd, *], by simp [upd, *], by simp [upd, *], by simp [upd, *], by simp [upd, *], by simp [upd, *], by simp [upd, *], by simp [upd], hKy, by omega, ob3, hOy, Nat.le_trans hxl (Nat.le_add_right _ _), by simp [Abs.Hid]⟩ ?_
    clear h0 h3 h5 h6 h14 h15 h16 hK hno ob0 hO kno hobm' hobt' hKx kno2 kob2 hOx hobm hobt ob2 hOn hKn eobj enobj ever entop hK3 hKy kno3 kob3 hOy ob3 hPl hRk hK2
    rintro m s σ4 ⟨j, W, rfl, hj, h0, h3, h5, h6, h9, h14, h15, h16, h43, h44, h45, hK, hno, ob0, hO, hWl, hW⟩
    have kno := hK.nobj
    by_cases hltj : j < L.length
    ·have hget := List.getElem?_eq_getElem hltj
     obtain ⟨ht3, r5, hd5⟩ := tcs_get3 hL3 hget
     have htn := hLn _ (List.getElem_mem hltj)
     generalize L[j] = t at hd5 hget ht3 htn
     have HTK : Abs.Hid (∀ W', W' = W ++ pieceT nm t → W' = T1 ++ (L.take (j + 1)).flatMap (pieceT nm)) := fun W' e => by
      rw [e, hW.out, List.take_add_one, hget, Option.toList_some]; simp
     have hTx := fun σ => etupText_spec t ht3 htn σ
     have htl3 := tupX_len ht3 htn
     clear hget hW
     have f1 := i3_len ht3
     have f2 := i3_take ht3
     have f3 := i3_take0 ht3
     have f4 := i3_lsp ht3
     have f5 := icells_flat t
     have f6 := i3_le ht3
     generalize hpe : tupX t = px at hTx htl3
     have HPE : Abs.Hid (pieceT nm t = nm ++ [40] ++ px ++ [41, 46]) := by rw [Abs.Hid, pieceT, hpe]
     clear hpe
     repeat' (first
 |with_reducible first|apply Xa|apply Xb|(refine Xc ?_;intro κ hκ)|(apply hκ.out;clear hκ κ)|apply Xd|apply Xe|apply Xf
 |((with_reducible first|refine Xl ?_ ?_|refine Xm ?_ ?_|refine Xk ?_ ?_)<;> intro h hari<;> try exact Xp)
 |((with_reducible refine aapp_go ?_);refine Xt ?_;intro idn σn hOn hKn eobj enobj ever entop)
 |((with_reducible refine aappn_go ?_);refine Xu ?_)
 |refine Xw ?_
 |exact True.intro
 |((with_reducible refine Xg ?_);refine Xj ?_)
 |(apply hκ.out;clear hκ κ))
     have hK1 : Keep σ ((σ4.new [ic 0, ic 0, ic 0]).put σ4.nobj (icells t)) := (hK.new _).put hK.nobj _
     generalize hσb : (σ4.new [ic 0, ic 0, ic 0]).put σ4.nobj (icells t) = σb at *
     have nb : σb.nobj = σ4.nobj + 1 := by rw [← hσb]; rfl
     have o11 : σb.obj σ4.nobj = icells t := by rw [← hσb, put_same]
     have o3 : σb.obj σ.nobj = [sl idb N.length (N.map str), sl idi l.length cs] := by rw [← hσb, put_ne (by omega), new_lt (by omega), ob0]
     have hOb : Own σ σb idn (T2.length + 1) := by rw [← hσb]; exact Own.put (Own.new hO _) _ _
     clear hσb
     refine awp_mono (Q := fun e s' σ'' => e = .normal ∧ s' 0 = ptr om 0 ∧ s' 3 = ptr σ.nobj 0 ∧ s' 5 = str (W ++ (nm ++ [40] ++ px ++ [41, 46])) ∧ s' 6 = sl idn (T2.length + 1) (icells T2 ++ [ic ix]) ∧ s' 9 = ic ix ∧ s' 14 = sl idi l.length cs ∧ s' 15 = ic l.length ∧ s' 16 = ic i ∧ s' 43 = sl idr L.length (tcs L) ∧ s' 44 = ic L.length ∧ s' 45 = ic j ∧ Keep σb σ'') ?_ ?_
     ·refine awp_draw_h follows_mixed (fun _ => True) [] [0, 1, 2, 3, 4, 5, 6, 7] 5 #[true, true, true, true, true, true, true, true, false, false, false, false, false] (by kernel_rfl) (fun _ _ _ h => by cases h.1) ?_; intro κ hκ; refine Xw ?_; refine hκ.out _ ?_; clear hκ κ
      refine uany_one (i := 8) (by kernel_rfl) ?_; refine aOne_k ?_; intro κ hκ; refine Xw ?_
      refine ACalls.mono (hTx _) ?_
      rintro _ σ5 ⟨rfl, hK5⟩
      refine Xw ?_
      refine hκ.out _ _ ⟨kept_keep hK5, ?_⟩; clear hκ κ
      refine uany_rest [9, 10, 11, 12] (by kernel_rfl) (by kernel_rfl) (fun _ _ _ h => by cases h.1) hK5.nobj (fun o ho _ => hK5.ver o ho) ?_
      intro κ hκ
      refine Xw ?_
      refine hκ.out _ _ ⟨rfl, ?_⟩
      simp [upd, *]
     ·rintro e s' σ5 ⟨rfl, g0, g3, g5, g6, g9, g14, g15, g16, g43, g44, g45, hK5⟩
      have kn5 := hK5.nobj
      have o5 : σ5.obj σ.nobj = [sl idb N.length (N.map str), sl idi l.length cs] := by rw [hK5.obj _ (by omega), o3]
      have hKz := hK1.trans hK5
      have hOz := Own.keep hOb hK5
      have HW2 : Abs.Hid (W ++ (nm ++ [40] ++ px ++ [41, 46]) = T1 ++ (L.take (j + 1)).flatMap (pieceT nm)) := HTK.out _ (by rw [HPE.out])
      have hwl : (W ++ (nm ++ [40] ++ px ++ [41, 46])).length ≤ i * 4000000 + (j + 1) * 700 := by simp; omega
      clear h0 h3 h5 h6 h9 h14 h15 h16 h43 h44 h45 hK1 o3 o11 hOb ob0 hO hK kno HTK hTx
      generalize W ++ (nm ++ [40] ++ px ++ [41, 46]) = W2 at *
      repeat' (first
 |with_reducible first|apply Xa|apply Xb|(refine Xc ?_;intro κ hκ)|(apply hκ.out;clear hκ κ)|apply Xd|apply Xe|apply Xf
 |((with_reducible first|refine Xl ?_ ?_|refine Xm ?_ ?_|refine Xk ?_ ?_)<;> intro h hari<;> try exact Xp)
 |((with_reducible refine aapp_go ?_);refine Xt ?_;intro idn σn hOn hKn eobj enobj ever entop)
 |((with_reducible refine aappn_go ?_);refine Xu ?_)
 |refine Xw ?_
 |exact True.intro
 |((with_reducible refine Xg ?_);refine Xj ?_)
 |(apply hκ.out;clear hκ κ))
      refine ⟨L.length - (j + 1), by omega, j + 1, W2, ?_⟩
      ((repeat' with_reducible refine And.intro ?_ ?_)<;> first|exact Xq|exact (HW2)|exact Xs)
    ·have hjl : j = L.length := by omega
     subst hjl
     have hW2 := hW.out
     rw [List.take_length] at hW2
     repeat' (first
 |with_reducible first|apply Xa|apply Xb|(refine Xc ?_;intro κ hκ)|(apply hκ.out;clear hκ κ)|apply Xd|apply Xe|apply Xf
 |((with_reducible first|refine Xl ?_ ?_|refine Xm ?_ ?_|refine Xk ?_ ?_)<;> intro h hari<;> try exact Xp)
 |((with_reducible refine aapp_go ?_);refine Xt ?_;intro idn σn hOn hKn eobj enobj ever entop)
 |((with_reducible refine aappn_go ?_);refine Xu ?_)
 |refine Xw ?_
 |exact True.intro
 |((with_reducible refine Xg ?_);refine Xj ?_)
 |(apply hκ.out;clear hκ κ))
     refine ⟨l.length - (i + 1), by omega, i + 1, idn, ?_⟩
     rw [HN2.out]
     have hlen : (T1 ++ L.flatMap (pieceT nm)).length ≤ (i + 1) * 4000000 := by
      rw [← hW2, Nat.succ_mul]
      exact Nat.le_trans hWl (Nat.add_le_add_left (by omega) _)
     have hsl : (T2 ++ [(ix : Int)]).length = T2.length + 1 := by simp
     refine ⟨rfl, by omega, rfl, ?_, by simp, ?_, ?_, hlen⟩
     ·show _ = sl idn (T2 ++ [(ix : Int)]).length (icells (T2 ++ [(ix : Int)]))
      rw [hsl, icells_snoc]
     ·show Own σ σ4 idn (T2 ++ [(ix : Int)]).length
      rw [hsl]; exact hO
     ·show (T2 ++ [(ix : Int)]).length ≤ i + 1
      rw [hsl]; omega
 ·have hil : i = l.length := by omega
  subst hil
  rw [List.take_length] at h5
  repeat' (first
 |with_reducible first|apply Xa|apply Xb|(refine Xc ?_;intro κ hκ)|(apply hκ.out;clear hκ κ)|apply Xd|apply Xe|apply Xf
 |((with_reducible first|refine Xl ?_ ?_|refine Xm ?_ ?_|refine Xk ?_ ?_)<;> intro h hari<;> try exact Xp)
 |((with_reducible refine aapp_go ?_);refine Xt ?_;intro idn σn hOn hKn eobj enobj ever entop)
 |((with_reducible refine aappn_go ?_);refine Xu ?_)
 |refine Xw ?_
 |exact True.intro
 |((with_reducible refine Xg ?_);refine Xj ?_)
 |(apply hκ.out;clear hκ κ))
  first | exact ⟨_, rfl, rfl, hK⟩ | exact ⟨_, rfl, rfl⟩
/- The program's Run, in words: what a right program and right facts are. -/
theorem firstO_neg {p : Nat → Bool} {n : Nat} (h : ¬ 0 ≤ firstN p n) : ∀ i, i < n → p i = false := by
 intro i hi
 unfold firstN at h
 split at h
 ·rename_i j hj; exact absurd (Int.natCast_nonneg j) h
 ·rename_i hn
  have := List.find?_range_eq_none.1 hn i hi
  simpa using this
structure RtI (l : List RItem) : Prop where
 odd : ∀ i, i < l.length → oddP l i = false
 saf : ∀ x ∈ l, safeB x = true
 kn : ∀ i, i < l.length → knotP l i = false
theorem rti_of {l : List RItem} (h : (wrongM l).1 = 0) : RtI l := by
 unfold wrongM at h
 split at h
 ·simp at h
 rename_i h1
 split at h
 ·simp at h
 rename_i h2
 split at h
 ·simp at h
 rename_i h3
 refine ⟨firstO_neg h1, fun x hx => ?_, firstO_neg h3⟩
 obtain ⟨i, hi⟩ := List.getElem?_of_mem hx
 have := firstO_neg h2 i (List.getElem?_eq_some_iff.1 hi).1
 unfold unsafeP at this
 rw [hi] at this
 simpa using this
theorem wrong_of {t : Tx} {l : List RItem} (h : (refCheck t).1 = 0) (hp : pItems 16 t = .got l []) : t.length ≤ 600 ∧ (wrongM l).1 = 0 := by
 unfold refCheck at h
 split at h
 ·simp at h
 rename_i h1
 split at h
 ·simp at h
 obtain ⟨-, e, -, -⟩ := parse_good (by omega) hp
 rw [e] at h
 exact ⟨by omega, h⟩
theorem cons_right {l : List RItem} (h : ∀ i, i < l.length → oddP l i = false) (hp : ∀ x ∈ l, ∀ a ∈ atomsL x, 0 < a.terms.length) : consS (l.flatMap atomsL) := by
 have key : ∀ i, i ≤ l.length → consS (priorL l i) := by
  intro i
  induction i with
  | zero => intro _; simp [priorL, cons_nil]
  | succ i ih =>
   intro hi
   have hg := List.getElem?_eq_getElem (show i < l.length by omega)
   generalize l[i] = x at hg
   rw [prior_succ hg]
   have inner : ∀ j, j ≤ (atomsL x).length → consS (seenL l x i j) := by
    intro j
    induction j with
    | zero => intro _; simpa [seenL] using ih (by omega)
    | succ j jh =>
     intro hj
     have hgj := List.getElem?_eq_getElem (show j < (atomsL x).length by omega)
     have hm := List.getElem_mem (show j < (atomsL x).length by omega)
     generalize (atomsL x)[j] = a at hgj hm
     rw [seen_succ hgj]
     refine cons_snoc (jh (by omega)) (hp x (List.mem_of_getElem? hg) a hm) ?_
     have h1 := h i (by omega)
     unfold oddP at h1
     rw [hg] at h1
     have h2 := List.any_eq_false.1 h1 j (by rw [List.mem_range]; omega)
     unfold oddAt at h2
     rw [hgj] at h2
     simpa using h2
   exact inner _ (Nat.le_refl _)
 have := key l.length (Nat.le_refl _)
 simpa [priorL] using this
theorem cons_clash {S : List RAtom} (h : consS S) {a b : RAtom} (ha : a ∈ S) (hb : b ∈ S) : clash a b = false := by
 unfold clash
 by_cases e : b.pred = a.pred
 ·have h1 := (h a ha).2
  have h2 := (h b hb).2
  rw [e] at h2
  simp [e]; omega
 ·simp [e]
theorem cons_pre {S : List RAtom} (h : consS S) : ∀ T, T <+: S → ∀ a ∈ S, T.any (clash a) = false := fun T hT a ha => by
 rw [List.any_eq_false]
 intro b hb
 rw [cons_clash h ha (hT.subset hb)]
 simp
theorem cons_facts : ∀ {F A : List RAtom}, consS A → (∀ a ∈ F, 0 < a.terms.length) → othF A F = false → consS (A ++ F)
 | [], A, h, _, _ => by simpa using h
 | a :: F, A, h, hp, ho => by
  unfold othF at ho
  rw [Bool.or_eq_false_iff] at ho
  have := cons_facts (F := F) (A := A ++ [a]) (cons_snoc h (hp a (by simp)) ho.1) (fun b hb => hp b (by simp [hb])) ho.2
  simpa using this
theorem oth_of : ∀ {F A : List RAtom}, consS (A ++ F) → othF A F = false
 | [], A, _ => rfl
 | a :: F, A, h => by
  unfold othF
  rw [Bool.or_eq_false_iff]
  refine ⟨?_, oth_of (by simpa using h)⟩
  rw [List.any_eq_false]
  intro b hb
  rw [cons_clash h (by simp) (by simp [hb])]
  simp
def arA (N : List Tx) (S : List RAtom) (k : Nat) : Nat := cntL S (N.getD k [])
theorem getD_idx {N : List Tx} {p : Tx} (h : p ∈ N) : N.getD (N.idxOf p) [] = p := by
 have hl := List.idxOf_lt_length_of_mem h
 rw [List.getD_eq_getElem?_getD, List.getElem?_eq_getElem hl, Option.getD_some]
 exact List.getElem_idxOf hl
theorem arA_eq {N : List Tx} {S : List RAtom} (hS : consS S) {a : RAtom} (ha : a ∈ S) (hm : a.pred ∈ N) : a.terms.length = arA N S (N.idxOf a.pred) := by
 unfold arA
 rw [getD_idx hm]
 exact (hS a ha).2
theorem enc_lim {w : Tx} (hv : VT w) (hd : DT w) : ((encT w).1 = true → 0 ≤ (encT w).2 ∧ (encT w).2 < 26) ∧ ((encT w).1 = false → ∃ n : Nat, (encT w).2 = (n : Int) ∧ n < 1026) := by
 rcases hv with ⟨b, rfl, hl⟩ | ⟨hn, hdg⟩
 ·rw [encT_large hl]
  unfold largeB at hl
  simp at hl
  exact ⟨(fun _ => by simp only; omega), (fun h => by cases h)⟩
 ·have hvb : variableB w = false := by
   cases w with
   | nil => rfl
   | cons b r =>
    have := hdg b (by simp)
    unfold variableB digitB at *
    unfold largeB
    simp at this ⊢
    omega
  have he := enc_var (.inr ⟨hn, hdg⟩ : VT w)
  rw [he, hvb]
  refine ⟨(fun h => by cases h), fun _ => ?_⟩
  rcases hd with h | ⟨-, -, h1, h2⟩
  ·rw [hvb] at h; cases h
  ·exact ⟨(encT w).2.toNat, by omega, by omega⟩
theorem rulP_pre {N N' : List Tx} (h : N <+: N') {x : RItem} (hx : x.head.pred ∈ N ∧ ∀ a ∈ x.body, a.pred ∈ N) : rulP N' x = rulP N x := by
 unfold rulP
 congr 1
 ·unfold atmP
  rw [idx_pre h hx.1]
 ·apply List.map_congr_left
  intro a ha
  unfold litP atmP
  rw [idx_pre h (hx.2 a ha)]
theorem rwR_of {N : List Tx} {S : List RAtom} {x : RItem} (hS : consS S) (hA : ∀ a ∈ atomsL x, a ∈ S) (hm : x.head.pred ∈ N ∧ ∀ a ∈ x.body, a.pred ∈ N) (ho : x.out = false) (hw : WItem x) (hv : ∀ a ∈ atomsL x, VA a) (hd : ∀ a ∈ atomsL x, ∀ w ∈ a.terms, DT w) (hs : safeB x = true) (hn : ∀ a ∈ x.body, a.nt = true → a.pred ≠ x.head.pred) : RW N.length (arA N S) (rulP N x) := by
 have hat : ∀ a, a = x.head ∨ a ∈ x.body → a ∈ atomsL x := fun a ha => by
  rcases ha with rfl | ha <;> simp [atomsL, ho, *]
 obtain ⟨w1, w2, w3, w4⟩ := hw.2.2 ho
 have hb : ∀ l ∈ (rulP N x).body, ∃ a ∈ x.body, l = litP N a := fun l hl => by
  obtain ⟨a, ha, rfl⟩ := List.mem_map.1 hl
  exact ⟨a, ha, rfl⟩
 have hvm : ∀ (ts : List Tx) (v : Int), (true, v) ∈ ts.map encT → ∃ w ∈ ts, (encT w).1 = true ∧ (encT w).2 = v := fun ts v h => by
  obtain ⟨w, hw, e⟩ := List.mem_map.1 h
  exact ⟨w, hw, by rw [e], by rw [e]⟩
 have hlim : ∀ a ∈ atomsL x, ∀ w ∈ a.terms, _ := fun a ha w hw' => enc_lim (hv a ha w hw') (hd a ha w hw')
 have hlt : ∀ p ∈ N, N.idxOf p < N.length := fun p hp => List.idxOf_lt_length_of_mem hp
 refine ⟨⟨by simp [rulP, atmP]; exact w1.2.2.1, ⟨_, rfl, hlt _ hm.1⟩, by simp [rulP]; omega, fun l hl => ?_, fun l hl => ?_⟩, fun l hl hn' => ?_, ?_, fun l hl => ?_, fun t ht hc => ?_, fun v hv' => ?_, fun l hl v hv' => ?_, fun v hv' => ?_⟩
 ·obtain ⟨a, ha, rfl⟩ := hb l hl
  simp [litP, atmP]; exact (w4 a ha).2.2.1
 ·obtain ⟨a, ha, rfl⟩ := hb l hl
  exact ⟨_, rfl, hlt _ (hm.2 a ha)⟩
 ·obtain ⟨a, ha, rfl⟩ := hb l hl
  intro e
  simp only [litP, atmP, rulP] at e
  exact hn a ha hn' (idx_inj (hm.2 a ha) hm.1 (by omega))
 ·simp only [rulP, atmP, List.length_map, Int.toNat_natCast]
  exact arA_eq hS (hA _ (hat _ (.inl rfl))) hm.1
 ·obtain ⟨a, ha, rfl⟩ := hb l hl
  simp only [litP, atmP, List.length_map, Int.toNat_natCast]
  exact arA_eq hS (hA _ (hat _ (.inr ha))) (hm.2 a ha)
 ·obtain ⟨w, hw', rfl⟩ := List.mem_map.1 ht
  exact (hlim _ (hat _ (.inl rfl)) w hw').2 hc
 ·obtain ⟨w, hw', e1, e2⟩ := hvm _ v hv'
  rw [← e2]
  exact (hlim _ (hat _ (.inl rfl)) w hw').1 e1
 ·obtain ⟨a, ha, rfl⟩ := hb l hl
  obtain ⟨w, hw', e1, e2⟩ := hvm _ v hv'
  rw [← e2]
  exact (hlim _ (hat _ (.inr ha)) w hw').1 e1
 ·have hex : ∃ a ∈ atomsL x, ∃ w ∈ a.terms, (encT w).1 = true ∧ (encT w).2 = v := by
   rcases hv' with h | ⟨l, hl, -, h⟩
   ·obtain ⟨w, h1, h2, h3⟩ := hvm _ v (hasV_iff.1 h)
    exact ⟨_, hat _ (.inl rfl), w, h1, h2, h3⟩
   ·obtain ⟨a, ha, rfl⟩ := hb l hl
    obtain ⟨w, h1, h2, h3⟩ := hvm _ v (hasV_iff.1 h)
    exact ⟨a, hat _ (.inr ha), w, h1, h2, h3⟩
  obtain ⟨a, ha, w, hwm, e1, e2⟩ := hex
  have hbd : boundB x w = true := by
   unfold safeB at hs
   simp only [Bool.not_eq_true'] at hs
   have h1 := List.any_eq_false.1 hs a ha
   unfold badA at h1
   simp only [List.any_eq_true, not_exists, not_and] at h1
   have h2 := h1 w hwm
   unfold badT at h2
   rw [← enc_var (hv a ha w hwm), e1] at h2
   simpa using h2
  unfold boundB at hbd
  rw [List.any_eq_true] at hbd
  obtain ⟨c, hc, hcw⟩ := hbd
  rw [List.any_eq_true] at hcw
  obtain ⟨u, hu, hcu⟩ := hcw
  simp only [Bool.and_eq_true, Bool.not_eq_true', beq_iff_eq] at hcu
  refine ⟨litP N c, List.mem_map.2 ⟨c, hc, rfl⟩, hcu.1, ?_⟩
  rw [hasV_iff]
  refine List.mem_map.2 ⟨u, hu, ?_⟩
  rw [hcu.2, ← e1, ← e2]
end Go.Proofs.YtmoeoppbmhfbpaaGreatDoorB
