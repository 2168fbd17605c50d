import Derived.Test.YtmoeoppbmhfbpaaGreatDoorYRefE
import Derived.Test.YtmoeoppbmhfbpaaGreatDoorYRefJ
/- The document's own answer: the items of a text. -/
namespace Go.Proofs.YtmoeoppbmhfbpaaGreatDoorY
open Go.Abs
set_option linter.unusedSimpArgs false
set_option linter.unusedVariables false
set_option maxRecDepth 100000
def queryB : List UInt8 → Bool
 | [] => false
 | b :: _ => (b.toNat : Int) == 63
def outL (t : List UInt8) : RItem := { out := true, head := { nt := false, pred := (t.drop 1).take (t.length - 1), terms := [] }, body := [] }
def ruleL (t : List UInt8) : RItem :=
 { out := false, head := atomL ((t.drop 0).take (findN t 58 - 0)), body := if findN t 58 < t.length then (cutL ((t.drop (findN t 58 + 2)).take (t.length - (findN t 58 + 2))) 44).map atomL else [] }
def itemL (t : List UInt8) : RItem := if queryB t then outL t else ruleL t
def itemsL (s : List UInt8) : List RItem := (cutL s 46).map itemL
def pieceOk (t : List UInt8) : Prop := t.length ≤ 1000 ∧ t ≠ [] ∧ (queryB t = false → findN t 58 < t.length → findN t 58 + 2 ≤ t.length)
theorem take_map_succ {α β : Type} {l : List α} {k : Nat} {a : α} (f : α → β) (h : l[k]? = some a) : (l.take (k + 1)).map f = (l.take k).map f ++ [f a] := by
 rw [List.take_add_one, h]; simp
theorem cutAux_piece (c : Int) : ∀ (s : List UInt8) (d : Bool) (cur : List UInt8), ∀ t ∈ cutAux c s d cur, t.length ≤ cur.length + s.length
 | [], d, cur => by
  unfold cutAux; split
  ·intro t ht; cases ht
  ·intro t ht; simp at ht; subst ht; simp
 | b :: r, d, cur => by
  unfold cutAux
  all_goals
   simp only []
   generalize (if ((b.toNat : Int) == 41) = true then false else _) = d2
   split
   ·intro t ht
    rcases List.mem_cons.1 ht with rfl | ht
    ·simp
    ·have := cutAux_piece c r d2 [] t ht; simp at this ⊢; omega
   ·intro t ht
    have := cutAux_piece c r d2 (cur ++ [b]) t ht; simp at this ⊢; omega
theorem cutL_piece {s : List UInt8} {c : Int} {t : List UInt8} (h : t ∈ cutL s c) : t.length ≤ s.length := by
 have := cutAux_piece c s false [] t h; simpa using this
theorem cutL_count {s : List UInt8} {c : Int} : (cutL s c).length ≤ s.length + 1 := cutAux_length c s false []
set_option maxHeartbeats 16000000 in
theorem items_spec (s : List UInt8) (hs : s.length ≤ 1000) (hc : (cutL s 46).length ≤ 1000) (hp : ∀ t ∈ cutL s 46, pieceOk t) (σ : St) : ACalls Tryz.prog 88 [str s] σ fun r σ' => ∃ id cs, r = sl id (itemsL s).length cs ∧ EL EItem (itemsL s) cs ∧ Keep σ σ' := by
 refine acalls 70 [.tmp 2] Tryz.func88 rfl (by decide) rfl rfl (Nat.le_of_ble_eq_true rfl) ?_
 repeat' (first
 |with_reducible first|apply Xa|apply Xb|(refine Xc ?_;intro κ hκ)|(apply hκ.out;clear hκ κ)|apply Xd|apply Xe|apply Xf
 |((with_reducible first|refine Xl ?_ ?_|refine Xm ?_ ?_|refine Xk ?_ ?_)<;> intro h hari<;> try exact Xp)
 |((with_reducible refine aapp_go ?_);refine Xt ?_;intro idn σn hOn hKn eobj enobj ever entop)
 |((with_reducible refine aappn_go ?_);refine Xu ?_)
 |((with_reducible refine Xh ?_);refine Xi (cut_spec s _ (by omega) _) ?_;rintro _ _ ⟨idt,rfl,hK1⟩)
 |refine Xr ?_
 |exact True.intro
 |((with_reducible refine Xg ?_);refine Xj ?_)
 |(apply hκ.out;clear hκ κ))
 rename_i σ1
 unfold itemsL
 generalize cutL s 46 = ts at hc hp
 refine awp_loop (fun m s σ' => ∃ (i ids : Nat) (ss : List AV), m = ts.length - i ∧ i ≤ ts.length ∧ s 3 = sl ids i ss ∧ s 4 = sl idt ts.length (ts.map str) ∧ s 5 = sc (.int .i64 i) ∧ Keep σ σ' ∧ Own σ σ' ids i ∧ EL EItem ((ts.take i).map itemL) ss) ts.length
  ⟨0, 1, [], by omega, by omega, rfl, rfl, rfl, hK1, Own.nil _ _, rfl⟩ ?_
 rintro m s σ' ⟨i, ids, ss, rfl, hi, h3, h4, h5, hK, hO, hS⟩
 clear hK1
 have hssl := EL.length EItem_len hS
 simp only [List.length_map, List.length_take, Nat.min_eq_left hi] at hssl
 have HS : Abs.Hid (EL EItem ((ts.take i).map itemL) ss) := hS
 clear hS
 by_cases hlt : i < ts.length
 ·have hts := map_str_get hlt
  obtain ⟨p1, p2, p3⟩ := hp ts[i] (List.getElem_mem hlt)
  have HX : Abs.Hid (ts[i]? = some ts[i]) := List.getElem?_eq_getElem hlt
  generalize ts[i] = t at hts p1 p2 p3 HX
  have hfl := findN_le t 58
  cases t with
  | nil => exact absurd rfl p2
  | cons b r =>
   have hne2 : (b :: r)[0]? = some b := rfl
   simp only [List.length_cons] at p1 p3 hfl
   by_cases hqq : ((b.toNat : Int) == 63) = true
   ·repeat' (first
 |with_reducible first|apply Xa|apply Xb|(refine Xc ?_;intro κ hκ)|(apply hκ.out;clear hκ κ)|apply Xd|apply Xe|apply Xf
 |((with_reducible first|refine Xl ?_ ?_|refine Xm ?_ ?_|refine Xk ?_ ?_)<;> intro h hari<;> try exact Xp)
 |((with_reducible refine aapp_go ?_);refine Xt ?_;intro idn σn hOn hKn eobj enobj ever entop)
 |((with_reducible refine aappn_go ?_);refine Xu ?_)
 |refine Xr ?_
 |exact True.intro
 |((with_reducible refine Xg ?_);refine Xj ?_)
 |(apply hκ.out;clear hκ κ))
    refine ⟨ts.length - (i + 1), by omega, i + 1, idn, _, rfl, by omega, rfl, by simp, hOn, ?_⟩
    rw [take_map_succ itemL HX.out]
    refine HS.out.append (EL.single ?_)
    have hi : itemL (b :: r) = outL (b :: r) := by unfold itemL; rw [if_pos (by exact hqq)]
    rw [hi]
    exact ⟨_, 1, [], ⟨1, rfl⟩, rfl, by simp [outL]⟩
   ·have hqq : ((b.toNat : Int) == 63) = false := by simpa using hqq
    have HI : Abs.Hid (itemL (b :: r) = ruleL (b :: r)) := by unfold Abs.Hid itemL; rw [if_neg (by simp [queryB]; simpa using hqq)]
    have p4 := p3 hqq
    clear p3
    by_cases hbd : findN (b :: r) 58 < r.length + 1
    ·have p5 := p4 hbd
     clear p4
     repeat' (first
 |with_reducible first|apply Xa|apply Xb|(refine Xc ?_;intro κ hκ)|(apply hκ.out;clear hκ κ)|apply Xd|apply Xe|apply Xf
 |((with_reducible first|refine Xl ?_ ?_|refine Xm ?_ ?_|refine Xk ?_ ?_)<;> intro h hari<;> try exact Xp)
 |((with_reducible refine aapp_go ?_);refine Xt ?_;intro idn σn hOn hKn eobj enobj ever entop)
 |((with_reducible refine aappn_go ?_);refine Xu ?_)
 |((with_reducible refine Xh ?_);first|(refine Xi (find_spec _ _ (by first|omega|(simp;omega)) _) ?_;rintro _ _ ⟨rfl,rfl⟩)|(refine Xi (atom_spec _ (by first|omega|(simp;omega)) _) ?_;rintro _ _ ⟨_,rfl,⟨ia,rfl⟩,hKa⟩;(have ka:=hKa.nobj))|(refine Xi (cut_spec _ _ (by first|omega|(simp;omega)) _) ?_;rintro _ _ ⟨idc,rfl,hKc⟩;(have ko:=hKc.obj _ (by rw [put_nobj,new_nobj];exact Nat.lt_succ_self _);rw [put_same] at ko;have kc:=hKc.nobj;simp only [put_nobj,new_nobj] at kc)))
 |refine Xr ?_
 |exact True.intro
 |((with_reducible refine Xg ?_);refine Xj ?_)
 |(apply hκ.out;clear hκ κ))
     rename_i σ2 σa σc
     rw [show ((findN (b :: r) 58 : Nat) + 2 : Int).toNat = findN (b :: r) 58 + 2 by omega]
     have hml := @cutL_count (List.take (r.length + 1 - (findN (b :: r) 58 + 2)) (List.drop (findN (b :: r) 58 + 2) (b :: r))) 44
     have hmp := fun t => @cutL_piece (List.take (r.length + 1 - (findN (b :: r) 58 + 2)) (List.drop (findN (b :: r) 58 + 2) (b :: r))) 44 t
     have hlq : (List.take (r.length + 1 - (findN (b :: r) 58 + 2)) (List.drop (findN (b :: r) 58 + 2) (b :: r))).length ≤ 1000 := by simp; omega
     have HR : Abs.Hid (ruleL (b :: r) = { out := false, head := atomL (List.take (findN (b :: r) 58) (b :: r)), body := (cutL (List.take (r.length + 1 - (findN (b :: r) 58 + 2)) (List.drop (findN (b :: r) 58 + 2) (b :: r))) 44).map atomL }) := by
      unfold Abs.Hid ruleL; rw [if_pos (by simpa using hbd)]; simp
     generalize cutL (List.take (r.length + 1 - (findN (b :: r) 58 + 2)) (List.drop (findN (b :: r) 58 + 2) (b :: r))) 44 = ms at hml hmp HR
     generalize (List.take (r.length + 1 - (findN (b :: r) 58 + 2)) (List.drop (findN (b :: r) 58 + 2) (b :: r))).length = lq at hml hmp hlq
     generalize atomL (List.take (findN (b :: r) 58) (b :: r)) = hd at ko HR hKc
     have hKac : Keep σa σc := (((Keep.refl σa).new _).put (Nat.le_refl _) _).trans hKc
     have hK' : Keep σ σa := hK.trans hKa
     have hO' : Own σ σa ids i := hO.keep hKa
     refine awp_loop (fun m s σ' => ∃ (k idb : Nat) (bb : List AV), m = ms.length - k ∧ k ≤ ms.length ∧ s 3 = sl ids i ss ∧ s 4 = sl idt ts.length (ts.map str) ∧ s 5 = sc (.int .i64 i) ∧ s 8 = ptr σa.nobj 0 ∧ s 9 = sl idc ms.length (ms.map str) ∧ s 10 = sc (.int .i64 k) ∧ Keep σa σ' ∧ Own σa σ' idb k ∧ σ'.obj σa.nobj = [sc (.bool false), sc (.bool hd.nt), str hd.pred, sl ia hd.terms.length (hd.terms.map str), sl idb k bb] ∧ σa.nobj < σ'.nobj ∧ Abs.Hid (EL EAtom ((ms.take k).map atomL) bb)) ms.length
      ⟨0, 1, [], by omega, by omega, by simp [upd, h3], by simp [upd, h4], by simp [upd, h5], by simp [upd], by simp [upd], rfl, hKac, Own.nil _ _, ko, by omega, rfl⟩ ?_
     clear hKac hKc ko kc h3 h4 h5 hK hKa hO ka
     rintro m s σ' ⟨k, idb, bb, rfl, hk, h3, h4, h5, h8, h9, h10, hK, hO, ho, hn, hB⟩
     have hbbl := EL.length EAtom_len hB.out
     simp only [List.length_map, List.length_take, Nat.min_eq_left hk] at hbbl
     by_cases hlt2 : k < ms.length
     ·have hms := map_str_get hlt2
      have hmk := hmp ms[k] (List.getElem_mem hlt2)
      have HM : Abs.Hid (ms[k]? = some ms[k]) := List.getElem?_eq_getElem hlt2
      generalize ms[k] = t at hms hmk HM
      repeat' (first
 |with_reducible first|apply Xa|apply Xb|(refine Xc ?_;intro κ hκ)|(apply hκ.out;clear hκ κ)|apply Xd|apply Xe|apply Xf
 |((with_reducible first|refine Xl ?_ ?_|refine Xm ?_ ?_|refine Xk ?_ ?_)<;> intro h hari<;> try exact Xp)
 |((with_reducible refine aapp_go ?_);refine Xt ?_;intro idn σn hOn hKn eobj enobj ever entop)
 |((with_reducible refine aappn_go ?_);refine Xu ?_)
 |refine Xr ?_
 |exact True.intro
 |((with_reducible refine Xg ?_);refine Xj ?_)
 |(apply hκ.out;clear hκ κ))
      refine awp_draw_k follows_mixed (fun _ => True) [10] [0, 1, 2, 3, 4, 5] [6, 7, 8, 9, 10] (by kernel_rfl) (fun _ _ _ h => h) ?_
      intro κ hκ
      refine Xr ?_
      repeat' (first
 |with_reducible first|apply Xa|apply Xb|(refine Xc ?_;intro κ hκ)|(apply hκ.out;clear hκ κ)|apply Xd|apply Xe|apply Xf
 |((with_reducible first|refine Xl ?_ ?_|refine Xm ?_ ?_|refine Xk ?_ ?_)<;> intro h hari<;> try exact Xp)
 |((with_reducible refine aapp_go ?_);refine Xt ?_;intro idn σn hOn hKn eobj enobj ever entop)
 |((with_reducible refine aappn_go ?_);refine Xu ?_)
 |((with_reducible refine Xh ?_);refine Xi (atom_spec _ (by omega) _) ?_;rintro _ _ ⟨_,rfl,⟨it,rfl⟩,hKt⟩;(have kt:=hKt.obj _ hn;rw [ho] at kt;have ktn:=hKt.nobj;have hK3:=hK.trans hKt;have hO3:=hO.keep hKt))
 |refine Xr ?_
 |exact True.intro
 |((with_reducible refine Xg ?_);refine Xj ?_)
 |(apply hκ.out;clear hκ κ))
      refine And.intro (kept_keep (hKt.lay 1)) ?_
      refine aApp_own (by first | exact tez_134 | exact tez_137) hK3 hO3 (by decide) (by rfl) hbbl (by rfl) (by rfl) (by decide) (by omega) (by omega) ?_
      intro idn σn hOn hKn eobj enobj ever entop
      have hke : ∀ q, Kept (fun j => ![10].contains j) (fun x => True) σ' q σn := fun q _ o ho _ => by rw [ever]; exact hKt.ver o ho
      have hob : σn.obj σa.nobj = [sc (.bool false), sc (.bool hd.nt), str hd.pred, sl ia hd.terms.length (hd.terms.map str), sl idb k bb] := by rw [eobj]; exact kt
      refine Xr ?_
      repeat' (first | (refine And.intro (hke _) ?_) | (refine And.intro (kept_last rfl) ?_))
      repeat' (first
 |with_reducible first|apply Xa|apply Xb|(refine Xc ?_;intro κ hκ)|(apply hκ.out;clear hκ κ)|apply Xd|apply Xe|apply Xf
 |((with_reducible first|refine Xl ?_ ?_|refine Xm ?_ ?_|refine Xk ?_ ?_)<;> intro h hari<;> try exact Xp)
 |((with_reducible refine aapp_go ?_);refine Xt ?_;intro idn σn hOn hKn eobj enobj ever entop)
 |((with_reducible refine aappn_go ?_);refine Xu ?_)
 |refine Xr ?_
 |exact True.intro
 |((with_reducible refine Xg ?_);refine Xj ?_)
 |(apply hκ.out;clear hκ κ))
      have hEn : EL EAtom ((ms.take (k + 1)).map atomL) (bb ++ [sc (Value.bool (atomL t).nt), str (atomL t).pred, sl it (atomL t).terms.length (List.map str (atomL t).terms)]) := by
       rw [take_map_succ atomL HM.out]
       exact hB.out.append (EL.single ⟨_, rfl⟩)
      first
      | exact ⟨ms.length - (k + 1), by omega, k + 1, idn, _, rfl, by omega, by simp, hKn.put (Nat.le_refl _) _, hOn, rfl, hEn⟩
      | exact ⟨ms.length - (k + 1), by omega, k + 1, idn, _, rfl, by omega, by simp, hKn.put (Nat.le_refl _) _, hOn, rfl, by omega, hEn⟩
     ·have hkl : k = ms.length := by omega
      subst hkl
      rw [List.take_length] at hB
      have hK4 := hK'.trans hK
      have hO4 := hO'.keep hK
      clear hK hO
      repeat' (first
 |with_reducible first|apply Xa|apply Xb|(refine Xc ?_;intro κ hκ)|(apply hκ.out;clear hκ κ)|apply Xd|apply Xe|apply Xf
 |((with_reducible first|refine Xl ?_ ?_|refine Xm ?_ ?_|refine Xk ?_ ?_)<;> intro h hari<;> try exact Xp)
 |((with_reducible refine aapp_go ?_);refine Xt ?_;intro idn σn hOn hKn eobj enobj ever entop)
 |((with_reducible refine aappn_go ?_);refine Xu ?_)
 |refine Xr ?_
 |exact True.intro
 |((with_reducible refine Xg ?_);refine Xj ?_)
 |(apply hκ.out;clear hκ κ))
      refine ⟨ts.length - (i + 1), by omega, i + 1, idn, _, rfl, by omega, rfl, by simp, hOn, ?_⟩
      rw [take_map_succ itemL HX.out]
      refine HS.out.append (EL.single ?_)
      rw [HI.out, HR.out]
      exact ⟨_, idb, bb, ⟨ia, rfl⟩, hB.out, by simp⟩
    ·clear p4
     repeat' (first
 |with_reducible first|apply Xa|apply Xb|(refine Xc ?_;intro κ hκ)|(apply hκ.out;clear hκ κ)|apply Xd|apply Xe|apply Xf
 |((with_reducible first|refine Xl ?_ ?_|refine Xm ?_ ?_|refine Xk ?_ ?_)<;> intro h hari<;> try exact Xp)
 |((with_reducible refine aapp_go ?_);refine Xt ?_;intro idn σn hOn hKn eobj enobj ever entop)
 |((with_reducible refine aappn_go ?_);refine Xu ?_)
 |((with_reducible refine Xh ?_);first|(refine Xi (find_spec _ _ (by first|omega|(simp;omega)) _) ?_;rintro _ _ ⟨rfl,rfl⟩)|(refine Xi (atom_spec _ (by first|omega|(simp;omega)) _) ?_;rintro _ _ ⟨_,rfl,⟨ia,rfl⟩,hKa⟩;(have ka:=hKa.nobj)))
 |refine Xr ?_
 |exact True.intro
 |((with_reducible refine Xg ?_);refine Xj ?_)
 |(apply hκ.out;clear hκ κ))
     rename_i σ2 σa
     have hK4 := ((hK.trans hKa).new [sc (Value.bool false), sc (Value.bool false), sc (Value.string (bs [])), nilS, nilS]).put (hK.trans hKa).nobj [sc (Value.bool false), sc (Value.bool (atomL (List.take (findN (b :: r) 58) (b :: r))).nt), str (atomL (List.take (findN (b :: r) 58) (b :: r))).pred, sl ia (atomL (List.take (findN (b :: r) 58) (b :: r))).terms.length (List.map str (atomL (List.take (findN (b :: r) 58) (b :: r))).terms), nilS]
     have hO4 := hO.keep ((hKa.new [sc (Value.bool false), sc (Value.bool false), sc (Value.string (bs [])), nilS, nilS]).put hKa.nobj [sc (Value.bool false), sc (Value.bool (atomL (List.take (findN (b :: r) 58) (b :: r))).nt), str (atomL (List.take (findN (b :: r) 58) (b :: r))).pred, sl ia (atomL (List.take (findN (b :: r) 58) (b :: r))).terms.length (List.map str (atomL (List.take (findN (b :: r) 58) (b :: r))).terms), nilS])
     repeat' (first
 |with_reducible first|apply Xa|apply Xb|(refine Xc ?_;intro κ hκ)|(apply hκ.out;clear hκ κ)|apply Xd|apply Xe|apply Xf
 |((with_reducible first|refine Xl ?_ ?_|refine Xm ?_ ?_|refine Xk ?_ ?_)<;> intro h hari<;> try exact Xp)
 |((with_reducible refine aapp_go ?_);refine Xt ?_;intro idn σn hOn hKn eobj enobj ever entop)
 |((with_reducible refine aappn_go ?_);refine Xu ?_)
 |refine Xr ?_
 |exact True.intro
 |((with_reducible refine Xg ?_);refine Xj ?_)
 |(apply hκ.out;clear hκ κ))
     refine ⟨ts.length - (i + 1), by omega, i + 1, idn, _, rfl, by omega, rfl, by simp, hOn, ?_⟩
     rw [take_map_succ itemL HX.out]
     refine HS.out.append (EL.single ?_)
     rw [HI.out]
     unfold ruleL
     rw [if_neg (by simpa using hbd)]
     exact ⟨_, 1, [], ⟨ia, rfl⟩, rfl, by simp⟩
 ·have hil : i = ts.length := by omega
  subst hil
  repeat' (first
 |with_reducible first|apply Xa|apply Xb|(refine Xc ?_;intro κ hκ)|(apply hκ.out;clear hκ κ)|apply Xd|apply Xe|apply Xf
 |((with_reducible first|refine Xl ?_ ?_|refine Xm ?_ ?_|refine Xk ?_ ?_)<;> intro h hari<;> try exact Xp)
 |((with_reducible refine aapp_go ?_);refine Xt ?_;intro idn σn hOn hKn eobj enobj ever entop)
 |((with_reducible refine aappn_go ?_);refine Xu ?_)
 |refine Xr ?_
 |exact True.intro
 |((with_reducible refine Xg ?_);refine Xj ?_)
 |(apply hκ.out;clear hκ κ))
  have hS := HS.out
  rw [List.take_length] at hS
  first
  | exact ⟨_, rfl, ids, ss, by simp, hS, hK⟩
  | exact ⟨_, rfl, ids, ss, by simp, hS⟩
/- The document's own answer: Check. -/
theorem atomU_terms (nt : Bool) (s : List UInt8) : (atomU nt s).terms.length ≤ s.length := by
 unfold atomU
 simp only
 split
 ·rename_i h
  refine Nat.le_trans cutL_count ?_
  simp; omega
 ·simp
theorem atomL_terms (s : List UInt8) : (atomL s).terms.length ≤ s.length := by
 unfold atomL
 refine Nat.le_trans (atomU_terms _ _) ?_
 unfold unbang
 split
 ·simp
 ·exact Nat.le_refl _
theorem itemL_fits {t : List UInt8} (h : t.length ≤ 1000) : (itemL t).fits := by
 unfold itemL
 split
 ·exact ⟨by simp [outL], by simp [outL], by simp [outL]⟩
 ·unfold ruleL
  refine ⟨?_, ?_, ?_⟩
  ·simp only
   split
   ·rw [List.length_map]
    refine Nat.le_trans cutL_count ?_
    simp; omega
   ·simp
  ·simp only
   refine Nat.le_trans (atomL_terms _) ?_
   simp; omega
  ·simp only
   split
   ·intro a ha
    rw [List.mem_map] at ha
    obtain ⟨u, hu, rfl⟩ := ha
    refine Nat.le_trans (atomL_terms _) ?_
    refine Nat.le_trans (cutL_piece hu) ?_
    simp; omega
   ·simp
def goodText (s : List UInt8) : Prop := (cutL s 46).length ≤ 16 ∧ ∀ t ∈ cutL s 46, pieceOk t
def refCheck (s : List UInt8) : Int × Int :=
 if 600 < s.length then (1, 0) else if 0 ≤ placeL s then (2, placeL s) else wrongM (itemsL s)
set_option maxHeartbeats 16000000 in
theorem refCheck_spec (s : List UInt8) (hg : s.length ≤ 600 → ¬ 0 ≤ placeL s → goodText s) (hpl : -1 ≤ placeL s ∧ placeL s ≤ s.length) (σ : St) : ACalls Tryz.prog 82 [str s] σ fun r σ' => r = two (refCheck s) ∧ Keep σ σ' := by
 obtain ⟨q1, q2⟩ := hpl
 refine acalls 18 [.tmp 2, .tmp 3] Tryz.func82 rfl (by decide) rfl rfl (Nat.le_of_ble_eq_true rfl) ?_
 by_cases hL : 600 < s.length
 ·have hr : refCheck s = (1, 0) := by unfold refCheck; rw [if_pos hL]
  repeat' (first
 |with_reducible first|apply Xa|apply Xb|(refine Xc ?_;intro κ hκ)|(apply hκ.out;clear hκ κ)|apply Xd|apply Xe|apply Xf
 |((with_reducible first|refine Xl ?_ ?_|refine Xk ?_ ?_)<;> intro h hari<;> try exact Xp)
 |refine Xr ?_
 |exact True.intro
 |(apply hκ.out;clear hκ κ))
  exact ⟨_, rfl, rfl, Keep.refl _⟩
 ·have hg := hg (by omega)
  by_cases hP : 0 ≤ placeL s
  ·have hr : refCheck s = (2, placeL s) := by unfold refCheck; rw [if_neg hL, if_pos hP]
   repeat' (first
 |with_reducible first|apply Xa|apply Xb|(refine Xc ?_;intro κ hκ)|(apply hκ.out;clear hκ κ)|apply Xd|apply Xe|apply Xf
 |((with_reducible first|refine Xl ?_ ?_|refine Xk ?_ ?_)<;> intro h hari<;> try exact Xp)
 |((with_reducible refine Xh ?_);refine Xi (place_spec s (by omega) _) ?_;rintro _ _ ⟨rfl,hK1⟩)
 |refine Xr ?_
 |exact True.intro
 |(apply hκ.out;clear hκ κ))
   first
   | exact ⟨_, rfl, rfl, hK1⟩
   | exact ⟨_, rfl, rfl⟩
  ·have hr : refCheck s = wrongM (itemsL s) := by unfold refCheck; rw [if_neg hL, if_neg hP]
   obtain ⟨g1, g2⟩ := hg hP
   have hil : (itemsL s).length ≤ 16 := by unfold itemsL; simpa using g1
   have hfi : ∀ x ∈ itemsL s, x.fits := by
    intro x hx
    unfold itemsL at hx
    rw [List.mem_map] at hx
    obtain ⟨t, ht, rfl⟩ := hx
    exact itemL_fits (g2 t ht).1
   repeat' (first
 |with_reducible first|apply Xa|apply Xb|(refine Xc ?_;intro κ hκ)|(apply hκ.out;clear hκ κ)|apply Xd|apply Xe|apply Xf
 |((with_reducible first|refine Xl ?_ ?_|refine Xk ?_ ?_)<;> intro h hari<;> try exact Xp)
 |((with_reducible refine Xh ?_);first|(refine Xi (place_spec s (by omega) _) ?_;rintro _ _ ⟨rfl,hK1⟩)|(refine Xi (items_spec s (by omega) (by omega) g2 _) ?_;rintro _ _ ⟨idi,ci,rfl,hEi,hK2⟩)|(refine Xi (wrong_spec _ _ _ hEi hil hfi _) ?_;rintro _ _ ⟨rfl,hK3⟩))
 |refine Xr ?_
 |exact True.intro
 |(apply hκ.out;clear hκ κ))
   exact ⟨_, rfl, rfl, (hK1.trans hK2).trans hK3⟩
end Go.Proofs.YtmoeoppbmhfbpaaGreatDoorY
