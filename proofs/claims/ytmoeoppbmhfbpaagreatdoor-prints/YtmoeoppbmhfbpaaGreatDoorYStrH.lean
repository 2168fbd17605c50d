import Derived.Test.YtmoeoppbmhfbpaaGreatDoorYStrG
import Derived.Test.YtmoeoppbmhfbpaaGreatDoorYLawA
/- The document's own answer: stratum, Stratum. -/
namespace Go.Proofs.YtmoeoppbmhfbpaaGreatDoorY
open Go.Abs
set_option linter.unusedSimpArgs false
set_option linter.unusedVariables false
set_option maxRecDepth 100000

theorem upto_set (i : Nat) : (bvec 16 (fun a => decide (a < i))).set i (sc (.bool true)) = bvec 16 (fun a => decide (a < i + 1)) := by
  rw [bvec_set]
  congr 1
  funext a
  by_cases e : a = i
  · subst e; simp
  · rw [if_neg e]; simp; omega
theorem stratum_hit {l : List RItem} {p : Tx} {k : Nat} (hk : k < 16) (h1 : holdsL (inK l (k + 1)) l p = false) (h2 : ∀ j, j < k → holdsL (inK l (j + 1)) l p = true) : stratumL l p = k := by
  unfold stratumL
  have : (List.range 16).find? (fun k => !holdsL (inK l (k + 1)) l p) = some k := by
    rw [List.find?_range_eq_some]
    exact ⟨by rw [h1]; rfl, by simpa using hk, fun j hj => by rw [h2 j hj]; rfl⟩
  rw [this]
theorem stratum_none {l : List RItem} {p : Tx} (h2 : ∀ j, j < 16 → holdsL (inK l (j + 1)) l p = true) : stratumL l p = 16 := by
  unfold stratumL
  have : (List.range 16).find? (fun k => !holdsL (inK l (k + 1)) l p) = none := by
    rw [List.find?_eq_none]
    intro j hj
    rw [h2 j (by simpa using hj)]; simp
  rw [this]
set_option maxHeartbeats 16000000 in
theorem rstratum_spec (l : List RItem) (cs : List AV) (idl : Nat) (p : Tx) (hE : EL EItem l cs) (hl : l.length ≤ 16) (hf : ∀ x ∈ l, x.fits) (σ : St) : ACalls Tryz.prog 136 [sl idl l.length cs, str p] σ fun r σ' => r = sc (.int .i64 (stratumL l p : Nat)) ∧ Keep σ σ' := by
  have hcl := EL.length EItem_len hE
  have hwl := encW_len
  have hvl := fun g => bvec_len 16 g
  have htw : ∀ M, List.take 256 (encW M) = encW M := fun M => List.take_of_length_le (by rw [encW_len]; exact Nat.le_refl _)
  have hlw : ∀ M, lsp (arep 256 (.bool false)) 0 (encW M) = encW M := fun M => lsp_whole (by rw [encW_len]; simp [arep])
  have hal : (arep 256 (.bool false)).length = 256 := by simp [arep]
  have hfw : ∀ M, (encW M).all flat = true := fun M => by simp [encW, flat, Value.oneCell']
  have htk : ∀ g, List.take 16 (bvec 16 g) = bvec 16 g := fun g => List.take_of_length_le (by rw [bvec_len]; exact Nat.le_refl _)
  have hls : ∀ g h, lsp (bvec 16 g) 0 (bvec 16 h) = bvec 16 h := fun g h => lsp_whole (by rw [bvec_len, bvec_len])
  have hfl : ∀ g, (bvec 16 g).all flat = true := fun g => by simp [bvec, flat, Value.oneCell']
  refine acalls 35 [.tmp 4] Tryz.func136 rfl (by decide) rfl rfl (Nat.le_of_ble_eq_true rfl) ?_
  repeat' (first
 |with_reducible (first|apply awp_seq|apply awp_block|(refine awp_region_k ?_;intro κ hκ)|(refine hκ.out _ _ ?_;clear hκ κ)|apply awp_skip|apply awp_exit|apply awp_ret)
 |((first|with_reducible apply gd_split|((with_reducible refine cond_go ?_);refine awp_cond_split rfl ?_ ?_))<;>intro h<;>(try simp only [upd, ↓reduceIte,Nat.reduceEqDiff,B2] at h)<;>(try simp only [*,reduceCtorEq,decide_true,decide_false] at h)<;>(try (have hari:=h;simp only [B3] at hari))<;>(try (first|contradiction|(exfalso;omega)|(exfalso;simp at h;done)))<;>(try simp only [B5]))
 |((with_reducible refine acalls_go ?_);refine ACalls.mono (web_spec l cs idl hE hl hf _) ?_;rintro _ _ ⟨rfl,hKw⟩;(have knw:=hKw.nobj))
 |(simp (maxSteps:=3000000) (disch:=(first|omega|(simp only [B1, *];omega))) only [↓mapA_nil, ↓mapA_cons,B0,B4,awant,undef,aq,al,cst,cst1,acells,flat,behind,abin,aconv,aint,thenQ,blkQ,retQ,Value.cells,Value.oneCell',Int.reduceToNat, ↓reduceIte,Nat.reduceLT,Nat.reduceEqDiff,reduceCtorEq,Nat.reduceAdd,Nat.reduceMul,Nat.reduceLeDiff,u_137,u_3,tarr_230,telem_137,tsz_228,tsz_230,tsz_4,tzero_228,tzero_230, *])
 |(refine hκ.out _ _ ?_;clear hκ κ))
  rename_i σ1
  refine awp_loop (fun m s σ' => ∃ i : Nat, m = l.length - i ∧ i ≤ l.length ∧ s 0 = sl idl l.length cs ∧ s 1 = str p ∧ s 5 = ptr σ1.nobj 0 ∧ s 6 = ptr (σ1.nobj + 1) 0 ∧ s 7 = sc (.int .i64 i) ∧ Keep σ σ' ∧ σ1.nobj + 1 < σ'.nobj ∧ σ'.obj σ1.nobj = encW (webM l) ∧ σ'.obj (σ1.nobj + 1) = bvec 16 (fun a => decide (a < i))) l.length
    ⟨0, by omega, by omega, by simp [upd, initS], by simp [upd, initS], by simp [upd], by simp [upd], rfl, ?_, by simp only [put_nobj, new_nobj]; omega, ?_, ?_⟩ ?_
  · exact ((hKw.new _).put hKw.nobj _).new _
  · rw [new_lt (by simp only [put_nobj, new_nobj]; omega), put_same]
  · rw [new_at (by simp only [put_nobj, new_nobj]; omega) (by simp only [put_nobj, new_nobj]; omega)]
    rw [show (fun a => decide (a < 0)) = (fun _ => false) by funext a; simp]
    exact bvec_zero 16
  rintro m s σ' ⟨i, rfl, hi, h0, h1, h5, h6, h7, hK, hno, ob0, ob1⟩
  by_cases hlt : i < l.length
  · have hset := upto_set i
    repeat' (first
 |with_reducible (first|apply awp_seq|apply awp_block|(refine awp_region_k ?_;intro κ hκ)|(refine hκ.out _ _ ?_;clear hκ κ)|apply awp_skip|apply awp_exit|apply awp_ret)
 |((first|with_reducible apply gd_split|((with_reducible refine cond_go ?_);refine awp_cond_split rfl ?_ ?_))<;>intro h<;>(try simp only [upd, ↓reduceIte,Nat.reduceEqDiff,B2] at h)<;>(try simp only [*,reduceCtorEq,decide_true,decide_false] at h)<;>(try (have hari:=h;simp only [B3] at hari))<;>(try (first|contradiction|(exfalso;omega)|(exfalso;simp at h;done)))<;>(try simp only [B5]))
 |(simp (maxSteps:=3000000) (disch:=(first|omega|(simp only [B1, *];omega))) only [↓mapA_nil, ↓mapA_cons,B0,B4,awant,undef,aq,al,cst,cst1,acells,flat,behind,abin,aconv,aint,thenQ,blkQ,retQ,Value.cells,Value.oneCell',Int.reduceToNat, ↓reduceIte,Nat.reduceLT,Nat.reduceEqDiff,reduceCtorEq,Nat.reduceAdd,Nat.reduceMul,Nat.reduceLeDiff,u_137,u_3,tarr_230,telem_137,tsz_228,tsz_230,tsz_4,tzero_228,tzero_230, *])
 |(refine hκ.out _ _ ?_;clear hκ κ))
    exact ⟨l.length - (i + 1), by omega, i + 1, rfl, by omega, by simp, hK.put (by omega) _, rfl⟩
  · have hil : i = l.length := by omega
    subst hil
    rw [show (fun a => decide (a < l.length)) = inK l 0 from rfl] at ob1
    repeat' (first
 |with_reducible (first|apply awp_seq|apply awp_block|(refine awp_region_k ?_;intro κ hκ)|(refine hκ.out _ _ ?_;clear hκ κ)|apply awp_skip|apply awp_exit|apply awp_ret)
 |((first|with_reducible apply gd_split|((with_reducible refine cond_go ?_);refine awp_cond_split rfl ?_ ?_))<;>intro h<;>(try simp only [upd, ↓reduceIte,Nat.reduceEqDiff,B2] at h)<;>(try simp only [*,reduceCtorEq,decide_true,decide_false] at h)<;>(try (have hari:=h;simp only [B3] at hari))<;>(try (first|contradiction|(exfalso;omega)|(exfalso;simp at h;done)))<;>(try simp only [B5]))
 |(simp (maxSteps:=3000000) (disch:=(first|omega|(simp only [B1, *];omega))) only [↓mapA_nil, ↓mapA_cons,B0,B4,awant,undef,aq,al,cst,cst1,acells,flat,behind,abin,aconv,aint,thenQ,blkQ,retQ,Value.cells,Value.oneCell',Int.reduceToNat, ↓reduceIte,Nat.reduceLT,Nat.reduceEqDiff,reduceCtorEq,Nat.reduceAdd,Nat.reduceMul,Nat.reduceLeDiff,u_137,u_3,tarr_230,telem_137,tsz_228,tsz_230,tsz_4,tzero_228,tzero_230, *])
 |(refine hκ.out _ _ ?_;clear hκ κ))
    refine awp_loop (fun m s σ' => ∃ k : Nat, m = 16 - k ∧ k ≤ 16 ∧ s 0 = sl idl l.length cs ∧ s 1 = str p ∧ s 5 = ptr σ1.nobj 0 ∧ s 6 = ptr (σ1.nobj + 1) 0 ∧ s 8 = sc (.int .i64 k) ∧ Keep σ σ' ∧ σ1.nobj + 1 < σ'.nobj ∧ σ'.obj σ1.nobj = encW (webM l) ∧ σ'.obj (σ1.nobj + 1) = bvec 16 (inK l k) ∧ Abs.Hid (∀ j, j < k → holdsL (inK l (j + 1)) l p = true)) 16
      ⟨0, by omega, by omega, by simp [upd, h0], by simp [upd, h1], by simp [upd, h5], by simp [upd, h6], rfl, hK, hno, ob0, ob1, fun j hj => by omega⟩ ?_
    clear h0 h1 h5 h6 h7 hK hno ob0 ob1
    rintro m s σ' ⟨k, rfl, hk, h0, h1, h5, h6, h8, hK, hno, ob0, ob1, hno2⟩
    by_cases hlt2 : k < 16
    · have hHi : ∀ σ, ACalls Tryz.prog 179 [sl idl l.length cs, ag (encW (webM l)), ag (bvec 16 (inK l k)), sc (.bool ((k : Int) == 0))] σ fun r σ' => r = ag (bvec 16 (inK l (k + 1))) ∧ Keep σ σ' := fun σ => by
        have e : ((k : Int) == 0) = (k == 0) := by rw [Bool.eq_iff_iff]; simp only [beq_iff_eq]; omega
        rw [e]
        exact higher_spec l cs idl (inK l k) (k == 0) hE hl hf σ
      have hHo := fun σ => holds_spec l cs idl (inK l (k + 1)) p hE hl σ
      have HIT : Abs.Hid (holdsL (inK l (k + 1)) l p = false → stratumL l p = k) := fun h => stratum_hit hlt2 h hno2.out
      generalize hho : holdsL (inK l (k + 1)) l p = ho at hHo HIT
      have HHO : Abs.Hid _ := hho
      clear hho
      have knz := hKw.nobj
      repeat' (first
 |with_reducible (first|apply awp_seq|apply awp_block|(refine awp_region_k ?_;intro κ hκ)|(refine hκ.out _ _ ?_;clear hκ κ)|apply awp_skip|apply awp_exit|apply awp_ret)
 |((first|with_reducible apply gd_split|((with_reducible refine cond_go ?_);refine awp_cond_split rfl ?_ ?_))<;>intro h<;>(try simp only [upd, ↓reduceIte,Nat.reduceEqDiff,B2] at h)<;>(try simp only [*,reduceCtorEq,decide_true,decide_false] at h)<;>(try (have hari:=h;simp only [B3] at hari))<;>(try (first|contradiction|(exfalso;omega)|(exfalso;simp at h;done)))<;>(try simp only [B5]))
 |((with_reducible refine acalls_go ?_);refine ACalls.mono (hHi _) ?_;rintro _ _ ⟨rfl,hK2⟩;(have kob2:=hK2.obj;have kno2:=hK2.nobj))
 |((with_reducible refine acalls_go ?_);refine ACalls.mono (hHo _) ?_;rintro _ _ ⟨rfl,hK3⟩;(have kob3:=hK3.obj;have kno3:=hK3.nobj;(try simp only [new_nobj,put_nobj,lay_nobj] at kno3)))
 |(simp (maxSteps:=3000000) (disch:=(first|omega|(simp only [B1, *];omega))) only [↓mapA_nil, ↓mapA_cons,B0,B4,awant,undef,aq,al,cst,cst1,acells,flat,behind,abin,aconv,aint,thenQ,blkQ,retQ,Value.cells,Value.oneCell',Int.reduceToNat, ↓reduceIte,Nat.reduceLT,Nat.reduceEqDiff,reduceCtorEq,Nat.reduceAdd,Nat.reduceMul,Nat.reduceLeDiff,u_137,u_3,tarr_230,telem_137,tsz_228,tsz_230,tsz_4,tzero_228,tzero_230, *])
 |(refine hκ.out _ _ ?_;clear hκ κ))
      · have hs := HIT.out (by assumption)
        exact ⟨_, rfl, by rw [hs], ((hK.trans hK2).put (by omega) _).trans hK3⟩
      · refine ⟨16 - (k + 1), by omega, k + 1, rfl, by omega, by simp, ((hK.trans hK2).put (by omega) _).trans hK3, by omega, rfl, fun j hj => ?_⟩
        by_cases e : j = k
        · subst e; rw [HHO.out]; assumption
        · exact hno2.out j (by omega)
    · have hkl : k = 16 := by omega
      subst hkl
      have hs16 := stratum_none hno2.out
      repeat' (first
 |with_reducible (first|apply awp_seq|apply awp_block|(refine awp_region_k ?_;intro κ hκ)|(refine hκ.out _ _ ?_;clear hκ κ)|apply awp_skip|apply awp_exit|apply awp_ret)
 |((first|with_reducible apply gd_split|((with_reducible refine cond_go ?_);refine awp_cond_split rfl ?_ ?_))<;>intro h<;>(try simp only [upd, ↓reduceIte,Nat.reduceEqDiff,B2] at h)<;>(try simp only [*,reduceCtorEq,decide_true,decide_false] at h)<;>(try (have hari:=h;simp only [B3] at hari))<;>(try (first|contradiction|(exfalso;omega)|(exfalso;simp at h;done)))<;>(try simp only [B5]))
 |(simp (maxSteps:=3000000) (disch:=(first|omega|(simp only [B1, *];omega))) only [↓mapA_nil, ↓mapA_cons,B0,B4,awant,undef,aq,al,cst,cst1,acells,flat,behind,abin,aconv,aint,thenQ,blkQ,retQ,Value.cells,Value.oneCell',Int.reduceToNat, ↓reduceIte,Nat.reduceLT,Nat.reduceEqDiff,reduceCtorEq,Nat.reduceAdd,Nat.reduceMul,Nat.reduceLeDiff,u_137,u_3,tarr_230,telem_137,tsz_228,tsz_230,tsz_4,tzero_228,tzero_230, *])
 |(refine hκ.out _ _ ?_;clear hκ κ))
      first
      | exact ⟨_, rfl, by rw [hs16]; rfl, hK⟩
      | exact ⟨_, rfl, by rw [hs16]; rfl⟩
      | exact ⟨_, rfl, rfl⟩

def refStratum (t : Tx) (n : Int) : Int × Int :=
  if (refCheck t).1 ≠ 0 then (0, (refCheck t).1) else
  if n < 0 ∨ ((itemsL t).length : Int) ≤ n then (0, 6) else (((stratumL (itemsL t) (headOf (itemsL t) n.toNat) : Nat) : Int), 0)
set_option maxHeartbeats 16000000 in
theorem rStratum_spec (t : Tx) (n : Int) (σ : St) : ACalls Tryz.prog 86 [str t, sc (.int .i64 n)] σ fun r σ' => r = two (refStratum t n) ∧ Keep σ σ' := by
  have hC := fun σ => rcheck_spec t σ
  by_cases he : (refCheck t).1 = 0
  · have hlen : t.length ≤ 600 := by
      by_cases hl : 600 < t.length
      · unfold refCheck at he; rw [if_pos hl] at he; simp at he
      · omega
    have hp := placeL_parse t
    have hgot : ∃ l r, pItems 16 t = .got l r := by
      cases h : pItems 16 t with
      | got l r => exact ⟨l, r, rfl⟩
      | bad e =>
        rw [h] at hp
        have hp : placeL t = ((t.length - e.length : Nat) : Int) := hp
        unfold refCheck at he
        rw [if_neg (by omega), hp, if_pos (Int.natCast_nonneg _)] at he
        simp at he
    obtain ⟨l, r, hpi⟩ := hgot
    obtain ⟨g1, g2, g3, g4⟩ := parse_good (by omega) hpi
    have hfits : ∀ x ∈ itemsL t, x.fits := by
      intro x hx
      unfold itemsL at hx
      rw [List.mem_map] at hx
      obtain ⟨u, hu, rfl⟩ := hx
      exact itemL_fits (by have := cutL_piece hu; omega)
    have hI := fun σ => items_spec t (by omega) (by have := g1.1; omega) g1.2 σ
    rw [← g2] at g3
    have hrp : refStratum t n = if n < 0 ∨ ((itemsL t).length : Int) ≤ n then (0, 6) else (((stratumL (itemsL t) (headOf (itemsL t) n.toNat) : Nat) : Int), 0) := by unfold refStratum; rw [if_neg (by simp [he])]
    have HRP : Abs.Hid _ := hrp
    have hS := fun cs idl p hE σ => rstratum_spec (itemsL t) cs idl p hE g3 hfits σ
    have heb : ((refCheck t).1 != 0) = false := by simp [he]
    clear hrp he hp hpi g1 g2 g4 hfits hlen
    generalize itemsL t = li at hI HRP hS g3
    by_cases hn : n < 0 ∨ (li.length : Int) ≤ n
    · have HR2 : Abs.Hid (refStratum t n = (0, 6)) := by rw [Abs.Hid, HRP.out, if_pos hn]
      clear HRP hS
      refine acalls 35 [.tmp 4, .tmp 5] Tryz.func86 rfl (by decide) rfl rfl (Nat.le_of_ble_eq_true rfl) ?_
      repeat' (first
 |with_reducible (first|apply awp_seq|apply awp_block|(refine awp_region_k ?_;intro κ hκ)|(refine hκ.out _ _ ?_;clear hκ κ)|apply awp_skip|apply awp_exit|apply awp_ret)
 |((first|with_reducible apply gd_split|((with_reducible refine cond_go ?_);refine awp_cond_split rfl ?_ ?_))<;>intro h<;>(try simp only [upd, ↓reduceIte,Nat.reduceEqDiff,B2] at h)<;>(try simp only [*,reduceCtorEq,decide_true,decide_false] at h)<;>(try (have hari:=h;simp only [B3] at hari))<;>(try (first|contradiction|(exfalso;omega)|(exfalso;simp at h;done)))<;>(try simp only [B5]))
 |((with_reducible refine acalls_go ?_);refine ACalls.mono (hC _) ?_;rintro _ _ ⟨rfl,hK1⟩)
 |((with_reducible refine acalls_go ?_);refine ACalls.mono (hI _) ?_;rintro _ _ ⟨idl,cs,rfl,hE,hK2⟩)
 |(simp (maxSteps:=3000000) (disch:=(first|omega|(simp only [B1, *];omega))) only [↓mapA_nil, ↓mapA_cons,B0,B4,awant,undef,aq,al,cst,cst1,acells,flat,behind,abin,aconv,aint,thenQ,blkQ,retQ,Value.cells,Value.oneCell',Int.reduceToNat, ↓reduceIte,Nat.reduceLT,Nat.reduceEqDiff,reduceCtorEq,Nat.reduceAdd,Nat.reduceMul,Nat.reduceLeDiff,u_137,u_3,telem_137,tfld_143_1,tfld_145_1,tsz_9, *])
 |(refine hκ.out _ _ ?_;clear hκ κ))
      all_goals
        first
        | exact ⟨_, rfl, by rw [HR2.out], by repeat (first | exact Keep.refl _ | assumption | (refine Keep.put ?_ (by first | omega | (simp only [new_nobj, put_nobj, lay_nobj, *]; omega)) _) | (refine Keep.new ?_ _) | (refine Keep.lay ?_ _) | (refine Keep.trans ?_ (by assumption)))⟩
        | (exfalso; simp only [decide_eq_true_eq, decide_eq_false_iff_not] at *; omega)
    · have hn0 : 0 ≤ n := by omega
      have hn1 : n.toNat < li.length := by omega
      have hnn : ((n.toNat : Nat) : Int) = n := Int.toNat_of_nonneg hn0
      have hnl : n < (li.length : Int) := by omega
      have hget := List.getElem?_eq_getElem hn1
      have HR2 : Abs.Hid (refStratum t n = (((stratumL li li[n.toNat].head.pred : Nat) : Int), 0)) := by
        rw [Abs.Hid, HRP.out, if_neg hn]
        simp only [headOf, hget]
      clear HRP hn
      generalize hxe : li[n.toNat] = x at hget HR2
      have HX : Abs.Hid _ := hget
      clear hxe hget
      refine acalls 35 [.tmp 4, .tmp 5] Tryz.func86 rfl (by decide) rfl rfl (Nat.le_of_ble_eq_true rfl) ?_
      repeat' (first
 |with_reducible (first|apply awp_seq|apply awp_block|(refine awp_region_k ?_;intro κ hκ)|(refine hκ.out _ _ ?_;clear hκ κ)|apply awp_skip|apply awp_exit|apply awp_ret)
 |((first|with_reducible apply gd_split|((with_reducible refine cond_go ?_);refine awp_cond_split rfl ?_ ?_))<;>intro h<;>(try simp only [upd, ↓reduceIte,Nat.reduceEqDiff,B2] at h)<;>(try simp only [*,reduceCtorEq,decide_true,decide_false] at h)<;>(try (have hari:=h;simp only [B3] at hari))<;>(try (first|contradiction|(exfalso;omega)|(exfalso;simp at h;done)))<;>(try simp only [B5]))
 |((with_reducible refine acalls_go ?_);refine ACalls.mono (hC _) ?_;rintro _ _ ⟨rfl,hK1⟩)
 |((with_reducible refine acalls_go ?_);refine ACalls.mono (hI _) ?_;rintro _ _ ⟨idl,cs,rfl,hE,hK2⟩;(have hcl:=EL.length EItem_len hE;obtain ⟨ih,id,b,r,hb,hd⟩:=EL_item hE HX.out))
 |((with_reducible refine acalls_go ?_);refine ACalls.mono (hS _ _ _ hE _) ?_;rintro _ _ ⟨rfl,hK3⟩)
 |(simp (maxSteps:=3000000) (disch:=(first|omega|(simp only [B1, *];omega))) only [↓mapA_nil, ↓mapA_cons,B0,B4,awant,undef,aq,al,cst,cst1,acells,flat,behind,abin,aconv,aint,thenQ,blkQ,retQ,Value.cells,Value.oneCell',Int.reduceToNat, ↓reduceIte,Nat.reduceLT,Nat.reduceEqDiff,reduceCtorEq,Nat.reduceAdd,Nat.reduceMul,Nat.reduceLeDiff,u_137,u_3,telem_137,tfld_143_1,tfld_145_1,tsz_9, *])
 |(refine hκ.out _ _ ?_;clear hκ κ))
      exact ⟨_, rfl, by rw [HR2.out], by repeat (first | exact Keep.refl _ | assumption | (refine Keep.put ?_ (by first | omega | (simp only [new_nobj, put_nobj, lay_nobj, *]; omega)) _) | (refine Keep.new ?_ _) | (refine Keep.lay ?_ _) | (refine Keep.trans ?_ (by assumption)))⟩
  · have hrp : refStratum t n = (0, (refCheck t).1) := by unfold refStratum; rw [if_pos he]
    have HRP : Abs.Hid _ := hrp
    have heb : ((refCheck t).1 != 0) = true := by simpa using he
    clear hrp he
    refine acalls 35 [.tmp 4, .tmp 5] Tryz.func86 rfl (by decide) rfl rfl (Nat.le_of_ble_eq_true rfl) ?_
    repeat' (first
 |with_reducible (first|apply awp_seq|apply awp_block|(refine awp_region_k ?_;intro κ hκ)|(refine hκ.out _ _ ?_;clear hκ κ)|apply awp_skip|apply awp_exit|apply awp_ret)
 |((first|with_reducible apply gd_split|((with_reducible refine cond_go ?_);refine awp_cond_split rfl ?_ ?_))<;>intro h<;>(try simp only [upd, ↓reduceIte,Nat.reduceEqDiff,B2] at h)<;>(try simp only [*,reduceCtorEq,decide_true,decide_false] at h)<;>(try (have hari:=h;simp only [B3] at hari))<;>(try (first|contradiction|(exfalso;omega)|(exfalso;simp at h;done)))<;>(try simp only [B5]))
 |((with_reducible refine acalls_go ?_);refine ACalls.mono (hC _) ?_;rintro _ _ ⟨rfl,hK1⟩)
 |(simp (maxSteps:=3000000) (disch:=(first|omega|(simp only [B1, *];omega))) only [↓mapA_nil, ↓mapA_cons,B0,B4,awant,undef,aq,al,cst,cst1,acells,flat,behind,abin,aconv,aint,thenQ,blkQ,retQ,Value.cells,Value.oneCell',Int.reduceToNat, ↓reduceIte,Nat.reduceLT,Nat.reduceEqDiff,reduceCtorEq,Nat.reduceAdd,Nat.reduceMul,Nat.reduceLeDiff,u_137,u_3,telem_137,tfld_143_1,tfld_145_1,tsz_9, *])
 |(refine hκ.out _ _ ?_;clear hκ κ))
    first | exact ⟨_, rfl, by rw [HRP.out], hK1⟩ | exact ⟨_, rfl, by rw [HRP.out]⟩
theorem firstN_neg {p : Nat → Bool} {n : Nat} (h : ¬ 0 ≤ firstN p n) : ∀ i, i < n → p i = false := by
  intro i hi
  unfold firstN at h
  split at h
  · rename_i j hj; exact absurd (Int.natCast_nonneg j) h
  · rename_i hn
    rw [List.find?_eq_none] at hn
    simpa using hn i (by simpa using hi)
theorem right_knot {t : Tx} (h : (refCheck t).1 = 0) : ∀ i, i < (itemsL t).length → knotP (itemsL t) i = false := by
  unfold refCheck at h
  split at h
  · simp at h
  split at h
  · simp at h
  unfold wrongM at h
  split at h
  · simp at h
  split at h
  · simp at h
  split at h
  · simp at h
  · rename_i hk; exact firstN_neg hk
/-- the program's Stratum is the document's -/
theorem stratum_same {t : Tx} {n : Int} {r : Int × Int} (h : pStratum t n r) : r = refStratum t n := by
  unfold pStratum at h
  unfold refStratum
  split at h
  · rename_i he; rw [if_pos he]; exact h
  · rename_i he
    rw [if_neg he]
    have he : (refCheck t).1 = 0 := Classical.byContradiction he
    obtain ⟨N, l, cs, hp, hB, hW, h⟩ := h
    have hlen : t.length ≤ 1000 := by
      by_cases hl : 600 < t.length
      · unfold refCheck at he; rw [if_pos hl] at he; simp at he
      · omega
    have hk := right_knot he
    have g2 := (parse_good hlen hp).2.1
    rw [g2] at hk ⊢
    split at h
    · rename_i hn; rw [if_pos hn]; exact h
    · rename_i hn
      rw [if_neg hn]
      obtain ⟨x, hx, rfl⟩ := h
      have hN := EL_PI_mem hB.el
      rw [strata_eq hB.len hB.out hN hk (hN x (List.mem_of_getElem? hx)).1]
      simp only [headOf, hx]
end Go.Proofs.YtmoeoppbmhfbpaaGreatDoorY
