import Derived.Test.YtmoeoppbmhfbpaaDoorXProgC
/- The program's reader: terms. -/
namespace Go.Proofs.YtmoeoppbmhfbpaaDoorX
open Go.Abs
set_option linter.unusedSimpArgs false
set_option linter.unusedVariables false
set_option maxRecDepth 100000

theorem KeepX.new {o : Nat} {σ σ' : St} (h : KeepX o σ σ') (cs : List AV) : KeepX o σ (σ'.new cs) := by
  have := h.nobj
  exact ⟨by simp [St.new]; omega, fun p hp hne => by simp [St.new]; rw [if_neg (by omega)]; exact h.obj p hp hne, h.ver, h.ntop, h.top⟩
theorem KeepX.putN {o p : Nat} {σ σ' : St} (h : KeepX o σ σ') (hp : σ.nobj ≤ p) (cs : List AV) : KeepX o σ (σ'.put p cs) :=
  ⟨h.nobj, fun q hq hne => by simp [St.put]; rw [if_neg (by omega)]; exact h.obj q hq hne, fun q hq hne => by simp [St.put]; rw [if_neg (by omega)]; exact h.ver q hq hne, h.ntop, h.top⟩
theorem KeepX.lay {o : Nat} {a b : St} (h : KeepX o a b) (n : Nat) : KeepX o a (b.lay n) := by
  have := h.ntop
  exact ⟨h.nobj, h.obj, h.ver, by simp [St.lay]; omega, fun k hk => by simp [St.lay]; rw [if_neg (by omega)]; exact h.top k hk⟩

def encT : Tx → Bool × Int
  | [] => (false, 0)
  | b :: r => if largeB b.toNat = true then (true, (b.toNat : Int) - 65) else (false, numV (b :: r))
theorem encT_large {b : UInt8} {r : Tx} (h : largeB b.toNat = true) : encT (b :: r) = (true, (b.toNat : Int) - 65) := by unfold encT; dsimp only; rw [if_pos h]
theorem encT_num {b : UInt8} {r : Tx} (h : largeB b.toNat = false) : encT (b :: r) = (false, numV (b :: r)) := by unfold encT; dsimp only; rw [if_neg (by rw [h]; simp)]
def tcell (x : Tx) : List AV := [sc (.bool (encT x).1), sc (.int .i64 (encT x).2)]
def tcells (ts : List Tx) : List AV := ts.flatMap tcell
theorem tcells_len (ts : List Tx) : (tcells ts).length = ts.length * 2 := by
  induction ts with
  | nil => rfl
  | cons a l ih => unfold tcells at *; rw [List.flatMap_cons, List.length_append, ih]; simp [tcell]; omega
theorem tcells_snoc (ts : List Tx) (x : Tx) : tcells (ts ++ [x]) = tcells ts ++ tcell x := by simp [tcells]
theorem pWhile_rest (p : Int → Bool) (n : Nat) (s : Tx) : (pWhile p n s).2 <:+ s := ⟨(pWhile p n s).1, (pWhile_took p n s).1.symm⟩
theorem pTerm_rest (s : Tx) : (pTerm s).rest <:+ s := by
  cases s with
  | nil => exact List.suffix_refl _
  | cons b r =>
    unfold pTerm; dsimp only
    split
    · exact List.suffix_cons b r
    split
    · exact List.suffix_cons b r
    split
    · exact (pWhile_rest digitB 2 r).trans (List.suffix_cons b r)
    · exact List.suffix_refl _

set_option maxHeartbeats 4000000 in
theorem readZero_spec (t r : Tx) (b : UInt8) (o : Nat) (nm : AV) (ht : t.length ≤ 1000) (hs : (b :: r) <:+ t) (σ : St) (ho : σ.obj o = rdS t (b :: r) nm) (hn : o < σ.nobj) (h48 : ((b.toNat : Int) == 48) = true) :
    ACalls Tryd.prog 72 [ptr o 0] σ fun x σ' => KeepX o σ σ' ∧ σ'.obj o = rdS t r nm ∧ x = sc (.int .i64 0) := by
  have hp : pByte 48 (b :: r) = .got () r := by unfold pByte; dsimp only; rw [if_pos h48]
  have hT := take_suff t (b :: r) o nm 48 ht hs σ ho hn
  rw [hp] at hT
  refine acalls 57 [.tmp 2] Tryd.func72 rfl (by decide) rfl rfl (Nat.le_of_ble_eq_true rfl) ?_
  repeat' (first
 |with_reducible (first|apply awp_seq|apply awp_block|(refine awp_region_k ?_;intro κ hκ)|(refine hκ.out _ _ ?_;clear hκ κ)|apply awp_skip|apply awp_exit|apply awp_ret)
 |((first|with_reducible (first|apply gd_split|apply gt_split)|((with_reducible refine cond_go ?_);refine awp_cond_split rfl ?_ ?_))<;>intro h<;>(try simp only [upd, ↓reduceIte,Nat.reduceEqDiff,B2] at h)<;>(try simp only [*,reduceCtorEq,decide_true,decide_false] at h)<;>(try (have hari:=h;simp only [B3] at hari))<;>(try (first|contradiction|(exfalso;omega)|(exfalso;simp at h;done)))<;>(try simp only [B5]))
 |((with_reducible refine acalls_go ?_);refine ACalls.mono (hT) ?_;rintro _ _ ⟨hK1,rfl,hO1,-⟩)
 |(simp (maxSteps:=3000000) (disch:=(first|omega|(simp only [B1, *];omega))) only [↓mapA_nil, ↓mapA_cons,B0,B4,awant,undef,aq,al,cst,cst1,acells,flat,behind,abin,aconv,aint,thenQ,blkQ,retQ,rdo,objOf,Value.cells,Value.oneCell',Int.reduceToNat, ↓reduceIte,Nat.reduceLT,Nat.reduceEqDiff,reduceCtorEq,Nat.reduceAdd,Nat.reduceMul,Nat.reduceLeDiff,u_3,u_5,u_9,telem_9,tfld_60_0,tfld_60_1,tsz_3,tsz_9, *])
 |((with_reducible refine and_go ?_);refine And.intro (by first|exact kept_refl|exact kept_last rfl|exact kept_keep (by assumption)) ?_)
 |(refine hκ.out _ _ ?_;clear hκ κ))
  first | exact ⟨_, rfl, hK1, hO1, rfl⟩ | exact ⟨_, rfl, hK1, hO1⟩ | exact ⟨_, rfl, hK1, rfl⟩ | exact ⟨_, rfl, rfl⟩

set_option maxHeartbeats 16000000 in
theorem readTerm_R {t : Tx} {o : Nat} {N : List Tx} {id : Nat} {s : Tx} {σ : St} (ht : t.length ≤ 1000) (hR : RS t o N id s σ) :
    ACalls Tryd.prog 64 [ptr o 0] σ fun x σ' => ∃ v k, x = tp [ag [sc (.bool v), sc (.int .i64 k)], sc (.bool (pTerm s).ok)] ∧ KeepX o σ σ' ∧ RS t o N id (pTerm s).rest σ' ∧ Rd.Val (pTerm s) fun w => encT w = (v, k) := by
  have hR' : Abs.Hid (RS t o N id s σ) := hR
  obtain ⟨ho, hn, -, hs, -⟩ := hR
  have hsl := suff_len hs
  have hsg := suff_get hs
  have hrl : Abs.Hid ((pTerm s).rest.length ≤ s.length) := (pTerm_rest s).length_le
  have hrs : Abs.Hid ((pTerm s).rest <:+ t) := (pTerm_rest s).trans hs
  generalize hnm : sl id N.length (N.map str) = nm at ho
  have hnm : Abs.Hid (sl id N.length (N.map str) = nm) := hnm
  have ho' : Abs.Hid (σ.obj o = rdS t s nm) := ho
  unfold rdS rdr at ho
  refine acalls 46 [.cell 2 45, .tmp 3] Tryd.func64 rfl (by decide) rfl rfl (Nat.le_of_ble_eq_true rfl) ?_
  repeat' (first
 |with_reducible (first|apply awp_seq|apply awp_block|(refine awp_region_k ?_;intro κ hκ)|(refine hκ.out _ _ ?_;clear hκ κ)|apply awp_skip|apply awp_exit|apply awp_ret)
 |((first|with_reducible (first|apply gd_split|apply gt_split)|((with_reducible refine cond_go ?_);refine awp_cond_split rfl ?_ ?_))<;>intro h<;>(try simp only [upd, ↓reduceIte,Nat.reduceEqDiff,B2] at h)<;>(try simp only [*,reduceCtorEq,decide_true,decide_false] at h)<;>(try (have hari:=h;simp only [B3] at hari))<;>(try (first|contradiction|(exfalso;omega)|(exfalso;simp at h;done)))<;>(try simp only [B5]))
 |(simp (maxSteps:=3000000) (disch:=(first|omega|(simp only [B1, *];omega))) only [↓mapA_nil, ↓mapA_cons,B0,B4,awant,undef,aq,al,cst,cst1,acells,flat,behind,abin,aconv,aint,thenQ,blkQ,retQ,rdo,objOf,Value.cells,Value.oneCell',Int.reduceToNat, ↓reduceIte,Nat.reduceLT,Nat.reduceEqDiff,reduceCtorEq,Nat.reduceAdd,Nat.reduceMul,Nat.reduceLeDiff,u_3,u_5,u_9,telem_9,tfld_60_0,tfld_60_1,tstr_45,tsz_3,tsz_45,tsz_9,tzero_45, *])
 |((with_reducible refine and_go ?_);refine And.intro (by first|exact kept_refl|exact kept_last rfl|exact kept_keep (by assumption)) ?_)
 |(refine hκ.out _ _ ?_;clear hκ κ))
  refine awp_draw_k follows_mixed (fun _ => True) [9] [0, 1, 2, 3, 4, 5, 6, 7, 8] [9] (by kernel_rfl) (fun _ _ _ h => h) ?_
  intro κ hκ
  cases s with
  | nil =>
    simp only [List.length_nil, Nat.sub_zero] at ho hsg hsl
    simp (maxSteps:=3000000) (disch:=(first|omega|(simp only [B1, *];omega))) only [↓mapA_nil, ↓mapA_cons,B0,B4,awant,undef,aq,al,cst,cst1,acells,flat,behind,abin,aconv,aint,thenQ,blkQ,retQ,rdo,objOf,Value.cells,Value.oneCell',Int.reduceToNat, ↓reduceIte,Nat.reduceLT,Nat.reduceEqDiff,reduceCtorEq,Nat.reduceAdd,Nat.reduceMul,Nat.reduceLeDiff,u_3,u_5,u_9,telem_9,tfld_60_0,tfld_60_1,tstr_45,tsz_3,tsz_45,tsz_9,tzero_45, *]
    repeat' (first
 |with_reducible (first|apply awp_seq|apply awp_block|(refine awp_region_k ?_;intro κ hκ)|(refine hκ.out _ _ ?_;clear hκ κ)|apply awp_skip|apply awp_exit|apply awp_ret)
 |((first|with_reducible (first|apply gd_split|apply gt_split)|((with_reducible refine cond_go ?_);refine awp_cond_split rfl ?_ ?_))<;>intro h<;>(try simp only [upd, ↓reduceIte,Nat.reduceEqDiff,B2] at h)<;>(try simp only [*,reduceCtorEq,decide_true,decide_false] at h)<;>(try (have hari:=h;simp only [B3] at hari))<;>(try (first|contradiction|(exfalso;omega)|(exfalso;simp at h;done)))<;>(try simp only [B5]))
 |(simp (maxSteps:=3000000) (disch:=(first|omega|(simp only [B1, *];omega))) only [↓mapA_nil, ↓mapA_cons,B0,B4,awant,undef,aq,al,cst,cst1,acells,flat,behind,abin,aconv,aint,thenQ,blkQ,retQ,rdo,objOf,Value.cells,Value.oneCell',Int.reduceToNat, ↓reduceIte,Nat.reduceLT,Nat.reduceEqDiff,reduceCtorEq,Nat.reduceAdd,Nat.reduceMul,Nat.reduceLeDiff,u_3,u_5,u_9,telem_9,tfld_60_0,tfld_60_1,tstr_45,tsz_3,tsz_45,tsz_9,tzero_45, *])
 |((with_reducible refine and_go ?_);refine And.intro (by first|exact kept_refl|exact kept_last rfl|exact kept_keep (by assumption)) ?_)
 |(refine hκ.out _ _ ?_;clear hκ κ))
    have hK : KeepX o σ ((σ.new [sc (.bool false), sc (.int .i64 0)]).put σ.nobj [sc (.bool false), sc (.int .i64 0)]) := ((KeepX.refl _ _).new _).putN (Nat.le_refl _) _
    refine ⟨_, rfl, false, 0, rfl, hK, hR'.out.stepX hK ?_ hrs.out hrl.out, trivial⟩
    rw [hnm.out, put_ne hn, new_lt hn]; exact ho'.out
  | cons b r =>
    simp only [List.length_cons, List.head?_cons] at ho hsg hsl
    simp (maxSteps:=3000000) (disch:=(first|omega|(simp only [B1, *];omega))) only [↓mapA_nil, ↓mapA_cons,B0,B4,awant,undef,aq,al,cst,cst1,acells,flat,behind,abin,aconv,aint,thenQ,blkQ,retQ,rdo,objOf,Value.cells,Value.oneCell',Int.reduceToNat, ↓reduceIte,Nat.reduceLT,Nat.reduceEqDiff,reduceCtorEq,Nat.reduceAdd,Nat.reduceMul,Nat.reduceLeDiff,u_3,u_5,u_9,telem_9,tfld_60_0,tfld_60_1,tstr_45,tsz_3,tsz_45,tsz_9,tzero_45, *]
    repeat' (first
 |with_reducible (first|apply awp_seq|apply awp_block|(refine awp_region_k ?_;intro κ hκ)|(refine hκ.out _ _ ?_;clear hκ κ)|apply awp_skip|apply awp_exit|apply awp_ret)
 |((first|with_reducible (first|apply gd_split|apply gt_split)|((with_reducible refine cond_go ?_);refine awp_cond_split rfl ?_ ?_))<;>intro h<;>(try simp only [upd, ↓reduceIte,Nat.reduceEqDiff,B2] at h)<;>(try simp only [*,reduceCtorEq,decide_true,decide_false] at h)<;>(try (have hari:=h;simp only [B3] at hari))<;>(try (first|contradiction|(exfalso;omega)|(exfalso;simp at h;done)))<;>(try simp only [B5]))
 |(simp (maxSteps:=3000000) (disch:=(first|omega|(simp only [B1, *];omega))) only [↓mapA_nil, ↓mapA_cons,B0,B4,awant,undef,aq,al,cst,cst1,acells,flat,behind,abin,aconv,aint,thenQ,blkQ,retQ,rdo,objOf,Value.cells,Value.oneCell',Int.reduceToNat, ↓reduceIte,Nat.reduceLT,Nat.reduceEqDiff,reduceCtorEq,Nat.reduceAdd,Nat.reduceMul,Nat.reduceLeDiff,u_3,u_5,u_9,telem_9,tfld_60_0,tfld_60_1,tstr_45,tsz_3,tsz_45,tsz_9,tzero_45, *])
 |((with_reducible refine and_go ?_);refine And.intro (by first|exact kept_refl|exact kept_last rfl|exact kept_keep (by assumption)) ?_)
 |(refine hκ.out _ _ ?_;clear hκ κ))
    refine awp_draw_k follows_mixed (fun _ => True) [9] [0, 1, 2, 3, 4, 5, 6, 7, 8] [9] (by kernel_rfl) (fun _ _ _ h => h) ?_
    intro κ hκ
    simp (maxSteps:=3000000) (disch:=(first|omega|(simp only [B1, *];omega))) only [↓mapA_nil, ↓mapA_cons,B0,B4,awant,undef,aq,al,cst,cst1,acells,flat,behind,abin,aconv,aint,thenQ,blkQ,retQ,rdo,objOf,Value.cells,Value.oneCell',Int.reduceToNat, ↓reduceIte,Nat.reduceLT,Nat.reduceEqDiff,reduceCtorEq,Nat.reduceAdd,Nat.reduceMul,Nat.reduceLeDiff,u_3,u_5,u_9,telem_9,tfld_60_0,tfld_60_1,tstr_45,tsz_3,tsz_45,tsz_9,tzero_45, *]
    have hdr : digitB b.toNat = true → 48 ≤ (b.toNat : Int) ∧ (b.toNat : Int) ≤ 57 := fun h => by simp [digitB] at h; omega
    have hcr : largeB b.toNat = true → 65 ≤ (b.toNat : Int) ∧ (b.toNat : Int) ≤ 90 := fun h => by simp [largeB] at h; omega
    have ho1 : Abs.Hid ((σ.new [sc (.bool false), sc (.int .i64 0)]).obj o = rdS t (b :: r) nm) := by rw [Abs.Hid, new_lt hn]; exact ho'.out
    have hn1 : o < (σ.new [sc (.bool false), sc (.int .i64 0)]).nobj := by rw [new_nobj]; omega
    have hK0 : Abs.Hid (KeepX o σ (σ.new [sc (.bool false), sc (.int .i64 0)])) := (KeepX.refl _ _).new _
    by_cases h48 : ((b.toNat : Int) == 48) = true
    · have hl : largeB b.toNat = false := by
        cases hl : largeB b.toNat with
        | false => rfl
        | true => have := hcr hl; simp at h48; omega
      have hd : digitB b.toNat = true := by simp at h48; simp [digitB]; omega
      have hp : pTerm (b :: r) = .got [b] r := by
        unfold pTerm; dsimp only; rw [if_neg (by rw [hl]; simp), if_pos h48]
      rw [hp] at hrl hrs
      have hE : Abs.Hid (encT [b] = (false, 0)) := by
        rw [Abs.Hid, encT_num hl]; simp at h48; simp [numV]; omega
      repeat' (first
 |with_reducible (first|apply awp_seq|apply awp_block|(refine awp_region_k ?_;intro κ hκ)|(refine hκ.out _ _ ?_;clear hκ κ)|apply awp_skip|apply awp_exit|apply awp_ret)
 |((first|with_reducible (first|apply gd_split|apply gt_split)|((with_reducible refine cond_go ?_);refine awp_cond_split rfl ?_ ?_))<;>intro h<;>(try simp only [upd, ↓reduceIte,Nat.reduceEqDiff,B2] at h)<;>(try simp only [*,reduceCtorEq,decide_true,decide_false] at h)<;>(try (have hari:=h;simp only [B3] at hari))<;>(try (first|contradiction|(exfalso;omega)|(exfalso;simp at h;done)))<;>(try simp only [B5]))
 |((with_reducible refine acalls_go ?_);refine ACalls.mono (isCapital_spec _ _) ?_;rintro _ _ ⟨rfl,rfl⟩)
 |((with_reducible refine acalls_go ?_);refine ACalls.mono (isDigit_spec _ _) ?_;rintro _ _ ⟨rfl,rfl⟩)
 |((with_reducible refine acalls_go ?_);refine ACalls.mono (readZero_spec t r b o nm ht hs _ ho1.out hn1 h48) ?_;rintro _ _ ⟨hK1,hO1,rfl⟩;(have hob:=hK1.obj σ.nobj (by rw [new_nobj];omega) (by omega);rw [new_same] at hob;have HK1 : Abs.Hid _:=hK1;have HO1 : Abs.Hid _:=hO1;clear hK1 hO1))
 |(simp (maxSteps:=3000000) (disch:=(first|omega|(simp only [B1, *];omega))) only [↓mapA_nil, ↓mapA_cons,B0,B4,awant,undef,aq,al,cst,cst1,acells,flat,behind,abin,aconv,aint,thenQ,blkQ,retQ,rdo,objOf,Value.cells,Value.oneCell',Int.reduceToNat, ↓reduceIte,Nat.reduceLT,Nat.reduceEqDiff,reduceCtorEq,Nat.reduceAdd,Nat.reduceMul,Nat.reduceLeDiff,u_3,u_5,u_9,telem_9,tfld_60_0,tfld_60_1,tstr_45,tsz_3,tsz_45,tsz_9,tzero_45, *])
 |((with_reducible refine and_go ?_);refine And.intro (by first|exact kept_refl|exact kept_last rfl|exact kept_keep (by assumption)) ?_)
 |(refine hκ.out _ _ ?_;clear hκ κ))
      rename_i σ1
      have hK : KeepX o σ (σ1.put σ.nobj [sc (.bool false), sc (.int .i64 0)]) := (hK0.out.trans HK1.out).putN (Nat.le_refl _) _
      refine ⟨_, rfl, false, 0, rfl, hK, hR'.out.stepX hK ?_ hrs.out hrl.out, hE.out⟩
      rw [hnm.out, put_ne hn]; exact HO1.out
    · have h48 : ((b.toNat : Int) == 48) = false := by simpa using h48
      by_cases hl : largeB b.toNat = true
      · have hp : pTerm (b :: r) = .got [b] r := by
          unfold pTerm; dsimp only; rw [if_pos hl]
        rw [hp] at hrl hrs
        have hE : Abs.Hid (encT [b] = (true, (b.toNat : Int) - 65)) := by
          exact encT_large hl
        have hcr := hcr hl
        have hw : IntKind.i64.wrap (IntKind.u8.wrap ((b.toNat : Int) - 65)) = (b.toNat : Int) - 65 := by
          rw [Abs.u8w (by omega) (by omega), Abs.i64w (by omega) (by omega)]
        repeat' (first
 |with_reducible (first|apply awp_seq|apply awp_block|(refine awp_region_k ?_;intro κ hκ)|(refine hκ.out _ _ ?_;clear hκ κ)|apply awp_skip|apply awp_exit|apply awp_ret)
 |((first|with_reducible (first|apply gd_split|apply gt_split)|((with_reducible refine cond_go ?_);refine awp_cond_split rfl ?_ ?_))<;>intro h<;>(try simp only [upd, ↓reduceIte,Nat.reduceEqDiff,B2] at h)<;>(try simp only [*,reduceCtorEq,decide_true,decide_false] at h)<;>(try (have hari:=h;simp only [B3] at hari))<;>(try (first|contradiction|(exfalso;omega)|(exfalso;simp at h;done)))<;>(try simp only [B5]))
 |((with_reducible refine acalls_go ?_);refine ACalls.mono (isCapital_spec _ _) ?_;rintro _ _ ⟨rfl,rfl⟩)
 |(simp (maxSteps:=3000000) (disch:=(first|omega|(simp only [B1, *];omega))) only [↓mapA_nil, ↓mapA_cons,B0,B4,awant,undef,aq,al,cst,cst1,acells,flat,behind,abin,aconv,aint,thenQ,blkQ,retQ,rdo,objOf,Value.cells,Value.oneCell',Int.reduceToNat, ↓reduceIte,Nat.reduceLT,Nat.reduceEqDiff,reduceCtorEq,Nat.reduceAdd,Nat.reduceMul,Nat.reduceLeDiff,u_3,u_5,u_9,telem_9,tfld_60_0,tfld_60_1,tstr_45,tsz_3,tsz_45,tsz_9,tzero_45, *])
 |((with_reducible refine and_go ?_);refine And.intro (by first|exact kept_refl|exact kept_last rfl|exact kept_keep (by assumption)) ?_)
 |(refine hκ.out _ _ ?_;clear hκ κ))
        have hK : KeepX o σ (((σ.new [sc (.bool false), sc (.int .i64 0)]).put o [str t, sc (.int .i64 ((t.length - (r.length + 1) : Nat) + 1)), nm]).put σ.nobj [sc (.bool true), sc (.int .i64 ((b.toNat : Int) - 65))]) := (hK0.out.put _).putN (Nat.le_refl _) _
        refine ⟨_, rfl, true, _, rfl, hK, hR'.out.stepX hK ?_ hrs.out hrl.out, hE.out⟩
        rw [hnm.out, put_ne hn, put_same]
        unfold rdS rdr
        rw [show ((t.length - (r.length + 1) : Nat) : Int) + 1 = ((t.length - r.length : Nat) : Int) by omega]
        rfl
      · have hl : largeB b.toNat = false := by simpa using hl
        by_cases hd : digitB b.toNat = true
        · have hN := readNumber_spec t (b :: r) o nm ht hs _ ho1.out hn1 (fun b' r' e => by cases e; exact h48)
          have hw : pWhile digitB 3 (b :: r) = (b :: (pWhile digitB 2 r).1, (pWhile digitB 2 r).2) := by rw [pWhile, if_pos hd]
          rw [hw] at hN
          have hN : Abs.Hid _ := hN
          have hni : nineB b.toNat = true := by
            rcases digit_iff.1 hd with h | h
            · exact h
            · rw [h48] at h; cases h
          have hp : pTerm (b :: r) = .got (b :: (pWhile digitB 2 r).1) (pWhile digitB 2 r).2 := by
            unfold pTerm; dsimp only; rw [if_neg (by rw [hl]; simp), if_neg (by rw [h48]; simp), if_pos hni]
          rw [hp] at hrl hrs
          have hE : Abs.Hid (encT (b :: (pWhile digitB 2 r).1) = (false, numV (b :: (pWhile digitB 2 r).1))) := by
            exact encT_num hl
          clear hw
          repeat' (first
 |with_reducible (first|apply awp_seq|apply awp_block|(refine awp_region_k ?_;intro κ hκ)|(refine hκ.out _ _ ?_;clear hκ κ)|apply awp_skip|apply awp_exit|apply awp_ret)
 |((first|with_reducible (first|apply gd_split|apply gt_split)|((with_reducible refine cond_go ?_);refine awp_cond_split rfl ?_ ?_))<;>intro h<;>(try simp only [upd, ↓reduceIte,Nat.reduceEqDiff,B2] at h)<;>(try simp only [*,reduceCtorEq,decide_true,decide_false] at h)<;>(try (have hari:=h;simp only [B3] at hari))<;>(try (first|contradiction|(exfalso;omega)|(exfalso;simp at h;done)))<;>(try simp only [B5]))
 |((with_reducible refine acalls_go ?_);refine ACalls.mono (isCapital_spec _ _) ?_;rintro _ _ ⟨rfl,rfl⟩)
 |((with_reducible refine acalls_go ?_);refine ACalls.mono (isDigit_spec _ _) ?_;rintro _ _ ⟨rfl,rfl⟩)
 |((with_reducible refine acalls_go ?_);refine ACalls.mono (hN.out) ?_;rintro _ _ ⟨hK1,q,hO1,hq,hq2,rfl⟩;(have hob:=hK1.obj σ.nobj (by rw [new_nobj];omega) (by omega);rw [new_same] at hob;have HK1 : Abs.Hid _:=hK1;have HO1 : Abs.Hid _:=hO1;have HQ : Abs.Hid _:=hq2;clear hK1 hO1 hq2))
 |(simp (maxSteps:=3000000) (disch:=(first|omega|(simp only [B1, *];omega))) only [↓mapA_nil, ↓mapA_cons,B0,B4,awant,undef,aq,al,cst,cst1,acells,flat,behind,abin,aconv,aint,thenQ,blkQ,retQ,rdo,objOf,Value.cells,Value.oneCell',Int.reduceToNat, ↓reduceIte,Nat.reduceLT,Nat.reduceEqDiff,reduceCtorEq,Nat.reduceAdd,Nat.reduceMul,Nat.reduceLeDiff,u_3,u_5,u_9,telem_9,tfld_60_0,tfld_60_1,tstr_45,tsz_3,tsz_45,tsz_9,tzero_45, *])
 |((with_reducible refine and_go ?_);refine And.intro (by first|exact kept_refl|exact kept_last rfl|exact kept_keep (by assumption)) ?_)
 |(refine hκ.out _ _ ?_;clear hκ κ))
          rename_i σ1
          have hK : KeepX o σ (σ1.put σ.nobj [sc (.bool false), sc (.int .i64 (numV (b :: (pWhile digitB 2 r).1)))]) := (hK0.out.trans HK1.out).putN (Nat.le_refl _) _
          refine ⟨_, rfl, false, _, rfl, hK, hR'.out.stepX hK ?_ hrs.out hrl.out, hE.out⟩
          rw [hnm.out, put_ne hn, show (Rd.got (b :: (pWhile digitB 2 r).1) (pWhile digitB 2 r).2).rest = q from HQ.out.symm]; exact HO1.out
        · have hd : digitB b.toNat = false := by simpa using hd
          have hni : nineB b.toNat = false := by
            cases hni : nineB b.toNat with
            | false => rfl
            | true => rw [digit_iff.2 (.inl hni)] at hd; cases hd
          have hp : pTerm (b :: r) = .bad (b :: r) := by
            unfold pTerm; dsimp only; rw [if_neg (by rw [hl]; simp), if_neg (by rw [h48]; simp), if_neg (by rw [hni]; simp)]
          rw [hp] at hrl hrs
          repeat' (first
 |with_reducible (first|apply awp_seq|apply awp_block|(refine awp_region_k ?_;intro κ hκ)|(refine hκ.out _ _ ?_;clear hκ κ)|apply awp_skip|apply awp_exit|apply awp_ret)
 |((first|with_reducible (first|apply gd_split|apply gt_split)|((with_reducible refine cond_go ?_);refine awp_cond_split rfl ?_ ?_))<;>intro h<;>(try simp only [upd, ↓reduceIte,Nat.reduceEqDiff,B2] at h)<;>(try simp only [*,reduceCtorEq,decide_true,decide_false] at h)<;>(try (have hari:=h;simp only [B3] at hari))<;>(try (first|contradiction|(exfalso;omega)|(exfalso;simp at h;done)))<;>(try simp only [B5]))
 |((with_reducible refine acalls_go ?_);refine ACalls.mono (isCapital_spec _ _) ?_;rintro _ _ ⟨rfl,rfl⟩)
 |((with_reducible refine acalls_go ?_);refine ACalls.mono (isDigit_spec _ _) ?_;rintro _ _ ⟨rfl,rfl⟩)
 |(simp (maxSteps:=3000000) (disch:=(first|omega|(simp only [B1, *];omega))) only [↓mapA_nil, ↓mapA_cons,B0,B4,awant,undef,aq,al,cst,cst1,acells,flat,behind,abin,aconv,aint,thenQ,blkQ,retQ,rdo,objOf,Value.cells,Value.oneCell',Int.reduceToNat, ↓reduceIte,Nat.reduceLT,Nat.reduceEqDiff,reduceCtorEq,Nat.reduceAdd,Nat.reduceMul,Nat.reduceLeDiff,u_3,u_5,u_9,telem_9,tfld_60_0,tfld_60_1,tstr_45,tsz_3,tsz_45,tsz_9,tzero_45, *])
 |((with_reducible refine and_go ?_);refine And.intro (by first|exact kept_refl|exact kept_last rfl|exact kept_keep (by assumption)) ?_)
 |(refine hκ.out _ _ ?_;clear hκ κ))
          have hK : KeepX o σ ((σ.new [sc (.bool false), sc (.int .i64 0)]).put σ.nobj [sc (.bool false), sc (.int .i64 0)]) := hK0.out.putN (Nat.le_refl _) _
          refine ⟨_, rfl, false, 0, rfl, hK, hR'.out.stepX hK ?_ hrs.out hrl.out, trivial⟩
          rw [hnm.out, put_ne hn]; exact ho1.out
end Go.Proofs.YtmoeoppbmhfbpaaDoorX
