import Derived.Test.YtmoeoppbmhfbpaaDoorXGram
/- The program's reader: bytes. -/
namespace Go.Proofs.YtmoeoppbmhfbpaaDoorX
open Go.Abs
set_option linter.unusedSimpArgs false
set_option linter.unusedVariables false
set_option maxRecDepth 100000

theorem isSmall_spec (c : Int) (σ : St) : ACalls Tryd.prog 56 [sc (.int .u8 c)] σ fun x σ' => x = sc (.bool (smallB c)) ∧ σ' = σ := by
  refine acalls 9 [.tmp 2] Tryd.func56 rfl (by decide) rfl rfl (Nat.le_of_ble_eq_true rfl) ?_
  repeat' (first
 |with_reducible (first|apply awp_seq|apply awp_block|(refine awp_region_k ?_;intro κ hκ)|(refine hκ.out _ _ ?_;clear hκ κ)|apply awp_skip|apply awp_exit|apply awp_ret)
 |((first|with_reducible apply gd_split|((with_reducible refine cond_go ?_);refine awp_cond_split rfl ?_ ?_))<;>intro h<;>(try simp only [upd, ↓reduceIte,Nat.reduceEqDiff,B2] at h)<;>(try simp only [*,reduceCtorEq,decide_true,decide_false] at h)<;>(try (have hari:=h;simp only [B3] at hari))<;>(try (first|contradiction|(exfalso;omega)|(exfalso;simp at h;done)))<;>(try simp only [B5]))
 |(simp (maxSteps:=3000000) (disch:=(first|omega|(simp only [B1, *];omega))) only [↓mapA_nil, ↓mapA_cons,B0,B4,awant,undef,aq,al,cst,cst1,acells,flat,behind,abin,aconv,aint,thenQ,blkQ,retQ,Value.cells,Value.oneCell',Int.reduceToNat, ↓reduceIte,Nat.reduceLT,Nat.reduceEqDiff,reduceCtorEq,Nat.reduceAdd,Nat.reduceMul,Nat.reduceLeDiff,u_5, *])
 |(refine hκ.out _ _ ?_;clear hκ κ))
  all_goals exact ⟨_, rfl, by simp [smallB, *]⟩
theorem isCapital_spec (c : Int) (σ : St) : ACalls Tryd.prog 70 [sc (.int .u8 c)] σ fun x σ' => x = sc (.bool (largeB c)) ∧ σ' = σ := by
  refine acalls 9 [.tmp 2] Tryd.func70 rfl (by decide) rfl rfl (Nat.le_of_ble_eq_true rfl) ?_
  repeat' (first
 |with_reducible (first|apply awp_seq|apply awp_block|(refine awp_region_k ?_;intro κ hκ)|(refine hκ.out _ _ ?_;clear hκ κ)|apply awp_skip|apply awp_exit|apply awp_ret)
 |((first|with_reducible apply gd_split|((with_reducible refine cond_go ?_);refine awp_cond_split rfl ?_ ?_))<;>intro h<;>(try simp only [upd, ↓reduceIte,Nat.reduceEqDiff,B2] at h)<;>(try simp only [*,reduceCtorEq,decide_true,decide_false] at h)<;>(try (have hari:=h;simp only [B3] at hari))<;>(try (first|contradiction|(exfalso;omega)|(exfalso;simp at h;done)))<;>(try simp only [B5]))
 |(simp (maxSteps:=3000000) (disch:=(first|omega|(simp only [B1, *];omega))) only [↓mapA_nil, ↓mapA_cons,B0,B4,awant,undef,aq,al,cst,cst1,acells,flat,behind,abin,aconv,aint,thenQ,blkQ,retQ,Value.cells,Value.oneCell',Int.reduceToNat, ↓reduceIte,Nat.reduceLT,Nat.reduceEqDiff,reduceCtorEq,Nat.reduceAdd,Nat.reduceMul,Nat.reduceLeDiff,u_5, *])
 |(refine hκ.out _ _ ?_;clear hκ κ))
  all_goals exact ⟨_, rfl, by simp [largeB, *]⟩
theorem isDigit_spec (c : Int) (σ : St) : ACalls Tryd.prog 71 [sc (.int .u8 c)] σ fun x σ' => x = sc (.bool (digitB c)) ∧ σ' = σ := by
  refine acalls 9 [.tmp 2] Tryd.func71 rfl (by decide) rfl rfl (Nat.le_of_ble_eq_true rfl) ?_
  repeat' (first
 |with_reducible (first|apply awp_seq|apply awp_block|(refine awp_region_k ?_;intro κ hκ)|(refine hκ.out _ _ ?_;clear hκ κ)|apply awp_skip|apply awp_exit|apply awp_ret)
 |((first|with_reducible apply gd_split|((with_reducible refine cond_go ?_);refine awp_cond_split rfl ?_ ?_))<;>intro h<;>(try simp only [upd, ↓reduceIte,Nat.reduceEqDiff,B2] at h)<;>(try simp only [*,reduceCtorEq,decide_true,decide_false] at h)<;>(try (have hari:=h;simp only [B3] at hari))<;>(try (first|contradiction|(exfalso;omega)|(exfalso;simp at h;done)))<;>(try simp only [B5]))
 |(simp (maxSteps:=3000000) (disch:=(first|omega|(simp only [B1, *];omega))) only [↓mapA_nil, ↓mapA_cons,B0,B4,awant,undef,aq,al,cst,cst1,acells,flat,behind,abin,aconv,aint,thenQ,blkQ,retQ,Value.cells,Value.oneCell',Int.reduceToNat, ↓reduceIte,Nat.reduceLT,Nat.reduceEqDiff,reduceCtorEq,Nat.reduceAdd,Nat.reduceMul,Nat.reduceLeDiff,u_5, *])
 |(refine hκ.out _ _ ?_;clear hκ κ))
  all_goals exact ⟨_, rfl, by simp [digitB, *]⟩

def rdr (t : Tx) (k : Nat) (nm : AV) : List AV := [str t, sc (.int .i64 k), nm]
def takeB (t : Tx) (k : Nat) (c : Int) : Bool := match t[k]? with | some b => (b.toNat : Int) == c | none => false
def takeN (t : Tx) (k : Nat) (c : Int) : Nat := if takeB t k c = true then k + 1 else k

set_option maxHeartbeats 4000000 in
theorem take_spec (t : Tx) (k o : Nat) (nm : AV) (c : Int) (ht : t.length ≤ 1000) (hk : k ≤ t.length) (σ : St) (ho : σ.obj o = rdr t k nm) (hn : o < σ.nobj) : ACalls Tryd.prog 42 [ptr o 0, sc (.int .u8 c)] σ fun x σ' => x = sc (.bool (takeB t k c)) ∧ KeepX o σ σ' ∧ σ'.obj o = rdr t (takeN t k c) nm := by
  unfold rdr at *
  refine acalls 35 [.tmp 4] Tryd.func42 rfl (by decide) rfl rfl (Nat.le_of_ble_eq_true rfl) ?_
  repeat' (first
 |with_reducible (first|apply awp_seq|apply awp_block|(refine awp_region_k ?_;intro κ hκ)|(refine hκ.out _ _ ?_;clear hκ κ)|apply awp_skip|apply awp_exit|apply awp_ret)
 |((first|with_reducible (first|apply gd_split|apply gt_split)|((with_reducible refine cond_go ?_);refine awp_cond_split rfl ?_ ?_))<;>intro h<;>(try simp only [upd, ↓reduceIte,Nat.reduceEqDiff,B2] at h)<;>(try simp only [*,reduceCtorEq,decide_true,decide_false] at h)<;>(try (have hari:=h;simp only [B3] at hari))<;>(try (first|contradiction|(exfalso;omega)|(exfalso;simp at h;done)))<;>(try simp only [B5]))
 |(simp (maxSteps:=3000000) (disch:=(first|omega|(simp only [B1, *];omega))) only [↓mapA_nil, ↓mapA_cons,B0,B4,awant,undef,aq,al,cst,cst1,acells,flat,behind,abin,aconv,aint,thenQ,blkQ,retQ,rdo,objOf,Value.cells,Value.oneCell',Int.reduceToNat, ↓reduceIte,Nat.reduceLT,Nat.reduceEqDiff,reduceCtorEq,Nat.reduceAdd,Nat.reduceMul,Nat.reduceLeDiff,u_3,u_5,u_9,telem_9,tfld_60_0,tfld_60_1,tsz_3,tsz_9, *])
 |((with_reducible refine and_go ?_);refine And.intro (by first|exact kept_refl|exact kept_last rfl|exact kept_keep (by assumption)) ?_)
 |(refine hκ.out _ _ ?_;clear hκ κ))
  refine awp_draw_k follows_mixed (fun _ => True) [22] [0, 1, 2, 3, 4, 5, 6, 7, 8, 9, 10, 11, 12, 13, 14, 15, 16, 17, 18, 19, 20, 21] [22] (by kernel_rfl) (fun _ _ _ h => h) ?_
  intro κ hκ
  by_cases hlt : k < t.length
  · have hg := List.getElem?_eq_getElem hlt
    generalize t[k] = b at hg
    simp (maxSteps:=3000000) (disch:=(first|omega|(simp only [B1, *];omega))) only [↓mapA_nil, ↓mapA_cons,B0,B4,awant,undef,aq,al,cst,cst1,acells,flat,behind,abin,aconv,aint,thenQ,blkQ,retQ,rdo,objOf,Value.cells,Value.oneCell',Int.reduceToNat, ↓reduceIte,Nat.reduceLT,Nat.reduceEqDiff,reduceCtorEq,Nat.reduceAdd,Nat.reduceMul,Nat.reduceLeDiff,u_3,u_5,u_9,telem_9,tfld_60_0,tfld_60_1,tsz_3,tsz_9, *]
    repeat' (first
 |with_reducible (first|apply awp_seq|apply awp_block|(refine awp_region_k ?_;intro κ hκ)|(refine hκ.out _ _ ?_;clear hκ κ)|apply awp_skip|apply awp_exit|apply awp_ret)
 |((first|with_reducible (first|apply gd_split|apply gt_split)|((with_reducible refine cond_go ?_);refine awp_cond_split rfl ?_ ?_))<;>intro h<;>(try simp only [upd, ↓reduceIte,Nat.reduceEqDiff,B2] at h)<;>(try simp only [*,reduceCtorEq,decide_true,decide_false] at h)<;>(try (have hari:=h;simp only [B3] at hari))<;>(try (first|contradiction|(exfalso;omega)|(exfalso;simp at h;done)))<;>(try simp only [B5]))
 |(simp (maxSteps:=3000000) (disch:=(first|omega|(simp only [B1, *];omega))) only [↓mapA_nil, ↓mapA_cons,B0,B4,awant,undef,aq,al,cst,cst1,acells,flat,behind,abin,aconv,aint,thenQ,blkQ,retQ,rdo,objOf,Value.cells,Value.oneCell',Int.reduceToNat, ↓reduceIte,Nat.reduceLT,Nat.reduceEqDiff,reduceCtorEq,Nat.reduceAdd,Nat.reduceMul,Nat.reduceLeDiff,u_3,u_5,u_9,telem_9,tfld_60_0,tfld_60_1,tsz_3,tsz_9, *])
 |((with_reducible refine and_go ?_);refine And.intro (by first|exact kept_refl|exact kept_last rfl|exact kept_keep (by assumption)) ?_)
 |(refine hκ.out _ _ ?_;clear hκ κ))
    · have hB : takeB t k c = false := by simp [takeB, hg]; simpa using h
      exact ⟨_, rfl, by rw [hB], KeepX.refl _ _, by simp [takeN, hB]⟩
    · have hB : takeB t k c = true := by simp [takeB, hg]; simpa using h
      exact ⟨_, rfl, by rw [hB], (KeepX.refl _ _).put _, by simp [takeN, hB]⟩
  · have hg : t[k]? = none := by simp; omega
    simp (maxSteps:=3000000) (disch:=(first|omega|(simp only [B1, *];omega))) only [↓mapA_nil, ↓mapA_cons,B0,B4,awant,undef,aq,al,cst,cst1,acells,flat,behind,abin,aconv,aint,thenQ,blkQ,retQ,rdo,objOf,Value.cells,Value.oneCell',Int.reduceToNat, ↓reduceIte,Nat.reduceLT,Nat.reduceEqDiff,reduceCtorEq,Nat.reduceAdd,Nat.reduceMul,Nat.reduceLeDiff,u_3,u_5,u_9,telem_9,tfld_60_0,tfld_60_1,tsz_3,tsz_9, *]
    repeat' (first
 |with_reducible (first|apply awp_seq|apply awp_block|(refine awp_region_k ?_;intro κ hκ)|(refine hκ.out _ _ ?_;clear hκ κ)|apply awp_skip|apply awp_exit|apply awp_ret)
 |((first|with_reducible (first|apply gd_split|apply gt_split)|((with_reducible refine cond_go ?_);refine awp_cond_split rfl ?_ ?_))<;>intro h<;>(try simp only [upd, ↓reduceIte,Nat.reduceEqDiff,B2] at h)<;>(try simp only [*,reduceCtorEq,decide_true,decide_false] at h)<;>(try (have hari:=h;simp only [B3] at hari))<;>(try (first|contradiction|(exfalso;omega)|(exfalso;simp at h;done)))<;>(try simp only [B5]))
 |(simp (maxSteps:=3000000) (disch:=(first|omega|(simp only [B1, *];omega))) only [↓mapA_nil, ↓mapA_cons,B0,B4,awant,undef,aq,al,cst,cst1,acells,flat,behind,abin,aconv,aint,thenQ,blkQ,retQ,rdo,objOf,Value.cells,Value.oneCell',Int.reduceToNat, ↓reduceIte,Nat.reduceLT,Nat.reduceEqDiff,reduceCtorEq,Nat.reduceAdd,Nat.reduceMul,Nat.reduceLeDiff,u_3,u_5,u_9,telem_9,tfld_60_0,tfld_60_1,tsz_3,tsz_9, *])
 |((with_reducible refine and_go ?_);refine And.intro (by first|exact kept_refl|exact kept_last rfl|exact kept_keep (by assumption)) ?_)
 |(refine hκ.out _ _ ?_;clear hκ κ))
    have hB : takeB t k c = false := by simp [takeB, hg]
    exact ⟨_, rfl, by rw [hB], KeepX.refl _ _, by simp [takeN, hB]⟩

/-! ### By what is left of the text -/
def rdS (t s : Tx) (nm : AV) : List AV := rdr t (t.length - s.length) nm
theorem suff_get {t s : Tx} (h : s <:+ t) : t[t.length - s.length]? = s.head? := by
  obtain ⟨p, rfl⟩ := h
  rw [List.length_append, Nat.add_sub_cancel, List.getElem?_append_right (Nat.le_refl _), Nat.sub_self]
  cases s <;> rfl
theorem suff_tail {t s : Tx} {b : UInt8} (h : (b :: s) <:+ t) : s <:+ t := (List.suffix_cons b s).trans h
theorem suff_len {t s : Tx} (h : s <:+ t) : s.length ≤ t.length := h.length_le
theorem take_suff (t s : Tx) (o : Nat) (nm : AV) (c : Int) (ht : t.length ≤ 1000) (hs : s <:+ t) (σ : St) (ho : σ.obj o = rdS t s nm) (hn : o < σ.nobj) :
    ACalls Tryd.prog 42 [ptr o 0, sc (.int .u8 c)] σ fun x σ' => KeepX o σ σ' ∧ match pByte c s with
      | .got _ r => x = sc (.bool true) ∧ σ'.obj o = rdS t r nm ∧ r <:+ t
      | .bad e => x = sc (.bool false) ∧ σ'.obj o = rdS t s nm ∧ e = s := by
  have hl := suff_len hs
  refine ACalls.mono (take_spec t _ o nm c ht (by omega) σ ho hn) ?_
  rintro x σ' ⟨rfl, hK, hO⟩
  refine ⟨hK, ?_⟩
  have hg := suff_get hs
  cases s with
  | nil =>
    have hB : takeB t (t.length - ([] : Tx).length) c = false := by unfold takeB; rw [hg]; rfl
    refine ⟨by rw [hB], ?_, rfl⟩
    rw [hO, takeN, hB]; rfl
  | cons b r =>
    have hB : takeB t (t.length - (b :: r).length) c = ((b.toNat : Int) == c) := by unfold takeB; rw [hg]; rfl
    unfold pByte
    by_cases hb : ((b.toNat : Int) == c) = true
    · rw [hb] at hB
      simp only [hb, if_true]
      refine ⟨by rw [hB], ?_, suff_tail hs⟩
      rw [hO, takeN, hB, rdS]
      simp only [if_true, List.length_cons] at *
      rw [show t.length - (r.length + 1) + 1 = t.length - r.length by omega]
    · have hb' : ((b.toNat : Int) == c) = false := by simpa using hb
      rw [hb'] at hB
      simp only [hb', Bool.false_eq_true, if_false]
      refine ⟨by rw [hB], ?_, trivial⟩
      rw [hO, takeN, hB]; rfl
/- The program's reader: numbers. -/

def numV (ds : Tx) : Int := ds.foldl (fun v b => v * 10 + ((b.toNat : Int) - 48)) 0
theorem numV_snoc (ds : Tx) (b : UInt8) : numV (ds ++ [b]) = numV ds * 10 + ((b.toNat : Int) - 48) := by simp [numV]
def digs (s ds q : Tx) : Prop := ds.length ≤ 3 ∧ pWhile digitB 3 s = (ds ++ (pWhile digitB (3 - ds.length) q).1, (pWhile digitB (3 - ds.length) q).2) ∧ 0 ≤ numV ds ∧ (ds.length = 0 → numV ds = 0) ∧ (ds.length = 1 → numV ds ≤ 9) ∧ (ds.length = 2 → numV ds ≤ 99)
theorem digs_nil (s : Tx) : digs s [] s := ⟨by simp, by simp, by simp [numV], by simp [numV], by simp, by simp⟩
theorem digs_step {s ds q : Tx} {b : UInt8} (h : digs s ds (b :: q)) (hl : ds.length < 3) (hb : digitB b.toNat = true) : digs s (ds ++ [b]) q := by
  obtain ⟨h1, h2, h3, h4, h5, h6⟩ := h
  have hr : 48 ≤ b.toNat ∧ b.toNat ≤ 57 := by simp [digitB] at hb; omega
  have e : 3 - ds.length = (3 - (ds ++ [b]).length) + 1 := by simp; omega
  rw [e, pWhile, if_pos hb] at h2
  refine ⟨by simp; omega, by rw [h2]; simp, ?_, by simp, ?_, ?_⟩
  · rw [numV_snoc]; omega
  · intro hh; rw [numV_snoc]; have := h4 (by simp at hh; simp [hh]); omega
  · intro hh; rw [numV_snoc]; have := h5 (by simp at hh; omega); omega
theorem digs_end {s ds q : Tx} (h : digs s ds q) (he : ds.length = 3 ∨ q = [] ∨ ∃ b r, q = b :: r ∧ digitB b.toNat = false) : pWhile digitB 3 s = (ds, q) := by
  obtain ⟨h1, h2, -⟩ := h
  rw [h2]
  rcases he with he | rfl | ⟨b, r, rfl, hb⟩
  · rw [he]; simp [pWhile]
  · cases hn : 3 - ds.length <;> simp [pWhile]
  · cases hn : 3 - ds.length <;> simp [pWhile, hb]

set_option maxHeartbeats 16000000 in
theorem readNumber_spec (t s : Tx) (o : Nat) (nm : AV) (ht : t.length ≤ 1000) (hs : s <:+ t) (σ : St) (ho : σ.obj o = rdS t s nm) (hn : o < σ.nobj) (h48 : ∀ b r, s = b :: r → ((b.toNat : Int) == 48) = false) :
    ACalls Tryd.prog 72 [ptr o 0] σ fun x σ' => KeepX o σ σ' ∧ ∃ q, σ'.obj o = rdS t q nm ∧ q <:+ t ∧ q = (pWhile digitB 3 s).2 ∧ x = sc (.int .i64 (numV (pWhile digitB 3 s).1)) := by
  have hp : pByte 48 s = .bad s := by
    cases s with
    | nil => rfl
    | cons b r => unfold pByte; simp only [h48 b r rfl]; simp
  have hT := take_suff t s o nm 48 ht hs σ ho hn
  rw [hp] at hT
  refine acalls 57 [.tmp 2] Tryd.func72 rfl (by decide) rfl rfl (Nat.le_of_ble_eq_true rfl) ?_
  repeat' (first
 |with_reducible (first|apply awp_seq|apply awp_block|(refine awp_region_k ?_;intro κ hκ)|(refine hκ.out _ _ ?_;clear hκ κ)|apply awp_skip|apply awp_exit|apply awp_ret)
 |((first|with_reducible (first|apply gd_split|apply gt_split)|((with_reducible refine cond_go ?_);refine awp_cond_split rfl ?_ ?_))<;>intro h<;>(try simp only [upd, ↓reduceIte,Nat.reduceEqDiff,B2] at h)<;>(try simp only [*,reduceCtorEq,decide_true,decide_false] at h)<;>(try (have hari:=h;simp only [B3] at hari))<;>(try (first|contradiction|(exfalso;omega)|(exfalso;simp at h;done)))<;>(try simp only [B5]))
 |((with_reducible refine acalls_go ?_);refine ACalls.mono (hT) ?_;rintro _ _ ⟨hK1,rfl,hO1,-⟩)
 |(simp (maxSteps:=3000000) (disch:=(first|omega|(simp only [B1, *];omega))) only [↓mapA_nil, ↓mapA_cons,B0,B4,awant,undef,aq,al,cst,cst1,acells,flat,behind,abin,aconv,aint,thenQ,blkQ,retQ,rdo,objOf,Value.cells,Value.oneCell',Int.reduceToNat, ↓reduceIte,Nat.reduceLT,Nat.reduceEqDiff,reduceCtorEq,Nat.reduceAdd,Nat.reduceMul,Nat.reduceLeDiff,u_3,u_5,u_9,telem_9,tfld_60_0,tfld_60_1,tsz_3,tsz_9, *])
 |((with_reducible refine and_go ?_);refine And.intro (by first|exact kept_refl|exact kept_last rfl|exact kept_keep (by assumption)) ?_)
 |(refine hκ.out _ _ ?_;clear hκ κ))
  rename_i σ1
  have hn1 : o < σ1.nobj := Nat.lt_of_lt_of_le hn hK1.nobj
  clear hT hp ho
  refine awp_loop (fun m s' σ' => ∃ (q ds : Tx), m = 3 - ds.length ∧ s' 0 = ptr o 0 ∧ s' 3 = sc (.int .i64 (numV ds)) ∧ s' 4 = sc (.int .i64 ds.length) ∧ KeepX o σ σ' ∧ σ'.obj o = rdS t q nm ∧ o < σ'.nobj ∧ q <:+ t ∧ Abs.Hid (digs s ds q)) 3
    ⟨s, [], rfl, rfl, rfl, rfl, hK1, hO1, hn1, hs, digs_nil s⟩ ?_
  rintro m s' σ' ⟨q, ds, rfl, h0, h3, h4, hK, hO, hn', hq, hD⟩
  clear hK1 hO1 hn1
  have hql := suff_len hq
  have hqg := suff_get hq
  have hD' := hD.out
  obtain ⟨d1, -, d3, d4, d5, d6⟩ := hD'
  unfold rdS rdr at hO
  repeat' (first
 |with_reducible (first|apply awp_seq|apply awp_block|(refine awp_region_k ?_;intro κ hκ)|(refine hκ.out _ _ ?_;clear hκ κ)|apply awp_skip|apply awp_exit|apply awp_ret)
 |((first|with_reducible (first|apply gd_split|apply gt_split)|((with_reducible refine cond_go ?_);refine awp_cond_split rfl ?_ ?_))<;>intro h<;>(try simp only [upd, ↓reduceIte,Nat.reduceEqDiff,B2] at h)<;>(try simp only [*,reduceCtorEq,decide_true,decide_false] at h)<;>(try (have hari:=h;simp only [B3] at hari))<;>(try (first|contradiction|(exfalso;omega)|(exfalso;simp at h;done)))<;>(try simp only [B5]))
 |(simp (maxSteps:=3000000) (disch:=(first|omega|(simp only [B1, *];omega))) only [↓mapA_nil, ↓mapA_cons,B0,B4,awant,undef,aq,al,cst,cst1,acells,flat,behind,abin,aconv,aint,thenQ,blkQ,retQ,rdo,objOf,Value.cells,Value.oneCell',Int.reduceToNat, ↓reduceIte,Nat.reduceLT,Nat.reduceEqDiff,reduceCtorEq,Nat.reduceAdd,Nat.reduceMul,Nat.reduceLeDiff,u_3,u_5,u_9,telem_9,tfld_60_0,tfld_60_1,tsz_3,tsz_9, *])
 |((with_reducible refine and_go ?_);refine And.intro (by first|exact kept_refl|exact kept_last rfl|exact kept_keep (by assumption)) ?_)
 |(refine hκ.out _ _ ?_;clear hκ κ))
  refine awp_draw_k follows_mixed (fun _ => True) [25] [0, 1, 2, 3, 4, 5, 6, 7, 8, 9, 10, 11, 12, 13, 14, 15, 16, 17, 18, 19, 20, 21, 22, 23] [24, 25] (by kernel_rfl) (fun _ _ _ h => h) ?_
  intro κ hκ
  cases q with
  | nil =>
    simp only [List.length_nil, Nat.sub_zero] at hO hqg hql
    simp (maxSteps:=3000000) (disch:=(first|omega|(simp only [B1, *];omega))) only [↓mapA_nil, ↓mapA_cons,B0,B4,awant,undef,aq,al,cst,cst1,acells,flat,behind,abin,aconv,aint,thenQ,blkQ,retQ,rdo,objOf,Value.cells,Value.oneCell',Int.reduceToNat, ↓reduceIte,Nat.reduceLT,Nat.reduceEqDiff,reduceCtorEq,Nat.reduceAdd,Nat.reduceMul,Nat.reduceLeDiff,u_3,u_5,u_9,telem_9,tfld_60_0,tfld_60_1,tsz_3,tsz_9, *]
    repeat' (first
 |with_reducible (first|apply awp_seq|apply awp_block|(refine awp_region_k ?_;intro κ hκ)|(refine hκ.out _ _ ?_;clear hκ κ)|apply awp_skip|apply awp_exit|apply awp_ret)
 |((first|with_reducible (first|apply gd_split|apply gt_split)|((with_reducible refine cond_go ?_);refine awp_cond_split rfl ?_ ?_))<;>intro h<;>(try simp only [upd, ↓reduceIte,Nat.reduceEqDiff,B2] at h)<;>(try simp only [*,reduceCtorEq,decide_true,decide_false] at h)<;>(try (have hari:=h;simp only [B3] at hari))<;>(try (first|contradiction|(exfalso;omega)|(exfalso;simp at h;done)))<;>(try simp only [B5]))
 |((with_reducible refine acalls_go ?_);refine ACalls.mono (isDigit_spec _ _) ?_;rintro _ _ ⟨rfl,rfl⟩)
 |(simp (maxSteps:=3000000) (disch:=(first|omega|(simp only [B1, *];omega))) only [↓mapA_nil, ↓mapA_cons,B0,B4,awant,undef,aq,al,cst,cst1,acells,flat,behind,abin,aconv,aint,thenQ,blkQ,retQ,rdo,objOf,Value.cells,Value.oneCell',Int.reduceToNat, ↓reduceIte,Nat.reduceLT,Nat.reduceEqDiff,reduceCtorEq,Nat.reduceAdd,Nat.reduceMul,Nat.reduceLeDiff,u_3,u_5,u_9,telem_9,tfld_60_0,tfld_60_1,tsz_3,tsz_9, *])
 |((with_reducible refine and_go ?_);refine And.intro (by first|exact kept_refl|exact kept_last rfl|exact kept_keep (by assumption)) ?_)
 |(refine hκ.out _ _ ?_;clear hκ κ))
    all_goals
      have he := digs_end hD.out (.inr (.inl rfl))
      exact ⟨_, rfl, [], by simp [rdS, rdr], hq, by rw [he], by rw [he]⟩
  | cons b r =>
    simp only [List.length_cons, List.head?_cons] at hO hqg hql
    have hqr := suff_tail hq
    simp (maxSteps:=3000000) (disch:=(first|omega|(simp only [B1, *];omega))) only [↓mapA_nil, ↓mapA_cons,B0,B4,awant,undef,aq,al,cst,cst1,acells,flat,behind,abin,aconv,aint,thenQ,blkQ,retQ,rdo,objOf,Value.cells,Value.oneCell',Int.reduceToNat, ↓reduceIte,Nat.reduceLT,Nat.reduceEqDiff,reduceCtorEq,Nat.reduceAdd,Nat.reduceMul,Nat.reduceLeDiff,u_3,u_5,u_9,telem_9,tfld_60_0,tfld_60_1,tsz_3,tsz_9, *]
    have hdr : digitB b.toNat = true → 48 ≤ (b.toNat : Int) ∧ (b.toNat : Int) ≤ 57 := fun h => by simp [digitB] at h; omega
    repeat' (first
 |with_reducible (first|apply awp_seq|apply awp_block|(refine awp_region_k ?_;intro κ hκ)|(refine hκ.out _ _ ?_;clear hκ κ)|apply awp_skip|apply awp_exit|apply awp_ret)
 |((first|with_reducible (first|apply gd_split|apply gt_split)|((with_reducible refine cond_go ?_);refine awp_cond_split rfl ?_ ?_))<;>intro h<;>(try simp only [upd, ↓reduceIte,Nat.reduceEqDiff,B2] at h)<;>(try simp only [*,reduceCtorEq,decide_true,decide_false] at h)<;>(try (have hari:=h;simp only [B3] at hari))<;>(try (first|contradiction|(exfalso;omega)|(exfalso;simp at h;done)))<;>(try simp only [B5]))
 |((with_reducible refine acalls_go ?_);refine ACalls.mono (isDigit_spec _ _) ?_;rintro _ _ ⟨rfl,rfl⟩)
 |(simp (maxSteps:=3000000) (disch:=(first|omega|(simp only [B1, *];omega))) only [↓mapA_nil, ↓mapA_cons,B0,B4,awant,undef,aq,al,cst,cst1,acells,flat,behind,abin,aconv,aint,thenQ,blkQ,retQ,rdo,objOf,Value.cells,Value.oneCell',Int.reduceToNat, ↓reduceIte,Nat.reduceLT,Nat.reduceEqDiff,reduceCtorEq,Nat.reduceAdd,Nat.reduceMul,Nat.reduceLeDiff,u_3,u_5,u_9,telem_9,tfld_60_0,tfld_60_1,tsz_3,tsz_9, *])
 |((with_reducible refine and_go ?_);refine And.intro (by first|exact kept_refl|exact kept_last rfl|exact kept_keep (by assumption)) ?_)
 |(refine hκ.out _ _ ?_;clear hκ κ))
    all_goals
      first
      | (have he := digs_end hD.out (.inr (.inr ⟨b, r, rfl, by assumption⟩))
         exact ⟨_, rfl, b :: r, by simp [rdS, rdr], hq, by rw [he], by rw [he]⟩)
      | (have he := digs_end hD.out (.inl (by omega))
         exact ⟨_, rfl, b :: r, by simp [rdS, rdr], hq, by rw [he], by rw [he]⟩)
      | skip
    have hdg : digitB b.toNat = true := by assumption
    have hdr := hdr hdg
    have hl3 : ds.length < 3 := by omega
    have hnv : numV ds ≤ 99 := by
      have : ds.length = 0 ∨ ds.length = 1 ∨ ds.length = 2 := by omega
      rcases this with h | h | h
      · have := d4 h; omega
      · have := d5 h; omega
      · exact d6 h
    clear d4 d5 d6
    refine awp_draw_k follows_mixed (fun _ => True) [14] [0, 1, 2, 3, 4, 5, 6, 7, 8, 9, 10, 11, 12, 13] [14] (by kernel_rfl) (fun _ _ _ h => h) ?_
    intro κ hκ
    simp (maxSteps:=3000000) (disch:=(first|omega|(simp only [B1, *];omega))) only [↓mapA_nil, ↓mapA_cons,B0,B4,awant,undef,aq,al,cst,cst1,acells,flat,behind,abin,aconv,aint,thenQ,blkQ,retQ,rdo,objOf,Value.cells,Value.oneCell',Int.reduceToNat, ↓reduceIte,Nat.reduceLT,Nat.reduceEqDiff,reduceCtorEq,Nat.reduceAdd,Nat.reduceMul,Nat.reduceLeDiff,u_3,u_5,u_9,telem_9,tfld_60_0,tfld_60_1,tsz_3,tsz_9, *]
    repeat' (first
 |with_reducible (first|apply awp_seq|apply awp_block|(refine awp_region_k ?_;intro κ hκ)|(refine hκ.out _ _ ?_;clear hκ κ)|apply awp_skip|apply awp_exit|apply awp_ret)
 |((first|with_reducible (first|apply gd_split|apply gt_split)|((with_reducible refine cond_go ?_);refine awp_cond_split rfl ?_ ?_))<;>intro h<;>(try simp only [upd, ↓reduceIte,Nat.reduceEqDiff,B2] at h)<;>(try simp only [*,reduceCtorEq,decide_true,decide_false] at h)<;>(try (have hari:=h;simp only [B3] at hari))<;>(try (first|contradiction|(exfalso;omega)|(exfalso;simp at h;done)))<;>(try simp only [B5]))
 |(simp (maxSteps:=3000000) (disch:=(first|omega|(simp only [B1, *];omega))) only [↓mapA_nil, ↓mapA_cons,B0,B4,awant,undef,aq,al,cst,cst1,acells,flat,behind,abin,aconv,aint,thenQ,blkQ,retQ,rdo,objOf,Value.cells,Value.oneCell',Int.reduceToNat, ↓reduceIte,Nat.reduceLT,Nat.reduceEqDiff,reduceCtorEq,Nat.reduceAdd,Nat.reduceMul,Nat.reduceLeDiff,u_3,u_5,u_9,telem_9,tfld_60_0,tfld_60_1,tsz_3,tsz_9, *])
 |((with_reducible refine and_go ?_);refine And.intro (by first|exact kept_refl|exact kept_last rfl|exact kept_keep (by assumption)) ?_)
 |(refine hκ.out _ _ ?_;clear hκ κ))
    have hw : IntKind.i64.wrap (numV ds * 10 + IntKind.i64.wrap (IntKind.u8.wrap ((b.toNat : Int) - 48))) = numV (ds ++ [b]) := by
      rw [Abs.u8w (by omega) (by omega), show IntKind.i64.wrap ((b.toNat : Int) - 48) = (b.toNat : Int) - 48 from Abs.i64w (by omega) (by omega), Abs.i64w (by omega) (by omega), numV_snoc]
    rw [hw]
    refine ⟨3 - (ds ++ [b]).length, by simp; omega, r, ds ++ [b], rfl, rfl, by simp, hK.put _, ?_, hqr, digs_step hD.out hl3 hdg⟩
    unfold rdS rdr
    rw [show ((t.length - (r.length + 1) : Nat) : Int) + 1 = ((t.length - r.length : Nat) : Int) by omega]
end Go.Proofs.YtmoeoppbmhfbpaaDoorX
