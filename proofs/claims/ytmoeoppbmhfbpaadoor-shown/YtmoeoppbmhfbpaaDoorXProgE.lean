import Derived.Test.YtmoeoppbmhfbpaaDoorXProgD
/- The program's reader: predicates. -/
namespace Go.Proofs.YtmoeoppbmhfbpaaDoorX
open Go.Abs
set_option linter.unusedSimpArgs false
set_option linter.unusedVariables false
set_option maxRecDepth 100000

def ins (N : List Tx) (n : Tx) : List Tx := if n ∈ N then N else N ++ [n]
theorem ins_mem (N : List Tx) (n : Tx) : n ∈ ins N n := by unfold ins; split <;> simp_all
theorem ins_pre (N : List Tx) (n : Tx) : N <+: ins N n := by
  unfold ins; split
  · exact List.prefix_refl _
  · exact List.prefix_append _ _
theorem idx_pre {N N' : List Tx} {n : Tx} (h : N <+: N') (hm : n ∈ N) : N'.idxOf n = N.idxOf n := by
  obtain ⟨r, rfl⟩ := h
  rw [List.idxOf_append, if_pos hm]
theorem ins_idx (N : List Tx) (n : Tx) : (ins N n).idxOf n = N.idxOf n := by
  unfold ins; split
  · rfl
  · rename_i h
    rw [List.idxOf_append, if_neg h, List.idxOf_eq_length h]; simp
theorem idx_first : ∀ {N : List Tx} {i : Nat} {n : Tx}, (∀ a, a < i → N[a]? ≠ some n) → N[i]? = some n → N.idxOf n = i
  | [], i, n, h, hi => by simp at hi
  | x :: N, 0, n, h, hi => by simp at hi; subst hi; simp
  | x :: N, i + 1, n, h, hi => by
    have h0 := h 0 (by omega)
    have ih := idx_first (N := N) (i := i) (n := n) (fun a ha => by have := h (a + 1) (by omega); simpa using this) (by simpa using hi)
    have hx : (x == n) = false := by
      simp at h0
      simpa using h0
    rw [List.idxOf_cons, hx, ih]; rfl
theorem not_mem_of {N : List Tx} {n : Tx} (h : ∀ a, a < N.length → N[a]? ≠ some n) : n ∉ N := fun hm => by
  obtain ⟨i, hi, he⟩ := List.getElem_of_mem hm
  exact h i hi (by rw [List.getElem?_eq_getElem hi, he])

set_option maxHeartbeats 16000000 in
theorem place_R {t : Tx} {o : Nat} {N : List Tx} {id : Nat} {s : Tx} {σ : St} (n : Tx) (ht : t.length ≤ 1000) (hR : RS t o N id s σ) (hl : N.length + 1 + s.length ≤ 1000 + t.length) :
    ACalls Tryd.prog 57 [ptr o 0, str n] σ fun x σ' => ∃ id', x = sc (.int .i64 (N.idxOf n : Nat)) ∧ Rs o σ id σ' id' ∧ RS t o (ins N n) id' s σ' := by
  have hR' : Abs.Hid (RS t o N id s σ) := hR
  obtain ⟨ho, hn, hown, hs, hlen⟩ := hR
  have HOwn : Abs.Hid (OwnN σ id N.length) := hown
  clear hown
  have hsl := suff_len hs
  unfold rdS rdr at ho
  refine acalls 38 [.tmp 4] Tryd.func57 rfl (by decide) rfl rfl (Nat.le_of_ble_eq_true rfl) ?_
  repeat' (first
 |with_reducible (first|apply awp_seq|apply awp_block|(refine awp_region_k ?_;intro κ hκ)|(refine hκ.out _ _ ?_;clear hκ κ)|apply awp_skip|apply awp_exit|apply awp_ret)
 |((first|with_reducible apply gd_split|((with_reducible refine cond_go ?_);refine awp_cond_split rfl ?_ ?_))<;>intro h<;>(try simp only [upd, ↓reduceIte,Nat.reduceEqDiff,B2] at h)<;>(try simp only [*,reduceCtorEq,decide_true,decide_false] at h)<;>(try (have hari:=h;simp only [B3] at hari))<;>(try (first|contradiction|(exfalso;omega)|(exfalso;simp at h;done)))<;>(try simp only [B5]))
 |((with_reducible refine aapp_go ?_);refine aApp_own (by first|exact tez_26) (by assumption) (by assumption) (by decide) (by rfl) (by first|assumption|(simp;done)|(simp;omega)|omega) (by rfl) (by rfl) (by decide) (by omega) (by omega) ?_;intro idn σn hOn hKn eobj enobj ever entop)
 |((with_reducible refine aappn_go ?_);refine aApp_nil (by first|exact tez_26) (by rfl) (by decide) (by rfl) (by rfl) (by decide) (by omega) (by omega) ?_)
 |(simp (maxSteps:=3000000) (disch:=(first|omega|(simp only [B1, *];omega))) only [↓mapA_nil, ↓mapA_cons,B0,B4,awant,undef,aq,al,cst,cst1,acells,flat,behind,abin,aconv,aint,thenQ,blkQ,retQ,Value.cells,Value.oneCell',Int.reduceToNat, ↓reduceIte,Nat.reduceLT,Nat.reduceEqDiff,reduceCtorEq,Nat.reduceAdd,Nat.reduceMul,Nat.reduceLeDiff,u_26,u_3,u_9,telem_26,tez_26,tfld_60_2,tsz_26,tsz_9, *])
 |(refine hκ.out _ _ ?_;clear hκ κ))
  refine awp_loop (fun m s' σ' => ∃ i : Nat, m = N.length - i ∧ i ≤ N.length ∧ s' 0 = ptr o 0 ∧ s' 1 = str n ∧ s' 10 = sl id N.length (N.map str) ∧ s' 11 = sc (.int .i64 N.length) ∧ s' 12 = sc (.int .i64 i) ∧ σ' = σ ∧ Abs.Hid (∀ a, a < i → N[a]? ≠ some n)) N.length
    ⟨0, by omega, by omega, rfl, rfl, rfl, rfl, rfl, rfl, fun a ha => by omega⟩ ?_
  rintro m s' σ' ⟨i, rfl, hi, h0, h1, h10, h11, h12, hσ, hno⟩
  subst hσ
  by_cases hlt : i < N.length
  · have hts := map_str_get hlt
    have HX : Abs.Hid (N[i]? = some N[i]) := List.getElem?_eq_getElem hlt
    generalize N[i] = w at hts HX
    repeat' (first
 |with_reducible (first|apply awp_seq|apply awp_block|(refine awp_region_k ?_;intro κ hκ)|(refine hκ.out _ _ ?_;clear hκ κ)|apply awp_skip|apply awp_exit|apply awp_ret)
 |((first|with_reducible apply gd_split|((with_reducible refine cond_go ?_);refine awp_cond_split rfl ?_ ?_))<;>intro h<;>(try simp only [upd, ↓reduceIte,Nat.reduceEqDiff,B2] at h)<;>(try simp only [*,reduceCtorEq,decide_true,decide_false] at h)<;>(try (have hari:=h;simp only [B3] at hari))<;>(try (first|contradiction|(exfalso;omega)|(exfalso;simp at h;done)))<;>(try simp only [B5]))
 |((with_reducible refine aapp_go ?_);refine aApp_own (by first|exact tez_26) (by assumption) (by assumption) (by decide) (by rfl) (by first|assumption|(simp;done)|(simp;omega)|omega) (by rfl) (by rfl) (by decide) (by omega) (by omega) ?_;intro idn σn hOn hKn eobj enobj ever entop)
 |((with_reducible refine aappn_go ?_);refine aApp_nil (by first|exact tez_26) (by rfl) (by decide) (by rfl) (by rfl) (by decide) (by omega) (by omega) ?_)
 |(simp (maxSteps:=3000000) (disch:=(first|omega|(simp only [B1, *];omega))) only [↓mapA_nil, ↓mapA_cons,B0,B4,awant,undef,aq,al,cst,cst1,acells,flat,behind,abin,aconv,aint,thenQ,blkQ,retQ,Value.cells,Value.oneCell',Int.reduceToNat, ↓reduceIte,Nat.reduceLT,Nat.reduceEqDiff,reduceCtorEq,Nat.reduceAdd,Nat.reduceMul,Nat.reduceLeDiff,u_26,u_3,u_9,telem_26,tez_26,tfld_60_2,tsz_26,tsz_9, *])
 |(refine hκ.out _ _ ?_;clear hκ κ))
    · have hw : w = n := by simpa using h
      subst hw
      have hmem : w ∈ N := List.mem_of_getElem? HX.out
      refine ⟨_, rfl, id, by rw [idx_first hno.out HX.out], Rs.refl _ _ _, ?_⟩
      rw [ins, if_pos hmem]; exact hR'.out
    · have hw : w ≠ n := by simpa using h
      refine ⟨N.length - (i + 1), by omega, i + 1, rfl, by omega, by simp, ?_⟩
      intro a ha
      by_cases hai : a = i
      · subst hai; rw [HX.out]; simpa using hw
      · exact hno.out a (by omega)
  · have hil : i = N.length := by omega
    subst hil
    have hnm := not_mem_of hno.out
    repeat' (first
 |with_reducible (first|apply awp_seq|apply awp_block|(refine awp_region_k ?_;intro κ hκ)|(refine hκ.out _ _ ?_;clear hκ κ)|apply awp_skip|apply awp_exit|apply awp_ret)
 |((first|with_reducible apply gd_split|((with_reducible refine cond_go ?_);refine awp_cond_split rfl ?_ ?_))<;>intro h<;>(try simp only [upd, ↓reduceIte,Nat.reduceEqDiff,B2] at h)<;>(try simp only [*,reduceCtorEq,decide_true,decide_false] at h)<;>(try (have hari:=h;simp only [B3] at hari))<;>(try (first|contradiction|(exfalso;omega)|(exfalso;simp at h;done)))<;>(try simp only [B5]))
 |((with_reducible refine aapp_go ?_);refine aApp_own (by first|exact tez_26) (by assumption) (by assumption) (by decide) (by rfl) (by first|assumption|(simp;done)|(simp;omega)|omega) (by rfl) (by rfl) (by decide) (by omega) (by omega) ?_;intro idn σn hOn hKn eobj enobj ever entop)
 |((with_reducible refine aappn_go ?_);refine aApp_nil (by first|exact tez_26) (by rfl) (by decide) (by rfl) (by rfl) (by decide) (by omega) (by omega) ?_)
 |(simp (maxSteps:=3000000) (disch:=(first|omega|(simp only [B1, *];omega))) only [↓mapA_nil, ↓mapA_cons,B0,B4,awant,undef,aq,al,cst,cst1,acells,flat,behind,abin,aconv,aint,thenQ,blkQ,retQ,Value.cells,Value.oneCell',Int.reduceToNat, ↓reduceIte,Nat.reduceLT,Nat.reduceEqDiff,reduceCtorEq,Nat.reduceAdd,Nat.reduceMul,Nat.reduceLeDiff,u_26,u_3,u_9,telem_26,tez_26,tfld_60_2,tsz_26,tsz_9, *])
 |(refine hκ.out _ _ ?_;clear hκ κ))
    refine aApp_names (σ0 := σ') (o := o) (by first | exact tez_26) HOwn.out (by decide) (by rfl) (by simp) (by rfl) (by rfl) (by decide) (by omega) (by omega) ?_
    intro id' σ1 hO' hK' eobj enobj ever hid
    have hn1 : o < σ1.nobj := by omega
    have hO1 : σ1.obj o = [str t, sc (.int .i64 (t.length - s.length : Nat)), sl id N.length (N.map str)] := by rw [eobj]; exact ho
    simp (maxSteps:=3000000) (disch:=(first|omega|(simp only [B1, *];omega))) only [↓mapA_nil, ↓mapA_cons,B0,B4,awant,undef,aq,al,cst,cst1,acells,flat,behind,abin,aconv,aint,thenQ,blkQ,retQ,Value.cells,Value.oneCell',Int.reduceToNat, ↓reduceIte,Nat.reduceLT,Nat.reduceEqDiff,reduceCtorEq,Nat.reduceAdd,Nat.reduceMul,Nat.reduceLeDiff,u_26,u_3,u_9,telem_26,tez_26,tfld_60_2,tsz_26,tsz_9, *]
    repeat' (first
 |with_reducible (first|apply awp_seq|apply awp_block|(refine awp_region_k ?_;intro κ hκ)|(refine hκ.out _ _ ?_;clear hκ κ)|apply awp_skip|apply awp_exit|apply awp_ret)
 |((first|with_reducible apply gd_split|((with_reducible refine cond_go ?_);refine awp_cond_split rfl ?_ ?_))<;>intro h<;>(try simp only [upd, ↓reduceIte,Nat.reduceEqDiff,B2] at h)<;>(try simp only [*,reduceCtorEq,decide_true,decide_false] at h)<;>(try (have hari:=h;simp only [B3] at hari))<;>(try (first|contradiction|(exfalso;omega)|(exfalso;simp at h;done)))<;>(try simp only [B5]))
 |((with_reducible refine aapp_go ?_);refine aApp_own (by first|exact tez_26) (by assumption) (by assumption) (by decide) (by rfl) (by first|assumption|(simp;done)|(simp;omega)|omega) (by rfl) (by rfl) (by decide) (by omega) (by omega) ?_;intro idn σn hOn hKn eobj enobj ever entop)
 |((with_reducible refine aappn_go ?_);refine aApp_nil (by first|exact tez_26) (by rfl) (by decide) (by rfl) (by rfl) (by decide) (by omega) (by omega) ?_)
 |(simp (maxSteps:=3000000) (disch:=(first|omega|(simp only [B1, *];omega))) only [↓mapA_nil, ↓mapA_cons,B0,B4,awant,undef,aq,al,cst,cst1,acells,flat,behind,abin,aconv,aint,thenQ,blkQ,retQ,Value.cells,Value.oneCell',Int.reduceToNat, ↓reduceIte,Nat.reduceLT,Nat.reduceEqDiff,reduceCtorEq,Nat.reduceAdd,Nat.reduceMul,Nat.reduceLeDiff,u_26,u_3,u_9,telem_26,tez_26,tfld_60_2,tsz_26,tsz_9, *])
 |(refine hκ.out _ _ ?_;clear hκ κ))
    have hI : ins N n = N ++ [n] := by rw [ins, if_neg hnm]
    have hx : N.idxOf n = N.length := List.idxOf_eq_length hnm
    refine ⟨_, rfl, id', by rw [hx, show ((N.length + 1 : Nat) : Int) - 1 = N.length by omega], ⟨hK'.put _, hid⟩, ?_⟩
    rw [hI]
    refine ⟨?_, hn1, ?_, hs, by simp; omega⟩
    · rw [put_same]; simp [rdS, rdr]
    · rcases hO' with h | ⟨j, q1, q2, q3, q4⟩
      · exact .inl ⟨h.1, by have := h.2; omega⟩
      · exact .inr ⟨j, q1, q2, by rw [put_top, q3]; simp, by simp⟩
theorem place_R' {t : Tx} {o : Nat} {N : List Tx} {id : Nat} {s : Tx} {σ : St} (ds : Tx) {n : Tx} (ht : t.length ≤ 1000) (hR : RS t o N id s σ) (hl : N.length + 1 + s.length ≤ 1000 + t.length) (he : n = ds) :
    ACalls Tryd.prog 57 [ptr o 0, str n] σ fun x σ' => ∃ id', x = sc (.int .i64 (N.idxOf ds : Nat)) ∧ Rs o σ id σ' id' ∧ RS t o (ins N ds) id' s σ' := by
  subst he; exact place_R n ht hR hl
/- The program's reader: a predicate of the text. -/

def smalls (s ds q : Tx) : Prop := ds.length ≤ 6 ∧ s = ds ++ q ∧ pWhile smallB 6 s = (ds ++ (pWhile smallB (6 - ds.length) q).1, (pWhile smallB (6 - ds.length) q).2)
theorem smalls_nil (s : Tx) : smalls s [] s := ⟨by simp, by simp, by simp⟩
theorem smalls_step {s ds q : Tx} {b : UInt8} (h : smalls s ds (b :: q)) (hl : ds.length < 6) (hb : smallB b.toNat = true) : smalls s (ds ++ [b]) q := by
  obtain ⟨h1, h2, h3⟩ := h
  have e : 6 - ds.length = (6 - (ds ++ [b]).length) + 1 := by simp; omega
  rw [e, pWhile, if_pos hb] at h3
  exact ⟨by simp; omega, by rw [h2]; simp, by rw [h3]; simp⟩
theorem smalls_end {s ds q : Tx} (h : smalls s ds q) (he : ds.length = 6 ∨ q = [] ∨ ∃ b r, q = b :: r ∧ smallB b.toNat = false) : pWhile smallB 6 s = (ds, q) := by
  obtain ⟨h1, -, h2⟩ := h
  rw [h2]
  rcases he with he | rfl | ⟨b, r, rfl, hb⟩
  · rw [he]; simp [pWhile]
  · cases hn : 6 - ds.length <;> simp [pWhile]
  · cases hn : 6 - ds.length <;> simp [pWhile, hb]
theorem suff_drop {t s : Tx} (h : s <:+ t) : t.drop (t.length - s.length) = s := by
  obtain ⟨p, rfl⟩ := h
  simp
theorem suff_cut {t s ds q : Tx} (h : s <:+ t) (e : s = ds ++ q) {k : Nat} (hk : k = ds.length) : (t.drop (t.length - s.length)).take k = ds := by
  rw [suff_drop h, e, hk]; simp

theorem suff_cut' {t s ds q : Tx} (h : s <:+ t) (e : s = ds ++ q) {j k : Nat} (hj : j = t.length - s.length) (hk : k = ds.length) : (t.drop j).take k = ds := by
  subst hj; exact suff_cut h e hk
theorem pName_bad {s ds q : Tx} (h : pWhile smallB 6 s = (ds, q)) (h0 : ds.length = 0) : pName s = .bad s := by
  have : ds = [] := List.eq_nil_of_length_eq_zero h0
  unfold pName; rw [h, if_pos this]
theorem pName_got {s ds q : Tx} (h : pWhile smallB 6 s = (ds, q)) (h0 : ds.length ≠ 0) : pName s = .got ds q := by
  unfold pName; rw [h, if_neg (by intro e; simp at e; simp [e] at h0)]
set_option maxHeartbeats 16000000 in
theorem readPredicate_R {t : Tx} {o : Nat} {N : List Tx} {id : Nat} {s : Tx} {σ : St} (ht : t.length ≤ 1000) (hR : RS t o N id s σ) :
    ACalls Tryd.prog 49 [ptr o 0] σ fun x σ' => ∃ k N' id', x = tp [sc (.int .i64 k), sc (.bool (pName s).ok)] ∧ Rs o σ id σ' id' ∧ RS t o N' id' (pName s).rest σ' ∧ N <+: N' ∧ Rd.Val (pName s) fun n => n ∈ N' ∧ k = (N'.idxOf n : Nat) := by
  have hR' : Abs.Hid (RS t o N id s σ) := hR
  obtain ⟨ho, hn, -, hs, -⟩ := hR
  have hsl := suff_len hs
  generalize hnm : sl id N.length (N.map str) = nm at ho
  have ho' : Abs.Hid (σ.obj o = rdS t s nm) := ho
  unfold rdS rdr at ho
  refine acalls 67 [.tmp 2, .tmp 3] Tryd.func49 rfl (by decide) rfl rfl (Nat.le_of_ble_eq_true rfl) ?_
  repeat' (first
 |with_reducible (first|apply awp_seq|apply awp_block|(refine awp_region_k ?_;intro κ hκ)|(refine hκ.out _ _ ?_;clear hκ κ)|apply awp_skip|apply awp_exit|apply awp_ret)
 |((first|with_reducible (first|apply gd_split|apply gt_split)|((with_reducible refine cond_go ?_);refine awp_cond_split rfl ?_ ?_))<;>intro h<;>(try simp only [upd, ↓reduceIte,Nat.reduceEqDiff,B2] at h)<;>(try simp only [*,reduceCtorEq,decide_true,decide_false] at h)<;>(try (have hari:=h;simp only [B3] at hari))<;>(try (first|contradiction|(exfalso;omega)|(exfalso;simp at h;done)))<;>(try simp only [B5]))
 |(simp (maxSteps:=3000000) (disch:=(first|omega|(simp only [B1, *];omega))) only [↓mapA_nil, ↓mapA_cons,B0,B4,awant,undef,aq,al,cst,cst1,acells,flat,behind,abin,aconv,aint,thenQ,blkQ,retQ,rdo,objOf,Value.cells,Value.oneCell',Int.reduceToNat, ↓reduceIte,Nat.reduceLT,Nat.reduceEqDiff,reduceCtorEq,Nat.reduceAdd,Nat.reduceMul,Nat.reduceLeDiff,u_3,u_9,telem_9,tfld_60_0,tfld_60_1,tsz_3,tsz_9, *])
 |((with_reducible refine and_go ?_);refine And.intro (by first|exact kept_refl|exact kept_last rfl|exact kept_keep (by assumption)) ?_)
 |(refine hκ.out _ _ ?_;clear hκ κ))
  refine awp_loop (fun m s' σ' => ∃ (q ds : Tx), m = 6 - ds.length ∧ s' 0 = ptr o 0 ∧ s' 4 = sc (.int .i64 (t.length - s.length : Nat)) ∧ KeepX o σ σ' ∧ σ'.obj o = rdS t q nm ∧ o < σ'.nobj ∧ q <:+ t ∧ s.length = ds.length + q.length ∧ Abs.Hid (smalls s ds q)) 6
    ⟨s, [], rfl, rfl, rfl, KeepX.refl _ _, ho'.out, hn, hs, by simp, smalls_nil s⟩ ?_
  rintro m s' σ' ⟨q, ds, rfl, h0, h4, hK, hO, hn', hq, hqs, hD⟩
  clear ho
  have hql := suff_len hq
  have hqg := suff_get hq
  have hd6 := hD.out.1
  have HO : Abs.Hid (σ'.obj o = rdS t q nm) := hO
  unfold rdS rdr at hO
  repeat' (first
 |with_reducible (first|apply awp_seq|apply awp_block|(refine awp_region_k ?_;intro κ hκ)|(refine hκ.out _ _ ?_;clear hκ κ)|apply awp_skip|apply awp_exit|apply awp_ret)
 |((first|with_reducible (first|apply gd_split|apply gt_split)|((with_reducible refine cond_go ?_);refine awp_cond_split rfl ?_ ?_))<;>intro h<;>(try simp only [upd, ↓reduceIte,Nat.reduceEqDiff,B2] at h)<;>(try simp only [*,reduceCtorEq,decide_true,decide_false] at h)<;>(try (have hari:=h;simp only [B3] at hari))<;>(try (first|contradiction|(exfalso;omega)|(exfalso;simp at h;done)))<;>(try simp only [B5]))
 |(simp (maxSteps:=3000000) (disch:=(first|omega|(simp only [B1, *];omega))) only [↓mapA_nil, ↓mapA_cons,B0,B4,awant,undef,aq,al,cst,cst1,acells,flat,behind,abin,aconv,aint,thenQ,blkQ,retQ,rdo,objOf,Value.cells,Value.oneCell',Int.reduceToNat, ↓reduceIte,Nat.reduceLT,Nat.reduceEqDiff,reduceCtorEq,Nat.reduceAdd,Nat.reduceMul,Nat.reduceLeDiff,u_3,u_9,telem_9,tfld_60_0,tfld_60_1,tsz_3,tsz_9, *])
 |((with_reducible refine and_go ?_);refine And.intro (by first|exact kept_refl|exact kept_last rfl|exact kept_keep (by assumption)) ?_)
 |(refine hκ.out _ _ ?_;clear hκ κ))
  refine awp_draw_k follows_mixed (fun _ => True) [30] [0, 1, 2, 3, 4, 5, 6, 7, 8, 9, 10, 11, 12, 13, 14, 15, 16, 17, 18, 19, 20, 21, 22, 23, 24, 25, 26, 27, 28] [29, 30] (by kernel_rfl) (fun _ _ _ h => h) ?_
  intro κ hκ
  cases q with
  | nil =>
    simp only [List.length_nil, Nat.sub_zero, Nat.add_zero] at hO hqg hql hqs
    simp (maxSteps:=3000000) (disch:=(first|omega|(simp only [B1, *];omega))) only [↓mapA_nil, ↓mapA_cons,B0,B4,awant,undef,aq,al,cst,cst1,acells,flat,behind,abin,aconv,aint,thenQ,blkQ,retQ,rdo,objOf,Value.cells,Value.oneCell',Int.reduceToNat, ↓reduceIte,Nat.reduceLT,Nat.reduceEqDiff,reduceCtorEq,Nat.reduceAdd,Nat.reduceMul,Nat.reduceLeDiff,u_3,u_9,telem_9,tfld_60_0,tfld_60_1,tsz_3,tsz_9, *]
    repeat' (first
 |with_reducible (first|apply awp_seq|apply awp_block|(refine awp_region_k ?_;intro κ hκ)|(refine hκ.out _ _ ?_;clear hκ κ)|apply awp_skip|apply awp_exit|apply awp_ret)
 |((first|with_reducible (first|apply gd_split|apply gt_split)|((with_reducible refine cond_go ?_);refine awp_cond_split rfl ?_ ?_))<;>intro h<;>(try simp only [upd, ↓reduceIte,Nat.reduceEqDiff,B2] at h)<;>(try simp only [*,reduceCtorEq,decide_true,decide_false] at h)<;>(try (have hari:=h;simp only [B3] at hari))<;>(try (first|contradiction|(exfalso;omega)|(exfalso;simp at h;done)))<;>(try simp only [B5]))
 |((with_reducible refine acalls_go ?_);refine ACalls.mono (isSmall_spec _ _) ?_;rintro _ _ ⟨rfl,rfl⟩)
 |(simp (maxSteps:=3000000) (disch:=(first|omega|(simp only [B1, *];omega))) only [↓mapA_nil, ↓mapA_cons,B0,B4,awant,undef,aq,al,cst,cst1,acells,flat,behind,abin,aconv,aint,thenQ,blkQ,retQ,rdo,objOf,Value.cells,Value.oneCell',Int.reduceToNat, ↓reduceIte,Nat.reduceLT,Nat.reduceEqDiff,reduceCtorEq,Nat.reduceAdd,Nat.reduceMul,Nat.reduceLeDiff,u_3,u_9,telem_9,tfld_60_0,tfld_60_1,tsz_3,tsz_9, *])
 |((with_reducible refine and_go ?_);refine And.intro (by first|exact kept_refl|exact kept_last rfl|exact kept_keep (by assumption)) ?_)
 |(refine hκ.out _ _ ?_;clear hκ κ))
    all_goals have hsm := smalls_end hD.out (.inr (.inl rfl))
    ·
      have hdl : ds.length = 0 := by simp at h; omega
      have hp := pName_bad hsm hdl
      have hsq := hD.out.2.1
      rw [List.eq_nil_of_length_eq_zero hdl, List.nil_append] at hsq
      refine ⟨_, rfl, 0, N, id, by rw [hp]; rfl, Rs.ofX hK, ?_, List.prefix_refl _, by rw [hp]; trivial⟩
      rw [hp]
      exact hR'.out.stepX hK (by rw [hnm]; exact hsq ▸ HO.out) hs (Nat.le_refl _)
    ·
      have hdl : ds.length ≠ 0 := by simp at h; omega
      have hp := pName_got hsm hdl
      have hRq := hR'.out.stepX hK (by rw [hnm]; exact HO.out) hq (by first | omega | (simp only [List.length_cons, List.length_nil]; omega))
      have hlN := hR'.out.len
      have HRq : Abs.Hid _ := hRq
      have HD : Abs.Hid _ := hD
      have HP : Abs.Hid _ := hp
      have HK : Abs.Hid _ := hK
      clear hRq hp hK hsm
      refine awp_draw_k follows_mixed (fun _ => True) [10] [0, 1, 2, 3, 4, 5, 6, 7, 8, 9] [10] (by kernel_rfl) (fun _ _ _ h => h) ?_
      intro κ hκ
      simp (maxSteps:=3000000) (disch:=(first|omega|(simp only [B1, *];omega))) only [↓mapA_nil, ↓mapA_cons,B0,B4,awant,undef,aq,al,cst,cst1,acells,flat,behind,abin,aconv,aint,thenQ,blkQ,retQ,rdo,objOf,Value.cells,Value.oneCell',Int.reduceToNat, ↓reduceIte,Nat.reduceLT,Nat.reduceEqDiff,reduceCtorEq,Nat.reduceAdd,Nat.reduceMul,Nat.reduceLeDiff,u_3,u_9,telem_9,tfld_60_0,tfld_60_1,tsz_3,tsz_9, *]
      repeat' (first
 |with_reducible (first|apply awp_seq|apply awp_block|(refine awp_region_k ?_;intro κ hκ)|(refine hκ.out _ _ ?_;clear hκ κ)|apply awp_skip|apply awp_exit|apply awp_ret)
 |((first|with_reducible (first|apply gd_split|apply gt_split)|((with_reducible refine cond_go ?_);refine awp_cond_split rfl ?_ ?_))<;>intro h<;>(try simp only [upd, ↓reduceIte,Nat.reduceEqDiff,B2] at h)<;>(try simp only [*,reduceCtorEq,decide_true,decide_false] at h)<;>(try (have hari:=h;simp only [B3] at hari))<;>(try (first|contradiction|(exfalso;omega)|(exfalso;simp at h;done)))<;>(try simp only [B5]))
 |((with_reducible refine acalls_go ?_);refine ACalls.mono (place_R' ds ht HRq.out (by first|omega|(simp only [List.length_cons,List.length_nil];omega)) (by refine suff_cut' hs HD.out.2.1 ?_ ?_<;>first|omega|(simp only [List.length_cons,List.length_nil,Nat.add_zero];omega))) ?_;rintro _ _ ⟨id',rfl,hRs,hRS⟩)
 |(simp (maxSteps:=3000000) (disch:=(first|omega|(simp only [B1, *];omega))) only [↓mapA_nil, ↓mapA_cons,B0,B4,awant,undef,aq,al,cst,cst1,acells,flat,behind,abin,aconv,aint,thenQ,blkQ,retQ,rdo,objOf,Value.cells,Value.oneCell',Int.reduceToNat, ↓reduceIte,Nat.reduceLT,Nat.reduceEqDiff,reduceCtorEq,Nat.reduceAdd,Nat.reduceMul,Nat.reduceLeDiff,u_3,u_9,telem_9,tfld_60_0,tfld_60_1,tsz_3,tsz_9, *])
 |((with_reducible refine and_go ?_);refine And.intro (by first|exact kept_refl|exact kept_last rfl|exact kept_keep (by assumption)) ?_)
 |(refine hκ.out _ _ ?_;clear hκ κ))
      refine ⟨_, rfl, _, ins N ds, id', by rw [HP.out]; rfl, (Rs.ofX HK.out).trans hRs, ?_, ins_pre _ _, ?_⟩
      · rw [HP.out]; exact hRS
      · rw [HP.out]; exact ⟨ins_mem _ _, by rw [ins_idx]⟩
  | cons b r =>
    simp only [List.length_cons, List.head?_cons] at hO hqg hql hqs
    have hqr := suff_tail hq
    simp (maxSteps:=3000000) (disch:=(first|omega|(simp only [B1, *];omega))) only [↓mapA_nil, ↓mapA_cons,B0,B4,awant,undef,aq,al,cst,cst1,acells,flat,behind,abin,aconv,aint,thenQ,blkQ,retQ,rdo,objOf,Value.cells,Value.oneCell',Int.reduceToNat, ↓reduceIte,Nat.reduceLT,Nat.reduceEqDiff,reduceCtorEq,Nat.reduceAdd,Nat.reduceMul,Nat.reduceLeDiff,u_3,u_9,telem_9,tfld_60_0,tfld_60_1,tsz_3,tsz_9, *]
    repeat' (first
 |with_reducible (first|apply awp_seq|apply awp_block|(refine awp_region_k ?_;intro κ hκ)|(refine hκ.out _ _ ?_;clear hκ κ)|apply awp_skip|apply awp_exit|apply awp_ret)
 |((first|with_reducible (first|apply gd_split|apply gt_split)|((with_reducible refine cond_go ?_);refine awp_cond_split rfl ?_ ?_))<;>intro h<;>(try simp only [upd, ↓reduceIte,Nat.reduceEqDiff,B2] at h)<;>(try simp only [*,reduceCtorEq,decide_true,decide_false] at h)<;>(try (have hari:=h;simp only [B3] at hari))<;>(try (first|contradiction|(exfalso;omega)|(exfalso;simp at h;done)))<;>(try simp only [B5]))
 |((with_reducible refine acalls_go ?_);refine ACalls.mono (isSmall_spec _ _) ?_;rintro _ _ ⟨rfl,rfl⟩)
 |(simp (maxSteps:=3000000) (disch:=(first|omega|(simp only [B1, *];omega))) only [↓mapA_nil, ↓mapA_cons,B0,B4,awant,undef,aq,al,cst,cst1,acells,flat,behind,abin,aconv,aint,thenQ,blkQ,retQ,rdo,objOf,Value.cells,Value.oneCell',Int.reduceToNat, ↓reduceIte,Nat.reduceLT,Nat.reduceEqDiff,reduceCtorEq,Nat.reduceAdd,Nat.reduceMul,Nat.reduceLeDiff,u_3,u_9,telem_9,tfld_60_0,tfld_60_1,tsz_3,tsz_9, *])
 |((with_reducible refine and_go ?_);refine And.intro (by first|exact kept_refl|exact kept_last rfl|exact kept_keep (by assumption)) ?_)
 |(refine hκ.out _ _ ?_;clear hκ κ))
    · have hl6 : ds.length < 6 := by omega
      have hsb : smallB b.toNat = true := by assumption
      refine ⟨6 - (ds ++ [b]).length, by simp; omega, r, ds ++ [b], rfl, hK.put _, ?_, hqr, by simp; omega, smalls_step hD.out hl6 hsb⟩
      unfold rdS rdr
      rw [show ((t.length - (r.length + 1) : Nat) : Int) + 1 = ((t.length - r.length : Nat) : Int) by omega]
    · have hsm := smalls_end hD.out (.inr (.inr ⟨b, r, rfl, by assumption⟩))
      have hdl : ds.length = 0 := by simp at h; omega
      have hp := pName_bad hsm hdl
      have hsq := hD.out.2.1
      rw [List.eq_nil_of_length_eq_zero hdl, List.nil_append] at hsq
      refine ⟨_, rfl, 0, N, id, by rw [hp]; rfl, Rs.ofX hK, ?_, List.prefix_refl _, by rw [hp]; trivial⟩
      rw [hp]
      exact hR'.out.stepX hK (by rw [hnm]; exact hsq ▸ HO.out) hs (Nat.le_refl _)
    · have hsm := smalls_end hD.out (.inr (.inr ⟨b, r, rfl, by assumption⟩))
      have hdl : ds.length ≠ 0 := by simp at h; omega
      have hp := pName_got hsm hdl
      have hRq := hR'.out.stepX hK (by rw [hnm]; exact HO.out) hq (by first | omega | (simp only [List.length_cons, List.length_nil]; omega))
      have hlN := hR'.out.len
      have HRq : Abs.Hid _ := hRq
      have HD : Abs.Hid _ := hD
      have HP : Abs.Hid _ := hp
      have HK : Abs.Hid _ := hK
      clear hRq hp hK hsm
      refine awp_draw_k follows_mixed (fun _ => True) [10] [0, 1, 2, 3, 4, 5, 6, 7, 8, 9] [10] (by kernel_rfl) (fun _ _ _ h => h) ?_
      intro κ hκ
      simp (maxSteps:=3000000) (disch:=(first|omega|(simp only [B1, *];omega))) only [↓mapA_nil, ↓mapA_cons,B0,B4,awant,undef,aq,al,cst,cst1,acells,flat,behind,abin,aconv,aint,thenQ,blkQ,retQ,rdo,objOf,Value.cells,Value.oneCell',Int.reduceToNat, ↓reduceIte,Nat.reduceLT,Nat.reduceEqDiff,reduceCtorEq,Nat.reduceAdd,Nat.reduceMul,Nat.reduceLeDiff,u_3,u_9,telem_9,tfld_60_0,tfld_60_1,tsz_3,tsz_9, *]
      repeat' (first
 |with_reducible (first|apply awp_seq|apply awp_block|(refine awp_region_k ?_;intro κ hκ)|(refine hκ.out _ _ ?_;clear hκ κ)|apply awp_skip|apply awp_exit|apply awp_ret)
 |((first|with_reducible (first|apply gd_split|apply gt_split)|((with_reducible refine cond_go ?_);refine awp_cond_split rfl ?_ ?_))<;>intro h<;>(try simp only [upd, ↓reduceIte,Nat.reduceEqDiff,B2] at h)<;>(try simp only [*,reduceCtorEq,decide_true,decide_false] at h)<;>(try (have hari:=h;simp only [B3] at hari))<;>(try (first|contradiction|(exfalso;omega)|(exfalso;simp at h;done)))<;>(try simp only [B5]))
 |((with_reducible refine acalls_go ?_);refine ACalls.mono (place_R' ds ht HRq.out (by first|omega|(simp only [List.length_cons,List.length_nil];omega)) (by refine suff_cut' hs HD.out.2.1 ?_ ?_<;>first|omega|(simp only [List.length_cons,List.length_nil,Nat.add_zero];omega))) ?_;rintro _ _ ⟨id',rfl,hRs,hRS⟩)
 |(simp (maxSteps:=3000000) (disch:=(first|omega|(simp only [B1, *];omega))) only [↓mapA_nil, ↓mapA_cons,B0,B4,awant,undef,aq,al,cst,cst1,acells,flat,behind,abin,aconv,aint,thenQ,blkQ,retQ,rdo,objOf,Value.cells,Value.oneCell',Int.reduceToNat, ↓reduceIte,Nat.reduceLT,Nat.reduceEqDiff,reduceCtorEq,Nat.reduceAdd,Nat.reduceMul,Nat.reduceLeDiff,u_3,u_9,telem_9,tfld_60_0,tfld_60_1,tsz_3,tsz_9, *])
 |((with_reducible refine and_go ?_);refine And.intro (by first|exact kept_refl|exact kept_last rfl|exact kept_keep (by assumption)) ?_)
 |(refine hκ.out _ _ ?_;clear hκ κ))
      refine ⟨_, rfl, _, ins N ds, id', by rw [HP.out]; rfl, (Rs.ofX HK.out).trans hRs, ?_, ins_pre _ _, ?_⟩
      · rw [HP.out]; exact hRS
      · rw [HP.out]; exact ⟨ins_mem _ _, by rw [ins_idx]⟩
    · exfalso; simp at h; omega
    · have hsm := smalls_end hD.out (.inl (by omega))
      have hdl : ds.length ≠ 0 := by simp at h; omega
      have hp := pName_got hsm hdl
      have hRq := hR'.out.stepX hK (by rw [hnm]; exact HO.out) hq (by first | omega | (simp only [List.length_cons, List.length_nil]; omega))
      have hlN := hR'.out.len
      have HRq : Abs.Hid _ := hRq
      have HD : Abs.Hid _ := hD
      have HP : Abs.Hid _ := hp
      have HK : Abs.Hid _ := hK
      clear hRq hp hK hsm
      refine awp_draw_k follows_mixed (fun _ => True) [10] [0, 1, 2, 3, 4, 5, 6, 7, 8, 9] [10] (by kernel_rfl) (fun _ _ _ h => h) ?_
      intro κ hκ
      simp (maxSteps:=3000000) (disch:=(first|omega|(simp only [B1, *];omega))) only [↓mapA_nil, ↓mapA_cons,B0,B4,awant,undef,aq,al,cst,cst1,acells,flat,behind,abin,aconv,aint,thenQ,blkQ,retQ,rdo,objOf,Value.cells,Value.oneCell',Int.reduceToNat, ↓reduceIte,Nat.reduceLT,Nat.reduceEqDiff,reduceCtorEq,Nat.reduceAdd,Nat.reduceMul,Nat.reduceLeDiff,u_3,u_9,telem_9,tfld_60_0,tfld_60_1,tsz_3,tsz_9, *]
      repeat' (first
 |with_reducible (first|apply awp_seq|apply awp_block|(refine awp_region_k ?_;intro κ hκ)|(refine hκ.out _ _ ?_;clear hκ κ)|apply awp_skip|apply awp_exit|apply awp_ret)
 |((first|with_reducible (first|apply gd_split|apply gt_split)|((with_reducible refine cond_go ?_);refine awp_cond_split rfl ?_ ?_))<;>intro h<;>(try simp only [upd, ↓reduceIte,Nat.reduceEqDiff,B2] at h)<;>(try simp only [*,reduceCtorEq,decide_true,decide_false] at h)<;>(try (have hari:=h;simp only [B3] at hari))<;>(try (first|contradiction|(exfalso;omega)|(exfalso;simp at h;done)))<;>(try simp only [B5]))
 |((with_reducible refine acalls_go ?_);refine ACalls.mono (place_R' ds ht HRq.out (by first|omega|(simp only [List.length_cons,List.length_nil];omega)) (by refine suff_cut' hs HD.out.2.1 ?_ ?_<;>first|omega|(simp only [List.length_cons,List.length_nil,Nat.add_zero];omega))) ?_;rintro _ _ ⟨id',rfl,hRs,hRS⟩)
 |(simp (maxSteps:=3000000) (disch:=(first|omega|(simp only [B1, *];omega))) only [↓mapA_nil, ↓mapA_cons,B0,B4,awant,undef,aq,al,cst,cst1,acells,flat,behind,abin,aconv,aint,thenQ,blkQ,retQ,rdo,objOf,Value.cells,Value.oneCell',Int.reduceToNat, ↓reduceIte,Nat.reduceLT,Nat.reduceEqDiff,reduceCtorEq,Nat.reduceAdd,Nat.reduceMul,Nat.reduceLeDiff,u_3,u_9,telem_9,tfld_60_0,tfld_60_1,tsz_3,tsz_9, *])
 |((with_reducible refine and_go ?_);refine And.intro (by first|exact kept_refl|exact kept_last rfl|exact kept_keep (by assumption)) ?_)
 |(refine hκ.out _ _ ?_;clear hκ κ))
      refine ⟨_, rfl, _, ins N ds, id', by rw [HP.out]; rfl, (Rs.ofX HK.out).trans hRs, ?_, ins_pre _ _, ?_⟩
      · rw [HP.out]; exact hRS
      · rw [HP.out]; exact ⟨ins_mem _ _, by rw [ins_idx]⟩
end Go.Proofs.YtmoeoppbmhfbpaaDoorX
