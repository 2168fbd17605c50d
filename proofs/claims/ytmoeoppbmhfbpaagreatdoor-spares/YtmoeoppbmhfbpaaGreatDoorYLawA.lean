import Derived.Test.YtmoeoppbmhfbpaaGreatDoorYProgR
import Derived.ProofKit
import Derived.OpenShut
import Derived.Below
import Derived.Carry
import Derived.Deep.Slices
/- The law: Checks. -/
namespace Go.Proofs.YtmoeoppbmhfbpaaGreatDoorY
open Go.Abs
set_option linter.unusedSimpArgs false
set_option linter.unusedVariables false
set_option maxRecDepth 100000

structure OpD where
  kind : Int
  n : Int
  m : Int
  s : Tx
  e : Tx
  f : Tx
def EO (o : OpD) (c : List AV) : Prop := c = [sc (.int .i64 o.kind), sc (.int .i64 o.n), sc (.int .i64 o.m), str o.s, str o.e, str o.f]
theorem EO_len (o : OpD) (c : List AV) (h : EO o c) : c.length = 6 := by rw [h]; rfl
theorem EL_op {l : List OpD} {cs : List AV} {i : Nat} {o : OpD} (h : EL EO l cs) (hi : l[i]? = some o) : ∃ r, cs.drop (i * 6) = sc (.int .i64 o.kind) :: sc (.int .i64 o.n) :: sc (.int .i64 o.m) :: str o.s :: str o.e :: str o.f :: r := by
  obtain ⟨c, r, rfl, e⟩ := EL.get EO_len h hi
  exact ⟨r, e⟩

theorem rcheck_spec (s : Tx) (σ : St) : ACalls Tryz.prog 82 [str s] σ fun r σ' => r = two (refCheck s) ∧ Keep σ σ' := by
  have hp := placeL_parse s
  refine refCheck_spec s (fun hl h0 => ?_) ?_ σ
  · cases h : pItems 16 s with
    | bad e => rw [h] at hp; exact absurd (by rw [hp]; exact Int.natCast_nonneg _) h0
    | got l r => exact (parse_good (by omega) h).1
  · rw [hp]
    cases h : pItems 16 s with
    | bad e => exact ⟨Int.le_trans (by decide) (Int.natCast_nonneg (s.length - e.length)), Int.ofNat_le.2 (Nat.sub_le _ _)⟩
    | got l r => exact ⟨show (-1 : Int) ≤ -1 by decide, show (-1 : Int) ≤ (s.length : Int) by omega⟩

theorem num_spec (c : Int) (σ : St) : ACalls Tryz.prog 54 [sc (.int .i64 c)] σ fun x σ' => x = sc (.int .i64 c) ∧ σ' = σ := by
  refine acalls 4 [.tmp 2] Tryz.func54 rfl (by decide) rfl rfl (Nat.le_of_ble_eq_true rfl) ?_
  repeat' (first
 |with_reducible (first|apply awp_seq|apply awp_block|(refine awp_region_k ?_;intro κ hκ)|(refine hκ.out _ _ ?_;clear hκ κ)|apply awp_skip|apply awp_exit|apply awp_ret)
 |((first|with_reducible apply gd_split|((with_reducible refine cond_go ?_);refine awp_cond_split rfl ?_ ?_))<;>intro h<;>(try simp only [upd, ↓reduceIte,Nat.reduceEqDiff,B2] at h)<;>(try simp only [*,reduceCtorEq,decide_true,decide_false] at h)<;>(try (have hari:=h;simp only [B3] at hari))<;>(try (first|contradiction|(exfalso;omega)|(exfalso;simp at h;done)))<;>(try simp only [B5]))
 |(simp (maxSteps:=3000000) (disch:=(first|omega|(simp only [B1, *];omega))) only [↓mapA_nil, ↓mapA_cons,B0,B4,awant,undef,aq,al,cst,cst1,acells,flat,behind,abin,aconv,aint,thenQ,blkQ,retQ,Value.cells,Value.oneCell',Int.reduceToNat, ↓reduceIte,Nat.reduceLT,Nat.reduceEqDiff,reduceCtorEq,Nat.reduceAdd,Nat.reduceMul,Nat.reduceLeDiff, *])
 |(refine hκ.out _ _ ?_;clear hκ κ))
  first | exact ⟨_, rfl, rfl, rfl⟩ | exact ⟨_, rfl, rfl⟩ | exact ⟨_, rfl⟩

set_option maxHeartbeats 16000000 in
theorem texts_check (o : OpD) (hk : o.kind = 1) (c : List AV) (hc : EO o c) (σ : St) : ACalls Tryz.prog 52 [ag c] σ fun r σ' => r = sc (.bool true) ∧ Keep σ σ' := by
  unfold EO at hc
  subst hc
  rw [hk]
  refine acalls 88 [.tmp 2] Tryz.func52 rfl (by decide) rfl rfl (Nat.le_of_ble_eq_true rfl) ?_
  repeat' (first
 |with_reducible (first|apply awp_seq|apply awp_block|(refine awp_region_k ?_;intro κ hκ)|(refine hκ.out _ _ ?_;clear hκ κ)|apply awp_skip|apply awp_exit|apply awp_ret)
 |((first|with_reducible apply gd_split|((with_reducible refine cond_go ?_);refine awp_cond_split rfl ?_ ?_))<;>intro h<;>(try simp only [upd, ↓reduceIte,Nat.reduceEqDiff,B2] at h)<;>(try simp only [*,reduceCtorEq,decide_true,decide_false] at h)<;>(try (have hari:=h;simp only [B3] at hari))<;>(try (first|contradiction|(exfalso;omega)|(exfalso;simp at h;done)))<;>(try simp only [B5]))
 |((with_reducible refine acalls_go ?_);refine ACalls.mono (check_spec o.s _) ?_;rintro _ _ ⟨rfl,hK1⟩;(have kob1:=hK1.obj;have kno1:=hK1.nobj;(try simp only [new_nobj,put_nobj,lay_nobj] at kno1)))
 |((with_reducible refine acalls_go ?_);refine ACalls.mono (rcheck_spec o.s _) ?_;rintro _ _ ⟨rfl,hK2⟩)
 |((with_reducible refine acalls_go ?_);refine ACalls.mono (num_spec _ _) ?_;rintro _ _ ⟨rfl,rfl⟩)
 |(simp (maxSteps:=3000000) (disch:=(first|omega|(simp only [B1, *];omega))) only [↓mapA_nil, ↓mapA_cons,B0,B4,awant,undef,aq,al,cst,cst1,acells,flat,behind,abin,aconv,aint,thenQ,blkQ,retQ,Value.cells,Value.oneCell',Int.reduceToNat, ↓reduceIte,Nat.reduceLT,Nat.reduceEqDiff,reduceCtorEq,Nat.reduceAdd,Nat.reduceMul,Nat.reduceLeDiff,u_3,u_9,tfld_43_0,tfld_43_1,tfld_43_3,tsz_3,tsz_9, *])
 |(refine hκ.out _ _ ?_;clear hκ κ))
  exact ⟨_, rfl, rfl, by repeat (first | exact Keep.refl _ | assumption | (refine Keep.put ?_ (by first | omega | (simp only [new_nobj, put_nobj, lay_nobj, *]; omega)) _) | (refine Keep.new ?_ _) | (refine Keep.lay ?_ _) | (refine Keep.trans ?_ (by assumption)))⟩

set_option maxHeartbeats 16000000 in
theorem plays_check (o : OpD) (hk : o.kind = 1) (c : List AV) (hc : EO o c) (σ : St) : ACalls Tryz.prog 27 [ag c] σ fun r σ' => r = sc (.bool true) ∧ Keep σ σ' := by
  have hT := texts_check o hk c hc
  unfold EO at hc
  subst hc
  rw [hk] at *
  refine acalls 154 [.tmp 2] Tryz.func27 rfl (by decide) rfl rfl (Nat.le_of_ble_eq_true rfl) ?_
  repeat' (first
 |with_reducible (first|apply awp_seq|apply awp_block|(refine awp_region_k ?_;intro κ hκ)|(refine hκ.out _ _ ?_;clear hκ κ)|apply awp_skip|apply awp_exit|apply awp_ret)
 |((first|with_reducible (first|apply gd_split|apply gt_split)|((with_reducible refine cond_go ?_);refine awp_cond_split rfl ?_ ?_))<;>intro h<;>(try simp only [upd, ↓reduceIte,Nat.reduceEqDiff,B2] at h)<;>(try simp only [*,reduceCtorEq,decide_true,decide_false] at h)<;>(try (have hari:=h;simp only [B3] at hari))<;>(try (first|contradiction|(exfalso;omega)|(exfalso;simp at h;done)))<;>(try simp only [B5]))
 |((with_reducible refine acalls_go ?_);refine ACalls.mono (hT _) ?_;rintro _ _ ⟨rfl,hK1⟩)
 |(simp (maxSteps:=3000000) (disch:=(first|omega|(simp only [B1, *];omega))) only [↓mapA_nil, ↓mapA_cons,B0,B4,awant,undef,aq,al,cst,cst1,acells,flat,behind,abin,aconv,aint,thenQ,blkQ,retQ,rdo,objOf,Value.cells,Value.oneCell',Int.reduceToNat, ↓reduceIte,Nat.reduceLT,Nat.reduceEqDiff,reduceCtorEq,Nat.reduceAdd,Nat.reduceMul,Nat.reduceLeDiff,u_3,u_4,u_9,tfld_43_0,tfld_43_1,tfld_43_2,tfld_43_3,tfld_43_4,tsz_3,tsz_43,tsz_9, *])
 |((with_reducible refine and_go ?_);refine And.intro (by first|exact kept_refl|exact kept_last rfl|exact kept_keep (by assumption)) ?_)
 |(refine hκ.out _ _ ?_;clear hκ κ))
  exact ⟨_, rfl, rfl, by repeat (first | exact Keep.refl _ | assumption | (refine Keep.put ?_ (by first | omega | (simp only [new_nobj, put_nobj, lay_nobj, *]; omega)) _) | (refine Keep.new ?_ _) | (refine Keep.lay ?_ _) | (refine Keep.trans ?_ (by assumption)))⟩

/-- the steps of a kind from lo to hi are as the document says -/
def Plays (lo hi : Int) (l : List OpD) : Prop := ∀ o ∈ l, lo ≤ o.kind → o.kind ≤ hi → ∀ c, EO o c → ∀ σ, ACalls Tryz.prog 27 [ag c] σ fun r σ' => r = sc (.bool true) ∧ Keep σ σ'
set_option maxHeartbeats 16000000 in
theorem upto_spec (l : List OpD) (cs : List AV) (ids : Nat) (lo hi : Int) (hE : EL EO l cs) (hl : l.length ≤ 9223372036854775807) (hP : Plays lo hi l) (σ : St) : ACalls Tryz.prog 14 [sl ids l.length cs, sc (.int .i64 lo), sc (.int .i64 hi)] σ fun r σ' => r = sc (.int .i64 (-1)) ∧ Keep σ σ' := by
  have hcl := EL.length EO_len hE
  refine acalls 35 [.tmp 6] Tryz.func14 rfl (by decide) rfl rfl (Nat.le_of_ble_eq_true rfl) ?_
  repeat' (first
 |with_reducible (first|apply awp_seq|apply awp_block|(refine awp_region_k ?_;intro κ hκ)|(refine hκ.out _ _ ?_;clear hκ κ)|apply awp_skip|apply awp_exit|apply awp_ret)
 |((first|with_reducible apply gd_split|((with_reducible refine cond_go ?_);refine awp_cond_split rfl ?_ ?_))<;>intro h<;>(try simp only [upd, ↓reduceIte,Nat.reduceEqDiff,B2] at h)<;>(try simp only [*,reduceCtorEq,decide_true,decide_false] at h)<;>(try (have hari:=h;simp only [B3] at hari))<;>(try (first|contradiction|(exfalso;omega)|(exfalso;simp at h;done)))<;>(try simp only [B5]))
 |(simp (maxSteps:=3000000) (disch:=(first|omega|(simp only [B1, *];omega))) only [↓mapA_nil, ↓mapA_cons,B0,B4,awant,undef,aq,al,cst,cst1,acells,flat,behind,abin,aconv,aint,thenQ,blkQ,retQ,Value.cells,Value.oneCell',Int.reduceToNat, ↓reduceIte,Nat.reduceLT,Nat.reduceEqDiff,reduceCtorEq,Nat.reduceAdd,Nat.reduceMul,Nat.reduceLeDiff,u_22,u_3,telem_22,tfld_43_0,tsz_3,tsz_43,tzero_43, *])
 |(refine hκ.out _ _ ?_;clear hκ κ))
  refine awp_loop (fun m s σ' => ∃ i : Nat, m = l.length - i ∧ i ≤ l.length ∧ s 0 = sl ids l.length cs ∧ s 1 = sc (.int .i64 lo) ∧ s 2 = sc (.int .i64 hi) ∧ s 7 = sc (.int .i64 i) ∧ Keep σ σ') l.length
    ⟨0, by omega, by omega, rfl, rfl, rfl, rfl, Keep.refl _⟩ ?_
  rintro m s σ' ⟨i, rfl, hi', h0, h1, h2, h7, hK⟩
  have kno := hK.nobj
  by_cases hlt : i < l.length
  · have hget := List.getElem?_eq_getElem hlt
    have hPi := hP l[i] (List.getElem_mem hlt)
    obtain ⟨r, hd⟩ := EL_op hE hget
    generalize l[i] = o at hd hget hPi
    clear hget
    by_cases hk : lo ≤ o.kind ∧ o.kind ≤ hi
    · have hPj := hPi hk.1 hk.2 _ rfl
      have hk1 := hk.1
      have hk2 := hk.2
      clear hPi hk
      repeat' (first
 |with_reducible (first|apply awp_seq|apply awp_block|(refine awp_region_k ?_;intro κ hκ)|(refine hκ.out _ _ ?_;clear hκ κ)|apply awp_skip|apply awp_exit|apply awp_ret)
 |((first|with_reducible apply gd_split|((with_reducible refine cond_go ?_);refine awp_cond_split rfl ?_ ?_))<;>intro h<;>(try simp only [upd, ↓reduceIte,Nat.reduceEqDiff,B2] at h)<;>(try simp only [*,reduceCtorEq,decide_true,decide_false] at h)<;>(try (have hari:=h;simp only [B3] at hari))<;>(try (first|contradiction|(exfalso;omega)|(exfalso;simp at h;done)))<;>(try simp only [B5]))
 |((with_reducible refine acalls_go ?_);refine ACalls.mono (hPj _) ?_;rintro _ _ ⟨rfl,hK1⟩)
 |(simp (maxSteps:=3000000) (disch:=(first|omega|(simp only [B1, *];omega))) only [↓mapA_nil, ↓mapA_cons,B0,B4,awant,undef,aq,al,cst,cst1,acells,flat,behind,abin,aconv,aint,thenQ,blkQ,retQ,Value.cells,Value.oneCell',Int.reduceToNat, ↓reduceIte,Nat.reduceLT,Nat.reduceEqDiff,reduceCtorEq,Nat.reduceAdd,Nat.reduceMul,Nat.reduceLeDiff,u_22,u_3,telem_22,tfld_43_0,tsz_3,tsz_43,tzero_43, *])
 |(refine hκ.out _ _ ?_;clear hκ κ))
      all_goals
        first
        | exact ⟨l.length - (i + 1), by omega, i + 1, rfl, by omega, by simp, by repeat (first | exact Keep.refl _ | assumption | (refine Keep.put ?_ (by first | omega | (simp only [new_nobj, put_nobj, lay_nobj, *]; omega)) _) | (refine Keep.new ?_ _) | (refine Keep.lay ?_ _) | (refine Keep.trans ?_ (by assumption)))⟩
    · clear hPi
      repeat' (first
 |with_reducible (first|apply awp_seq|apply awp_block|(refine awp_region_k ?_;intro κ hκ)|(refine hκ.out _ _ ?_;clear hκ κ)|apply awp_skip|apply awp_exit|apply awp_ret)
 |((first|with_reducible apply gd_split|((with_reducible refine cond_go ?_);refine awp_cond_split rfl ?_ ?_))<;>intro h<;>(try simp only [upd, ↓reduceIte,Nat.reduceEqDiff,B2] at h)<;>(try simp only [*,reduceCtorEq,decide_true,decide_false] at h)<;>(try (have hari:=h;simp only [B3] at hari))<;>(try (first|contradiction|(exfalso;omega)|(exfalso;simp at h;done)))<;>(try simp only [B5]))
 |(simp (maxSteps:=3000000) (disch:=(first|omega|(simp only [B1, *];omega))) only [↓mapA_nil, ↓mapA_cons,B0,B4,awant,undef,aq,al,cst,cst1,acells,flat,behind,abin,aconv,aint,thenQ,blkQ,retQ,Value.cells,Value.oneCell',Int.reduceToNat, ↓reduceIte,Nat.reduceLT,Nat.reduceEqDiff,reduceCtorEq,Nat.reduceAdd,Nat.reduceMul,Nat.reduceLeDiff,u_22,u_3,telem_22,tfld_43_0,tsz_3,tsz_43,tzero_43, *])
 |(refine hκ.out _ _ ?_;clear hκ κ))
      all_goals
        first
        | exact ⟨l.length - (i + 1), by omega, i + 1, rfl, by omega, by simp, by repeat (first | exact Keep.refl _ | assumption | (refine Keep.put ?_ (by first | omega | (simp only [new_nobj, put_nobj, lay_nobj, *]; omega)) _) | (refine Keep.new ?_ _) | (refine Keep.lay ?_ _) | (refine Keep.trans ?_ (by assumption)))⟩
        | (exfalso; simp only [decide_eq_true_eq] at *; omega)
  · have hil : i = l.length := by omega
    subst hil
    repeat' (first
 |with_reducible (first|apply awp_seq|apply awp_block|(refine awp_region_k ?_;intro κ hκ)|(refine hκ.out _ _ ?_;clear hκ κ)|apply awp_skip|apply awp_exit|apply awp_ret)
 |((first|with_reducible apply gd_split|((with_reducible refine cond_go ?_);refine awp_cond_split rfl ?_ ?_))<;>intro h<;>(try simp only [upd, ↓reduceIte,Nat.reduceEqDiff,B2] at h)<;>(try simp only [*,reduceCtorEq,decide_true,decide_false] at h)<;>(try (have hari:=h;simp only [B3] at hari))<;>(try (first|contradiction|(exfalso;omega)|(exfalso;simp at h;done)))<;>(try simp only [B5]))
 |(simp (maxSteps:=3000000) (disch:=(first|omega|(simp only [B1, *];omega))) only [↓mapA_nil, ↓mapA_cons,B0,B4,awant,undef,aq,al,cst,cst1,acells,flat,behind,abin,aconv,aint,thenQ,blkQ,retQ,Value.cells,Value.oneCell',Int.reduceToNat, ↓reduceIte,Nat.reduceLT,Nat.reduceEqDiff,reduceCtorEq,Nat.reduceAdd,Nat.reduceMul,Nat.reduceLeDiff,u_22,u_3,telem_22,tfld_43_0,tsz_3,tsz_43,tzero_43, *])
 |(refine hκ.out _ _ ?_;clear hκ κ))
    first | exact ⟨_, rfl, rfl, hK⟩ | exact ⟨_, rfl, rfl⟩ | exact ⟨_, rfl⟩

set_option maxHeartbeats 16000000 in
theorem checks_spec (l : List OpD) (cs : List AV) (ids : Nat) (hE : EL EO l cs) (hl : l.length ≤ 9223372036854775807) (σ : St) : ACalls Tryz.prog 3 [sl ids l.length cs] σ fun r σ' => r = sc (.bool true) ∧ Keep σ σ' := by
  have hP : Plays 1 1 l := fun o _ h1 h2 c hc σ => plays_check o (by omega) c hc σ
  refine acalls 6 [.tmp 2] Tryz.func3 rfl (by decide) rfl rfl (Nat.le_of_ble_eq_true rfl) ?_
  repeat' (first
 |with_reducible (first|apply awp_seq|apply awp_block|(refine awp_region_k ?_;intro κ hκ)|(refine hκ.out _ _ ?_;clear hκ κ)|apply awp_skip|apply awp_exit|apply awp_ret)
 |((first|with_reducible apply gd_split|((with_reducible refine cond_go ?_);refine awp_cond_split rfl ?_ ?_))<;>intro h<;>(try simp only [upd, ↓reduceIte,Nat.reduceEqDiff,B2] at h)<;>(try simp only [*,reduceCtorEq,decide_true,decide_false] at h)<;>(try (have hari:=h;simp only [B3] at hari))<;>(try (first|contradiction|(exfalso;omega)|(exfalso;simp at h;done)))<;>(try simp only [B5]))
 |((with_reducible refine acalls_go ?_);refine ACalls.mono (upto_spec l cs ids 1 1 hE hl hP _) ?_;rintro _ _ ⟨rfl,hK1⟩)
 |(simp (maxSteps:=3000000) (disch:=(first|omega|(simp only [B1, *];omega))) only [↓mapA_nil, ↓mapA_cons,B0,B4,awant,undef,aq,al,cst,cst1,acells,flat,behind,abin,aconv,aint,thenQ,blkQ,retQ,Value.cells,Value.oneCell',Int.reduceToNat, ↓reduceIte,Nat.reduceLT,Nat.reduceEqDiff,reduceCtorEq,Nat.reduceAdd,Nat.reduceMul,Nat.reduceLeDiff,u_3, *])
 |(refine hκ.out _ _ ?_;clear hκ κ))
  first | exact ⟨_, rfl, rfl, hK1⟩ | exact ⟨_, rfl, rfl⟩ | exact ⟨_, rfl⟩
/- From the abstract machine to the row: a script that came in. -/
open Go.RowKit (Below)

def st0 : St := { obj := fun _ => [], nobj := 0, top := fun _ => 0, ntop := 0, ver := fun _ => 0 }
def gh0 (W : World) : Gh := { blk := fun _ => 0, cur := fun _ => 0, cap := fun _ => 0, siz := fun _ => 0, per := fun b _ => b < W.heap.size, base := W.heap.size, w0 := W }
theorem inv0 (W : World) (hy : Abs.Hyp W.heap.size W) : Abs.Inv (gh0 W) st0 W :=
  ⟨fun o h => absurd h (Nat.not_lt_zero _), fun o o' h => absurd h (Nat.not_lt_zero _), fun k h => absurd h (Nat.not_lt_zero _), fun k k' h => absurd h (Nat.not_lt_zero _), fun o k h => absurd h (Nat.not_lt_zero _),
   fun b off h => h, fun b off h => h, Below.refl _ _, Nat.le_refl _, hy⟩
theorem calls_law {f : FuncId} {x : AV} {W : World} {v : Value} (h : ACalls Tryz.prog f [x] st0 fun r σ' => r = sc (.bool true) ∧ Keep st0 σ') (hv : VR (gh0 W) st0 W v x) (hy : Abs.Hyp W.heap.size W) :
    Calls Tryz.prog f #[v] W fun e w' => e = .returned (.bool true) ∧ Below W.heap.size W w' := by
  refine (h.2 (gh0 W) W #[v] (inv0 W hy) (All2.cons hv (All2.nil _))).mono ?_
  rintro e w' ⟨v2, G', y, σ', rfl, I', E, hvr, rfl, -⟩
  have h2 : v2 = .bool true := hvr.unfold
  refine ⟨by rw [h2], ?_⟩
  have hb := I'.below
  rw [E.base, E.w0] at hb
  exact hb

theorem lie_append {w : World} {per : Nat → Nat → Prop} {R : Value → AV → Prop} {b o : Nat} {xs ys : List AV} (h : Lie w per R b o xs) (g : Lie w per R b (o + xs.length) ys) : Lie w per R b o (xs ++ ys) := fun i x hx => by
  rw [List.getElem?_append] at hx
  split at hx
  · exact h i x hx
  · rename_i hi
    have := g (i - xs.length) x hx
    rwa [show o + xs.length + (i - xs.length) = o + i by omega] at this
def opC (o : OpD) : List AV := [sc (.int .i64 o.kind), sc (.int .i64 o.n), sc (.int .i64 o.m), str o.s, str o.e, str o.f]
def opV (o : OpD) : List Value := [.int .i64 o.kind, .int .i64 o.n, .int .i64 o.m, .string (bs o.s), .string (bs o.e), .string (bs o.f)]
/-- a step lies there -/
def opAt (w : World) (b off : Nat) (o : OpD) : Prop := ∀ r, r < 6 → w.cell? ⟨b, off + r, none⟩ = (opV o)[r]?
theorem lie_op {w : World} {per : Nat → Nat → Prop} {G : Gh} {σ : St} {b off : Nat} {o : OpD} (hp : ∀ k, per b k) (h : opAt w b off o) : Lie w per (VR G σ w) b off (opC o) := fun i x hx => by
  refine ⟨hp _, ?_⟩
  match i, hx with
  | 0, hx => simp [opC] at hx; subst hx; exact ⟨_, h 0 (by decide), VR.sc _⟩
  | 1, hx => simp [opC] at hx; subst hx; exact ⟨_, h 1 (by decide), VR.sc _⟩
  | 2, hx => simp [opC] at hx; subst hx; exact ⟨_, h 2 (by decide), VR.sc _⟩
  | 3, hx => simp [opC] at hx; subst hx; exact ⟨_, h 3 (by decide), VR.sc _⟩
  | 4, hx => simp [opC] at hx; subst hx; exact ⟨_, h 4 (by decide), VR.sc _⟩
  | 5, hx => simp [opC] at hx; subst hx; exact ⟨_, h 5 (by decide), VR.sc _⟩
  | i + 6, hx => simp [opC] at hx
theorem lie_ops {w : World} {per : Nat → Nat → Prop} {G : Gh} {σ : St} {b : Nat} (hp : ∀ k, per b k) : ∀ (l : List OpD) (off : Nat), (∀ i o, l[i]? = some o → opAt w b (off + i * 6) o) → Lie w per (VR G σ w) b off (l.flatMap opC)
  | [], off, h => fun i x hx => by simp at hx
  | o :: l, off, h => by
    rw [List.flatMap_cons]
    refine lie_append (lie_op hp (by simpa using h 0 o rfl)) (lie_ops hp l _ fun i o' hi => ?_)
    have := h (i + 1) o' (by simpa using hi)
    rwa [show off + (i + 1) * 6 = off + (opC o).length + i * 6 by simp [opC]; omega] at this
theorem el_ops : ∀ l : List OpD, EL EO l (l.flatMap opC)
  | [] => rfl
  | o :: l => ⟨opC o, l.flatMap opC, rfl, el_ops l, by rw [List.flatMap_cons]⟩
theorem list_of {p : Nat → OpD → Prop} : ∀ (n : Nat), (∀ i, i < n → ∃ o, p i o) → ∃ l : List OpD, l.length = n ∧ ∀ i o, l[i]? = some o → p i o
  | 0, _ => ⟨[], rfl, fun i o h => by simp at h⟩
  | n + 1, h => by
    obtain ⟨l, hl, hp⟩ := list_of n fun i hi => h i (by omega)
    obtain ⟨o, ho⟩ := h n (by omega)
    refine ⟨l ++ [o], by simp [hl], fun i o' hi => ?_⟩
    rw [List.getElem?_append] at hi
    split at hi
    · exact hp i o' hi
    · rename_i hlt
      have : i = n := by
        by_cases e : i - l.length = 0
        · omega
        · rw [List.getElem?_eq_none (by simp; omega)] at hi; cases hi
      subst this
      rw [show i - l.length = 0 by omega] at hi
      simp at hi; subst hi; exact ho

theorem cells43 : Tryz.prog.cellsOf 43 = 6 := by kernel_rfl
theorem cells3 : Tryz.prog.cellsOf 3 = 1 := by kernel_rfl
theorem cells9 : Tryz.prog.cellsOf 9 = 1 := by kernel_rfl
/-- one step, opened -/
theorem open_op {H : Type} {enc : TypeId × Value → H} {w : World} {base : Nat} {spare : Nat → Bool} {held : Bool} {fuel : Nat} {cs : List Value} {x : DataW H × List MemPlace} (h : DataW.trod enc Tryz.prog w base spare held fuel 43 cs = some x) : ∃ o : OpD, cs = opV o := by
  obtain ⟨xs, n, -, -, hl, hlen, hf⟩ := DataW.trod_struct Tryz.underlying43 h
  rw [cells43] at hl
  match xs, hlen with
  | [y0, y1, y2, y3, y4, y5], _ =>
    have f0 : DataW.trod enc Tryz.prog w base spare held n 3 ((cs.drop 0).take (Tryz.prog.cellsOf 3)) = some y0 := hf 0 _ rfl
    have f1 : DataW.trod enc Tryz.prog w base spare held n 3 ((cs.drop 1).take (Tryz.prog.cellsOf 3)) = some y1 := hf 1 _ rfl
    have f2 : DataW.trod enc Tryz.prog w base spare held n 3 ((cs.drop 2).take (Tryz.prog.cellsOf 3)) = some y2 := hf 2 _ rfl
    have f3 : DataW.trod enc Tryz.prog w base spare held n 9 ((cs.drop 3).take (Tryz.prog.cellsOf 9)) = some y3 := hf 3 _ rfl
    have f4 : DataW.trod enc Tryz.prog w base spare held n 9 ((cs.drop 4).take (Tryz.prog.cellsOf 9)) = some y4 := hf 4 _ rfl
    have f5 : DataW.trod enc Tryz.prog w base spare held n 9 ((cs.drop 5).take (Tryz.prog.cellsOf 9)) = some y5 := hf 5 _ rfl
    rw [cells3] at f0 f1 f2
    rw [cells9] at f3 f4 f5
    obtain ⟨k, e0, -, -⟩ := DataW.trod_int Tryz.underlying3 f0
    obtain ⟨a, e1, -, -⟩ := DataW.trod_int Tryz.underlying3 f1
    obtain ⟨b, e2, -, -⟩ := DataW.trod_int Tryz.underlying3 f2
    obtain ⟨s, e3, -, -⟩ := DataW.trod_string Tryz.underlying9 f3
    obtain ⟨t, e4, -, -⟩ := DataW.trod_string Tryz.underlying9 f4
    obtain ⟨u, e5, -, -⟩ := DataW.trod_string Tryz.underlying9 f5
    match cs, hl with
    | [c0, c1, c2, c3, c4, c5], _ =>
      simp at e0 e1 e2 e3 e4 e5
      subst e0 e1 e2 e3 e4 e5
      exact ⟨⟨k, a, b, s.data.toList, t.data.toList, u.data.toList⟩, by simp only [opV, ← bs_of]⟩

theorem open_script {H : Type} {enc : TypeId × Value → H} {W : World} {spare : Nat → Bool} {held : Bool} {fuel : Nat} {a : Option Addr} {len cap : Nat} {x : DataW H × List MemPlace} (h : DataW.trod enc Tryz.prog W 0 spare held fuel 22 [.slice a len cap] = some x) :
    ∃ (l : List OpD) (cs : List AV), EL EO l cs ∧ l.length ≤ 9223372036854775807 ∧ VR (gh0 W) st0 W (.slice a len cap) (sl 0 l.length cs) := by
  rcases Deep.open_slice Tryz.underlying22 h with ⟨hcs, -⟩ | ⟨a', len', cap', m, n, D, Pl, hcs, -, hl, hm, hmm, -, hel⟩
  · simp at hcs
    obtain ⟨rfl, rfl, rfl⟩ := hcs
    exact ⟨[], [], rfl, by simp, VR.fold ⟨none, 0, rfl, ⟨Nat.le_refl _, fun h => by omega⟩, fun h => absurd rfl h, fun k hk => by omega⟩⟩
  · simp at hcs
    obtain ⟨rfl, rfl, rfl⟩ := hcs
    have hle : len ≤ m := by rw [hmm]; split <;> omega
    rw [cells43] at hel
    have hone : ∀ i, i < len → ∃ o : OpD, ∀ r, r < 6 → W.cell? ((a'.add (i * 6)).add r) = (opV o)[r]? := by
      intro i hi
      obtain ⟨cs', h1, h2⟩ := hel i (by omega)
      obtain ⟨o, rfl⟩ := open_op h2
      obtain ⟨-, -, h3⟩ := World.cells?_some h1
      exact ⟨o, h3⟩
    obtain ⟨l, hll, hp⟩ := list_of len hone
    refine ⟨l, l.flatMap opC, el_ops l, by rw [hll]; unfold maxLen at hm; omega, VR.fold ⟨some a', cap, by rw [hll], ⟨by omega, fun h => by omega⟩, fun hne => ?_, fun k hk => by omega⟩⟩
    have hl0 : 0 < l.length := by
      cases l with
      | nil => exact absurd rfl hne
      | cons o r => simp
    obtain ⟨b, off, spot⟩ := a'
    have hc0 := hp 0 l[0] (List.getElem?_eq_getElem hl0) 0 (by decide)
    have hsp : spot = none := by
      have : W.cell? ⟨b, off, spot⟩ = some (.int .i64 l[0].kind) := by simpa [Addr.add, opV] using hc0
      exact World.cell?_spot this
    subst hsp
    have hblk : b < W.heap.size := by
      have : W.cell? ⟨b, off, none⟩ = some (.int .i64 l[0].kind) := by simpa [Addr.add, opV] using hc0
      unfold World.cell? at this
      rcases Nat.lt_or_ge b W.heap.size with h | h
      · exact h
      · simp [Array.getElem?_eq_none h] at this
    refine ⟨b, off, rfl, lie_ops (fun _ => hblk) l off fun i o hi r hr => ?_⟩
    have := hp i o hi r hr
    rw [← this]
    congr 1
    unfold Addr.add
    split <;> split <;> simp_all <;> omega
end Go.Proofs.YtmoeoppbmhfbpaaGreatDoorY
