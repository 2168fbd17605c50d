import Derived.Test.YtmoeoppbmhfbpaaGreatDoorYRefAi
import Derived.Test.YtmoeoppbmhfbpaaGreatDoorYRefAo
/- The document's own answer: the place of the first byte that cannot stand there. -/
namespace Go.Proofs.YtmoeoppbmhfbpaaGreatDoorY
open Go.Abs
set_option linter.unusedSimpArgs false
set_option linter.unusedVariables false
set_option maxRecDepth 100000

def scan0 : Scan := ⟨0, 0, 0, 0, 0, 0, false⟩
/-- one byte -/
def stepS (X : Scan) (c : UInt8) : Scan × Bool :=
  if decide (5 ≤ X.st) = true ∧ decide (X.st ≤ 8) = true then innerF X c.toNat else outerF X c.toNat
/-- the state behind a text; where it stops -/
def runS : Scan → List UInt8 → Nat → Scan × Option Nat
  | X, [], _ => (X, none)
  | X, c :: r, i => if (stepS X c).2 = true then runS (stepS X c).1 r (i + 1) else ((stepS X c).1, some i)
def placeL (s : List UInt8) : Int :=
  match (runS scan0 s 0).2 with
  | some i => i
  | none => if (runS scan0 s 0).1.st != 0 then s.length else -1

def Scan.upto (X : Scan) (k : Nat) : Prop := X.items ≤ k ∧ X.letters ≤ k + 1 ∧ X.digits ≤ k + 1 ∧ X.terms ≤ k + 1 ∧ X.lits ≤ k + 1 ∧ 0 ≤ X.items ∧ 0 ≤ X.letters ∧ 0 ≤ X.digits ∧ 0 ≤ X.terms ∧ 0 ≤ X.lits

theorem upto_step {X : Scan} {k : Nat} (h : X.upto k) (c : UInt8) : (stepS X c).1.upto (k + 1) := by
  obtain ⟨h1, h2, h3, h4, h5, h6, h7, h8, h9, h10⟩ := h
  unfold stepS innerF outerF Scan.upto
  repeat' split
  all_goals (simp only []; (repeat' (first | constructor | (split <;> omega) | omega)))
theorem upto_small {X : Scan} {k : Nat} (h : X.upto k) (hk : k ≤ 10000) : X.small := by
  obtain ⟨h1, h2, h3, h4, h5, h6, h7, h8, h9, h10⟩ := h
  exact ⟨by omega, by omega, by omega, by omega, by omega, h6, h7, h8, h9, h10⟩

def atPlace (l : List UInt8) (k : Nat) (X : Scan) : Prop := runS scan0 l 0 = runS X (l.drop k) k

theorem runS_step {l : List UInt8} {k : Nat} {X : Scan} (h : k < l.length) : runS X (l.drop k) k = if (stepS X l[k]).2 = true then runS (stepS X l[k]).1 (l.drop (k + 1)) (k + 1) else ((stepS X l[k]).1, some k) := by
  rw [List.drop_eq_getElem_cons h]; rfl

set_option maxHeartbeats 4000000 in
theorem place_spec (l : List UInt8) (hb : l.length ≤ 1000) (σ : St) : ACalls Tryz.prog 134 [str l] σ fun x σ' => x = sc (.int .i64 (placeL l)) ∧ Keep σ σ' := by
  refine acalls 46 [.tmp 2] Tryz.func134 rfl (by decide) rfl rfl (Nat.le_of_ble_eq_true rfl) ?_
  repeat' (first
 |with_reducible (first|apply awp_seq|apply awp_block|(refine awp_region_k ?_;intro κ hκ)|(refine hκ.out _ _ ?_;clear hκ κ)|apply awp_skip|apply awp_exit|apply awp_ret)
 |((first|with_reducible apply gd_split|((with_reducible refine cond_go ?_);refine awp_cond_split rfl ?_ ?_))<;>intro h<;>(try simp only [upd, ↓reduceIte,Nat.reduceEqDiff,B2] at h)<;>(try simp only [*,reduceCtorEq,decide_true,decide_false] at h)<;>(try (have hari:=h;simp only [B3] at hari))<;>(try (first|contradiction|(exfalso;omega)|(exfalso;simp at h;done)))<;>(try simp only [B5]))
 |(simp (maxSteps:=3000000) (disch:=(first|omega|(simp only [B1, *];omega))) only [↓mapA_nil, ↓mapA_cons,B0,B4,awant,undef,aq,al,cst,cst1,acells,flat,behind,abin,aconv,aint,thenQ,blkQ,retQ,Value.cells,Value.oneCell',Int.reduceToNat, ↓reduceIte,Nat.reduceLT,Nat.reduceEqDiff,reduceCtorEq,Nat.reduceAdd,Nat.reduceMul,Nat.reduceLeDiff,u_3,u_9,telem_9,tfld_224_0,tstr_224,tsz_3, *])
 |(refine hκ.out _ _ ?_;clear hκ κ))
  refine awp_loop (fun m s σ' => ∃ (k : Nat) (X : Scan), m = l.length - k ∧ k ≤ l.length ∧ s 0 = str l ∧ s 3 = ptr σ.nobj 0 ∧ s 4 = sc (.int .i64 k) ∧ Keep σ σ' ∧ σ'.obj σ.nobj = encScan X ∧ σ.nobj < σ'.nobj ∧ X.upto k ∧ atPlace l k X) l.length
    ⟨0, scan0, by omega, by omega, rfl, rfl, rfl, by repeat (first | exact Keep.refl _ | assumption | (refine Keep.put ?_ (by first | omega | (simp only [new_nobj, put_nobj, lay_nobj, *]; omega)) _) | (refine Keep.new ?_ _) | (refine Keep.lay ?_ _) | (refine Keep.trans ?_ (by assumption))), by simp [St.new]; rfl, by simp [St.new], by simp [Scan.upto, scan0], rfl⟩ ?_
  rintro m s σ' ⟨k, X, rfl, hk, h0, h3, h4, hK, ho, hn, hu, hp⟩
  have hsm := upto_small hu (by omega)
  have ho2 := ho
  unfold encScan at ho
  by_cases hlt : k < l.length
  · have hbk := List.getElem?_eq_getElem hlt
    repeat' (first
 |with_reducible (first|apply awp_seq|apply awp_block|(refine awp_region_k ?_;intro κ hκ)|(refine hκ.out _ _ ?_;clear hκ κ)|apply awp_skip|apply awp_exit|apply awp_ret)
 |((first|with_reducible apply gd_split|((with_reducible refine cond_go ?_);refine awp_cond_split rfl ?_ ?_))<;>intro h<;>(try simp only [upd, ↓reduceIte,Nat.reduceEqDiff,B2] at h)<;>(try simp only [*,reduceCtorEq,decide_true,decide_false] at h)<;>(try (have hari:=h;simp only [B3] at hari))<;>(try (first|contradiction|(exfalso;omega)|(exfalso;simp at h;done)))<;>(try simp only [B5]))
 |((with_reducible refine acalls_go ?_);refine ACalls.mono (inner_spec _ X hsm _ _ ho2) ?_;rintro _ _ ⟨rfl,hoi,hKi⟩;(have kin:=hKi.nobj))
 |((with_reducible refine acalls_go ?_);refine ACalls.mono (outer_spec _ X hsm _ _ ho2) ?_;rintro _ _ ⟨rfl,hoi,hKi⟩;(have kin:=hKi.nobj))
 |(simp (maxSteps:=3000000) (disch:=(first|omega|(simp only [B1, *];omega))) only [↓mapA_nil, ↓mapA_cons,B0,B4,awant,undef,aq,al,cst,cst1,acells,flat,behind,abin,aconv,aint,thenQ,blkQ,retQ,Value.cells,Value.oneCell',Int.reduceToNat, ↓reduceIte,Nat.reduceLT,Nat.reduceEqDiff,reduceCtorEq,Nat.reduceAdd,Nat.reduceMul,Nat.reduceLeDiff,u_3,u_9,telem_9,tfld_224_0,tstr_224,tsz_3, *])
 |(refine hκ.out _ _ ?_;clear hκ κ))
    all_goals
      first
      | (have hs : stepS X l[k] = innerF X l[k].toNat := by simp [stepS, *]
         first
         | exact ⟨_, rfl, by rw [placeL, show runS scan0 l 0 = _ from hp, runS_step hlt, hs, h]; rfl, KeepX.keep hK hKi (Nat.le_refl _)⟩
         | exact ⟨l.length - (k + 1), by omega, k + 1, _, rfl, by omega, by simp, KeepX.keep hK hKi (Nat.le_refl _), rfl, by omega, by rw [← hs]; exact upto_step hu _, by rw [atPlace, show runS scan0 l 0 = _ from hp, runS_step hlt, hs, h]; rfl⟩)
      | (have hs : stepS X l[k] = outerF X l[k].toNat := by simp only [stepS, *, Bool.false_eq_true, false_and, and_false, ↓reduceIte]
         first
         | exact ⟨_, rfl, by rw [placeL, show runS scan0 l 0 = _ from hp, runS_step hlt, hs, h]; rfl, KeepX.keep hK hKi (Nat.le_refl _)⟩
         | exact ⟨l.length - (k + 1), by omega, k + 1, _, rfl, by omega, by simp, KeepX.keep hK hKi (Nat.le_refl _), rfl, by omega, by rw [← hs]; exact upto_step hu _, by rw [atPlace, show runS scan0 l 0 = _ from hp, runS_step hlt, hs, h]; rfl⟩)
  · have hkl : k = l.length := by omega
    subst hkl
    have hr : runS scan0 l 0 = (X, none) := by rw [show runS scan0 l 0 = _ from hp, List.drop_length]; rfl
    have HR : Abs.Hid _ := hr
    clear hr
    repeat' (first
 |with_reducible (first|apply awp_seq|apply awp_block|(refine awp_region_k ?_;intro κ hκ)|(refine hκ.out _ _ ?_;clear hκ κ)|apply awp_skip|apply awp_exit|apply awp_ret)
 |((first|with_reducible apply gd_split|((with_reducible refine cond_go ?_);refine awp_cond_split rfl ?_ ?_))<;>intro h<;>(try simp only [upd, ↓reduceIte,Nat.reduceEqDiff,B2] at h)<;>(try simp only [*,reduceCtorEq,decide_true,decide_false] at h)<;>(try (have hari:=h;simp only [B3] at hari))<;>(try (first|contradiction|(exfalso;omega)|(exfalso;simp at h;done)))<;>(try simp only [B5]))
 |(simp (maxSteps:=3000000) (disch:=(first|omega|(simp only [B1, *];omega))) only [↓mapA_nil, ↓mapA_cons,B0,B4,awant,undef,aq,al,cst,cst1,acells,flat,behind,abin,aconv,aint,thenQ,blkQ,retQ,Value.cells,Value.oneCell',Int.reduceToNat, ↓reduceIte,Nat.reduceLT,Nat.reduceEqDiff,reduceCtorEq,Nat.reduceAdd,Nat.reduceMul,Nat.reduceLeDiff,u_3,u_9,telem_9,tfld_224_0,tstr_224,tsz_3, *])
 |(refine hκ.out _ _ ?_;clear hκ κ))
    all_goals
      have hr := HR.out
      first
      | exact ⟨_, rfl, by simp [placeL, hr, *], hK⟩
      | exact ⟨_, rfl, by simp [placeL, hr, *]⟩
      | exact ⟨_, rfl, by simp [placeL, hr]; simpa using h⟩
end Go.Proofs.YtmoeoppbmhfbpaaGreatDoorY
