import Derived.Test.YtmoeoppbmhfbpaaGreatDoorURerB
/- Core, walked. -/
namespace Go.Proofs.YtmoeoppbmhfbpaaGreatDoorU
open Go.Abs
set_option linter.unusedSimpArgs false
set_option linter.unusedVariables false
set_option maxRecDepth 100000
set_option maxHeartbeats 32000000 in
theorem core_spec (t : Tx) (σ : St) : ACalls Tryz.prog 11 [str t] σ fun r σ' => r = sc (.bool true) ∧ Keep σ σ' := by
 have hAw := fun σ => kawake_spec σ
 have hOp := fun σ => pOptimise_spec t [97] 1000 (by omega) (by intro c hc; simp at hc; exact .inr (.inl hc)) σ
 have hRf := fun σ => krefused_spec t σ
 have hc1 : ({ data := #[97] } : ByteArray) = bs [97] := rfl
 refine acalls 62 [.tmp 2] Tryz.func11 rfl (by decide) rfl rfl (Nat.le_of_ble_eq_true rfl) ?_
 repeat' (first
 |with_reducible first|apply Xa|apply Xb|(refine Xc ?_;intro κ hκ)|(apply hκ.out;clear hκ κ)|apply Xd|apply Xe|apply Xf
 |((with_reducible first|refine Xl ?_ ?_|refine Xk ?_ ?_)<;> intro h hari<;> try exact Xp)
 |((with_reducible refine Xh ?_);refine Xi (hAw _) ?_;rintro _ _ ⟨rfl,hK1⟩;(have kno1:=hK1.nobj))
 |refine Xr ?_
 |exact True.intro
 |(apply hκ.out;clear hκ κ))
 rename_i σ1
 refine ACalls.mono (hOp _) ?_
 rintro _ σ2 ⟨⟨T, m, e⟩, rfl, hp, hK2⟩
 have hKa := hK1.trans hK2
 clear hAw hOp hK1 hK2 kno1
 rcases opt_core hp with ⟨hp1, hp2, hp3, hp4⟩ | ⟨hp2, hA⟩
 ·simp only at hp1 hp2 hp3 hp4
  subst hp1; subst hp2; subst hp3
  have heb : ((refCheck t).1 != 0) = true := by simpa using hp4
  clear hp hp4
  generalize (refCheck t).1 = e0 at *
  refine Xr ?_
  repeat' (first
 |with_reducible first|apply Xa|apply Xb|(refine Xc ?_;intro κ hκ)|(apply hκ.out;clear hκ κ)|apply Xd|apply Xe|apply Xf
 |((with_reducible first|refine Xl ?_ ?_|refine Xk ?_ ?_)<;> intro h hari<;> try exact Xp)
 |((with_reducible refine Xh ?_);refine Xi (hRf _) ?_;rintro _ _ ⟨rfl,hK3⟩;(have hKz:=hKa.trans hK3))
 |refine Xr ?_
 |exact True.intro
 |(apply hκ.out;clear hκ κ))
  first | exact ⟨_, rfl, rfl, hKz⟩ | exact ⟨_, rfl, rfl⟩ | exact ⟨_, rfl, hKz⟩
 ·simp only at hp2 hA
  subst hp2
  clear hp hRf
  have hPc := fun σ => kpieces_spec t (by have := hA.lt; omega) σ
  have hPT := fun σ => kpieces_spec T (by have := hA.lT; omega) σ
  have hfew := hA.few
  have hno : Abs.Hid _ := hA.no
  clear hA
  have hSp := fun (i k : Nat) σ => pSpare_spec T i k σ
  generalize pcsL t = P at *
  generalize pcsL T = R at *
  have hlb : ((R.length : Int) != (P.length : Int)) = false := by simp [hfew.1]
  have hR16 := hfew.2
  have hP16 : P.length ≤ 16 := by omega
  clear hfew
  have hkne : (((0 : Int)) != 0) = false := rfl
  refine Xr ?_
  repeat' (first
 |with_reducible first|apply Xa|apply Xb|(refine Xc ?_;intro κ hκ)|(apply hκ.out;clear hκ κ)|apply Xd|apply Xe|apply Xf
 |((with_reducible first|refine Xl ?_ ?_|refine Xk ?_ ?_)<;> intro h hari<;> try exact Xp)
 |((with_reducible refine Xh ?_);first|(refine Xi (hPT _) ?_;rintro _ _ ⟨⟨idr,rfl⟩,hK4⟩;(have kno4:=hK4.nobj))|(refine Xi (hPc _) ?_;rintro _ _ ⟨⟨idp,rfl⟩,hK5⟩;(have kno5:=hK5.nobj)))
 |refine Xr ?_
 |exact True.intro
 |(apply hκ.out;clear hκ κ))
  rename_i σ3 σ4
  have hKb := (hKa.trans hK4).trans hK5
  clear hKa hK4 hK5 hPc hPT kno4 kno5
  refine awp_loop (fun m' s σ' => ∃ (i : Nat), m' = R.length - i ∧ i ≤ R.length ∧ s 4 = str T ∧ s 7 = sl idr R.length (R.map str) ∧ s 8 = sc (.int .i64 i) ∧ Keep σ σ') R.length
   ⟨0, by omega, by omega, rfl, rfl, rfl, hKb⟩ ?_
  clear hKb
  rintro m' s σ5 ⟨i, rfl, hi, h4, h7, h8, hK⟩
  have kno := hK.nobj
  by_cases hlt : i < R.length
  ·have hdr := map_str_get hlt
   have hget := List.getElem?_eq_getElem hlt
   generalize R[i] = p at hdr hget
   have hpp := hno.out i p hget
   have hAt := fun σ => katoms_spec p hpp.1 σ
   have hal := hpp.2.1
   have hsp : Abs.Hid _ := hpp.2.2
   clear hpp hget
   generalize atsL p = A at *
   repeat' (first
 |with_reducible first|apply Xa|apply Xb|(refine Xc ?_;intro κ hκ)|(apply hκ.out;clear hκ κ)|apply Xd|apply Xe|apply Xf
 |((with_reducible first|refine Xl ?_ ?_|refine Xk ?_ ?_)<;> intro h hari<;> try exact Xp)
 |refine Xr ?_
 |exact True.intro
 |(apply hκ.out;clear hκ κ))
   refine awp_loop (fun m' s σ' => ∃ (k : Nat), m' = A.length - k ∧ k ≤ A.length ∧ s 4 = str T ∧ s 7 = sl idr R.length (R.map str) ∧ s 8 = sc (.int .i64 i) ∧ s 9 = sc (.int .i64 k) ∧ Keep σ σ') A.length
    ⟨0, by omega, by omega, by simp [upd, *], by simp [upd, *], by simp [upd, *], by simp [upd], hK⟩ ?_
   clear h4 h7 h8 hK kno
   rintro m2 s σ6 ⟨k, rfl, hk, h4, h7, h8, h9, hK⟩
   have kno := hK.nobj
   by_cases hlk : k + 1 < A.length
   ·have hkb : decide ((k : Int) + 1 < (A.length : Int)) = true := by simp; omega
    have hSp := hSp i k
    have hsp := fun r => hsp.out k hlk r
    repeat' (first
 |with_reducible first|apply Xa|apply Xb|(refine Xc ?_;intro κ hκ)|(apply hκ.out;clear hκ κ)|apply Xd|apply Xe|apply Xf
 |((with_reducible first|refine Xl ?_ ?_|refine Xk ?_ ?_)<;> intro h hari<;> try exact Xp)
 |((with_reducible refine Xh ?_);refine Xi (hAt _) ?_;rintro _ _ ⟨⟨ida,rfl⟩,hK6⟩;(have kno6:=hK6.nobj))
 |refine Xr ?_
 |exact True.intro
 |(apply hκ.out;clear hκ κ))
    rename_i σ7
    refine ACalls.mono (hSp _) ?_
    rintro _ σ8 ⟨⟨u, e⟩, rfl, hp, hK7⟩
    have he := hsp _ hp
    simp only at he
    subst he
    have hKz := (hK.trans hK6).trans hK7
    clear hp hsp hK hK6 hK7 kno kno6 hSp
    have hten : (((10 : Int)) != 10) = false := rfl
    refine Xr ?_
    repeat' (first
 |with_reducible first|apply Xa|apply Xb|(refine Xc ?_;intro κ hκ)|(apply hκ.out;clear hκ κ)|apply Xd|apply Xe|apply Xf
 |((with_reducible first|refine Xl ?_ ?_|refine Xk ?_ ?_)<;> intro h hari<;> try exact Xp)
 |refine Xr ?_
 |exact True.intro
 |(apply hκ.out;clear hκ κ))
    refine ⟨A.length - (k + 1), by omega, k + 1, ?_⟩
    ((repeat' with_reducible refine And.intro ?_ ?_)<;> first|exact Xq|exact (hKz)|exact Xs)
   ·have hkb : decide ((k : Int) + 1 < (A.length : Int)) = false := by simp; omega
    clear hSp hsp
    repeat' (first
 |with_reducible first|apply Xa|apply Xb|(refine Xc ?_;intro κ hκ)|(apply hκ.out;clear hκ κ)|apply Xd|apply Xe|apply Xf
 |((with_reducible first|refine Xl ?_ ?_|refine Xk ?_ ?_)<;> intro h hari<;> try exact Xp)
 |((with_reducible refine Xh ?_);refine Xi (hAt _) ?_;rintro _ _ ⟨⟨ida,rfl⟩,hK6⟩;(have hKz:=hK.trans hK6;clear hK hK6 kno))
 |refine Xr ?_
 |exact True.intro
 |(apply hκ.out;clear hκ κ))
    refine ⟨R.length - (i + 1), by omega, i + 1, ?_⟩
    ((repeat' with_reducible refine And.intro ?_ ?_)<;> first|exact Xq|exact (hKz)|exact Xs)
  ·repeat' (first
 |with_reducible first|apply Xa|apply Xb|(refine Xc ?_;intro κ hκ)|(apply hκ.out;clear hκ κ)|apply Xd|apply Xe|apply Xf
 |((with_reducible first|refine Xl ?_ ?_|refine Xk ?_ ?_)<;> intro h hari<;> try exact Xp)
 |refine Xr ?_
 |exact True.intro
 |(apply hκ.out;clear hκ κ))
   first | exact ⟨_, rfl, rfl, hK⟩ | exact ⟨_, rfl, hK⟩ | exact ⟨_, rfl, rfl⟩
end Go.Proofs.YtmoeoppbmhfbpaaGreatDoorU
