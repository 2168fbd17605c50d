import Derived.Test.YtmoeoppbmhfbpaaGreatDoorUEngZ
import Derived.Test.YtmoeoppbmhfbpaaGreatDoorUAbsWp
import Derived.Test.YtmoeoppbmhfbpaaGreatDoorUSpaF
import Derived.Test.YtmoeoppbmhfbpaaGreatDoorUEngQ
/- The program's engine: all that follows from rules. -/
namespace Go.Proofs.YtmoeoppbmhfbpaaGreatDoorU
open Go.Abs
set_option linter.unusedSimpArgs false
set_option linter.unusedVariables false
set_option maxRecDepth 100000
theorem tot_eq : ∀ (M M' : MM), M'.length = M.length → (∀ k : Nat, (tupsOf M k).length ≤ (tupsOf M' k).length) → (tot M ≤ tot M' ∧ (tot M' ≤ tot M → ∀ k : Nat, (tupsOf M' k).length = (tupsOf M k).length))
 | [], M', hl, h => by
  have : M' = [] := List.eq_nil_of_length_eq_zero (by simpa using hl)
  subst this
  exact ⟨Int.le_refl _, fun _ k => rfl⟩
 | x :: M, [], hl, h => by simp at hl
 | x :: M, y :: M', hl, h => by
  obtain ⟨h1, h2⟩ := tot_eq M M' (by simpa using hl) (fun k => by have := h (k + 1); simpa [tupsOf] using this)
  have h0 := h 0
  simp [tupsOf] at h0
  rw [tot_cons, tot_cons]
  refine ⟨by omega, fun hle k => ?_⟩
  cases k with
  | zero => simp [tupsOf]; omega
  | succ k =>
   have := h2 (by omega) k
   simpa [tupsOf] using this
theorem GroA.lens {D : Dset} {M M' : MM} {d d' : Int} (h : GroA D M M' d d') (k : Nat) : (tupsOf M k).length ≤ (tupsOf M' k).length := by
 obtain ⟨n, e, -, -⟩ := h.ext k
 rw [e]; simp
theorem GroA.same {D : Dset} {M M' : MM} {d d' : Int} (h : GroA D M M' d d') (ht : tot M' ≤ tot M) (k : Nat) : tupsOf M' k = tupsOf M k := by
 have hl := (tot_eq M M' h.len h.lens).2 ht k
 obtain ⟨n, e, -, -⟩ := h.ext k
 rw [e] at hl ⊢
 have : n = [] := by simpa using hl
 rw [this, List.append_nil]
theorem cnts_mem {σ : St} {om ot : Nat} {M : MM} {d b : Int} (hM : MOb σ om ot M d b) : ∀ n ∈ cnts M, 0 ≤ n ∧ n ≤ 5000 := fun n hn => by
 obtain ⟨x, hx, rfl⟩ := List.mem_map.1 hn
 have := hM.ln x hx
 omega
theorem cnts_len (M : MM) : (cnts M).length = M.length := by simp [cnts]
theorem cnts_get {M : MM} {k : Nat} (hk : k < M.length) : ((cnts M)[k]?).getD 0 = ((tupsOf M (k : Int)).length : Int) := by
 have hg : M[k]? = some M[k] := List.getElem?_eq_getElem hk
 rw [tupsOf_get hg]
 simp [cnts, hk]
def Brg (R : List Rul) (MS M1 : MM) : Prop := ∀ r ∈ R, ∀ ν, (∀ l ∈ r.body, esub l.a ν ∈ tupsOf MS l.a.p) → MD M1 r.head.p.toNat (esub r.head ν)
theorem brg_new {np : Nat} {ar : Nat → Nat} {R : List Rul} {D : Dset} {MS M1 M2 : MM} {ds d1 d2 : Int} (hF : Fol np ar R D) (hn : MS.length = np) (hS : GroA D MS M1 ds d1) (hB : Brg R MS M1) (h2 : GroA D M1 M2 d1 d2) (hN : ∀ r ∈ R, NewR M1 M2 (cnts MS) r r.body.length) : Brg R M1 M2 := fun r hr ν h => by
 by_cases hall : ∀ l ∈ r.body, esub l.a ν ∈ tupsOf MS l.a.p
 ·exact h2.sub (hB r hr ν hall)
 ·obtain ⟨l, hl⟩ : ∃ l, ¬ (l ∈ r.body → esub l.a ν ∈ tupsOf MS l.a.p) := Classical.not_forall.1 hall
  have hlm : l ∈ r.body := Classical.byContradiction fun hh => hl (fun h' => absurd h' hh)
  have hln : esub l.a ν ∉ tupsOf MS l.a.p := fun hh => hl (fun _ => hh)
  obtain ⟨i, hi⟩ := List.getElem?_of_mem hlm
  have hil := (List.getElem?_eq_some_iff.1 hi).1
  obtain ⟨k, hk, hkn⟩ := (hF.rw r hr).rok.bp l hlm
  refine hN r hr i l hil hi ν h ?_
  obtain ⟨nw, e, -, -⟩ := hS.ext k
  have hm := h l hlm
  rw [hk] at hm hln ⊢
  rw [Int.toNat_natCast, cnts_get (by omega), Int.toNat_natCast]
  rw [e] at hm ⊢
  rw [List.drop_left]
  rcases List.mem_append.1 hm with h' | h'
  ·exact absurd h' hln
  ·exact h'
theorem brg_closed {R : List Rul} {D : Dset} {MS M1 : MM} {np : Nat} {ar : Nat → Nat} {ds d1 : Int} (hF : Fol np ar R D) (hS : GroA D MS M1 ds d1) (hB : Brg R MS M1) (ht : tot M1 ≤ tot MS) : ClD R (MD M1) := fun r hr ν h => hB r hr ν (fun l hl => by
 obtain ⟨k, hk, -⟩ := (hF.rw r hr).rok.bp l hl
 have := h l hl
 unfold MD at this
 rw [hk] at this ⊢
 rw [Int.toNat_natCast, hS.same ht k] at this
 exact this)
set_option maxHeartbeats 32000000 in
theorem efollowRules_spec {np : Nat} {ar : Nat → Nat} {R : List Rul} {D : Dset} (hF : Fol np ar R D) (om ot : Nat) (b : Int) (hb1 : -1000000 ≤ b) (hb2 : b ≤ 900000) (M : MM) (d : Int) (hn : M.length = np) (hD : ∀ k t, MD M k t → D k t) (hRm : Room M d b) (hd1 : -1000000 ≤ d) (hd2 : d ≤ 1000000) (rc : List AV) (idr : Nat) (hrc : EL ERu R rc) (hRl : R.length ≤ 1000) (σ : St) (hM : MOb σ om ot M d b) :
  ACalls Tryz.prog 78 [ptr om 0, sl idr R.length rc] σ fun x σ' => ∃ M' d', MOb σ' om ot M' d' b ∧ KM om ot M M' σ σ' ∧ GroA D M M' d d' ∧ d ≤ d' ∧ (¬ b < d' → ClD R (MD M')) := by
 have hrl := EL.length ERu_len hrc
 have hpl := hM.pl
 have hCo := fun (M : MM) (d : Int) σ (h : MOb σ om ot M d b) => ecounts_spec om ot M d b σ h
 have hC0 := hCo M d
 have HN0 : Abs.Hid (M.length = np) := hn
 have hn1 : M.length ≤ np ∧ np ≤ M.length := by omega
 clear hn
 refine acalls 43 [] Tryz.func78 rfl (by decide) rfl rfl (Nat.le_of_ble_eq_true rfl) ?_
 repeat' (first
 |with_reducible first|apply Xa|apply Xb|(refine Xc ?_;intro κ hκ)|(apply hκ.out;clear hκ κ)|apply Xd|apply Xe|apply Xf
 |((with_reducible first|refine Xl ?_ ?_|refine Xk ?_ ?_)<;> intro h hari<;> try exact Xp)
 |((with_reducible refine Xh ?_);refine Xi (hC0 _ (hM.keep (by exact Xs))) ?_;rintro _ _ ⟨⟨id0,rfl⟩,hK0⟩)
 |refine Xr ?_
 |exact True.intro
 |(apply hκ.out;clear hκ κ))
 rename_i σ0
 refine awp_loop (fun m s σ' => ∃ (k : Nat) (M1 : MM) (d1 : Int), m = R.length - k ∧ k ≤ R.length ∧ s 0 = ptr om 0 ∧ s 1 = sl idr R.length rc ∧ s 4 = sl id0 M.length (icells (cnts M)) ∧ s 11 = sl idr R.length rc ∧ s 12 = ic R.length ∧ s 13 = ic k ∧ MOb σ' om ot M1 d1 b ∧ KM om ot M M1 σ σ' ∧ d1 ≤ 1000000 ∧ d ≤ d1 ∧ Abs.Hid (GroA D M M1 d d1 ∧ Room M1 d1 b ∧ (¬ b < d1 → Brg (R.take k) M M1))) R.length
  ⟨0, M, d, by omega, by omega, by simp [upd, initS], by simp [upd, initS], by simp [upd], by simp [upd, initS], by simp [upd], rfl, hM.keep hK0, KM.ofKeep hK0, hd2, by omega, GroA.refl _ _ _, hRm, fun _ r hr => by simp at hr⟩ ?_
 clear hK0 hC0
 rintro m s σ' ⟨k, M1, d1, rfl, hk, h0, h1, h4, h11, h12, h13, hM1, hKM1, hd11, hd12, hG⟩
 by_cases hlt : k < R.length
 ·have hget := List.getElem?_eq_getElem hlt
  obtain ⟨o, ih, ib, bc, rr, hd, hB⟩ := ERu_get hrc hget
  have hmem := List.getElem_mem hlt
  generalize R[k] = r at hd hget hmem hB
  have HTK : Abs.Hid (R.take (k + 1) = R.take k ++ [r]) := by rw [Abs.Hid, List.take_add_one, hget, Option.toList_some]
  clear hget
  have hM1l : M1.length = np := by have := hG.out.1.len; rw [this]; exact HN0.out
  have hAs := fun σ (h : MOb σ om ot M1 d1 b) => eask_spec om ot M1 d1 b r [sc (.bool o), ic r.head.p, sl ih r.head.ts.length (ecells r.head.ts), sl ib r.body.length bc] (-1) 0 ⟨o, ih, ib, bc, rfl, hB⟩ (by rw [hM1l]; exact (hF.rw r hmem).rok) (by omega) σ h
  have hDe : Abs.Hid (∀ c3, EQ (askQ M1 (-1) 0 r) c3 → ∀ σ, MOb σ om ot M1 d1 b → ACalls Tryz.prog 131 [ptr om 0, ag c3] σ fun x σ' => ∃ M' d', MOb σ' om ot M' d' b ∧ KM om ot M1 M' σ σ' ∧ GroA D M1 M' d1 d' ∧ Room M' d' b ∧ d' ≤ 1000000 ∧ d1 ≤ d' ∧ (¬ b < d' → ∀ ν, (∀ (l : Lit) (i : Nat), r.body[i]? = some l → esub l.a ν ∈ askT M1 (-1) 0 i l) → MD M' r.head.p.toNat (esub r.head ν))) := fun c3 h3 σ hh =>
   ask_derive hF om ot b hb1 hb2 M1 d1 hM1l (hG.out.1.inD hD) hG.out.2.1 (by omega) hd11 r hmem (-1) 0 c3 h3 σ hh
  clear hM1l
  have l1 := hM1.lo
  have l2 := hM1.lt
  repeat' (first
 |with_reducible first|apply Xa|apply Xb|(refine Xc ?_;intro κ hκ)|(apply hκ.out;clear hκ κ)|apply Xd|apply Xe|apply Xf
 |((with_reducible first|refine Xl ?_ ?_|refine Xk ?_ ?_)<;> intro h hari<;> try exact Xp)
 |((with_reducible refine Xh ?_);first|(refine Xi (hAs _ (hM1.keep (by exact Xs))) ?_;rintro _ _ ⟨⟨_,rfl,ih3,ip3,in3,pc3,nc3,rfl,hP3,hN3⟩,hK3⟩;(have kno3:=hK3.nobj;have kob3:=hK3.obj;simp only [put_nobj,new_nobj] at kno3 kob3;have hKx:=(((Keep.refl σ').new _).put (Nat.le_refl _) _).trans hK3;have hDc:=hDe.out _ ⟨ih3,ip3,in3,pc3,nc3,rfl,hP3,hN3⟩))|(refine Xi (hDc _ (hM1.keep (by exact Xs))) ?_;rintro _ _ ⟨M3,d3,hM3,hKM3,hG3,hR3,hd31,hd32,hnew⟩;(have HG3 : Abs.Hid _:=hG3;have HNEW : Abs.Hid _:=hnew;clear hG3 hnew;have hKM4:=(hKM1.trans (KM.ofKeep ((hKx.new _).put (by omega) _))).trans hKM3)))
 |refine Xr ?_
 |exact True.intro
 |(apply hκ.out;clear hκ κ))
  have HN : Abs.Hid (GroA D M M3 d d3 ∧ Room M3 d3 b ∧ (¬ b < d3 → Brg (R.take (k + 1)) M M3)) := by
   refine ⟨hG.out.1.trans HG3.out, hR3, fun hnb r' hr' ν a1 => ?_⟩
   rw [HTK.out] at hr'
   rcases List.mem_append.1 hr' with h' | h'
   ·exact HG3.out.sub (hG.out.2.2 (by omega) r' h' ν a1)
   ·simp at h'
    subst h'
    refine HNEW.out hnb ν (fun l i hl => ?_)
    have hlm := List.mem_of_getElem? hl
    obtain ⟨p', hp', -⟩ := (hF.rw r' hmem).rok.bp l hlm
    unfold askT
    rw [if_neg (by omega)]
    have := a1 l hlm
    rw [hp'] at this ⊢
    exact hG.out.1.sub this
  refine ⟨R.length - (k + 1), by omega, k + 1, M3, d3, ?_⟩
  ((repeat' with_reducible refine And.intro ?_ ?_)<;> first|exact Xq|exact (HN)|exact (hM3)|exact (hKM4)|exact Xs)
 ·have hkl : k = R.length := by omega
  subst hkl
  rw [List.take_length] at hG
  have hC1 := hCo M1 d1
  repeat' (first
 |with_reducible first|apply Xa|apply Xb|(refine Xc ?_;intro κ hκ)|(apply hκ.out;clear hκ κ)|apply Xd|apply Xe|apply Xf
 |((with_reducible first|refine Xl ?_ ?_|refine Xk ?_ ?_)<;> intro h hari<;> try exact Xp)
 |((with_reducible refine Xh ?_);refine Xi (hC1 _ (hM1.keep (by exact Xs))) ?_;rintro _ _ ⟨⟨id1,rfl⟩,hK1⟩)
 |refine Xr ?_
 |exact True.intro
 |(apply hκ.out;clear hκ κ))
  rename_i σ1
  refine awp_loop (fun m s σ' => ∃ (MS M1 : MM) (ds d1 : Int) (ia ib : Nat), m = 2 * (b - d1 + 1).toNat + (if tot MS < tot M1 then 1 else 0) ∧ s 0 = ptr om 0 ∧ s 1 = sl idr R.length rc ∧ s 4 = sl ia MS.length (icells (cnts MS)) ∧ s 8 = sl ib M1.length (icells (cnts M1)) ∧ MOb σ' om ot M1 d1 b ∧ KM om ot M M1 σ σ' ∧ d1 ≤ 1000000 ∧ d ≤ d1 ∧ MS.length ≤ 5000 ∧ (∀ n ∈ cnts MS, 0 ≤ n ∧ n ≤ 5000) ∧ Abs.Hid (MS.length = np ∧ GroA D M M1 d d1 ∧ GroA D MS M1 ds d1 ∧ Room M1 d1 b ∧ (¬ b < d1 → Brg R MS M1))) (2 * (b - d1 + 1).toNat + (if tot M < tot M1 then 1 else 0))
   ⟨M, M1, d, d1, id0, id1, rfl, by simp [upd, *], by simp [upd, *], by simp [upd, *], by simp [upd], hM1.keep hK1, hKM1.trans (KM.ofKeep hK1), hd11, hd12, hpl, cnts_mem hM, HN0.out, hG.out.1, hG.out.1, hG.out.2.1, hG.out.2.2⟩ ?_
  clear h0 h1 h4 h11 h12 h13 hM1 hKM1 hd11 hd12 hG hK1 hC1 hlt hk
  rintro m s σ2 ⟨MS, M1, ds, d1, ia, ib, rfl, h0, h1, h4, h8, hM1, hKM1, hd11, hd12, hSl, hSm, hG⟩
  have hOv := eover_spec om ot M1 d1 b
  have hT1 := fun (id : Nat) σ => etotal_spec (cnts M1) id (by rw [cnts_len]; have := hM1.pl; omega) (fun n hn => by have := cnts_mem hM1 n hn; omega) σ
  have hT0 := fun (id : Nat) σ => etotal_spec (cnts MS) id (by rw [cnts_len]; omega) (fun n hn => by have := hSm n hn; omega) σ
  rw [show (cnts M1).sum = tot M1 from rfl] at hT1
  rw [show (cnts MS).sum = tot MS from rfl] at hT0
  rw [cnts_len] at hT1 hT0
  by_cases hov : b < d1
  ·rw [show decide (b < d1) = true from by simpa using hov] at hOv
   repeat' (first
 |with_reducible first|apply Xa|apply Xb|(refine Xc ?_;intro κ hκ)|(apply hκ.out;clear hκ κ)|apply Xd|apply Xe|apply Xf
 |((with_reducible first|refine Xl ?_ ?_|refine Xk ?_ ?_)<;> intro h hari<;> try exact Xp)
 |((with_reducible refine Xh ?_);refine Xi (hOv _ (hM1.keep (by exact Xs))) ?_;rintro _ _ ⟨rfl,rfl⟩)
 |refine Xr ?_
 |exact True.intro
 |(apply hκ.out;clear hκ κ))
   first | exact ⟨_, rfl, M1, d1, hM1, hKM1, hG.out.2.1, hd12, fun h => absurd hov h⟩ | exact ⟨M1, d1, hM1, hKM1, hG.out.2.1, hd12, fun h => absurd hov h⟩
  ·rw [show decide (b < d1) = false from by simpa using hov] at hOv
   by_cases htt : tot MS < tot M1
   ·have hgt : decide (tot M1 > tot MS) = true := by simpa using htt
    have hFN := fun σ (h : MOb σ om ot M1 d1 b) => efollowNew_spec hF om ot b hb1 hb2 M1 d1 (hG.out.2.1.len.trans HN0.out) (hG.out.2.1.inD hD) hG.out.2.2.2.1 (by omega) hd11 rc idr hrc hRl (cnts MS) ia (by rw [cnts_len]; exact hG.out.1) hSm σ h
    rw [cnts_len] at hFN
    rw [if_pos htt]
    repeat' (first
 |with_reducible first|apply Xa|apply Xb|(refine Xc ?_;intro κ hκ)|(apply hκ.out;clear hκ κ)|apply Xd|apply Xe|apply Xf
 |((with_reducible first|refine Xl ?_ ?_|refine Xk ?_ ?_)<;> intro h hari<;> try exact Xp)
 |((with_reducible refine Xh ?_);first|(refine Xi (hOv _ (hM1.keep (by exact Xs))) ?_;rintro _ _ ⟨rfl,rfl⟩)|(refine Xi (hT1 _ _) ?_;rintro _ _ ⟨rfl,hKa⟩;(have hKx:=hKa))|(refine Xi (hT0 _ _) ?_;rintro _ _ ⟨rfl,hKb⟩;(have hKy:=hKx.trans hKb))|(refine Xi (hFN _ (hM1.keep (by exact Xs))) ?_;rintro _ _ ⟨M3,d3,hM3,hKM3,hG3,hR3,hd31,hd32,hnew⟩;(have HG3 : Abs.Hid _:=hG3;have HNEW : Abs.Hid _:=hnew;clear hG3 hnew;have hKM4:=(hKM1.trans (KM.ofKeep hKy)).trans hKM3;have hC3:=hCo M3 d3))|(refine Xi (hC3 _ (hM3.keep (by exact Xs))) ?_;rintro _ _ ⟨⟨ic3,rfl⟩,hKc⟩))
 |refine Xr ?_
 |exact True.intro
 |(apply hκ.out;clear hκ κ))
    have hcnt := HG3.out.cnt
    refine ⟨2 * (b - d3 + 1).toNat + (if tot M1 < tot M3 then 1 else 0), by split <;> omega, M1, M3, d1, d3, ib, ic3, ?_⟩
    have HN : Abs.Hid (M1.length = np ∧ GroA D M M3 d d3 ∧ GroA D M1 M3 d1 d3 ∧ Room M3 d3 b ∧ (¬ b < d3 → Brg R M1 M3)) :=
     ⟨hG.out.2.1.len.trans HN0.out, hG.out.2.1.trans HG3.out, HG3.out, hR3, fun hnb => brg_new hF hG.out.1 hG.out.2.2.1 (hG.out.2.2.2.2 (by omega)) HG3.out (HNEW.out hnb)⟩
    ((repeat' with_reducible refine And.intro ?_ ?_)<;> first|exact Xq|exact (HN)|exact (hM3.keep hKc)|exact (hKM4.trans (KM.ofKeep hKc))|exact (hM1.pl)|exact (cnts_mem hM1)|exact Xs)
   ·have hgt : decide (tot M1 > tot MS) = false := by simp; omega
    repeat' (first
 |with_reducible first|apply Xa|apply Xb|(refine Xc ?_;intro κ hκ)|(apply hκ.out;clear hκ κ)|apply Xd|apply Xe|apply Xf
 |((with_reducible first|refine Xl ?_ ?_|refine Xk ?_ ?_)<;> intro h hari<;> try exact Xp)
 |((with_reducible refine Xh ?_);first|(refine Xi (hOv _ (hM1.keep (by exact Xs))) ?_;rintro _ _ ⟨rfl,rfl⟩)|(refine Xi (hT1 _ _) ?_;rintro _ _ ⟨rfl,hKa⟩;(have hKx:=hKa))|(refine Xi (hT0 _ _) ?_;rintro _ _ ⟨rfl,hKb⟩;(have hKy:=hKx.trans hKb)))
 |refine Xr ?_
 |exact True.intro
 |(apply hκ.out;clear hκ κ))
    first | exact ⟨_, rfl, M1, d1, hM1.keep hKy, hKM1.trans (KM.ofKeep hKy), hG.out.2.1, hd12, fun hnb => brg_closed hF hG.out.2.2.1 (hG.out.2.2.2.2 hnb) (by omega)⟩ | exact ⟨M1, d1, hM1.keep hKy, hKM1.trans (KM.ofKeep hKy), hG.out.2.1, hd12, fun hnb => brg_closed hF hG.out.2.2.1 (hG.out.2.2.2.2 hnb) (by omega)⟩
end Go.Proofs.YtmoeoppbmhfbpaaGreatDoorU
/- Regions that draw their order: behind a call, a batch of reads. -/
namespace Go.Abs
set_option linter.unusedSimpArgs false
set_option linter.unusedVariables false
section
variable {P : Program} {n : Nat} {Q : Post} {F : Nat → Prop} {A : Nat → Bool} {σ0 : St} {all : List Oper}
theorem uany_more {listed : Array Bool} {s : Sl} {σ : St} (ts : List Nat) (m k : Nat) (L : Array Bool) (hk0 : k = ts.length + m) (hs : Region.noSelect all.toArray = true) (hB : tsT all A L ts listed = true) (hp : ∀ c s σ, ¬ Q (.panic c) s σ) (hno : σ0.nobj ≤ σ.nobj) (hk : ∀ o, o < σ0.nobj → F o → σ.ver o = σ0.ver o)
  (h : ∀ K : Sl → Prop, Hid (∀ s', UAny P n all Q F A σ m L s' σ → K s') → aT P n all F σ K ts s) : UAny P n all Q F A σ0 k listed s σ := by
 subst hk0
 exact uany_re hno hk (tsT_ok hs hp m L ts listed s hB (h _ fun _ h => h))
end
end Go.Abs
/- What the document's rules bring: half-put rules, in pure words. -/
namespace Go.Proofs.YtmoeoppbmhfbpaaGreatDoorU
open Go.Abs
set_option linter.unusedSimpArgs false
set_option linter.unusedVariables false
def Pos (fz : Bool) (a : RAtom) : Bool := fz || !a.nt
def SafD (fz : Bool) (x : RItem) : Prop := ∀ v, variableB v = true → (v ∈ x.head.terms ∨ ∃ a ∈ x.body, Pos fz a = false ∧ v ∈ a.terms) → ∃ a ∈ x.body, Pos fz a = true ∧ v ∈ a.terms
/- the text of a rule tells the rule -/
def Clean (t : Tx) : Prop := (∀ b ∈ t, b ≠ (33 : UInt8) ∧ b ≠ 44 ∧ b ≠ 46) ∧ t.length ≤ 1000
def clA (a : RAtom) : Prop := Clean a.pred ∧ (∀ t ∈ a.terms, Clean t) ∧ a.terms.length ≤ 1000
def clI (x : RItem) : Prop := x.out = false ∧ clA x.head ∧ ∀ a ∈ x.body, clA a
/- what a search has done -/
/- The document's own answer: loose, within, putAtom, put. -/
/- The document's own answer: put, become. -/
/- The document's own answer: next, key. -/
/- The document's own answer: key. -/
/- The document's own answer: a work, again. -/
/- rows that grow, in one object -/
/- The document's own answer: into. -/
def costN (c0 a : Nat) : Nat → Nat
 | 0 => c0
 | p + 1 => 1 + a * costN c0 a p
structure HalfOk (fz : Bool) (c0 p : Nat) (x : RItem) : Prop where
 cl : clI x
 len : x.body.length ≤ 1000
 saf : SafD fz x
 cnt : x.body.countP (Pos fz) = p
 neg : c0 = 1 ∨ ∀ a ∈ x.body, Pos fz a = true
/- The document's own answer: into. -/
/- The document's own answer: heads. -/
/- The document's own answer: settled. -/
def RuleOk (fz : Bool) (limit : Nat) (x : RItem) : Prop := ∃ c0 p, HalfOk fz c0 p x ∧ ∀ a, a ≤ limit → costN c0 a p + 2002 ≤ 1000000000000
/- The document's own answer: frozen, implied. -/
def frzD (t : Tx) : Tx := if variableB t = true then 35 :: t else t
def frzR (a : RAtom) : RAtom := ⟨a.nt, a.pred, a.terms.map frzD⟩
def oth (li : List RItem) (n i : Nat) : List RItem := ((li.take i).eraseIdx n).filter fun y => !y.out
theorem oth_step {li : List RItem} {n i : Nat} {y : RItem} (h : li[i]? = some y) : oth li n (i + 1) = oth li n i ++ (if i = n ∨ y.out = true then [] else [y]) := by
 have hi := (List.getElem?_eq_some_iff.1 h).1
 have hl : (li.take i).length = i := by rw [List.length_take]; omega
 unfold oth
 rw [List.take_add_one, h, Option.toList_some]
 by_cases hn : i = n
 ·subst hn
  rw [List.eraseIdx_append_of_length_le (by omega), hl, Nat.sub_self, if_pos (.inl rfl), List.eraseIdx_of_length_le (l := li.take i) (by omega)]
  simp
 ·have : (li.take i ++ [y]).eraseIdx n = (li.take i).eraseIdx n ++ [y] := by
   rcases Nat.lt_or_gt_of_ne hn with h' | h'
   ·rw [List.eraseIdx_append_of_length_le (by omega), List.eraseIdx_of_length_le (l := li.take i) (by omega), List.eraseIdx_of_length_le (l := [y]) (by simp; omega)]
   ·rw [List.eraseIdx_append_of_lt_length (by omega)]
  rw [this, List.filter_append]
  cases hy : y.out with
  | true => rw [if_pos (.inr rfl)]; simp [hy]
  | false => rw [if_neg (by simp [hn])]; simp [hy]
theorem oth_mem {li : List RItem} {n i : Nat} {y : RItem} (h : y ∈ oth li n i) : y ∈ li ∧ y.out = false := by
 unfold oth at h
 rw [List.mem_filter] at h
 exact ⟨List.mem_of_mem_take (List.mem_of_mem_eraseIdx h.1), by simpa using h.2⟩
/- The document's own answer: Implied. -/
theorem right_safe {t : Tx} (h : (refCheck t).1 = 0) : ∀ x ∈ itemsL t, safeB x = true := by
 have hs : ∀ i, i < (itemsL t).length → unsafeP (itemsL t) i = false := by
  unfold refCheck at h
  split at h
  ·simp at h
  split at h
  ·simp at h
  unfold wrongM at h
  split at h
  ·simp at h
  split at h
  ·simp at h
  ·rename_i hk; exact firstM_neg hk
 intro x hx
 obtain ⟨i, hi⟩ := List.getElem?_of_mem hx
 have h1 := hs i (List.getElem?_eq_some_iff.1 hi).1
 unfold unsafeP at h1
 rw [hi] at h1
 simpa using h1
theorem clean_small {p : Tx} (h : WName p) (hl : p.length ≤ 1000) : Clean p := ⟨fun b hb => by
 have := h.2 b hb
 refine ⟨?_, ?_, ?_⟩ <;> (rintro rfl; revert this; decide), hl⟩
theorem clean_term {p : Tx} (h : WTerm p) (hl : p.length ≤ 1000) : Clean p := ⟨fun b hb => by
 have := h.2 b hb
 refine ⟨?_, ?_, ?_⟩ <;> (rintro rfl; revert this; decide), hl⟩
theorem cl_atom {a : RAtom} (h : WAtom a) (hs : short a) : clA a := ⟨clean_small h.1 hs.1, fun t ht => clean_term (h.2.2.2 t ht) (hs.2.2 t ht), hs.2.1⟩
theorem cost_small {a p : Nat} (ha : a ≤ 200) (hp : p ≤ 5) : costN 0 a p ≤ 10000000000 := by
 have h1 : ∀ p, costN 0 a p ≤ costN 0 200 p := by
  intro p
  induction p with
  | zero => exact Nat.le_refl _
  | succ p ih => exact Nat.add_le_add_left (Nat.mul_le_mul ha ih) _
 refine Nat.le_trans (h1 p) ?_
 have : p = 0 ∨ p = 1 ∨ p = 2 ∨ p = 3 ∨ p = 4 ∨ p = 5 := by omega
 rcases this with rfl | rfl | rfl | rfl | rfl | rfl <;> decide
structure Fine (x : RItem) : Prop where
 w : WItem x
 sh : x.short
 va : ∀ a ∈ atomsL x, VA a
 dt : ∀ a ∈ atomsL x, ∀ w ∈ a.terms, DT w
 safe : safeB x = true
theorem right_fine {t : Tx} (h : (refCheck t).1 = 0) : ∀ x ∈ itemsL t, Fine x := by
 obtain ⟨hlen, l, r, hp⟩ := right_items h
 obtain ⟨g1, g2, g3, g4⟩ := parse_good (by omega) hp
 intro x hx
 have hx' := hx
 rw [g2] at hx
 exact ⟨g4 x hx, parse_short (by omega) hp x hx, pItems_va 16 t l r hp x hx, pItems_all (T := DT) pTerm_dt 16 t l r hp x hx, right_safe h x hx'⟩
theorem Fine.cl {x : RItem} (h : Fine x) (ho : x.out = false) : clI x :=
 ⟨ho, cl_atom ((h.w.2.2 ho).1) h.sh.1, fun a ha => cl_atom ((h.w.2.2 ho).2.2.2 a ha) (h.sh.2 a ha)⟩
theorem Fine.rule {x : RItem} (h : Fine x) (ho : x.out = false) : RuleOk true 200 x := by
 have hb := (h.w.2.2 ho).2.2.1
 refine ⟨0, x.body.countP (Pos true), ⟨h.cl ho, by omega, fun v hv hm => ?_, rfl, .inr fun a _ => rfl⟩, fun a ha => ?_⟩
 ·rcases hm with hm | ⟨a, -, hp, -⟩
  ·have hs := h.safe
   unfold safeB at hs
   simp only [Bool.not_eq_true', List.any_eq_false] at hs
   have h1 := hs x.head (by simp [atomsL, ho])
   unfold badA at h1
   simp only [Bool.not_eq_true, List.any_eq_false] at h1
   have h2 : badT x v = false := by simpa using h1 v hm
   unfold badT at h2
   rw [hv, Bool.true_and] at h2
   have h3 : boundB x v = true := by simpa using h2
   unfold boundB at h3
   simp only [List.any_eq_true, Bool.and_eq_true, beq_iff_eq] at h3
   obtain ⟨a, ha, u, hu, -, rfl⟩ := h3
   exact ⟨a, ha, rfl, hu⟩
  ·cases hp
 ·have := cost_small (a := a) (p := x.body.countP (Pos true)) ha (Nat.le_trans List.countP_le_length hb)
  omega
end Go.Proofs.YtmoeoppbmhfbpaaGreatDoorU
