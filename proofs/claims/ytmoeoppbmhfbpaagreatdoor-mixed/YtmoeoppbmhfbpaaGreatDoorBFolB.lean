import Derived.Test.YtmoeoppbmhfbpaaGreatDoorBEngZ
/- The program's engine: all that follows from rules. -/
namespace Go.Proofs.YtmoeoppbmhfbpaaGreatDoorB
open Go.Abs
set_option linter.unusedSimpArgs false
set_option linter.unusedVariables false
set_option maxRecDepth 100000
theorem tot_eq : ∀ (M M' : MM), M'.length = M.length → (∀ k : Nat, (tupsOf M k).length ≤ (tupsOf M' k).length) → (tot M ≤ tot M' ∧ (tot M' ≤ tot M → ∀ k : Nat, (tupsOf M' k).length = (tupsOf M k).length))
 | [], M', hl, h => by
  have : M' = [] := List.eq_nil_of_length_eq_zero (by simpa using hl)
  subst this
  exact ⟨Int.le_refl _, fun _ k => rfl⟩
 | x :: M, [], hl, h => by simp at hl
 | x :: M, y :: M', hl, h => by
  obtain ⟨h1, h2⟩ := tot_eq M M' (by simpa using hl) (fun k => by have := h (k + 1); simpa [tupsOf] using this)
  have h0 := h 0
  simp [tupsOf] at h0
  rw [tot_cons, tot_cons]
  refine ⟨by omega, fun hle k => ?_⟩
  cases k with
  | zero => simp [tupsOf]; omega
  | succ k =>
   have := h2 (by omega) k
   simpa [tupsOf] using this
theorem GroA.lens {D : Dset} {M M' : MM} {d d' : Int} (h : GroA D M M' d d') (k : Nat) : (tupsOf M k).length ≤ (tupsOf M' k).length := by
 obtain ⟨n, e, -, -⟩ := h.ext k
 rw [e]; simp
theorem GroA.same {D : Dset} {M M' : MM} {d d' : Int} (h : GroA D M M' d d') (ht : tot M' ≤ tot M) (k : Nat) : tupsOf M' k = tupsOf M k := by
 have hl := (tot_eq M M' h.len h.lens).2 ht k
 obtain ⟨n, e, -, -⟩ := h.ext k
 rw [e] at hl ⊢
 have : n = [] := by simpa using hl
 rw [this, List.append_nil]
theorem cnts_mem {σ : St} {om ot : Nat} {M : MM} {d b : Int} (hM : MOb σ om ot M d b) : ∀ n ∈ cnts M, 0 ≤ n ∧ n ≤ 5000 := fun n hn => by
 obtain ⟨x, hx, rfl⟩ := List.mem_map.1 hn
 have := hM.ln x hx
 omega
theorem cnts_len (M : MM) : (cnts M).length = M.length := by simp [cnts]
theorem cnts_get {M : MM} {k : Nat} (hk : k < M.length) : ((cnts M)[k]?).getD 0 = ((tupsOf M (k : Int)).length : Int) := by
 have hg : M[k]? = some M[k] := List.getElem?_eq_getElem hk
 rw [tupsOf_get hg]
 simp [cnts, hk]
def Brg (D : Dset) (R : List Rul) (MS M1 : MM) : Prop := ∀ r ∈ R, ∀ ν, (∀ l ∈ r.body, LitH D (MD MS) ν l) → MD M1 r.head.p.toNat (esub r.head ν)
theorem litH_pos {N D : Dset} {ν : Nu} {l : Lit} (hn : l.neg = false) (h : LitH N D ν l) : D l.a.p.toNat (esub l.a ν) := by
 unfold LitH at h
 rw [hn] at h
 simpa using h
theorem litH_neg {N D : Dset} {ν : Nu} {l : Lit} (hn : l.neg = true) (h : LitH N D ν l) : ¬ N l.a.p.toNat (esub l.a ν) := by
 unfold LitH at h
 rw [hn] at h
 simpa using h
theorem brg_new {np : Nat} {ar : Nat → Nat} {R : List Rul} {D : Dset} {MS M1 M2 : MM} {ds d1 d2 : Int} (hF : Fol np ar R D) (hn : MS.length = np) (hS : GroA D MS M1 ds d1) (hB : Brg D R MS M1) (h2 : GroA D M1 M2 d1 d2) (hN : ∀ r ∈ R, NewR D M1 M2 (cnts MS) r r.body.length) : Brg D R M1 M2 := fun r hr ν h => by
 by_cases hall : ∀ l ∈ r.body, LitH D (MD MS) ν l
 ·exact h2.sub (hB r hr ν hall)
 ·obtain ⟨l, hl⟩ : ∃ l, ¬ (l ∈ r.body → LitH D (MD MS) ν l) := Classical.not_forall.1 hall
  have hlm : l ∈ r.body := Classical.byContradiction fun hh => hl (fun h' => absurd h' hh)
  have hln : ¬ LitH D (MD MS) ν l := fun hh => hl (fun _ => hh)
  have hpos : l.neg = false := by
   cases hc : l.neg with
   | false => rfl
   | true =>
    exfalso
    have := litH_neg hc (h l hlm)
    exact hln (by unfold LitH; rw [hc]; simpa using this)
  have hln2 : ¬ MD MS l.a.p.toNat (esub l.a ν) := fun hh => hln (by unfold LitH; rw [hpos]; simpa using hh)
  obtain ⟨i, hi⟩ := List.getElem?_of_mem hlm
  have hil := (List.getElem?_eq_some_iff.1 hi).1
  obtain ⟨k, hk, hkn⟩ := (hF.rw r hr).rok.bp l hlm
  refine hN r hr i l hil hi hpos ν h ?_
  obtain ⟨nw, e, -, -⟩ := hS.ext k
  have hm := litH_pos hpos (h l hlm)
  unfold MD at hm hln2
  rw [hk] at hm hln2 ⊢
  rw [Int.toNat_natCast] at hm hln2
  rw [Int.toNat_natCast, cnts_get (by omega), Int.toNat_natCast]
  rw [e] at hm ⊢
  rw [List.drop_left]
  rcases List.mem_append.1 hm with h' | h'
  ·exact absurd h' hln2
  ·exact h'
theorem brg_closed {R : List Rul} {D : Dset} {MS M1 : MM} {np : Nat} {ar : Nat → Nat} {ds d1 : Int} (hF : Fol np ar R D) (hS : GroA D MS M1 ds d1) (hB : Brg D R MS M1) (ht : tot M1 ≤ tot MS) : ClG R D (MD M1) := fun r hr ν h => hB r hr ν (fun l hl => by
 have := h l hl
 unfold LitH at this ⊢
 split
 ·rename_i hc
  rw [if_pos hc] at this
  exact this
 ·rename_i hc
  rw [if_neg hc] at this
  obtain ⟨k, hk, -⟩ := (hF.rw r hr).rok.bp l hl
  unfold MD at this ⊢
  rw [hk] at this ⊢
  rw [Int.toNat_natCast] at this ⊢
  rw [hS.same ht k] at this
  exact this)
set_option maxHeartbeats 32000000 in
theorem efollowRules_spec {np : Nat} {ar : Nat → Nat} {R : List Rul} {D : Dset} (hF : Fol np ar R D) (om ot : Nat) (b : Int) (hb1 : -1000000 ≤ b) (hb2 : b ≤ 900000) (M : MM) (d : Int) (hn : M.length = np) (hD : ∀ k t, MD M k t → D k t) (hNg : NgIn R D M) (hRm : Room M d b) (hd1 : -1000000 ≤ d) (hd2 : d ≤ 1000000) (rc : List AV) (idr : Nat) (hrc : EL ERu R rc) (hRl : R.length ≤ 1000) (σ : St) (hM : MOb σ om ot M d b) :
  ACalls Tryz.prog 78 [ptr om 0, sl idr R.length rc] σ fun x σ' => ∃ M' d', MOb σ' om ot M' d' b ∧ KM om ot M M' σ σ' ∧ GroA D M M' d d' ∧ d ≤ d' ∧ d' ≤ 1000000 ∧ (¬ b < d' → ClG R D (MD M')) := by
 have hrl := EL.length ERu_len hrc
 have hpl := hM.pl
 have hCo := fun (M : MM) (d : Int) σ (h : MOb σ om ot M d b) => ecounts_spec om ot M d b σ h
 have hC0 := hCo M d
 have HN0 : Abs.Hid (M.length = np) := hn
 have hn1 : M.length ≤ np ∧ np ≤ M.length := by omega
 clear hn
 refine acalls 43 [] Tryz.func78 rfl (by decide) rfl rfl (Nat.le_of_ble_eq_true rfl) ?_
 repeat' (first
 |with_reducible first|apply Xa|apply Xb|(refine Xc ?_;intro κ hκ)|(apply hκ.out;clear hκ κ)|apply Xd|apply Xe|apply Xf
 |((with_reducible first|refine Xl ?_ ?_|refine Xk ?_ ?_)<;> intro h hari<;> try exact Xp)
 |((with_reducible refine Xh ?_);refine Xi (hC0 _ (hM.keep (by exact Xs))) ?_;rintro _ _ ⟨⟨id0,rfl⟩,hK0⟩)
 |refine Xr ?_
 |exact True.intro
 |(apply hκ.out;clear hκ κ))
 rename_i σ0
 refine awp_loop (fun m s σ' => ∃ (k : Nat) (M1 : MM) (d1 : Int), m = R.length - k ∧ k ≤ R.length ∧ s 0 = ptr om 0 ∧ s 1 = sl idr R.length rc ∧ s 4 = sl id0 M.length (icells (cnts M)) ∧ s 11 = sl idr R.length rc ∧ s 12 = ic R.length ∧ s 13 = ic k ∧ MOb σ' om ot M1 d1 b ∧ KM om ot M M1 σ σ' ∧ d1 ≤ 1000000 ∧ d ≤ d1 ∧ Abs.Hid (GroA D M M1 d d1 ∧ Room M1 d1 b ∧ (¬ b < d1 → Brg D (R.take k) M M1))) R.length
  ⟨0, M, d, by omega, by omega, by simp [upd, initS], by simp [upd, initS], by simp [upd], by simp [upd, initS], by simp [upd], rfl, hM.keep hK0, KM.ofKeep hK0, hd2, by omega, GroA.refl _ _ _, hRm, fun _ r hr => by simp at hr⟩ ?_
 clear hK0 hC0
 rintro m s σ' ⟨k, M1, d1, rfl, hk, h0, h1, h4, h11, h12, h13, hM1, hKM1, hd11, hd12, hG⟩
 by_cases hlt : k < R.length
 ·have hget := List.getElem?_eq_getElem hlt
  obtain ⟨o, ih, ib, bc, rr, hd, hB⟩ := ERu_get hrc hget
  have hmem := List.getElem_mem hlt
  generalize R[k] = r at hd hget hmem hB
  have HTK : Abs.Hid (R.take (k + 1) = R.take k ++ [r]) := by rw [Abs.Hid, List.take_add_one, hget, Option.toList_some]
  clear hget
  have hM1l : M1.length = np := by have := hG.out.1.len; rw [this]; exact HN0.out
  have hAs := fun σ (h : MOb σ om ot M1 d1 b) => eask_spec om ot M1 d1 b r [sc (.bool o), ic r.head.p, sl ih r.head.ts.length (ecells r.head.ts), sl ib r.body.length bc] (-1) 0 ⟨o, ih, ib, bc, rfl, hB⟩ (by rw [hM1l]; exact (hF.rw r hmem).rok) (by omega) σ h
  have hDe : Abs.Hid (∀ c3, EQ (askQ M1 (-1) 0 r) c3 → ∀ σ, MOb σ om ot M1 d1 b → ACalls Tryz.prog 131 [ptr om 0, ag c3] σ fun x σ' => ∃ M' d', MOb σ' om ot M' d' b ∧ KM om ot M1 M' σ σ' ∧ GroA D M1 M' d1 d' ∧ Room M' d' b ∧ d' ≤ 1000000 ∧ d1 ≤ d' ∧ (¬ b < d' → ∀ ν, (∀ (l : Lit) (i : Nat), r.body[i]? = some l → l.neg = false → esub l.a ν ∈ askT M1 (-1) 0 i l) → (∀ l ∈ r.body, l.neg = true → ¬ D l.a.p.toNat (esub l.a ν)) → MD M' r.head.p.toNat (esub r.head ν))) := fun c3 h3 σ hh =>
   ask_derive hF om ot b hb1 hb2 M1 d1 hM1l (hG.out.1.inD hD) (hNg.gro hG.out.1) hG.out.2.1 (by omega) hd11 r hmem (-1) 0 c3 h3 σ hh
  clear hM1l
  have l1 := hM1.lo
  have l2 := hM1.lt
  repeat' (first
 |with_reducible first|apply Xa|apply Xb|(refine Xc ?_;intro κ hκ)|(apply hκ.out;clear hκ κ)|apply Xd|apply Xe|apply Xf
 |((with_reducible first|refine Xl ?_ ?_|refine Xk ?_ ?_)<;> intro h hari<;> try exact Xp)
 |((with_reducible refine Xh ?_);first|(refine Xi (hAs _ (hM1.keep (by exact Xs))) ?_;rintro _ _ ⟨⟨_,rfl,ih3,ip3,in3,pc3,nc3,rfl,hP3,hN3⟩,hK3⟩;(have kno3:=hK3.nobj;have kob3:=hK3.obj;simp only [put_nobj,new_nobj] at kno3 kob3;have hKx:=(((Keep.refl σ').new _).put (Nat.le_refl _) _).trans hK3;have hDc:=hDe.out _ ⟨ih3,ip3,in3,pc3,nc3,rfl,hP3,hN3⟩))|(refine Xi (hDc _ (hM1.keep (by exact Xs))) ?_;rintro _ _ ⟨M3,d3,hM3,hKM3,hG3,hR3,hd31,hd32,hnew⟩;(have HG3 : Abs.Hid _:=hG3;have HNEW : Abs.Hid _:=hnew;clear hG3 hnew;have hKM4:=(hKM1.trans (KM.ofKeep ((hKx.new _).put (by omega) _))).trans hKM3)))
 |refine Xr ?_
 |exact True.intro
 |(apply hκ.out;clear hκ κ))
  have HN : Abs.Hid (GroA D M M3 d d3 ∧ Room M3 d3 b ∧ (¬ b < d3 → Brg D (R.take (k + 1)) M M3)) := by
   refine ⟨hG.out.1.trans HG3.out, hR3, fun hnb r' hr' ν a1 => ?_⟩
   rw [HTK.out] at hr'
   rcases List.mem_append.1 hr' with h' | h'
   ·exact HG3.out.sub (hG.out.2.2 (by omega) r' h' ν a1)
   ·simp at h'
    subst h'
    refine HNEW.out hnb ν (fun l i hl hln => ?_) (fun l hl hln => litH_neg hln (a1 l hl))
    have hlm := List.mem_of_getElem? hl
    obtain ⟨p', hp', -⟩ := (hF.rw r' hmem).rok.bp l hlm
    unfold askT
    rw [if_neg (by omega)]
    have := litH_pos hln (a1 l hlm)
    unfold MD at this
    rw [hp'] at this ⊢
    exact hG.out.1.sub this
  refine ⟨R.length - (k + 1), by omega, k + 1, M3, d3, ?_⟩
  ((repeat' with_reducible refine And.intro ?_ ?_)<;> first|exact Xq|exact (HN)|exact (hM3)|exact (hKM4)|exact Xs)
 ·have hkl : k = R.length := by omega
  subst hkl
  rw [List.take_length] at hG
  have hC1 := hCo M1 d1
  repeat' (first
 |with_reducible first|apply Xa|apply Xb|(refine Xc ?_;intro κ hκ)|(apply hκ.out;clear hκ κ)|apply Xd|apply Xe|apply Xf
 |((with_reducible first|refine Xl ?_ ?_|refine Xk ?_ ?_)<;> intro h hari<;> try exact Xp)
 |((with_reducible refine Xh ?_);refine Xi (hC1 _ (hM1.keep (by exact Xs))) ?_;rintro _ _ ⟨⟨id1,rfl⟩,hK1⟩)
 |refine Xr ?_
 |exact True.intro
 |(apply hκ.out;clear hκ κ))
  rename_i σ1
  refine awp_loop (fun m s σ' => ∃ (MS M1 : MM) (ds d1 : Int) (ia ib : Nat), m = 2 * (b - d1 + 1).toNat + (if tot MS < tot M1 then 1 else 0) ∧ s 0 = ptr om 0 ∧ s 1 = sl idr R.length rc ∧ s 4 = sl ia MS.length (icells (cnts MS)) ∧ s 8 = sl ib M1.length (icells (cnts M1)) ∧ MOb σ' om ot M1 d1 b ∧ KM om ot M M1 σ σ' ∧ d1 ≤ 1000000 ∧ d ≤ d1 ∧ MS.length ≤ 5000 ∧ (∀ n ∈ cnts MS, 0 ≤ n ∧ n ≤ 5000) ∧ Abs.Hid (MS.length = np ∧ GroA D M M1 d d1 ∧ GroA D MS M1 ds d1 ∧ Room M1 d1 b ∧ (¬ b < d1 → Brg D R MS M1))) (2 * (b - d1 + 1).toNat + (if tot M < tot M1 then 1 else 0))
   ⟨M, M1, d, d1, id0, id1, rfl, by simp [upd, *], by simp [upd, *], by simp [upd, *], by simp [upd], hM1.keep hK1, hKM1.trans (KM.ofKeep hK1), hd11, hd12, hpl, cnts_mem hM, HN0.out, hG.out.1, hG.out.1, hG.out.2.1, hG.out.2.2⟩ ?_
  clear h0 h1 h4 h11 h12 h13 hM1 hKM1 hd11 hd12 hG hK1 hC1 hlt hk
  rintro m s σ2 ⟨MS, M1, ds, d1, ia, ib, rfl, h0, h1, h4, h8, hM1, hKM1, hd11, hd12, hSl, hSm, hG⟩
  have hOv := eover_spec om ot M1 d1 b
  have hT1 := fun (id : Nat) σ => etotal_spec (cnts M1) id (by rw [cnts_len]; have := hM1.pl; omega) (fun n hn => by have := cnts_mem hM1 n hn; omega) σ
  have hT0 := fun (id : Nat) σ => etotal_spec (cnts MS) id (by rw [cnts_len]; omega) (fun n hn => by have := hSm n hn; omega) σ
  rw [show (cnts M1).sum = tot M1 from rfl] at hT1
  rw [show (cnts MS).sum = tot MS from rfl] at hT0
  rw [cnts_len] at hT1 hT0
  by_cases hov : b < d1
  ·rw [show decide (b < d1) = true from by simpa using hov] at hOv
   repeat' (first
 |with_reducible first|apply Xa|apply Xb|(refine Xc ?_;intro κ hκ)|(apply hκ.out;clear hκ κ)|apply Xd|apply Xe|apply Xf
 |((with_reducible first|refine Xl ?_ ?_|refine Xk ?_ ?_)<;> intro h hari<;> try exact Xp)
 |((with_reducible refine Xh ?_);refine Xi (hOv _ (hM1.keep (by exact Xs))) ?_;rintro _ _ ⟨rfl,rfl⟩)
 |refine Xr ?_
 |exact True.intro
 |(apply hκ.out;clear hκ κ))
   first | exact ⟨_, rfl, M1, d1, hM1, hKM1, hG.out.2.1, hd12, hd11, fun h => absurd hov h⟩ | exact ⟨M1, d1, hM1, hKM1, hG.out.2.1, hd12, hd11, fun h => absurd hov h⟩
  ·rw [show decide (b < d1) = false from by simpa using hov] at hOv
   by_cases htt : tot MS < tot M1
   ·have hgt : decide (tot M1 > tot MS) = true := by simpa using htt
    have hFN := fun σ (h : MOb σ om ot M1 d1 b) => efollowNew_spec hF om ot b hb1 hb2 M1 d1 (hG.out.2.1.len.trans HN0.out) (hG.out.2.1.inD hD) (hNg.gro hG.out.2.1) hG.out.2.2.2.1 (by omega) hd11 rc idr hrc hRl (cnts MS) ia (by rw [cnts_len]; exact hG.out.1) hSm σ h
    rw [cnts_len] at hFN
    rw [if_pos htt]
    repeat' (first
 |with_reducible first|apply Xa|apply Xb|(refine Xc ?_;intro κ hκ)|(apply hκ.out;clear hκ κ)|apply Xd|apply Xe|apply Xf
 |((with_reducible first|refine Xl ?_ ?_|refine Xk ?_ ?_)<;> intro h hari<;> try exact Xp)
 |((with_reducible refine Xh ?_);first|(refine Xi (hOv _ (hM1.keep (by exact Xs))) ?_;rintro _ _ ⟨rfl,rfl⟩)|(refine Xi (hT1 _ _) ?_;rintro _ _ ⟨rfl,hKa⟩;(have hKx:=hKa))|(refine Xi (hT0 _ _) ?_;rintro _ _ ⟨rfl,hKb⟩;(have hKy:=hKx.trans hKb))|(refine Xi (hFN _ (hM1.keep (by exact Xs))) ?_;rintro _ _ ⟨M3,d3,hM3,hKM3,hG3,hR3,hd31,hd32,hnew⟩;(have HG3 : Abs.Hid _:=hG3;have HNEW : Abs.Hid _:=hnew;clear hG3 hnew;have hKM4:=(hKM1.trans (KM.ofKeep hKy)).trans hKM3;have hC3:=hCo M3 d3))|(refine Xi (hC3 _ (hM3.keep (by exact Xs))) ?_;rintro _ _ ⟨⟨ic3,rfl⟩,hKc⟩))
 |refine Xr ?_
 |exact True.intro
 |(apply hκ.out;clear hκ κ))
    have hcnt := HG3.out.cnt
    refine ⟨2 * (b - d3 + 1).toNat + (if tot M1 < tot M3 then 1 else 0), by split <;> omega, M1, M3, d1, d3, ib, ic3, ?_⟩
    have HN : Abs.Hid (M1.length = np ∧ GroA D M M3 d d3 ∧ GroA D M1 M3 d1 d3 ∧ Room M3 d3 b ∧ (¬ b < d3 → Brg D R M1 M3)) :=
     ⟨hG.out.2.1.len.trans HN0.out, hG.out.2.1.trans HG3.out, HG3.out, hR3, fun hnb => brg_new hF hG.out.1 hG.out.2.2.1 (hG.out.2.2.2.2 (by omega)) HG3.out (HNEW.out hnb)⟩
    ((repeat' with_reducible refine And.intro ?_ ?_)<;> first|exact Xq|exact (HN)|exact (hM3.keep hKc)|exact (hKM4.trans (KM.ofKeep hKc))|exact (hM1.pl)|exact (cnts_mem hM1)|exact Xs)
   ·have hgt : decide (tot M1 > tot MS) = false := by simp; omega
    repeat' (first
 |with_reducible first|apply Xa|apply Xb|(refine Xc ?_;intro κ hκ)|(apply hκ.out;clear hκ κ)|apply Xd|apply Xe|apply Xf
 |((with_reducible first|refine Xl ?_ ?_|refine Xk ?_ ?_)<;> intro h hari<;> try exact Xp)
 |((with_reducible refine Xh ?_);first|(refine Xi (hOv _ (hM1.keep (by exact Xs))) ?_;rintro _ _ ⟨rfl,rfl⟩)|(refine Xi (hT1 _ _) ?_;rintro _ _ ⟨rfl,hKa⟩;(have hKx:=hKa))|(refine Xi (hT0 _ _) ?_;rintro _ _ ⟨rfl,hKb⟩;(have hKy:=hKx.trans hKb)))
 |refine Xr ?_
 |exact True.intro
 |(apply hκ.out;clear hκ κ))
    first | exact ⟨_, rfl, M1, d1, hM1.keep hKy, hKM1.trans (KM.ofKeep hKy), hG.out.2.1, hd12, hd11, fun hnb => brg_closed hF hG.out.2.2.1 (hG.out.2.2.2.2 hnb) (by omega)⟩ | exact ⟨M1, d1, hM1.keep hKy, hKM1.trans (KM.ofKeep hKy), hG.out.2.1, hd12, hd11, fun hnb => brg_closed hF hG.out.2.2.1 (hG.out.2.2.2.2 hnb) (by omega)⟩
/- The engine, in words: the least set over another, with what must not be; and what a stratum's rules bring. -/
theorem valN_sh {ar : Nat → Nat} {a : Atm} {ν : Nu} {k : Nat} (h3 : a.ts.length ≤ 3) (har : a.ts.length = ar k) (h : Sh ar k (esub a ν)) : ∀ t ∈ a.ts, ∃ n : Nat, valN ν t = (n : Int) ∧ n < 1026 := by
 obtain ⟨l, e, hl, hx⟩ := h
 intro t ht
 obtain ⟨i, hi⟩ := List.getElem?_of_mem ht
 have hil := (List.getElem?_eq_some_iff.1 hi).1
 have h2 : (a.ts.map (valN ν))[i]? = some (valN ν t) := by rw [List.getElem?_map, hi]; rfl
 have hli : i < l.length := by omega
 have h4 : l[i]? = some l[i] := List.getElem?_eq_getElem hli
 have h5 : valN ν t = l[i] := by
  unfold esub tupOf at e
  simp only [List.cons.injEq, and_true] at e
  obtain ⟨e0, e1, e2⟩ := e
  have : i = 0 ∨ i = 1 ∨ i = 2 := by omega
  rcases this with rfl | rfl | rfl
  ·rw [h2, h4] at e0; exact e0
  ·rw [h2, h4] at e1; exact e1
  ·rw [h2, h4] at e2; exact e2
 rw [h5]
 exact hx _ (List.getElem_mem hli)
theorem sh_clG {np : Nat} {ar : Nat → Nat} {R : List Rul} {N : Dset} (h : ∀ r ∈ R, RW np ar r) : ClG R N (Sh ar) := fun r hr ν hb => by
 have hw := h r hr
 refine ⟨r.head.ts.map (valN ν), rfl, by rw [List.length_map]; exact hw.har, fun x hx => ?_⟩
 obtain ⟨t, ht, rfl⟩ := List.mem_map.1 hx
 obtain ⟨tv, tn⟩ := t
 cases tv with
 | false => exact hw.hc _ ht rfl
 | true =>
  obtain ⟨l, hl, hn, hv⟩ := hw.safe tn (.inl (by rw [hasV_iff]; exact ht))
  exact valN_sh (hw.rok.ba l hl) (hw.bar l hl) (litH_pos hn (hb l hl)) _ (hasV_iff.1 hv)
def LstG (R : List Rul) (B : Dset) : Dset := fun k t => ∀ D : Dset, (∀ k t, B k t → D k t) → ClG R B D → D k t
theorem LstG.base {R : List Rul} {B : Dset} {k : Nat} {t : Tup} (h : B k t) : LstG R B k t := fun D hB _ => hB k t h
theorem LitH.mono {N D D' : Dset} {ν : Nu} {l : Lit} (h : LitH N D ν l) (hD : ∀ k t, D k t → D' k t) : LitH N D' ν l := by
 unfold LitH at h ⊢
 split
 ·rename_i hc; rw [if_pos hc] at h; exact h
 ·rename_i hc; rw [if_neg hc] at h; exact hD _ _ h
theorem LitH.anti {N N' D : Dset} {ν : Nu} {l : Lit} (h : LitH N D ν l) (hN : l.neg = true → N' l.a.p.toNat (esub l.a ν) → N l.a.p.toNat (esub l.a ν)) : LitH N' D ν l := by
 unfold LitH at h ⊢
 split
 ·rename_i hc; rw [if_pos hc] at h; exact fun g => h (hN hc g)
 ·rename_i hc; rw [if_neg hc] at h; exact h
theorem LstG.cl (R : List Rul) (B : Dset) : ClG R B (LstG R B) := fun r hr ν h D hB hC => hC r hr ν (fun l hl => (h l hl).mono (fun k t g => g D hB hC))
theorem LstG.nonhead {R : List Rul} {B : Dset} {k : Nat} {t : Tup} (hk : ∀ r ∈ R, r.head.p.toNat ≠ k) (h : LstG R B k t) : B k t := by
 have := h (fun j u => j = k → B j u) (fun j u g _ => g) (fun r hr ν _ e => absurd e (hk r hr))
 exact this rfl
theorem LstG.least {R : List Rul} {B D : Dset} (hB : ∀ k t, B k t → D k t) (hC : ClG R B D) {k : Nat} {t : Tup} (h : LstG R B k t) : D k t := h D hB hC
def Apart (R : List Rul) : Prop := ∀ r ∈ R, ∀ l ∈ r.body, l.neg = true → ∀ r' ∈ R, r'.head.p.toNat ≠ l.a.p.toNat
theorem fol_step {np : Nat} {ar : Nat → Nat} {R : List Rul} {B : Dset} (hR : ∀ r ∈ R, RW np ar r) (hB : ∀ k t, B k t → Sh ar k t) : Fol np ar R (LstG R B) :=
 ⟨hR, fun r hr ν h => LstG.cl R B r hr ν (fun l hl => (h l hl).anti (fun _ g => LstG.base g)), fun k t h => h.least hB (sh_clG hR)⟩
theorem ng_step {R : List Rul} {B : Dset} {M : MM} (hA : Apart R) (hB : ∀ k t, B k t → MD M k t) : NgIn R (LstG R B) M := fun r hr l hl hn t ht => hB _ _ (ht.nonhead (hA r hr l hl hn))
theorem done_step {R : List Rul} {B : Dset} {M' : MM} (hA : Apart R) (hB : ∀ k t, B k t → MD M' k t) (hC : ClG R (LstG R B) (MD M')) {k : Nat} {t : Tup} (h : LstG R B k t) : MD M' k t :=
 h.least hB (fun r hr ν g => hC r hr ν (fun l hl => (g l hl).anti (fun hn e => e.nonhead (hA r hr l hl hn))))
def DX (ar : Nat → Nat) (R : List Rul) (M : MM) : Dset := fun k t => Sh ar k t ∧ ((∃ r ∈ R, ∃ l ∈ r.body, l.neg = true ∧ l.a.p.toNat = k) → MD M k t)
theorem fol_over {np : Nat} {ar : Nat → Nat} {R : List Rul} {M : MM} (hR : ∀ r ∈ R, RW np ar r) (hA : Apart R) : Fol np ar R (DX ar R M) :=
 ⟨hR, fun r hr ν h => ⟨sh_clG (N := DX ar R M) hR r hr ν (fun l hl => (h l hl).mono (fun _ _ g => g.1)), fun ⟨r', hr', l', hl', hn', e⟩ => absurd e.symm (hA r' hr' l' hl' hn' r hr)⟩, fun k t h => h.1⟩
theorem ng_over {ar : Nat → Nat} {R : List Rul} {M : MM} : NgIn R (DX ar R M) M := fun r hr l hl hn t ht => ht.2 ⟨r, hr, l, hl, hn, rfl⟩
theorem room_of {D : Dset} {M M' : MM} {d d' b : Int} (h : GroA D M M' d d') (hb : tot M - d + b ≤ 4000) : Room M' d' b := fun x hx => by
 have h1 := h.cnt
 obtain ⟨k, hk⟩ := List.getElem?_of_mem hx
 have : ∀ (M : MM) (k : Nat) (x : Nat × List Tup), M[k]? = some x → (x.2.length : Int) ≤ tot M := by
  intro M
  induction M with
  | nil => intro k x h; simp at h
  | cons y M ih =>
   intro k x h
   have hn : 0 ≤ tot M := by
    clear ih h
    induction M with
    | nil => simp [tot, cnts]
    | cons z M ih => rw [tot_cons]; omega
   rw [tot_cons]
   cases k with
   | zero => simp at h; subst h; omega
   | succ k => have := ih k x (by simpa using h); omega
 have := this M' k x hk
 omega
/- The program's Implied: frozen atoms, affirmed rules, a model of facts. -/
end Go.Proofs.YtmoeoppbmhfbpaaGreatDoorB
