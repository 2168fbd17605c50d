import Derived.Test.YtmoeoppbmhfbpaaGreatDoorBEngO
/- The program's engine: a tuple is kept. -/
namespace Go.Proofs.YtmoeoppbmhfbpaaGreatDoorB
open Go.Abs
set_option linter.unusedSimpArgs false
set_option linter.unusedVariables false
set_option maxRecDepth 100000
structure KM (om ot : Nat) (M M' : MM) (σ σ' : St) : Prop where
 nobj : σ.nobj ≤ σ'.nobj
 obj : ∀ o, o < σ.nobj → o ≠ om → o ≠ ot → σ'.obj o = σ.obj o
 ver : ∀ o, o < σ.nobj → o ≠ om → o ≠ ot → σ'.ver o = σ.ver o
 ntop : σ.ntop ≤ σ'.ntop
 top : ∀ k, k < σ.ntop → (∀ x ∈ M, x.1 ≠ k + 2) → σ'.top k = σ.top k
 mid : ∀ x ∈ M', (∃ y ∈ M, y.1 = x.1) ∨ x.1 = 1 ∨ σ.ntop + 2 ≤ x.1
theorem KM.ofKeep {om ot : Nat} {M : MM} {σ σ' : St} (h : Keep σ σ') : KM om ot M M σ σ' :=
 ⟨h.nobj, fun o ho _ _ => h.obj o ho, fun o ho _ _ => h.ver o ho, h.ntop, fun k hk _ => h.top k hk, fun x hx => .inl ⟨x, hx, rfl⟩⟩
theorem KM.trans {om ot : Nat} {M M1 M2 : MM} {σ σ1 σ2 : St} (h : KM om ot M M1 σ σ1) (g : KM om ot M1 M2 σ1 σ2) : KM om ot M M2 σ σ2 where
 nobj := Nat.le_trans h.nobj g.nobj
 obj := fun o ho h1 h2 => (g.obj o (Nat.lt_of_lt_of_le ho h.nobj) h1 h2).trans (h.obj o ho h1 h2)
 ver := fun o ho h1 h2 => (g.ver o (Nat.lt_of_lt_of_le ho h.nobj) h1 h2).trans (h.ver o ho h1 h2)
 ntop := Nat.le_trans h.ntop g.ntop
 top := fun k hk hx => (g.top k (Nat.lt_of_lt_of_le hk h.ntop) (fun x hxm e => by
  rcases h.mid x hxm with ⟨y, hy, e2⟩ | e2 | e2
  ·exact hx y hy (e2.trans e)
  ·omega
  ·omega)).trans (h.top k hk hx)
 mid := fun x hx => by
  rcases g.mid x hx with ⟨y, hy, e⟩ | e | e
  ·rcases h.mid y hy with ⟨z, hz, e2⟩ | e2 | e2
   ·exact .inl ⟨z, hz, e2.trans e⟩
   ·exact .inr (.inl (by omega))
   ·exact .inr (.inr (by omega))
  ·exact .inr (.inl e)
  ·exact .inr (.inr (by have := h.ntop; omega))
theorem aApp_live {P : Program} {t : TypeId} {z b : Nat} {zc : List Value} {σ : St} {id id2 n m m' : Nat} {xs ys : List AV} {K : AV → St → Prop} (ht : tez P t = some (z, b, zc)) (hO : Live σ id n)
  (hz : 0 < z) (hzc : zc.length = z) (hx : xs.length = n * z) (hy : ys.length = m * z) (hf : ys.all flat = true) (hm : 0 < m) (hb : (n + m) * b ≤ 140737488355328) (hl : n + m ≤ 1099511627776)
  (h : ∀ id' σ', Live σ' id' (n + m) → (id' = id ∨ σ.ntop + 2 ≤ id') → id' ≠ 1 → σ'.obj = σ.obj → σ'.nobj = σ.nobj → σ'.ver = σ.ver → σ.ntop < σ'.ntop → (∀ k, k < σ.ntop → k + 2 ≠ id → σ'.top k = σ.top k) → K (sl id' (n + m) (xs ++ ys)) σ') : aApp P t t (sl id n xs) (sl id2 m ys) (σ.lay m') K := by
 unfold aApp aapp
 left
 simp only [ht]
 rw [if_pos ⟨trivial, hz, hzc, hx, hy, hf, hm, hb, hl⟩]
 rcases hO with ⟨rfl, rfl⟩ | ⟨k, rfl, h3, h4, h5⟩
 ·have hxs : xs = [] := List.eq_nil_of_length_eq_zero (by simpa using hx)
  subst hxs
  have := h ((σ.lay m').ntop + 2) ((σ.lay m').lay m) (.inr ⟨(σ.lay m').ntop, rfl, by simp [St.lay], by simp [St.lay], by omega⟩) (.inr (by simp [St.lay])) (by simp) rfl rfl rfl (by simp [St.lay]; omega) (fun k hk _ => (((Keep.refl σ).lay m').lay m).top k hk)
  simpa using this
 ·have e1 : (σ.lay m').top k = n := by simp [St.lay]; rw [if_neg (by omega)]; exact h4
  simp only
  rw [if_pos ⟨e1, h5⟩]
  exact h (k + 2) _ (.inr ⟨k, rfl, by simp [St.raise, St.lay]; omega, by simp [St.raise], by omega⟩) (.inl rfl) (by omega) rfl rfl rfl (by simp [St.raise, St.lay]) (fun j hj hne => by
   simp [St.raise, St.lay]
   rw [if_neg (by omega), if_neg (by omega)])
theorem MOb.grow {σ σ' : St} {om ot : Nat} {M : MM} {d b : Int} {k id' : Nat} {x : Nat × List Tup} {t : Tup} (hM : MOb σ om ot M d b) (hx : M[k]? = some x) (ht : t.length = 3) (hn : x.2.length < 5000)
  (hL : Live σ' id' (x.2.length + 1)) (hid : id' = x.1 ∨ σ.ntop + 2 ≤ id') (hid1 : id' ≠ 1) (eob : ∀ o, o < σ.nobj → o ≠ ot → σ'.obj o = σ.obj o) (ever : ∀ o, o < σ.nobj → o ≠ ot → σ'.ver o = σ.ver o) (eoc : σ'.obj ot = (mcells M).set k (sl id' (x.2.length + 1) (tcs x.2 ++ icells t))) (eno : σ.nobj ≤ σ'.nobj) (ento : σ.ntop ≤ σ'.ntop)
  (etop : ∀ j, j < σ.ntop → j + 2 ≠ x.1 → σ'.top j = σ.top j) : MOb σ' om ot (M.set k (id', x.2 ++ [t])) d b ∧ KM om ot M (M.set k (id', x.2 ++ [t])) σ σ' := by
 have hxm := List.mem_of_getElem? hx
 have hkl : k < M.length := (List.getElem?_eq_some_iff.1 hx).1
 have hlv : ∀ (i : Nat) (y : Nat × List Tup), M[i]? = some y → i ≠ k → Live σ' y.1 y.2.length ∧ (y.1 = 1 ∨ y.1 ≠ id') := fun i y hy hne => by
  have hym := List.mem_of_getElem? hy
  rcases hM.live y hym with h | ⟨j, e1, e2, e3, e4⟩
  ·exact ⟨.inl h, .inl h.1⟩
  ·have hyx : y.1 ≠ x.1 := by
    rcases hM.inj i k y x hy hx hne with h | h
    ·omega
    ·exact h
   refine ⟨.inr ⟨j, e1, Nat.lt_of_lt_of_le e2 ento, (etop j e2 (by omega)).trans e3, e4⟩, .inr ?_⟩
   rcases hid with h | h <;> omega
 have hset : ∀ (i : Nat) (y : Nat × List Tup), (M.set k (id', x.2 ++ [t]))[i]? = some y → (i = k ∧ y = (id', x.2 ++ [t])) ∨ (i ≠ k ∧ M[i]? = some y) := fun i y hy => by
  rw [List.getElem?_set] at hy
  by_cases e : k = i
  ·subst e
   rw [if_pos rfl, if_pos hkl] at hy
   exact .inl ⟨rfl, (Option.some.inj hy).symm⟩
  ·rw [if_neg e] at hy
   exact .inr ⟨fun h => e h.symm, hy⟩
 have hmem : ∀ y ∈ M.set k (id', x.2 ++ [t]), y = (id', x.2 ++ [t]) ∨ y ∈ M := fun y hy => (List.mem_or_eq_of_mem_set hy).symm
 have hidx : ∀ y ∈ M.set k (id', x.2 ++ [t]), ∃ i, (M.set k (id', x.2 ++ [t]))[i]? = some y := fun y hy => List.getElem?_of_mem hy
 refine ⟨⟨?_, ?_, Nat.lt_of_lt_of_le hM.lo eno, Nat.lt_of_lt_of_le hM.lt eno, hM.ne, ?_, ?_, ?_, ?_, by simp; exact hM.pl⟩, ⟨eno, fun o ho h1 h2 => eob o ho h2, fun o ho h1 h2 => ever o ho h2, ento, fun j hj h => etop j hj (fun e => h x hxm e.symm), ?_⟩⟩
 ·rw [eob om hM.lo hM.ne, hM.ob]; simp
 ·rw [eoc]
  unfold mcells
  rw [List.map_set]
  congr 1
  simp [tcs]
 ·intro y hy
  obtain ⟨i, hi⟩ := hidx y hy
  rcases hset i y hi with ⟨-, rfl⟩ | ⟨hne, hy'⟩
  ·simpa using hL
  ·exact (hlv i y hy' hne).1
 ·intro i j y w hy hw hne
  rcases hset i y hy with ⟨rfl, rfl⟩ | ⟨h1, hy'⟩
  ·rcases hset j w hw with ⟨rfl, rfl⟩ | ⟨h2, hw'⟩
   ·exact absurd rfl hne
   ·have := (hlv j w hw' h2).2
    simp only
    by_cases e : id' = w.1
    ·rcases this with h | h
     ·omega
     ·omega
    ·exact .inr e
  ·rcases hset j w hw with ⟨rfl, rfl⟩ | ⟨h2, hw'⟩
   ·exact (hlv i y hy' h1).2
   ·exact hM.inj i j y w hy' hw' hne
 ·intro y hy
  rcases hmem y hy with rfl | hy
  ·intro u hu
   rcases List.mem_append.1 hu with h | h
   ·exact hM.t3 x hxm u h
   ·simp at h; subst h; exact ht
  ·exact hM.t3 y hy
 ·intro y hy
  rcases hmem y hy with rfl | hy
  ·simp; omega
  ·exact hM.ln y hy
 ·intro y hy
  rcases hmem y hy with rfl | hy
  ·rcases hid with h | h
   ·exact .inl ⟨x, hxm, h.symm⟩
   ·exact .inr (.inr h)
  ·exact .inl ⟨y, hy, rfl⟩
set_option maxHeartbeats 16000000 in
theorem ekeep_spec (om ot : Nat) (M : MM) (d b : Int) (a : Atm) (id k : Nat) (x : Nat × List Tup) (ha : a.ts.length ≤ 3) (hk : a.p = (k : Int)) (hx : M[k]? = some x) (hn : x.2.length < 5000) (σ : St) (hM : MOb σ om ot M d b) : ACalls Tryz.prog 76 [ptr om 0, ag [ic a.p, sl id a.ts.length (ecells a.ts)]] σ fun r σ' => ∃ id', MOb σ' om ot (M.set k (id', x.2 ++ [tupA a])) d b ∧ KM om ot M (M.set k (id', x.2 ++ [tupA a])) σ σ' := by
 have hn1 : a.ts.length ≤ 1000 := by omega
 have hTu := fun σ => etuple_spec a.p id a.ts hn1 σ
 have hxm := List.mem_of_getElem? hx
 have h3 := hM.t3 x hxm
 have hL := hM.live x hxm
 have htl := tcs_len h3
 have hkl : k < M.length := (List.getElem?_eq_some_iff.1 hx).1
 have hpl := hM.pl
 have hml := mcells_len M
 have hgx := mcells_get hx
 have lo := hM.lo
 have lt := hM.lt
 have ob := hM.ob
 have oc := hM.oc
 rw [hk]
 rw [hk] at hTu
 have hwl : (tupOf (a.ts.map (·.2))).length = 3 := rfl
 have HT : Abs.Hid (tupA a = tupOf (a.ts.map (·.2))) := rfl
 generalize tupA a = ta at *
 generalize tupOf (a.ts.map (·.2)) = t0 at *
 have w1 := i3_len hwl
 have w5 := icells_flat t0
 have w4 := i3_lsp hwl
 refine acalls 23 [] Tryz.func76 rfl (by decide) rfl rfl (Nat.le_of_ble_eq_true rfl) ?_
 repeat' (first
 |with_reducible first|apply Xa|apply Xb|(refine Xc ?_;intro κ hκ)|(apply hκ.out;clear hκ κ)|apply Xd|apply Xe|apply Xf
 |((with_reducible first|refine Xl ?_ ?_|refine Xm ?_ ?_|refine Xk ?_ ?_)<;> intro h hari<;> try exact Xp)
 |((with_reducible refine aapp_go ?_);refine Xt ?_;intro idn σn hOn hKn eobj enobj ever entop)
 |((with_reducible refine aappn_go ?_);refine Xu ?_)
 |refine Xr ?_
 |exact True.intro
 |((with_reducible refine Xg ?_);refine Xj ?_)
 |(apply hκ.out;clear hκ κ))
 refine awp_mono (Q := fun e s' σ' => e = .normal ∧ ∃ id', MOb σ' om ot (M.set k (id', x.2 ++ [ta])) d b ∧ KM om ot M (M.set k (id', x.2 ++ [ta])) σ σ') ?_ ?_
 ·refine awp_draw_h follows_mixed (fun _ => True) [19] [0, 1, 2, 3, 4, 5, 6, 7, 8, 9, 10, 11, 12, 13, 14] 5 #[true, true, true, true, true, true, true, true, true, true, true, true, true, true, true, false, false, false, false, false] (by kernel_rfl) (fun _ _ _ h => by cases h.1) ?_; intro κ hκ; refine Xr ?_; refine hκ.out _ ?_; clear hκ κ
  refine uany_one (i := 15) (by kernel_rfl) ?_; refine aOne_k ?_; intro κ hκ; refine Xr ?_
  refine ACalls.mono (hTu _) ?_
  rintro _ σ5 ⟨rfl, hK5⟩
  refine Xr ?_
  refine hκ.out _ _ ⟨kept_keep hK5, ?_⟩; clear hκ κ
  have kno5 := hK5.nobj
  simp only [new_nobj] at kno5
  have hKy : Keep σ σ5 := ((Keep.refl σ).new _).trans hK5
  have e1 : σ5.obj om = [fx ot 0 M.length, ic d, ic b] := by rw [hKy.obj _ lo, ob]
  have e2 : σ5.obj ot = mcells M := by rw [hKy.obj _ lt, oc]
  refine uany_one (i := 16) (by kernel_rfl) ?_; refine aOne_k ?_; intro κ hκ; refine Xr ?_
  refine hκ.out _ _ ⟨kept_keep (hK5.lay 1), ?_⟩; clear hκ κ
  refine uany_one (i := 17) (by kernel_rfl) ?_; refine aOne_k ?_; intro κ hκ; refine Xr ?_
  refine aApp_live (by first | exact tez_122) (hL.keep hKy) (by decide) (by rfl) htl (by rw [w1]) w5 (by decide) (by omega) (by omega) ?_
  intro idn σn hLn hidn hid1 eobj enobj ever entop etop
  have e3 : σn.obj ot = mcells M := by rw [eobj, e2]
  refine Xr ?_
  refine hκ.out _ _ ⟨fun _ o ho _ => by rw [ever]; exact hK5.ver o ho, ?_⟩; clear hκ κ
  refine uany_one (i := 18) (by kernel_rfl) ?_; refine aOne_k ?_; intro κ hκ; refine Xr ?_
  refine hκ.out _ _ ⟨fun _ o ho _ => by rw [ever]; exact hK5.ver o ho, ?_⟩; clear hκ κ
  refine uany_one (i := 19) (by kernel_rfl) ?_; refine aOne_k ?_; intro κ hκ; refine Xr ?_
  refine hκ.out _ _ ⟨kept_last rfl, ?_⟩; clear hκ κ
  refine uany_done (by kernel_rfl) ⟨rfl, idn, ?_⟩
  rw [HT.out]
  refine MOb.grow hM hx hwl hn ?_ ?_ hid1 ?_ ?_ ?_ ?_ ?_ ?_
  ·rcases hLn with h | ⟨j, h1, h2, h3, h4⟩
   ·exact .inl h
   ·exact .inr ⟨j, h1, h2, h3, h4⟩
  ·have := hKy.ntop; rcases hidn with h | h
   ·exact .inl h
   ·exact .inr (by omega)
  ·intro o ho hne
   rw [show ∀ (S : St) c, (S.put ot c).obj o = S.obj o from fun S c => by simp [St.put, hne], eobj, hKy.obj o ho]
  ·intro o ho hne
   rw [show ∀ (S : St) c, (S.put ot c).ver o = S.ver o from fun S c => by simp [St.put, hne], ever, hKy.ver o ho]
  ·rw [put_same]
  ·have := hKy.nobj; simp only [put_nobj]; omega
  ·have := hKy.ntop; simp only [put_ntop]; omega
  ·intro j hj hne
   rw [put_top, etop j (Nat.lt_of_lt_of_le hj hKy.ntop) hne, hKy.top j hj]
 ·rintro e s' σ'' ⟨rfl, idn, h1, h2⟩
  repeat' (first
 |with_reducible first|apply Xa|apply Xb|(refine Xc ?_;intro κ hκ)|(apply hκ.out;clear hκ κ)|apply Xd|apply Xe|apply Xf
 |((with_reducible first|refine Xl ?_ ?_|refine Xm ?_ ?_|refine Xk ?_ ?_)<;> intro h hari<;> try exact Xp)
 |((with_reducible refine aapp_go ?_);refine Xt ?_;intro idn σn hOn hKn eobj enobj ever entop)
 |((with_reducible refine aappn_go ?_);refine Xu ?_)
 |refine Xr ?_
 |exact True.intro
 |((with_reducible refine Xg ?_);refine Xj ?_)
 |(apply hκ.out;clear hκ κ))
  exact ⟨_, rfl, idn, h1, h2⟩
end Go.Proofs.YtmoeoppbmhfbpaaGreatDoorB
