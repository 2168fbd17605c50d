import Derived.Test.YtmoeoppbmhfbpaaGreatDoorBProgD
/- The program's reader: terms, one behind the other. -/
namespace Go.Proofs.YtmoeoppbmhfbpaaGreatDoorB
open Go.Abs
variable {Bd : Nat}
set_option linter.unusedSimpArgs false
set_option linter.unusedVariables false
set_option maxRecDepth 100000
theorem RS.new {t : Tx} {o : Nat} {N : List Tx} {id : Nat} {s : Tx} {σ : St} (h : RS Bd t o N id s σ) (cs : List AV) : RS Bd t o N id s (σ.new cs) :=
 ⟨by rw [new_lt h.lt]; exact h.obj, by have := h.lt; rw [new_nobj]; omega, h.own, h.suf, h.len⟩
theorem RS.put {t : Tx} {o : Nat} {N : List Tx} {id : Nat} {s : Tx} {σ : St} (h : RS Bd t o N id s σ) {p : Nat} (hp : o < p) (cs : List AV) : RS Bd t o N id s (σ.put p cs) :=
 ⟨by rw [put_ne hp]; exact h.obj, h.lt, h.own, h.suf, h.len⟩
theorem RS.lay {t : Tx} {o : Nat} {N : List Tx} {id : Nat} {s : Tx} {σ : St} (h : RS Bd t o N id s σ) (n : Nat) : RS Bd t o N id s (σ.lay n) := by
 refine ⟨h.obj, h.lt, ?_, h.suf, h.len⟩
 rcases h.own with e | ⟨k, h1, h2, h3, h4⟩
 ·exact .inl e
 ·exact .inr ⟨k, h1, by rw [lay_ntop]; omega, by rw [lay_old h2]; exact h3, h4⟩
theorem Rs.new {o : Nat} {a b : St} {i j : Nat} (h : Rs o a i b j) (cs : List AV) : Rs o a i (b.new cs) j := ⟨h.keep.new cs, h.nid⟩
theorem Rs.lay {o : Nat} {a b : St} {i j : Nat} (h : Rs o a i b j) (n : Nat) : Rs o a i (b.lay n) j := ⟨h.keep.lay n, h.nid⟩
theorem KeepR.putN {o id p : Nat} {σ σ' : St} (h : KeepR o id σ σ') (hp : σ.nobj ≤ p) (cs : List AV) : KeepR o id σ (σ'.put p cs) :=
 ⟨h.nobj, fun q hq hne => by simp [St.put]; rw [if_neg (by omega)]; exact h.obj q hq hne, fun q hq hne => by simp [St.put]; rw [if_neg (by omega)]; exact h.ver q hq hne, h.ntop, h.top⟩
theorem Rs.put {o p : Nat} {a b : St} {i j : Nat} (h : Rs o a i b j) (hp : a.nobj ≤ p) (cs : List AV) : Rs o a i (b.put p cs) j := ⟨h.keep.putN hp cs, h.nid⟩
theorem Rs.transX {o : Nat} {a b c : St} {i j : Nat} (h : Rs o a i b j) (k : KeepX o b c) : Rs o a i c j := h.trans (Rs.ofX k)
theorem KeepR.x {o : Nat} {a b : St} (h : KeepR o 0 a b) : KeepX o a b := ⟨h.nobj, h.obj, h.ver, h.ntop, fun k hk => h.top k hk (by omega)⟩
theorem Own.keepX {o : Nat} {σ0 σ σ' : St} {id n : Nat} (h : Own σ0 σ id n) (k : KeepX o σ σ') : Own σ0 σ' id n := by
 rcases h with h | ⟨j, h1, h2, h3, h4, h5⟩
 ·exact .inl h
 ·exact .inr ⟨j, h1, h2, Nat.lt_of_lt_of_le h3 k.ntop, (k.top j h3).trans h4, h5⟩
theorem Own.made' {σ0 b : St} (h : σ0.ntop ≤ b.ntop) {n : Nat} (hn : 0 < n) : Own σ0 (b.lay n) (b.ntop + 2) n := .inr ⟨b.ntop, rfl, h, by simp [St.lay], by simp [St.lay], hn⟩
theorem RS.app {t : Tx} {o : Nat} {N : List Tx} {id ids : Nat} {r : Tx} {X Y : St} (h : RS Bd t o N id r X) (eobj : Y.obj = X.obj) (enobj : Y.nobj = X.nobj) (entop : X.ntop < Y.ntop) (etop : ∀ k, k < X.ntop → k + 2 ≠ ids → Y.top k = X.top k) (hne : id = 1 ∨ id ≠ ids) : RS Bd t o N id r Y := by
 refine ⟨by rw [eobj]; exact h.obj, by rw [enobj]; exact h.lt, ?_, h.suf, h.len⟩
 rcases h.own with e | ⟨k, h1, h2, h3, h4⟩
 ·exact .inl e
 ·exact .inr ⟨k, h1, by omega, (etop k h2 (by omega)).trans h3, h4⟩
theorem OwnN.apart {σ X : St} {id ids n m : Nat} (h : OwnN σ id n) (g : Own σ X ids m) : id = 1 ∨ id ≠ ids := by
 rcases h with ⟨rfl, -⟩ | ⟨k, h1, h2, -⟩
 ·exact .inl rfl
 ·rcases g with ⟨rfl, -⟩ | ⟨j, g1, g2, -⟩ <;> omega
theorem pByte_no {c : Int} {q : Tx} (h : (pByte c q).ok = false) : pByte c q = .bad q := by
 cases q with
 | nil => rfl
 | cons b r =>
  unfold pByte at h ⊢; dsimp only at h ⊢
  split at h
  ·cases h
  ·rename_i hb; rw [if_neg hb]
abbrev pTerms (s : Tx) : Rd (List Tx) := pSep pTerm 2 s
set_option maxHeartbeats 16000000 in
theorem readTerms_R {t : Tx} {o : Nat} {N : List Tx} {id : Nat} {s : Tx} {σ : St} (ht : t.length ≤ 1000) (hR : RS Bd t o N id s σ) :
  ACalls Tryz.prog 167 [ptr o 0] σ fun x σ' => ∃ n ids c, x = tp [sl ids n c, sc (.bool (pTerms s).ok)] ∧ KeepX o σ σ' ∧ RS Bd t o N id (pTerms s).rest σ' ∧ Rd.Val (pTerms s) fun ts => n = ts.length ∧ c = tcells ts := by
 have hn := hR.lt
 refine acalls 37 [.tmp 2, .tmp 3] Tryz.func167 rfl (by decide) rfl rfl (Nat.le_of_ble_eq_true rfl) ?_
 repeat' (first
 |with_reducible first|apply Xa|apply Xb|(refine Xc ?_;intro κ hκ)|(apply hκ.out;clear hκ κ)|apply Xd|apply Xe|apply Xf
 |((with_reducible first|refine Xl ?_ ?_|refine Xk ?_ ?_)<;> intro h hari<;> try exact Xp)
 |((with_reducible refine aapp_go ?_);refine Xt ?_;intro idn σn hOn hKn eobj enobj ever entop)
 |((with_reducible refine aappn_go ?_);refine Xu ?_)
 |((with_reducible refine Xh ?_);refine Xi (readTerm_R ht hR) ?_;rintro _ _ ⟨v,k,rfl,hK1,hR1,hV1⟩;(have kno1:=hK1.nobj))
 |refine Xr ?_
 |exact True.intro
 |(apply hκ.out;clear hκ κ))
 ·rename_i σ1
  obtain ⟨e, he⟩ := Rd.ok_false h
  have hp := sepI.none (n := 2) he
  rw [he] at hR1
  refine ⟨_, rfl, 0, 1, [], by rw [pTerms, hp]; rfl, by repeat (first | exact KeepX.refl _ _ | (with_reducible assumption) | (with_reducible apply KeepX.putN; rotate_left; (first | omega | (simp only [new_nobj, put_nobj, lay_nobj, lay_obj] at *; omega))) | (with_reducible apply KeepX.new) | (with_reducible apply KeepX.lay) | (with_reducible refine KeepX.trans ?_ (by assumption))), ?_, by rw [pTerms, hp]; trivial⟩
  rw [pTerms, hp]
  repeat (first | (with_reducible assumption) | (with_reducible apply RS.put; rotate_left; (first | omega | (simp only [new_nobj, put_nobj, lay_nobj, lay_obj] at *; omega))) | (with_reducible apply RS.new) | (with_reducible apply RS.lay) | assumption)
 ·rename_i σ1
  obtain ⟨w, q, he⟩ := Rd.ok_true h
  have hp := sepI.first (n := 2) he
  rw [he] at hR1 hV1
  have hV1 : encT w = (v, k) := hV1
  have hR1 : RS Bd t o N id q σ1 := hR1
  have hc : [sc (.bool v), sc (.int .i64 k)] = tcells [w] := by simp [tcells, tcell, hV1]
  rw [hc]
  refine awp_loop (fun m s' σ' => ∃ (ts : List Tx) (q : Tx) (ids : Nat), m = 3 - ts.length ∧ s' 0 = ptr o 0 ∧ s' 6 = sl ids ts.length (tcells ts) ∧ KeepX o σ σ' ∧ RS Bd t o N id q σ' ∧ Own σ σ' ids ts.length ∧ ts.length ≤ 3 ∧ Abs.Hid (sepI pTerm 2 s ts q)) 2
   ⟨[w], q, _, rfl, rfl, rfl, by repeat (first | exact KeepX.refl _ _ | (with_reducible assumption) | (with_reducible apply KeepX.putN; rotate_left; (first | omega | (simp only [new_nobj, put_nobj, lay_nobj, lay_obj] at *; omega))) | (with_reducible apply KeepX.new) | (with_reducible apply KeepX.lay) | (with_reducible refine KeepX.trans ?_ (by assumption))), by repeat (first | (with_reducible assumption) | (with_reducible apply RS.put; rotate_left; (first | omega | (simp only [new_nobj, put_nobj, lay_nobj, lay_obj] at *; omega))) | (with_reducible apply RS.new) | (with_reducible apply RS.lay) | assumption), ?_, by simp, hp⟩ ?_
  ·exact Own.made' (b := (σ1.new _).put _ _) hK1.ntop (by decide)
  clear hK1 hR1 hV1 kno1 hc hp he h
  rintro m s' σ' ⟨ts, q, ids, rfl, h0, h6, hK, hR2, hO, hl3, hS⟩
  have htl := tcells_len ts
  have kno := hK.nobj
  by_cases hlt : ts.length < 3
  ·repeat' (first
 |with_reducible first|apply Xa|apply Xb|(refine Xc ?_;intro κ hκ)|(apply hκ.out;clear hκ κ)|apply Xd|apply Xe|apply Xf
 |((with_reducible first|refine Xl ?_ ?_|refine Xk ?_ ?_)<;> intro h hari<;> try exact Xp)
 |((with_reducible refine aapp_go ?_);refine Xt ?_;intro idn σn hOn hKn eobj enobj ever entop)
 |((with_reducible refine aappn_go ?_);refine Xu ?_)
 |((with_reducible refine Xh ?_);first|(refine Xi (take_R ht (by assumption)) ?_;rintro _ _ ⟨rfl,hKt,hRt⟩;(have kno1:=hKt.nobj))|(refine Xi (readTerm_R ht (by assumption)) ?_;rintro _ _ ⟨v,k,rfl,hKr,hRr,hVr⟩;(have kno2:=hKr.nobj)))
 |refine Xr ?_
 |exact True.intro
 |(apply hκ.out;clear hκ κ))
   ·rename_i σ2 hbb _ σ3
    obtain ⟨u, r, hb⟩ := Rd.ok_true hbb
    rw [hb] at h hRr
    obtain ⟨e, he⟩ := Rd.ok_false h
    rw [show (Rd.got u r).rest = r from rfl] at he hRr
    have hp := hS.out.fail (by omega) hb he
    rw [he] at hRr
    refine ⟨_, rfl, 0, 1, [], by rw [pTerms, hp]; rfl, by repeat (first | exact KeepX.refl _ _ | (with_reducible assumption) | (with_reducible apply KeepX.putN; rotate_left; (first | omega | (simp only [new_nobj, put_nobj, lay_nobj, lay_obj] at *; omega))) | (with_reducible apply KeepX.new) | (with_reducible apply KeepX.lay) | (with_reducible refine KeepX.trans ?_ (by assumption))), ?_, by rw [pTerms, hp]; trivial⟩
    rw [pTerms, hp]
    repeat (first | (with_reducible assumption) | (with_reducible apply RS.put; rotate_left; (first | omega | (simp only [new_nobj, put_nobj, lay_nobj, lay_obj] at *; omega))) | (with_reducible apply RS.new) | (with_reducible apply RS.lay) | assumption)
   ·rename_i σ2 hbb _ σ3
    obtain ⟨u, r, hb⟩ := Rd.ok_true hbb
    rw [hb] at h hRr hVr
    obtain ⟨x, r2, he⟩ := Rd.ok_true h
    rw [show (Rd.got u r).rest = r from rfl] at he hRr hVr
    have hp := hS.out.next (by omega) hb he
    rw [he] at hRr hVr
    have hVr : encT x = (v, k) := hVr
    have hKx : KeepX o σ ((σ3.new [sc (.bool false), sc (.int .i64 0)]).put σ3.nobj [sc (.bool v), sc (.int .i64 k)]) := by repeat (first | exact KeepX.refl _ _ | (with_reducible assumption) | (with_reducible apply KeepX.putN; rotate_left; (first | omega | (simp only [new_nobj, put_nobj, lay_nobj, lay_obj] at *; omega))) | (with_reducible apply KeepX.new) | (with_reducible apply KeepX.lay) | (with_reducible refine KeepX.trans ?_ (by assumption)))
    have hOx : Own σ ((σ3.new [sc (.bool false), sc (.int .i64 0)]).put σ3.nobj [sc (.bool v), sc (.int .i64 k)]) ids ts.length := Own.put (Own.new (Own.keepX (Own.keepX hO hKt) hKr) _) _ _
    have hRx : RS Bd t o N id r2 ((σ3.new [sc (.bool false), sc (.int .i64 0)]).put σ3.nobj [sc (.bool v), sc (.int .i64 k)]) := by repeat (first | (with_reducible assumption) | (with_reducible apply RS.put; rotate_left; (first | omega | (simp only [new_nobj, put_nobj, lay_nobj, lay_obj] at *; omega))) | (with_reducible apply RS.new) | (with_reducible apply RS.lay) | assumption)
    refine aApp_ownR (o := o) (idn := 0) (σ0 := σ) (by first | exact tez_92) (hKx.kr 0) hOx (by decide) (by rfl) htl (by rfl) (by rfl) (by decide) (by omega) (by omega) ?_
    intro idn σn hOn hKn eobj enobj ever entop etop hid
    refine Xr ?_
    repeat' (first
 |with_reducible first|apply Xa|apply Xb|(refine Xc ?_;intro κ hκ)|(apply hκ.out;clear hκ κ)|apply Xd|apply Xe|apply Xf
 |((with_reducible first|refine Xl ?_ ?_|refine Xk ?_ ?_)<;> intro h hari<;> try exact Xp)
 |((with_reducible refine aapp_go ?_);refine Xt ?_;intro idn σn hOn hKn eobj enobj ever entop)
 |((with_reducible refine aappn_go ?_);refine Xu ?_)
 |refine Xr ?_
 |exact True.intro
 |(apply hκ.out;clear hκ κ))
    refine ⟨3 - (ts ++ [x]).length, by simp; omega, ts ++ [x], r2, idn, rfl, ?_, hKn.x, ?_, by simpa using hOn, by simp; omega, hp⟩
    ·rw [tcells_snoc, tcell, hVr]; simp
    ·exact hRx.app eobj enobj entop etop (hR.own.apart hOx)
   ·have hp := hS.out.stop h
    rename_i σ2
    rw [pByte_no h] at hRt
    refine ⟨_, rfl, _, ids, _, by rw [pTerms, hp]; rfl, by repeat (first | exact KeepX.refl _ _ | (with_reducible assumption) | (with_reducible apply KeepX.putN; rotate_left; (first | omega | (simp only [new_nobj, put_nobj, lay_nobj, lay_obj] at *; omega))) | (with_reducible apply KeepX.new) | (with_reducible apply KeepX.lay) | (with_reducible refine KeepX.trans ?_ (by assumption))), ?_, by rw [pTerms, hp]; exact ⟨rfl, rfl⟩⟩
    rw [pTerms, hp]
    repeat (first | (with_reducible assumption) | (with_reducible apply RS.put; rotate_left; (first | omega | (simp only [new_nobj, put_nobj, lay_nobj, lay_obj] at *; omega))) | (with_reducible apply RS.new) | (with_reducible apply RS.lay) | assumption)
  ·repeat' (first
 |with_reducible first|apply Xa|apply Xb|(refine Xc ?_;intro κ hκ)|(apply hκ.out;clear hκ κ)|apply Xd|apply Xe|apply Xf
 |((with_reducible first|refine Xl ?_ ?_|refine Xk ?_ ?_)<;> intro h hari<;> try exact Xp)
 |((with_reducible refine aapp_go ?_);refine Xt ?_;intro idn σn hOn hKn eobj enobj ever entop)
 |((with_reducible refine aappn_go ?_);refine Xu ?_)
 |((with_reducible refine Xh ?_);refine Xi (take_R ht (by assumption)) ?_;rintro _ _ ⟨rfl,hKt,hRt⟩)
 |refine Xr ?_
 |exact True.intro
 |(apply hκ.out;clear hκ κ))
   have hp := hS.out.full (by omega)
   first
   | exact ⟨_, rfl, _, ids, _, by rw [pTerms, hp]; rfl, hK, by rw [pTerms, hp]; exact hR2, by rw [pTerms, hp]; exact ⟨rfl, rfl⟩⟩
   | exact ⟨_, rfl, _, ids, _, by rw [pTerms, hp]; rfl, by rw [pTerms, hp]; exact hR2, by rw [pTerms, hp]; exact ⟨rfl, rfl⟩⟩
end Go.Proofs.YtmoeoppbmhfbpaaGreatDoorB
