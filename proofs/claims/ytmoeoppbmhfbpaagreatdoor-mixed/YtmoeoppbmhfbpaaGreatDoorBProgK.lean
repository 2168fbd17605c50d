import Derived.Test.YtmoeoppbmhfbpaaGreatDoorBProgH
/- The program's reader: a whole text. -/
namespace Go.Proofs.YtmoeoppbmhfbpaaGreatDoorB
open Go.Abs
variable {Bd : Nat}
set_option linter.unusedSimpArgs false
set_option linter.unusedVariables false
set_option maxRecDepth 100000
def itI (s : Tx) (xs : List RItem) (q : Tx) : Prop := xs.length ≤ 16 ∧ pItems 16 s = (pItems (16 - xs.length) q).bnd fun ys r => .got (xs ++ ys) r
theorem itI.start (s : Tx) : itI s [] s := by
 refine ⟨by simp, ?_⟩
 simp only [List.length_nil, Nat.sub_zero, List.nil_append]
 cases pItems 16 s <;> rfl
theorem pItems_nil (n : Nat) : pItems n [] = .got [] [] := by cases n <;> rfl
theorem pItems_zero (b : UInt8) (r : Tx) : pItems 0 (b :: r) = .bad (b :: r) := rfl
theorem pItems_succ (n : Nat) (b : UInt8) (r : Tx) : pItems (n + 1) (b :: r) = (pItem (b :: r)).bnd fun x r => (pItems n r).bnd fun xs r => .got (x :: xs) r := rfl
theorem itI.done {s : Tx} {xs : List RItem} (h : itI s xs []) : pItems 16 s = .got xs [] := by
 rw [h.2, pItems_nil]; simp [Rd.bnd]
theorem itI.full {s : Tx} {xs : List RItem} {b : UInt8} {r : Tx} (h : itI s xs (b :: r)) (hl : xs.length = 16) : pItems 16 s = .bad (b :: r) := by
 rw [h.2, hl, pItems_zero]; rfl
theorem itI.fail {s : Tx} {xs : List RItem} {b : UInt8} {r e : Tx} (h : itI s xs (b :: r)) (hl : xs.length < 16) (he : pItem (b :: r) = .bad e) : pItems 16 s = .bad e := by
 obtain ⟨k, hk⟩ : ∃ k, 16 - xs.length = k + 1 := ⟨15 - xs.length, by omega⟩
 rw [h.2, hk, pItems_succ, he]; rfl
theorem itI.next {s : Tx} {xs : List RItem} {b : UInt8} {r r2 : Tx} {x : RItem} (h : itI s xs (b :: r)) (hl : xs.length < 16) (he : pItem (b :: r) = .got x r2) : itI s (xs ++ [x]) r2 := by
 obtain ⟨k, hk⟩ : ∃ k, 16 - xs.length = k + 1 := ⟨15 - xs.length, by omega⟩
 refine ⟨by simp; omega, ?_⟩
 rw [h.2, hk, pItems_succ, he, show 16 - (xs ++ [x]).length = k by simp; omega]
 simp only [Rd.bnd]
 cases pItems k r2 <;> simp
theorem apart_step2 {σ0 σ2 : St} {id1 id2 ids n : Nat} (h : id1 = 1 ∨ id1 ≠ ids) (hO : Own σ0 σ2 ids n) (hs : id2 = id1 ∨ σ2.ntop + 2 ≤ id2) : id2 = 1 ∨ id2 ≠ ids := by
 rcases hO with ⟨h1, -⟩ | ⟨k, h1, h2, h3, h4, h5⟩ <;> omega
set_option maxHeartbeats 16000000 in
theorem readItems_R {t : Tx} {o : Nat} {N : List Tx} {id : Nat} {s : Tx} {σ : St} (ht : t.length ≤ 1000) (hR : RS Bd t o N id s σ) :
  ACalls Tryz.prog 70 [ptr o 0] σ fun x σ' => ∃ n ids c N' id', x = tp [sl ids n c, sc (.bool (pItems 16 s).ok)] ∧ Rs o σ id σ' id' ∧ RS Bd t o N' id' (pItems 16 s).rest σ' ∧ N <+: N' ∧ Rd.Val (pItems 16 s) fun xs => n = xs.length ∧ EL (PI N') xs c := by
 have hn := hR.lt
 have hRN : OwnN σ id N.length := hR.own
 refine acalls 33 [.tmp 2, .tmp 3] Tryz.func70 rfl (by decide) rfl rfl (Nat.le_of_ble_eq_true rfl) ?_
 repeat' (first
 |with_reducible first|apply Xa|apply Xb|(refine Xc ?_;intro κ hκ)|(apply hκ.out;clear hκ κ)|apply Xd|apply Xe|apply Xf
 |((with_reducible first|refine Xl ?_ ?_|refine Xm ?_ ?_|refine Xk ?_ ?_)<;> intro h hari<;> try exact Xp)
 |((with_reducible refine aapp_go ?_);refine Xt ?_;intro idn σn hOn hKn eobj enobj ever entop)
 |((with_reducible refine aappn_go ?_);refine Xu ?_)
 |refine Xr ?_
 |exact True.intro
 |((with_reducible refine Xg ?_);refine Xj ?_)
 |(apply hκ.out;clear hκ κ))
 refine awp_loop (fun m s' σ' => ∃ (xs : List RItem) (q : Tx) (ids : Nat) (d : List AV) (N2 : List Tx) (id2 : Nat), m = 16 - xs.length ∧ s' 0 = ptr o 0 ∧ s' 4 = sl ids xs.length d ∧ Rs o σ id σ' id2 ∧ RS Bd t o N2 id2 q σ' ∧ Own σ σ' ids xs.length ∧ Abs.Hid (id2 = 1 ∨ id2 ≠ ids) ∧ N <+: N2 ∧ xs.length ≤ 16 ∧ d.length = xs.length * 4 ∧ Abs.Hid (EL (PI N2) xs d) ∧ Abs.Hid (itI s xs q)) 16
  ⟨[], s, 1, [], N, id, rfl, rfl, rfl, Rs.refl _ _ _, hR, Own.nil _ _, by rcases hRN with ⟨e, -⟩ | ⟨k, e, -⟩; exact .inl e; exact .inr (by omega), List.prefix_refl _, by simp, by simp, rfl, itI.start s⟩ ?_
 rintro m s' σ' ⟨xs, q, ids, d, N2, id2, rfl, h0, h4, hS, hR2, hO, hap, hP2, hl16, hdl, hE, hI⟩
 have kno := hS.keep.nobj
 have hn' := hR2.lt
 have hob := hR2.obj
 have hql := suff_len hR2.suf
 unfold rdS rdr at hob
 repeat' (first
 |with_reducible first|apply Xa|apply Xb|(refine Xc ?_;intro κ hκ)|(apply hκ.out;clear hκ κ)|apply Xd|apply Xe|apply Xf
 |((with_reducible first|refine Xl ?_ ?_|refine Xm ?_ ?_|refine Xk ?_ ?_)<;> intro h hari<;> try exact Xp)
 |((with_reducible refine aapp_go ?_);refine Xt ?_;intro idn σn hOn hKn eobj enobj ever entop)
 |((with_reducible refine aappn_go ?_);refine Xu ?_)
 |refine Xr ?_
 |exact True.intro
 |((with_reducible refine Xg ?_);refine Xj ?_)
 |(apply hκ.out;clear hκ κ))
 refine awp_draw_k follows_mixed (fun _ => True) [9] [0, 1, 2, 3, 4, 5, 6, 7, 8] [9] (by kernel_rfl) (fun _ _ _ h => h) ?_
 intro κ hκ
 cases q with
 | nil =>
  simp only [List.length_nil, Nat.sub_zero] at hob hql
  refine Xr ?_
  repeat' (first
 |with_reducible first|apply Xa|apply Xb|(refine Xc ?_;intro κ hκ)|(apply hκ.out;clear hκ κ)|apply Xd|apply Xe|apply Xf
 |((with_reducible first|refine Xl ?_ ?_|refine Xm ?_ ?_|refine Xk ?_ ?_)<;> intro h hari<;> try exact Xp)
 |((with_reducible refine aapp_go ?_);refine Xt ?_;intro idn σn hOn hKn eobj enobj ever entop)
 |((with_reducible refine aappn_go ?_);refine Xu ?_)
 |refine Xr ?_
 |exact True.intro
 |((with_reducible refine Xg ?_);refine Xj ?_)
 |(apply hκ.out;clear hκ κ))
  have hp := hI.out.done
  first
  | exact ⟨_, rfl, _, ids, d, N2, id2, by rw [hp]; rfl, hS, by rw [hp]; exact hR2, hP2, by rw [hp]; exact ⟨rfl, hE.out⟩⟩
  | exact ⟨_, rfl, _, ids, d, N2, id2, by rw [hp]; rfl, by rw [hp]; exact hR2, hP2, by rw [hp]; exact ⟨rfl, hE.out⟩⟩
 | cons b0 r0 =>
  simp only [List.length_cons] at hob hql
  refine Xr ?_
  by_cases hlt : xs.length < 16
  ·repeat' (first
 |with_reducible first|apply Xa|apply Xb|(refine Xc ?_;intro κ hκ)|(apply hκ.out;clear hκ κ)|apply Xd|apply Xe|apply Xf
 |((with_reducible first|refine Xl ?_ ?_|refine Xm ?_ ?_|refine Xk ?_ ?_)<;> intro h hari<;> try exact Xp)
 |((with_reducible refine aapp_go ?_);refine Xt ?_;intro idn σn hOn hKn eobj enobj ever entop)
 |((with_reducible refine aappn_go ?_);refine Xu ?_)
 |((with_reducible refine Xh ?_);refine Xi (readItem_R ht (by assumption)) ?_;rintro _ _ ⟨b,k,ih,n,c,ib,m,e,N3,id3,rfl,hSr,hRr,hPr,hVr⟩;(have kno2:=hSr.keep.nobj))
 |refine Xr ?_
 |exact True.intro
 |((with_reducible refine Xg ?_);refine Xj ?_)
 |(apply hκ.out;clear hκ κ))
   ·exfalso; simp at h; omega
   ·rename_i σ3
    obtain ⟨e2, he⟩ := Rd.ok_false h
    have hp := hI.out.fail hlt he
    rw [he] at hRr
    simp only [Rd.rest] at hRr
    refine ⟨_, rfl, 0, 1, [], N3, id3, by rw [hp]; rfl, by repeat (first | exact Rs.refl _ _ _ | (with_reducible assumption) | (with_reducible apply Rs.put; rotate_left; (first | omega | (simp only [new_nobj, put_nobj, lay_nobj, lay_obj] at *; omega))) | (with_reducible apply Rs.new) | (with_reducible apply Rs.lay) | (refine Rs.trans ?_ (by with_reducible assumption)) | (refine Rs.transX ?_ (by with_reducible assumption))), ?_, hP2.trans hPr, by rw [hp]; trivial⟩
    rw [hp]
    show RS Bd t o N3 id3 e2 _
    repeat (first | (with_reducible assumption) | (with_reducible apply RS.put; rotate_left; (first | omega | (simp only [new_nobj, put_nobj, lay_nobj, lay_obj] at *; omega))) | (with_reducible apply RS.new) | (with_reducible apply RS.lay) | assumption)
   ·rename_i σ3
    obtain ⟨x, r2, he⟩ := Rd.ok_true h
    have hp := hI.out.next hlt he
    rw [he] at hRr hVr
    have hC : PI N3 x [sc (.bool b), sc (.int .i64 k), sl ih n c, sl ib m e] := hVr
    have hRr : RS Bd t o N3 id3 r2 σ3 := hRr
    have hSx : Rs o σ id ((σ3.new [sc (.bool false), sc (.int .i64 0), nilS, nilS]).put σ3.nobj [sc (.bool b), sc (.int .i64 k), sl ih n c, sl ib m e]) id3 := by repeat (first | exact Rs.refl _ _ _ | (with_reducible assumption) | (with_reducible apply Rs.put; rotate_left; (first | omega | (simp only [new_nobj, put_nobj, lay_nobj, lay_obj] at *; omega))) | (with_reducible apply Rs.new) | (with_reducible apply Rs.lay) | (refine Rs.trans ?_ (by with_reducible assumption)) | (refine Rs.transX ?_ (by with_reducible assumption)))
    have hO3 := Own.keepR hO hSr.keep (apart_flip hap.out hO)
    have hOx : Own σ ((σ3.new [sc (.bool false), sc (.int .i64 0), nilS, nilS]).put σ3.nobj [sc (.bool b), sc (.int .i64 k), sl ih n c, sl ib m e]) ids xs.length := Own.put (Own.new hO3 _) _ _
    have hRx : RS Bd t o N3 id3 r2 ((σ3.new [sc (.bool false), sc (.int .i64 0), nilS, nilS]).put σ3.nobj [sc (.bool b), sc (.int .i64 k), sl ih n c, sl ib m e]) := by repeat (first | (with_reducible assumption) | (with_reducible apply RS.put; rotate_left; (first | omega | (simp only [new_nobj, put_nobj, lay_nobj, lay_obj] at *; omega))) | (with_reducible apply RS.new) | (with_reducible apply RS.lay) | assumption)
    have hapx : id3 = 1 ∨ id3 ≠ ids := apart_step2 hap.out hO hSr.nid
    refine aApp_ownR (o := o) (idn := id) (σ0 := σ) (by first | exact tez_64) hSx.keep hOx (by decide) (by rfl) hdl (by rfl) (by rfl) (by decide) (by omega) (by omega) ?_
    intro idn σn hOn hKn eobj enobj ever entop etop hid
    refine Xr ?_
    repeat' (first
 |with_reducible first|apply Xa|apply Xb|(refine Xc ?_;intro κ hκ)|(apply hκ.out;clear hκ κ)|apply Xd|apply Xe|apply Xf
 |((with_reducible first|refine Xl ?_ ?_|refine Xm ?_ ?_|refine Xk ?_ ?_)<;> intro h hari<;> try exact Xp)
 |((with_reducible refine aapp_go ?_);refine Xt ?_;intro idn σn hOn hKn eobj enobj ever entop)
 |((with_reducible refine aappn_go ?_);refine Xu ?_)
 |refine Xr ?_
 |exact True.intro
 |((with_reducible refine Xg ?_);refine Xj ?_)
 |(apply hκ.out;clear hκ κ))
    refine ⟨16 - (xs ++ [x]).length, by simp; omega, xs ++ [x], r2, idn, d ++ [sc (.bool b), sc (.int .i64 k), sl ih n c, sl ib m e], N3, id3, rfl, by simp, ⟨hKn, hSx.nid⟩, hRx.app eobj enobj entop etop hapx, by simpa using hOn, apart_app hRx.own hapx hid, hP2.trans hPr, by simp; omega, by simp; omega, EL.append (hE.out.mono (PI.mono hPr)) (EL.single hC), hp⟩
  ·have h16 : xs.length = 16 := by omega
   have hp := hI.out.full h16
   have HP : Abs.Hid _ := hp
   clear hp
   repeat' (first
 |with_reducible first|apply Xa|apply Xb|(refine Xc ?_;intro κ hκ)|(apply hκ.out;clear hκ κ)|apply Xd|apply Xe|apply Xf
 |((with_reducible first|refine Xl ?_ ?_|refine Xm ?_ ?_|refine Xk ?_ ?_)<;> intro h hari<;> try exact Xp)
 |((with_reducible refine aapp_go ?_);refine Xt ?_;intro idn σn hOn hKn eobj enobj ever entop)
 |((with_reducible refine aappn_go ?_);refine Xu ?_)
 |refine Xr ?_
 |exact True.intro
 |((with_reducible refine Xg ?_);refine Xj ?_)
 |(apply hκ.out;clear hκ κ))
   first
   | exact ⟨_, rfl, 0, 1, [], N2, id2, by rw [HP.out]; rfl, hS, by rw [HP.out]; exact hR2, hP2, by rw [HP.out]; trivial⟩
   | exact ⟨_, rfl, 0, 1, [], N2, id2, by rw [HP.out]; rfl, by rw [HP.out]; exact hR2, hP2, by rw [HP.out]; trivial⟩
end Go.Proofs.YtmoeoppbmhfbpaaGreatDoorB
