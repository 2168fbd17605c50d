import Derived.Test.YtmoeoppbmhfbpaaGreatDoorBProgK
import Derived.Test.YtmoeoppbmhfbpaaGreatDoorBImpB
/- The program's reader: facts. -/
namespace Go.Proofs.YtmoeoppbmhfbpaaGreatDoorB
open Go.Abs
variable {Bd : Nat}
set_option linter.unusedSimpArgs false
set_option linter.unusedVariables false
set_option maxRecDepth 100000
def setA (a : RAtom) : Bool := setl (a.terms.map encT)
def pFact (s : Tx) : Rd RAtom := (pAtom false s).bnd fun a r => if setA a = true then (pByte 46 r).bnd fun _ r => .got a r else .bad r
def pFacts : Nat → Tx → Rd (List RAtom)
 | _, [] => .got [] []
 | 0, s => .bad s
 | n + 1, s => (pFact s).bnd fun x r => (pFacts n r).bnd fun xs r => .got (x :: xs) r
theorem pFacts_nil (n : Nat) : pFacts n [] = .got [] [] := by cases n <;> rfl
theorem pFacts_succ (n : Nat) (b : UInt8) (r : Tx) : pFacts (n + 1) (b :: r) = (pFact (b :: r)).bnd fun x r => (pFacts n r).bnd fun xs r => .got (x :: xs) r := rfl
def faI (s : Tx) (xs : List RAtom) (q : Tx) : Prop := xs.length + q.length ≤ 400 ∧ pFacts 400 s = (pFacts (400 - xs.length) q).bnd fun ys r => .got (xs ++ ys) r
theorem faI.start {s : Tx} (h : s.length ≤ 400) : faI s [] s := by
 refine ⟨by simpa using h, ?_⟩
 simp only [List.length_nil, Nat.sub_zero, List.nil_append]
 cases pFacts 400 s <;> rfl
theorem faI.done {s : Tx} {xs : List RAtom} (h : faI s xs []) : pFacts 400 s = .got xs [] := by
 rw [h.2, pFacts_nil]; simp [Rd.bnd]
theorem faI.fail {s : Tx} {xs : List RAtom} {b : UInt8} {r e : Tx} (h : faI s xs (b :: r)) (he : pFact (b :: r) = .bad e) : pFacts 400 s = .bad e := by
 have := h.1
 simp only [List.length_cons] at this
 obtain ⟨k, hk⟩ : ∃ k, 400 - xs.length = k + 1 := ⟨399 - xs.length, by omega⟩
 rw [h.2, hk, pFacts_succ, he]; rfl
theorem pFact_took {s r : Tx} {a : RAtom} (h : pFact s = .got a r) : s = uAtom a ++ 46 :: r ∧ WAtom a ∧ a.nt = false ∧ setA a = true := by
 unfold pFact at h
 cases hp : pAtom false s with
 | bad e => rw [hp] at h; cases h
 | got a2 r2 =>
  rw [hp] at h
  simp only [Rd.bnd] at h
  split at h
  ·rename_i hs
   cases hb : pByte 46 r2 with
   | bad e => rw [hb] at h; cases h
   | got u r3 =>
    rw [hb] at h
    cases h
    obtain ⟨e1, e2, e3⟩ := pAtom_took hp
    refine ⟨?_, e2, e3, hs⟩
    rw [e1]
    congr 1
    cases r2 with
    | nil => cases hb
    | cons c r4 =>
     unfold pByte at hb
     dsimp only at hb
     split at hb
     ·rename_i hc
      cases hb
      have : c = 46 := by
       have := beq_iff_eq.1 hc
       apply UInt8.toNat_inj.1
       simpa using Int.ofNat.inj this
      rw [this]
     ·cases hb
  ·cases h
theorem keepX_of {σ σ' : St} (k : Keep σ σ') (o : Nat) : KeepX o σ σ' := ⟨k.nobj, fun p hp _ => k.obj p hp, fun p hp _ => k.ver p hp, k.ntop, k.top⟩
theorem RS.keep {t : Tx} {o : Nat} {N : List Tx} {id : Nat} {s : Tx} {σ σ' : St} (h : RS Bd t o N id s σ) (k : Keep σ σ') : RS Bd t o N id s σ' := h.stepX (keepX_of k o) (by rw [k.obj o h.lt]; exact h.obj) h.suf (Nat.le_refl _)
theorem faI.next {s : Tx} {xs : List RAtom} {b : UInt8} {r r2 : Tx} {x : RAtom} (h : faI s xs (b :: r)) (he : pFact (b :: r) = .got x r2) : faI s (xs ++ [x]) r2 := by
 have h1 := h.1
 have h2 := congrArg List.length (pFact_took he).1
 simp only [List.length_cons, List.length_append] at h1 h2
 obtain ⟨k, hk⟩ : ∃ k, 400 - xs.length = k + 1 := ⟨399 - xs.length, by omega⟩
 refine ⟨by simp; omega, ?_⟩
 rw [h.2, hk, pFacts_succ, he, show 400 - (xs ++ [x]).length = k by simp; omega]
 simp only [Rd.bnd]
 cases pFacts k r2 <;> simp
def PF (N : List Tx) (a : RAtom) (c : List AV) : Prop := a.pred ∈ N ∧ ∃ ids, c = [ic (N.idxOf a.pred : Nat), sl ids a.terms.length (tcells a.terms)]
theorem PF_len {N : List Tx} (a : RAtom) (c : List AV) (h : PF N a c) : c.length = 2 := by obtain ⟨-, ids, rfl⟩ := h; rfl
theorem PF.mono {N N' : List Tx} (hN : N <+: N') (a : RAtom) (c : List AV) (h : PF N a c) : PF N' a c := by
 obtain ⟨hm, ids, rfl⟩ := h
 exact ⟨hN.subset hm, ids, by rw [idx_pre hN hm]⟩
theorem PF_at {N : List Tx} : ∀ {l : List RAtom} {c : List AV}, EL (PF N) l c → EL EAt (l.map (atmP N)) c
 | [], _, h => h
 | a :: l, _, ⟨c, r, ⟨hm, ids, e⟩, h, e2⟩ => ⟨c, r, ⟨ids, by rw [e]; simp [atmP, ecells_enc]⟩, PF_at h, e2⟩
set_option maxHeartbeats 32000000 in
theorem readFacts_R {t : Tx} {o : Nat} {N : List Tx} {id : Nat} {σ : St} (ht4 : t.length ≤ 400) (hR : RS Bd t o N id t σ) :
  ACalls Tryz.prog 72 [ptr o 0] σ fun x σ' => ∃ n ids c N' id' r', x = tp [sl ids n c, sc (.bool (pFacts 400 t).ok)] ∧ Rs o σ id σ' id' ∧ RS Bd t o N' id' r' σ' ∧ N <+: N' ∧ Rd.Val (pFacts 400 t) fun xs => n = xs.length ∧ EL (PF N') xs c := by
 have ht : t.length ≤ 1000 := by omega
 have hn := hR.lt
 have hRN : OwnN σ id N.length := hR.own
 refine acalls 39 [.tmp 2, .tmp 3] Tryz.func72 rfl (by decide) rfl rfl (Nat.le_of_ble_eq_true rfl) ?_
 repeat' (first
 |with_reducible first|apply Xa|apply Xb|(refine Xc ?_;intro κ hκ)|(apply hκ.out;clear hκ κ)|apply Xd|apply Xe|apply Xf
 |((with_reducible first|refine Xl ?_ ?_|refine Xm ?_ ?_|refine Xk ?_ ?_)<;> intro h hari<;> try exact Xp)
 |((with_reducible refine aapp_go ?_);refine Xt ?_;intro idn σn hOn hKn eobj enobj ever entop)
 |((with_reducible refine aappn_go ?_);refine Xu ?_)
 |refine Xr ?_
 |exact True.intro
 |((with_reducible refine Xg ?_);refine Xj ?_)
 |(apply hκ.out;clear hκ κ))
 refine awp_loop (fun m s' σ' => ∃ (xs : List RAtom) (q : Tx) (ids : Nat) (d : List AV) (N2 : List Tx) (id2 : Nat), m = 400 - xs.length ∧ s' 0 = ptr o 0 ∧ s' 4 = sl ids xs.length d ∧ Rs o σ id σ' id2 ∧ RS Bd t o N2 id2 q σ' ∧ Own σ σ' ids xs.length ∧ Abs.Hid (id2 = 1 ∨ id2 ≠ ids) ∧ N <+: N2 ∧ d.length = xs.length * 2 ∧ Abs.Hid (EL (PF N2) xs d) ∧ Abs.Hid (faI t xs q)) 400
  ⟨[], t, 1, [], N, id, rfl, rfl, rfl, Rs.refl _ _ _, hR, Own.nil _ _, by rcases hRN with ⟨e, -⟩ | ⟨k, e, -⟩; exact .inl e; exact .inr (by omega), List.prefix_refl _, by simp, rfl, faI.start ht4⟩ ?_
 rintro m s' σ' ⟨xs, q, ids, d, N2, id2, rfl, h0, h4, hS, hR2, hO, hap, hP2, hdl, hE, hI⟩
 have kno := hS.keep.nobj
 have hn' := hR2.lt
 have hob := hR2.obj
 have hql := suff_len hR2.suf
 have hxq := hI.out.1
 unfold rdS rdr at hob
 repeat' (first
 |with_reducible first|apply Xa|apply Xb|(refine Xc ?_;intro κ hκ)|(apply hκ.out;clear hκ κ)|apply Xd|apply Xe|apply Xf
 |((with_reducible first|refine Xl ?_ ?_|refine Xm ?_ ?_|refine Xk ?_ ?_)<;> intro h hari<;> try exact Xp)
 |((with_reducible refine aapp_go ?_);refine Xt ?_;intro idn σn hOn hKn eobj enobj ever entop)
 |((with_reducible refine aappn_go ?_);refine Xu ?_)
 |refine Xr ?_
 |exact True.intro
 |((with_reducible refine Xg ?_);refine Xj ?_)
 |(apply hκ.out;clear hκ κ))
 refine awp_draw_k follows_mixed (fun _ => True) [9] [0, 1, 2, 3, 4, 5, 6, 7, 8] [9] (by kernel_rfl) (fun _ _ _ h => h) ?_
 intro κ hκ
 cases q with
 | nil =>
  simp only [List.length_nil, Nat.sub_zero] at hob hql
  refine Xr ?_
  repeat' (first
 |with_reducible first|apply Xa|apply Xb|(refine Xc ?_;intro κ hκ)|(apply hκ.out;clear hκ κ)|apply Xd|apply Xe|apply Xf
 |((with_reducible first|refine Xl ?_ ?_|refine Xm ?_ ?_|refine Xk ?_ ?_)<;> intro h hari<;> try exact Xp)
 |((with_reducible refine aapp_go ?_);refine Xt ?_;intro idn σn hOn hKn eobj enobj ever entop)
 |((with_reducible refine aappn_go ?_);refine Xu ?_)
 |refine Xr ?_
 |exact True.intro
 |((with_reducible refine Xg ?_);refine Xj ?_)
 |(apply hκ.out;clear hκ κ))
  have hp := hI.out.done
  first
  | exact ⟨_, rfl, _, ids, d, N2, id2, [], by rw [hp]; rfl, hS, hR2, hP2, by rw [hp]; exact ⟨rfl, hE.out⟩⟩
  | exact ⟨_, rfl, _, ids, d, N2, id2, [], by rw [hp]; rfl, hR2, hP2, by rw [hp]; exact ⟨rfl, hE.out⟩⟩
 | cons b0 r0 =>
  simp only [List.length_cons] at hob hql hxq
  have hRd := readAtom_R (Bd := Bd) false ht hR2
  have HFA : Abs.Hid (∀ e, pFact (b0 :: r0) = .bad e → pFacts 400 t = .bad e) := fun e he => hI.out.fail he
  cases hp : pAtom false (b0 :: r0) with
  | bad e =>
   rw [hp] at hRd
   have HF : Abs.Hid (pFacts 400 t = .bad e) := HFA.out e (by unfold pFact; rw [hp]; rfl)
   clear hp HFA
   simp only [Rd.ok, Rd.rest, Rd.Val] at hRd
   refine Xr ?_
   repeat' (first
 |with_reducible first|apply Xa|apply Xb|(refine Xc ?_;intro κ hκ)|(apply hκ.out;clear hκ κ)|apply Xd|apply Xe|apply Xf
 |((with_reducible first|refine Xl ?_ ?_|refine Xm ?_ ?_|refine Xk ?_ ?_)<;> intro h hari<;> try exact Xp)
 |((with_reducible refine aapp_go ?_);refine Xt ?_;intro idn σn hOn hKn eobj enobj ever entop)
 |((with_reducible refine aappn_go ?_);refine Xu ?_)
 |((with_reducible refine Xh ?_);refine Xi (hRd) ?_;rintro _ _ ⟨k,n,ids2,c,N3,id3,rfl,hSr,hRr,hPr,-⟩;(have kno2:=hSr.keep.nobj))
 |refine Xr ?_
 |exact True.intro
 |((with_reducible refine Xg ?_);refine Xj ?_)
 |(apply hκ.out;clear hκ κ))
   rename_i σ3
   refine ⟨_, rfl, 0, 1, [], N3, id3, e, by rw [HF.out]; rfl, by repeat (first | exact Rs.refl _ _ _ | (with_reducible assumption) | (with_reducible apply Rs.put; rotate_left; (first | omega | (simp only [new_nobj, put_nobj, lay_nobj, lay_obj] at *; omega))) | (with_reducible apply Rs.new) | (with_reducible apply Rs.lay) | (refine Rs.trans ?_ (by with_reducible assumption)) | (refine Rs.transX ?_ (by with_reducible assumption))), ?_, hP2.trans hPr, by rw [HF.out]; trivial⟩
   repeat (first | (with_reducible assumption) | (with_reducible apply RS.put; rotate_left; (first | omega | (simp only [new_nobj, put_nobj, lay_nobj, lay_obj] at *; omega))) | (with_reducible apply RS.new) | (with_reducible apply RS.lay) | assumption)
  | got a r2 =>
   rw [hp] at hRd
   simp only [Rd.ok, Rd.rest, Rd.Val] at hRd
   have hSe := fun (k : Int) (ids2 : Nat) (σ : St) => esettled_spec k ids2 (a.terms.map encT) (by have := (pAtom_took hp).2.1.2.2.1; simp; omega) σ
   rw [ecells_enc, List.length_map] at hSe
   have HP : Abs.Hid (pFact (b0 :: r0) = if setA a = true then (pByte 46 r2).bnd fun _ r => .got a r else .bad r2) := by rw [Abs.Hid, pFact, hp]; rfl
   rw [show setl (a.terms.map encT) = setA a from rfl] at hSe
   clear hp
   cases hs : setA a with
   | false =>
    have HF : Abs.Hid (pFacts 400 t = .bad r2) := HFA.out r2 (by rw [HP.out, hs]; rfl)
    rw [hs] at hSe
    clear hs HP HFA
    refine Xr ?_
    repeat' (first
 |with_reducible first|apply Xa|apply Xb|(refine Xc ?_;intro κ hκ)|(apply hκ.out;clear hκ κ)|apply Xd|apply Xe|apply Xf
 |((with_reducible first|refine Xl ?_ ?_|refine Xm ?_ ?_|refine Xk ?_ ?_)<;> intro h hari<;> try exact Xp)
 |((with_reducible refine aapp_go ?_);refine Xt ?_;intro idn σn hOn hKn eobj enobj ever entop)
 |((with_reducible refine aappn_go ?_);refine Xu ?_)
 |((with_reducible refine Xh ?_);first|(refine Xi (hRd) ?_;rintro _ _ ⟨k,n,ids2,c,N3,id3,rfl,hSr,hRr,hPr,⟨m1,rfl,rfl,rfl⟩⟩;(have kno2:=hSr.keep.nobj))|(refine Xi (hSe _ _ _) ?_;rintro _ _ ⟨rfl,hK5⟩))
 |refine Xr ?_
 |exact True.intro
 |((with_reducible refine Xg ?_);refine Xj ?_)
 |(apply hκ.out;clear hκ κ))
    rename_i σ3 σ5
    have hSx : Rs o σ id ((σ3.new [ic 0, nilS]).put σ3.nobj [ic (N3.idxOf a.pred : Nat), sl ids2 a.terms.length (tcells a.terms)]) id3 := by repeat (first | exact Rs.refl _ _ _ | (with_reducible assumption) | (with_reducible apply Rs.put; rotate_left; (first | omega | (simp only [new_nobj, put_nobj, lay_nobj, lay_obj] at *; omega))) | (with_reducible apply Rs.new) | (with_reducible apply Rs.lay) | (refine Rs.trans ?_ (by with_reducible assumption)) | (refine Rs.transX ?_ (by with_reducible assumption)))
    have hRx : RS Bd t o N3 id3 r2 ((σ3.new [ic 0, nilS]).put σ3.nobj [ic (N3.idxOf a.pred : Nat), sl ids2 a.terms.length (tcells a.terms)]) := by repeat (first | (with_reducible assumption) | (with_reducible apply RS.put; rotate_left; (first | omega | (simp only [new_nobj, put_nobj, lay_nobj, lay_obj] at *; omega))) | (with_reducible apply RS.new) | (with_reducible apply RS.lay) | assumption)
    exact ⟨_, rfl, 0, 1, [], N3, id3, r2, by rw [HF.out]; rfl, hSx.transX (keepX_of hK5 o), hRx.keep hK5, hP2.trans hPr, by rw [HF.out]; trivial⟩
   | true =>
    rw [hs] at hSe
    have hTk := fun (N3 : List Tx) (id3 : Nat) (σ1 : St) (h : RS Bd t o N3 id3 r2 σ1) => take_R (c := 46) ht h
    cases hb : (pByte 46 r2) with
    | bad e =>
     have HF : Abs.Hid (pFacts 400 t = .bad e) := HFA.out e (by rw [HP.out, hs, hb]; rfl)
     rw [hb] at hTk
     simp only [Rd.ok, Rd.rest] at hTk
     clear hs HP HFA hb
     refine Xr ?_
     repeat' (first
 |with_reducible first|apply Xa|apply Xb|(refine Xc ?_;intro κ hκ)|(apply hκ.out;clear hκ κ)|apply Xd|apply Xe|apply Xf
 |((with_reducible first|refine Xl ?_ ?_|refine Xm ?_ ?_|refine Xk ?_ ?_)<;> intro h hari<;> try exact Xp)
 |((with_reducible refine aapp_go ?_);refine Xt ?_;intro idn σn hOn hKn eobj enobj ever entop)
 |((with_reducible refine aappn_go ?_);refine Xu ?_)
 |((with_reducible refine Xh ?_);first|(refine Xi (hRd) ?_;rintro _ _ ⟨k,n,ids2,c,N3,id3,rfl,hSr,hRr,hPr,⟨m1,rfl,rfl,rfl⟩⟩;(have kno2:=hSr.keep.nobj;rename_i σ3;have hSx : Rs o σ id ((σ3.new [ic 0,nilS]).put σ3.nobj [ic (N3.idxOf a.pred : Nat),sl ids2 a.terms.length (tcells a.terms)]) id3:=(by repeat (first | exact Rs.refl _ _ _ | (with_reducible assumption) | (with_reducible apply Rs.put; rotate_left; (first | omega | (simp only [new_nobj, put_nobj, lay_nobj, lay_obj] at *; omega))) | (with_reducible apply Rs.new) | (with_reducible apply Rs.lay) | (refine Rs.trans ?_ (by with_reducible assumption)) | (refine Rs.transX ?_ (by with_reducible assumption))));have hRx : RS Bd t o N3 id3 r2 ((σ3.new [ic 0,nilS]).put σ3.nobj [ic (N3.idxOf a.pred : Nat),sl ids2 a.terms.length (tcells a.terms)]):=(by repeat (first | (with_reducible assumption) | (with_reducible apply RS.put; rotate_left; (first | omega | (simp only [new_nobj, put_nobj, lay_nobj, lay_obj] at *; omega))) | (with_reducible apply RS.new) | (with_reducible apply RS.lay) | assumption))))|(refine Xi (hSe _ _ _) ?_;rintro _ _ ⟨rfl,hK5⟩;(have hSy:=hSx.transX (keepX_of hK5 o);have hRy:=hRx.keep hK5))|(refine Xi (hTk N3 id3 _ hRy) ?_;rintro _ _ ⟨rfl,hKt,hRt⟩))
 |refine Xr ?_
 |exact True.intro
 |((with_reducible refine Xg ?_);refine Xj ?_)
 |(apply hκ.out;clear hκ κ))
     exact ⟨_, rfl, 0, 1, [], N3, id3, e, by rw [HF.out]; rfl, hSy.transX hKt, hRt, hP2.trans hPr, by rw [HF.out]; trivial⟩
    | got u r3 =>
     have HF : Abs.Hid (faI t (xs ++ [a]) r3) := hI.out.next (by rw [HP.out, hs, hb]; rfl)
     rw [hb] at hTk
     simp only [Rd.ok, Rd.rest] at hTk
     clear hs HP HFA hb
     refine Xr ?_
     repeat' (first
 |with_reducible first|apply Xa|apply Xb|(refine Xc ?_;intro κ hκ)|(apply hκ.out;clear hκ κ)|apply Xd|apply Xe|apply Xf
 |((with_reducible first|refine Xl ?_ ?_|refine Xm ?_ ?_|refine Xk ?_ ?_)<;> intro h hari<;> try exact Xp)
 |((with_reducible refine aapp_go ?_);refine Xt ?_;intro idn σn hOn hKn eobj enobj ever entop)
 |((with_reducible refine aappn_go ?_);refine Xu ?_)
 |((with_reducible refine Xh ?_);first|(refine Xi (hRd) ?_;rintro _ _ ⟨k,n,ids2,c,N3,id3,rfl,hSr,hRr,hPr,⟨m1,rfl,rfl,rfl⟩⟩;(have kno2:=hSr.keep.nobj;rename_i σ3;have hSx : Rs o σ id ((σ3.new [ic 0,nilS]).put σ3.nobj [ic (N3.idxOf a.pred : Nat),sl ids2 a.terms.length (tcells a.terms)]) id3:=(by repeat (first | exact Rs.refl _ _ _ | (with_reducible assumption) | (with_reducible apply Rs.put; rotate_left; (first | omega | (simp only [new_nobj, put_nobj, lay_nobj, lay_obj] at *; omega))) | (with_reducible apply Rs.new) | (with_reducible apply Rs.lay) | (refine Rs.trans ?_ (by with_reducible assumption)) | (refine Rs.transX ?_ (by with_reducible assumption))));have hRx : RS Bd t o N3 id3 r2 ((σ3.new [ic 0,nilS]).put σ3.nobj [ic (N3.idxOf a.pred : Nat),sl ids2 a.terms.length (tcells a.terms)]):=(by repeat (first | (with_reducible assumption) | (with_reducible apply RS.put; rotate_left; (first | omega | (simp only [new_nobj, put_nobj, lay_nobj, lay_obj] at *; omega))) | (with_reducible apply RS.new) | (with_reducible apply RS.lay) | assumption))))|(refine Xi (hSe _ _ _) ?_;rintro _ _ ⟨rfl,hK5⟩;(have hSy:=hSx.transX (keepX_of hK5 o);have hRy:=hRx.keep hK5))|(refine Xi (hTk N3 id3 _ hRy) ?_;rintro _ _ ⟨rfl,hKt,hRt⟩))
 |refine Xr ?_
 |exact True.intro
 |((with_reducible refine Xg ?_);refine Xj ?_)
 |(apply hκ.out;clear hκ κ))
     rename_i σ5 σ6
     have hO3 := Own.keepR hO hSr.keep (apart_flip hap.out hO)
     have hOx : Own σ ((σ3.new [ic 0, nilS]).put σ3.nobj [ic (N3.idxOf a.pred : Nat), sl ids2 a.terms.length (tcells a.terms)]) ids xs.length := Own.put (Own.new hO3 _) _ _
     have hOy := Own.keepX (Own.keep hOx hK5) hKt
     have hSz := hSy.transX hKt
     have hapx : id3 = 1 ∨ id3 ≠ ids := apart_step2 hap.out hO hSr.nid
     have kn5 := hK5.nobj
     simp only [put_nobj, new_nobj] at kn5
     have hlo := hn'
     have o6 : σ6.obj σ3.nobj = [ic (N3.idxOf a.pred : Nat), sl ids2 a.terms.length (tcells a.terms)] := by rw [hKt.obj _ (by omega) (by omega), hK5.obj _ (by simp only [put_nobj, new_nobj]; omega), put_same]
     have hC : PF N3 a [ic (N3.idxOf a.pred : Nat), sl ids2 a.terms.length (tcells a.terms)] := ⟨m1, ids2, rfl⟩
     repeat' (first
 |with_reducible first|apply Xa|apply Xb|(refine Xc ?_;intro κ hκ)|(apply hκ.out;clear hκ κ)|apply Xd|apply Xe|apply Xf
 |((with_reducible first|refine Xl ?_ ?_|refine Xm ?_ ?_|refine Xk ?_ ?_)<;> intro h hari<;> try exact Xp)
 |((with_reducible refine aapp_go ?_);refine Xt ?_;intro idn σn hOn hKn eobj enobj ever entop)
 |((with_reducible refine aappn_go ?_);refine Xu ?_)
 |refine Xr ?_
 |exact True.intro
 |((with_reducible refine Xg ?_);refine Xj ?_)
 |(apply hκ.out;clear hκ κ))
     refine aApp_ownR (o := o) (idn := id) (σ0 := σ) (by first | exact tez_69) hSz.keep hOy (by decide) (by rfl) hdl (by rfl) (by rfl) (by decide) (by omega) (by omega) ?_
     intro idn σn hOn hKn eobj enobj ever entop etop hid
     refine Xr ?_
     repeat' (first
 |with_reducible first|apply Xa|apply Xb|(refine Xc ?_;intro κ hκ)|(apply hκ.out;clear hκ κ)|apply Xd|apply Xe|apply Xf
 |((with_reducible first|refine Xl ?_ ?_|refine Xm ?_ ?_|refine Xk ?_ ?_)<;> intro h hari<;> try exact Xp)
 |((with_reducible refine aapp_go ?_);refine Xt ?_;intro idn σn hOn hKn eobj enobj ever entop)
 |((with_reducible refine aappn_go ?_);refine Xu ?_)
 |refine Xr ?_
 |exact True.intro
 |((with_reducible refine Xg ?_);refine Xj ?_)
 |(apply hκ.out;clear hκ κ))
     refine ⟨400 - (xs ++ [a]).length, by simp; omega, xs ++ [a], r3, idn, d ++ [ic (N3.idxOf a.pred : Nat), sl ids2 a.terms.length (tcells a.terms)], N3, id3, rfl, by simp, ⟨hKn, hSz.nid⟩, hRt.app eobj enobj entop etop hapx, by simpa using hOn, apart_app hRt.own hapx hid, hP2.trans hPr, by simp; omega, EL.append (hE.out.mono (PF.mono hPr)) (EL.single hC), HF⟩
end Go.Proofs.YtmoeoppbmhfbpaaGreatDoorB
