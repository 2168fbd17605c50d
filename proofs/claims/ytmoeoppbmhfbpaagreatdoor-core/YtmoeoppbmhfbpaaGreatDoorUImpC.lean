import Derived.Test.YtmoeoppbmhfbpaaGreatDoorUImpA
import Derived.Test.YtmoeoppbmhfbpaaGreatDoorUProgL
import Derived.Test.YtmoeoppbmhfbpaaGreatDoorUFolB
/- The program's Implied: rules of a book, the least set. -/
namespace Go.Proofs.YtmoeoppbmhfbpaaGreatDoorU
open Go.Abs
set_option linter.unusedSimpArgs false
set_option linter.unusedVariables false
set_option maxRecDepth 100000
def atmP (N : List Tx) (a : RAtom) : Atm := ⟨(N.idxOf a.pred : Nat), a.terms.map encT⟩
def litP (N : List Tx) (a : RAtom) : Lit := ⟨a.nt, atmP N a⟩
def rulP (N : List Tx) (x : RItem) : Rul := ⟨atmP N x.head, x.body.map (litP N)⟩
theorem ecells_enc (ts : List Tx) : ecells (ts.map encT) = tcells ts := by
 unfold ecells tcells
 rw [List.flatMap_map]
 rfl
theorem EL_lit {N : List Tx} : ∀ {l : List RAtom} {b : List AV}, EL (PL N) l b → EL ELt (l.map (litP N)) b
 | [], b, h => h
 | a :: l, b, h => by
  obtain ⟨c1, c2, ⟨-, ids, rfl⟩, h2, rfl⟩ := h
  exact ⟨_, c2, ⟨ids, by simp [litP, atmP, ecells_enc]⟩, EL_lit h2, rfl⟩
theorem PI_rul {N : List Tx} {x : RItem} {c : List AV} (h : PI N x c) : ERu (rulP N x) c := by
 obtain ⟨hm, ih, id, b, hb, rfl⟩ := h
 exact ⟨x.out, ih, id, b, by simp [rulP, atmP, ecells_enc], EL_lit hb⟩
def LstF (R : List Rul) (F : List Atm) : Dset := fun k t => ∀ D : Dset, ClD R D → (∀ a ∈ F, D a.p.toNat (tupA a)) → D k t
theorem LstF.cl (R : List Rul) (F : List Atm) : ClD R (LstF R F) := fun r hr ν h D hD hF => hD r hr ν (fun l hl => h l hl D hD hF)
theorem LstF.fact {R : List Rul} {F : List Atm} {a : Atm} (h : a ∈ F) : LstF R F a.p.toNat (tupA a) := fun D _ hF => hF a h
theorem valN_sh {ar : Nat → Nat} {a : Atm} {ν : Nu} {k : Nat} (h3 : a.ts.length ≤ 3) (har : a.ts.length = ar k) (h : Sh ar k (esub a ν)) : ∀ t ∈ a.ts, ∃ n : Nat, valN ν t = (n : Int) ∧ n < 1026 := by
 obtain ⟨l, e, hl, hx⟩ := h
 intro t ht
 obtain ⟨i, hi⟩ := List.getElem?_of_mem ht
 have hil := (List.getElem?_eq_some_iff.1 hi).1
 have h2 : (a.ts.map (valN ν))[i]? = some (valN ν t) := by rw [List.getElem?_map, hi]; rfl
 have hli : i < l.length := by omega
 have h4 : l[i]? = some l[i] := List.getElem?_eq_getElem hli
 have h5 : valN ν t = l[i] := by
  unfold esub tupOf at e
  simp only [List.cons.injEq, and_true] at e
  obtain ⟨e0, e1, e2⟩ := e
  have : i = 0 ∨ i = 1 ∨ i = 2 := by omega
  rcases this with rfl | rfl | rfl
  ·rw [h2, h4] at e0; exact e0
  ·rw [h2, h4] at e1; exact e1
  ·rw [h2, h4] at e2; exact e2
 rw [h5]
 exact hx _ (List.getElem_mem hli)
theorem sh_cl {np : Nat} {ar : Nat → Nat} {R : List Rul} (h : ∀ r ∈ R, RW np ar r) : ClD R (Sh ar) := fun r hr ν hb => by
 have hw := h r hr
 refine ⟨r.head.ts.map (valN ν), rfl, by rw [List.length_map]; exact hw.har, fun x hx => ?_⟩
 obtain ⟨t, ht, rfl⟩ := List.mem_map.1 hx
 obtain ⟨tv, tn⟩ := t
 cases tv with
 | false => exact hw.hc _ ht rfl
 | true =>
  obtain ⟨l, hl, hv⟩ := hw.safe tn (by rw [hasV_iff]; exact ht)
  exact valN_sh (hw.rok.ba l hl) (hw.bar l hl) (hb l hl) _ (hasV_iff.1 hv)
def PImp (R : List Rul) (F : List Atm) (k : Nat) (h : Tup) (b : Bool) : Prop :=
 ∃ M : MM, (∀ x ∈ M, x.2.Nodup) ∧ (∀ j t, MD M j t → LstF R F j t) ∧ (if tot M ≤ 200 then (∀ j t, LstF R F j t → MD M j t) ∧ (b = true ↔ MD M k h) else b = false)
theorem GroA.nodup {D : Dset} {M M' : MM} {d d' : Int} (h : GroA D M M' d d') (hn : ∀ x ∈ M, x.2.Nodup) : ∀ x ∈ M', x.2.Nodup := fun x hx => by
 obtain ⟨k, hk⟩ := List.getElem?_of_mem hx
 obtain ⟨nw, e, h1, h2⟩ := h.ext k
 rw [tupsOf_get hk] at e
 have hkl : k < M.length := by rw [← h.len]; exact (List.getElem?_eq_some_iff.1 hk).1
 have hg : M[k]? = some M[k] := List.getElem?_eq_getElem hkl
 rw [tupsOf_get hg] at e
 rw [e, List.nodup_append]
 refine ⟨hn _ (List.getElem_mem hkl), h1, fun a ha b hb e2 => ?_⟩
 have := (h2 b hb).2
 rw [tupsOf_get hg] at this
 exact this (e2 ▸ ha)
theorem pimp_of {R : List Rul} {F : List Atm} {np : Nat} {M M' : MM} {d' : Int} {k : Nat} {h : Tup} {b : Bool} (hM : MkM np F M) (hFk : ∀ a ∈ F, ∃ k : Nat, a.p = (k : Int)) (hG : GroA (LstF R F) M M' 0 d') (hc : ¬ (200 - tot M) < d' → ClD R (MD M')) (hb : if d' ≤ 200 - tot M then (b = true ↔ MD M' k h) else b = false) : PImp R F k h b := by
 refine ⟨M', hG.nodup hM.nd, fun j t hj => ?_, ?_⟩
 ·refine hG.inD (fun j t hj => ?_) j t hj
  obtain ⟨a, ha, e1, e2⟩ := (hM.mem j t).1 hj
  have := LstF.fact (R := R) ha
  rw [e1, Int.toNat_natCast] at this
  rw [e2]; exact this
 ·have hct := hG.cnt
  by_cases h2 : tot M' ≤ 200
  ·rw [if_pos h2]
   rw [if_pos (by omega)] at hb
   refine ⟨fun j t hl => hl (MD M') (hc (by omega)) (fun a ha => ?_), hb⟩
   obtain ⟨k', hk'⟩ := hFk a ha
   refine hG.sub ?_
   rw [hk', Int.toNat_natCast]
   exact (hM.mem k' _).2 ⟨a, ha, hk', rfl⟩
  ·rw [if_neg h2]
   rw [if_neg (by omega)] at hb
   exact hb
/- The program's Implied: of a book. -/
theorem Keep.km2 {σ0 σ σ' : St} {om ot : Nat} {M M' : MM} (hK : Keep σ0 σ) (h : KM om ot M M' σ σ') (hm : σ0.nobj ≤ om) (ht : σ0.nobj ≤ ot) (hM : ∀ x ∈ M, x.1 = 1 ∨ σ0.ntop + 2 ≤ x.1) : Keep σ0 σ' :=
 ⟨Nat.le_trans hK.nobj h.nobj, fun o ho => (h.obj o (Nat.lt_of_lt_of_le ho hK.nobj) (by omega) (by omega)).trans (hK.obj o ho), fun o ho => (h.ver o (Nat.lt_of_lt_of_le ho hK.nobj) (by omega) (by omega)).trans (hK.ver o ho), Nat.le_trans hK.ntop h.ntop, fun k hk => (h.top k (Nat.lt_of_lt_of_le hk hK.ntop) (fun x hx e => by rcases hM x hx with h' | h' <;> omega)).trans (hK.top k hk)⟩
theorem tot_nn : ∀ M : MM, 0 ≤ tot M
 | [] => Int.le_refl _
 | y :: M => by rw [tot_cons]; have := tot_nn M; omega
theorem tot_row : ∀ (M : MM) (k : Nat) (x : Nat × List Tup), M[k]? = some x → (x.2.length : Int) ≤ tot M
 | [], k, x, h => by simp at h
 | y :: M, k, x, h => by
  rw [tot_cons]
  have hp := tot_nn M
  cases k with
  | zero => simp at h; subst h; omega
  | succ k => have := tot_row M k x (by simpa using h); omega
def afP (N : List Tx) (x : RItem) : Rul := affR (N.length : Int) (rulP N x)
def fctP (N : List Tx) (x : RItem) : List Atm := (afP N x).body.map fun l => frzA l.a
structure BkI (N : List Tx) (l : List RItem) (ar : Nat → Nat) : Prop where
 b5 : ∀ y ∈ l, y.body.length ≤ 5
 rw' : ∀ y ∈ l, y.out = false → RW (2 * N.length) ar (afP N y)
 sm : ∀ y ∈ l, y.out = false → Sml (afP N y).head.ts ∧ ∀ k ∈ (afP N y).body, Sml k.a.ts
 sh : ∀ y ∈ l, y.out = false → ∀ a ∈ fctP N y, Sh ar a.p.toNat (tupA a)
theorem idx_le (N : List Tx) (p : Tx) : N.idxOf p ≤ N.length := List.idxOf_le_length
set_option maxHeartbeats 64000000 in
theorem pimplied_spec (N : List Tx) (l : List RItem) (cs : List AV) (idn idi n : Nat) (ar : Nat → Nat) (x : RItem) (hB : Bk N l cs) (hI : BkI N l ar) (hx : l[n]? = some x) (hxo : x.out = false) (σ : St) :
  ACalls Tryz.prog 67 [bookA N idn l idi cs, ic n] σ fun r σ' => ∃ b, r = sc (.bool b) ∧ PImp ((oth l n l.length).map (afP N)) (fctP N x) (afP N x).head.p.toNat (tupA (frzA (afP N x).head)) b ∧ Keep σ σ' := by
 have hcl := EL.length PI_len hB.el
 have hl16 := hB.len
 have hN5 := hB.nm
 have hE := hB.el
 have hnl := (List.getElem?_eq_some_iff.1 hx).1
 have hxm := List.mem_of_getElem? hx
 obtain ⟨hm, ih, id, b, rr, hb, hd⟩ := EL_PI hE hx
 have hAf : ∀ y c, y ∈ l → PI N y c → ∀ σ, ACalls Tryz.prog 113 [ag c, ic N.length] σ fun r σ' => (∃ c', r = ag c' ∧ ERu (afP N y) c') ∧ Keep σ σ' := fun y c hy hc σ =>
  eaffirmed_spec (rulP N y) c N.length (PI_rul hc) (by simp only [rulP, List.length_map]; have := hI.b5 y hy; omega) (fun k hk => by
   obtain ⟨a, -, rfl⟩ := List.mem_map.1 hk
   have := idx_le N a.pred
   simp only [litP, atmP]
   omega) (by omega) (by omega) σ
 have hAx := fun σ => hAf x _ hxm (PI.of (ih := ih) (id := id) hm hb) σ
 simp only [hxo] at hAx
 have hRW := hI.rw' x hxm hxo
 have hbl : (afP N x).body.length = x.body.length := by simp [afP, affR, rulP]
 have hbx := hI.b5 x hxm
 have hFb := fun c (hc : ERu (afP N x) c) σ => efrozenBody_spec (afP N x) c hc (by omega) (fun k hk => ⟨hRW.rok.ba k hk, (hI.sm x hxm hxo).2 k hk⟩) σ
 have hfl : (fctP N x).length = (afP N x).body.length := by simp [fctP]
 have hfa : ∀ a ∈ fctP N x, a.ts.length ≤ 3 ∧ ∃ k : Nat, a.p = (k : Int) ∧ k < 2 * N.length := fun a ha => by
  obtain ⟨k, hk, rfl⟩ := List.mem_map.1 ha
  exact ⟨by simp only [frzA, List.length_map]; exact hRW.rok.ba k hk, hRW.rok.bp k hk⟩
 have hNm := fun cs' idf (hF : EL EAt (fctP N x) cs') σ => enewModel_spec (2 * N.length) (fctP N x) cs' idf 200 hF (by omega) (by omega) hfa σ
 rw [hfl] at hNm
 have hmul : (2 : Int) * (N.length : Int) = ((2 * N.length : Nat) : Int) := by omega
 have hnc : (n : Int) < (l.length : Int) := by omega
 generalize hRX : afP N x = RX at hAx hFb hNm hbl hfl hfa hRW
 generalize hFX : fctP N x = FX at hNm hfl hfa
 have HRX : Abs.Hid _ := hRX
 have HFX : Abs.Hid _ := hFX
 have hbl2 : RX.body.length ≤ 5 := by omega
 have hF5 : FX.length ≤ 5 := by omega
 clear hRX hFX hbl hfl
 unfold bookA
 refine acalls 66 [.tmp 4] Tryz.func67 rfl (by decide) rfl rfl (Nat.le_of_ble_eq_true rfl) ?_
 repeat' (first
 |with_reducible first|apply Xa|apply Xb|(refine Xc ?_;intro κ hκ)|(apply hκ.out;clear hκ κ)|apply Xd|apply Xe|apply Xf
 |((with_reducible first|refine Xl ?_ ?_|refine Xm ?_ ?_|refine Xk ?_ ?_)<;> intro h hari<;> try exact Xp)
 |((with_reducible refine aapp_go ?_);refine Xt ?_;intro idn σn hOn hKn eobj enobj ever entop)
 |((with_reducible refine aappn_go ?_);refine Xu ?_)
 |((with_reducible refine Xh ?_);first|(refine Xi (hAx _) ?_;rintro _ _ ⟨⟨_,rfl,hER⟩,hK1⟩;(have hER0:=hER;obtain ⟨ro,rih,rib,rbc,rfl,hRb⟩:=hER;have hFb2:=hFb _ hER0;have kno1:=hK1.nobj;simp only [new_nobj] at kno1))|(refine Xi (hFb2 _) ?_;rintro _ _ ⟨⟨idf,fc,rfl,hFE⟩,hK2⟩;(have hFE2 : EL EAt FX fc:=(by rw [← HFX.out];unfold fctP;rw [HRX.out];exact hFE);have hNm2:=hNm fc idf hFE2;have kno2:=hK2.nobj;simp only [put_nobj,new_nobj] at kno2))|(refine Xi (hNm2 _) ?_;rintro _ _ ⟨ot,M,rfl,hMk,hK3,hot,hMP,hMid⟩;(have kno3:=hK3.nobj)))
 |refine Xr ?_
 |exact True.intro
 |((with_reducible refine Xg ?_);refine Xj ?_)
 |(apply hκ.out;clear hκ κ))
 rename_i σ1 σ2 σ3
 obtain ⟨σ4, hσ4⟩ : ∃ τ, τ = ((σ3.new [nilS, ic 0, ic 0]).put σ3.nobj [fx ot 0 (2 * N.length), ic 0, ic 200]) := ⟨_, rfl⟩
 rw [← hσ4]
 have hKa : Keep σ σ1 := ((Keep.refl σ).new _).trans hK1
 have hKb : Keep σ σ2 := ((hKa.new _).put (by omega) _).trans hK2
 have hKc : Keep σ σ3 := hKb.trans hK3
 have hK34 : Keep σ3 σ4 := by rw [hσ4]; exact ((Keep.refl σ3).new _).put (Nat.le_refl _) _
 have hK4 : Keep σ σ4 := hKc.trans hK34
 have n4 : σ4.nobj = σ3.nobj + 1 := by rw [hσ4]; rfl
 have hML := hMk.len
 have ob6 : σ4.obj σ1.nobj = [sc (.bool ro), ic RX.head.p, sl rih RX.head.ts.length (ecells RX.head.ts), sl rib RX.body.length rbc] := by rw [hK34.obj _ (by omega), hK3.obj _ (by omega), hK2.obj _ (by simp only [put_nobj, new_nobj]; omega), put_same]
 have obk : σ4.obj σ.nobj = [sl idn N.length (N.map str), sl idi l.length cs] := by rw [hK34.obj _ (by omega), hK3.obj _ (by omega), hK2.obj _ (by simp only [put_nobj, new_nobj]; omega), put_ne (by omega), new_lt (by omega), hK1.obj _ (by simp only [new_nobj]; omega), new_same]
 have hotl := hMP.lt
 have hM4 : MOb σ4 σ3.nobj ot M 0 200 := (hMP.keep hK34).mob (by rw [hσ4, put_same, hML]) (by omega) (by omega)
 have hMd : ∀ y ∈ M, y.1 = 1 ∨ σ.ntop + 2 ≤ y.1 := fun y hy => by have := hKb.ntop; rcases hMid y hy with h | h <;> omega
 have ht0 := tot_nn M
 have ht1 : tot M ≤ 5 := by have := hMk.tot; omega
 have hCo := ecounts_spec σ3.nobj ot M 0 200 σ4 hM4
 have hT1 := fun (id : Nat) σ => etotal_spec (cnts M) id (by rw [cnts_len]; omega) (fun n hn => by have := cnts_mem hM4 n hn; omega) σ
 rw [show (cnts M).sum = tot M from rfl] at hT1
 rw [cnts_len, hML] at hT1
 have hob7 := hM4.ob
 have HMK : Abs.Hid _ := hMk
 have HM4 : Abs.Hid _ := hM4
 clear hσ4 hK1 hK2 hK3 hKa hKb hKc hMP hMid hMk hM4 hFE hFE2 hNm2 hNm hFb hFb2 hAx hER0
 refine awp_mono (Q := fun e s' σ'' => e = .normal ∧ s' 1 = ic n ∧ s' 2 = ptr σ.nobj 0 ∧ s' 5 = ic N.length ∧ s' 6 = ptr σ1.nobj 0 ∧ s' 7 = ptr σ3.nobj 0 ∧ Keep σ σ'' ∧ σ3.nobj < σ''.nobj ∧ σ''.obj σ.nobj = [sl idn N.length (N.map str), sl idi l.length cs] ∧ σ''.obj σ1.nobj = [sc (.bool ro), ic RX.head.p, sl rih RX.head.ts.length (ecells RX.head.ts), sl rib RX.body.length rbc] ∧ MOb σ'' σ3.nobj ot M 0 (200 - tot M)) ?_ ?_
 ·refine awp_draw_h follows_mixed (fun _ => True) [6] [0, 1] 5 #[true, true, false, false, false, false, false] (by kernel_rfl) (fun _ _ _ h => by cases h.1) ?_; intro κ hκ; refine Xr ?_; refine hκ.out _ ?_; clear hκ κ
  refine uany_one (i := 2) (by kernel_rfl) ?_; refine aOne_k ?_; intro κ hκ; refine Xr ?_
  refine ACalls.mono hCo ?_
  rintro _ σ5 ⟨⟨ic0, rfl⟩, hK5⟩
  refine Xr ?_
  refine hκ.out _ _ ⟨kept_keep hK5, ?_⟩; clear hκ κ
  refine uany_one (i := 3) (by kernel_rfl) ?_; refine aOne_k ?_; intro κ hκ; refine Xr ?_
  refine ACalls.mono (hT1 _ _) ?_
  rintro _ σ6 ⟨rfl, hK6⟩
  have hK7 := hK5.trans hK6
  have kno7 := hK7.nobj
  have ob7 : σ6.obj σ3.nobj = [fx ot 0 M.length, ic 0, ic 200] := by rw [hK7.obj _ (by omega), hob7]
  refine Xr ?_
  refine hκ.out _ _ ⟨kept_keep hK7, ?_⟩; clear hκ κ
  refine uany_one (i := 4) (by kernel_rfl) ?_; refine aOne_k ?_; intro κ hκ; refine Xr ?_
  refine hκ.out _ _ ⟨kept_keep hK7, ?_⟩; clear hκ κ
  refine uany_one (i := 5) (by kernel_rfl) ?_; refine aOne_k ?_; intro κ hκ; refine Xr ?_
  refine hκ.out _ _ ⟨kept_keep hK7, ?_⟩; clear hκ κ
  refine uany_one (i := 6) (by kernel_rfl) ?_; refine aOne_k ?_; intro κ hκ; refine Xr ?_
  refine hκ.out _ _ ⟨kept_last rfl, ?_⟩; clear hκ κ
  refine uany_done (by kernel_rfl) ⟨rfl, by simp [upd, initS], by simp [upd], by simp [upd], by simp [upd], by simp [upd], (hK4.trans hK7).put (by omega) _, by simp only [put_nobj]; omega, ?_, ?_, ?_⟩
  ·rw [put_ne (by omega), hK7.obj _ (by omega), obk]
  ·rw [put_ne (by omega), hK7.obj _ (by omega), ob6]
  ·have hm := (HM4.out.keep hK7).mpt
   exact MPt.mob ⟨by rw [put_ne (by omega)]; exact hm.oc, hm.lt, hm.live, hm.inj, hm.t3, hm.ln, hm.pl⟩ (by rw [put_same, hML]) (by simp only [put_nobj]; omega) (by omega)
 ·rintro e s σ5 ⟨rfl, g1, g2, g5, g6, g7, hK5, hn5, obk5, ob65, hM5⟩
  clear hCo hT1 hob7 HM4 hK4 hK34 ob6 obk n4
  have kno5 := hK5.nobj
  have HM5 : Abs.Hid _ := hM5
  clear hM5
  repeat' (first
 |with_reducible first|apply Xa|apply Xb|(refine Xc ?_;intro κ hκ)|(apply hκ.out;clear hκ κ)|apply Xd|apply Xe|apply Xf
 |((with_reducible first|refine Xl ?_ ?_|refine Xm ?_ ?_|refine Xk ?_ ?_)<;> intro h hari<;> try exact Xp)
 |((with_reducible refine aapp_go ?_);refine Xt ?_;intro idn σn hOn hKn eobj enobj ever entop)
 |((with_reducible refine aappn_go ?_);refine Xu ?_)
 |refine Xr ?_
 |exact True.intro
 |((with_reducible refine Xg ?_);refine Xj ?_)
 |(apply hκ.out;clear hκ κ))
  refine awp_loop (fun m s σ' => ∃ (q i8 : Nat) (L : List RItem) (ys : List AV), m = l.length - q ∧ q ≤ l.length ∧ s 1 = ic n ∧ s 5 = ic N.length ∧ s 6 = ptr σ1.nobj 0 ∧ s 7 = ptr σ3.nobj 0 ∧ s 8 = sl i8 L.length ys ∧ s 34 = sl idi l.length cs ∧ s 35 = ic l.length ∧ s 36 = ic q ∧ Keep σ5 σ' ∧ Own σ5 σ' i8 L.length ∧ ys.length = L.length * 4 ∧ L.length ≤ q ∧ Abs.Hid (L = oth l n q ∧ EL ERu (L.map (afP N)) ys)) l.length
   ⟨0, 1, [], [], by omega, by omega, by simp [upd, *], by simp [upd, *], by simp [upd, *], by simp [upd, *], by simp [upd], by simp [upd], by simp [upd], by simp [upd], Keep.refl _, Own.nil _ _, rfl, by simp, by simp [oth], rfl⟩ ?_
  clear g1 g2 g5 g6 g7
  rintro m s σ6 ⟨q, i8, L, ys, rfl, hq, h1, h5, h6, h7, h8, h34, h35, h36, hK, hO, hyl, hLq, hL⟩
  have kno6 := hK.nobj
  by_cases hlt : q < l.length
  ·have hget := List.getElem?_eq_getElem hlt
   obtain ⟨hm2, jh, jd, jb, r2, hjb, hd2⟩ := EL_PI hE hget
   have hym := List.getElem_mem hlt
   generalize l[q] = y at hget hjb hd2 hm2 hym
   have HST : Abs.Hid _ := oth_step (n := n) hget
   have hAy := fun σ => hAf y _ hym (PI.of (ih := jh) (id := jd) hm2 hjb) σ
   clear hget
   by_cases hqn : q = n
   ·have hne : ((q : Int) != (n : Int)) = false := by simp [hqn]
    have HN : Abs.Hid (L = oth l n (q + 1) ∧ EL ERu (L.map (afP N)) ys) := ⟨by rw [HST.out, if_pos (.inl hqn), List.append_nil]; exact hL.out.1, hL.out.2⟩
    clear hqn HST hAy
    repeat' (first
 |with_reducible first|apply Xa|apply Xb|(refine Xc ?_;intro κ hκ)|(apply hκ.out;clear hκ κ)|apply Xd|apply Xe|apply Xf
 |((with_reducible first|refine Xl ?_ ?_|refine Xm ?_ ?_|refine Xk ?_ ?_)<;> intro h hari<;> try exact Xp)
 |((with_reducible refine aapp_go ?_);refine Xt ?_;intro idn σn hOn hKn eobj enobj ever entop)
 |((with_reducible refine aappn_go ?_);refine Xu ?_)
 |refine Xr ?_
 |exact True.intro
 |((with_reducible refine Xg ?_);refine Xj ?_)
 |(apply hκ.out;clear hκ κ))
    refine ⟨l.length - (q + 1), by omega, q + 1, i8, L, ys, ?_⟩
    ((repeat' with_reducible refine And.intro ?_ ?_)<;> first|exact Xq|exact (HN)|exact ((hK.new _).put hK.nobj _)|exact (Own.put (Own.new hO _) _ _)|exact Xs)
   ·have hne : ((q : Int) != (n : Int)) = true := by simp; omega
    cases hout : y.out with
    | true =>
     have HN : Abs.Hid (L = oth l n (q + 1) ∧ EL ERu (L.map (afP N)) ys) := ⟨by rw [HST.out, if_pos (.inr hout), List.append_nil]; exact hL.out.1, hL.out.2⟩
     clear hqn HST hAy
     repeat' (first
 |with_reducible first|apply Xa|apply Xb|(refine Xc ?_;intro κ hκ)|(apply hκ.out;clear hκ κ)|apply Xd|apply Xe|apply Xf
 |((with_reducible first|refine Xl ?_ ?_|refine Xm ?_ ?_|refine Xk ?_ ?_)<;> intro h hari<;> try exact Xp)
 |((with_reducible refine aapp_go ?_);refine Xt ?_;intro idn σn hOn hKn eobj enobj ever entop)
 |((with_reducible refine aappn_go ?_);refine Xu ?_)
 |refine Xr ?_
 |exact True.intro
 |((with_reducible refine Xg ?_);refine Xj ?_)
 |(apply hκ.out;clear hκ κ))
     refine ⟨l.length - (q + 1), by omega, q + 1, i8, L, ys, ?_⟩
     ((repeat' with_reducible refine And.intro ?_ ?_)<;> first|exact Xq|exact (HN)|exact ((hK.new _).put hK.nobj _)|exact (Own.put (Own.new hO _) _ _)|exact Xs)
    | false =>
     simp only [hout] at hAy
     have HN : Abs.Hid (∀ c', ERu (afP N y) c' → L ++ [y] = oth l n (q + 1) ∧ EL ERu ((L ++ [y]).map (afP N)) (ys ++ c')) := fun c' hc' => ⟨by rw [HST.out, if_neg (by simp [hqn, hout]), hL.out.1], by rw [List.map_append]; exact EL.append hL.out.2 (EL.single hc')⟩
     clear hqn HST
     repeat' (first
 |with_reducible first|apply Xa|apply Xb|(refine Xc ?_;intro κ hκ)|(apply hκ.out;clear hκ κ)|apply Xd|apply Xe|apply Xf
 |((with_reducible first|refine Xl ?_ ?_|refine Xm ?_ ?_|refine Xk ?_ ?_)<;> intro h hari<;> try exact Xp)
 |((with_reducible refine aapp_go ?_);refine Xt ?_;intro idn σn hOn hKn eobj enobj ever entop)
 |((with_reducible refine aappn_go ?_);refine Xu ?_)
 |((with_reducible refine Xh ?_);refine Xi (hAy _) ?_;rintro _ _ ⟨⟨_,rfl,hER⟩,hK2⟩;(have HN2 : Abs.Hid _:=HN.out _ hER;obtain ⟨ro2,rih2,rib2,rbc2,rfl,-⟩:=hER;have hKx:=((hK.new _).put hK.nobj _).trans hK2;have hOx:=Own.keep (Own.put (Own.new hO _) _ _) hK2))
 |refine Xr ?_
 |exact True.intro
 |((with_reducible refine Xg ?_);refine Xj ?_)
 |(apply hκ.out;clear hκ κ))
     refine ⟨l.length - (q + 1), by omega, q + 1, idn, L ++ [y], ys ++ [sc (.bool ro2), ic (afP N y).head.p, sl rih2 (afP N y).head.ts.length (ecells (afP N y).head.ts), sl rib2 (afP N y).body.length rbc2], ?_⟩
     ((repeat' with_reducible refine And.intro ?_ ?_)<;> first|exact Xq|exact (HN2)|exact (by rw [List.length_append]; exact hOn)|exact Xs)
  ·have hql : q = l.length := by omega
   subst hql
   obtain ⟨hLe, hLE⟩ := hL.out
   have hRWs : ∀ r ∈ L.map (afP N), RW (2 * N.length) ar r := fun r hr => by
    obtain ⟨y, hy, rfl⟩ := List.mem_map.1 hr
    rw [hLe] at hy
    exact hI.rw' y (oth_mem hy).1 (oth_mem hy).2
   have hFol : Fol (2 * N.length) ar (L.map (afP N)) (LstF (L.map (afP N)) FX) := ⟨hRWs, LstF.cl _ _, fun k t h => h (Sh ar) (sh_cl hRWs) (fun a ha => hI.sh x hxm hxo a (by rw [HFX.out]; exact ha))⟩
   have hMD : ∀ k t, MD M k t → LstF (L.map (afP N)) FX k t := fun k t hk => by
    obtain ⟨a, ha, e1, e2⟩ := (HMK.out.mem k t).1 hk
    have := LstF.fact (R := L.map (afP N)) ha
    rw [e1, Int.toNat_natCast] at this
    rw [e2]; exact this
   have hRm : Room M 0 (200 - tot M) := fun y hy => by
    obtain ⟨k, hk⟩ := List.getElem?_of_mem hy
    have := tot_row M k y hk
    omega
   have hFR := fun σ (h : MOb σ σ3.nobj ot M 0 (200 - tot M)) => efollowRules_spec hFol σ3.nobj ot (200 - tot M) (by omega) (by omega) M 0 hML hMD hRm (by omega) (by omega) ys i8 hLE (by rw [List.length_map]; omega) σ h
   rw [List.length_map] at hFR
   have hM6 : MOb σ6 σ3.nobj ot M 0 (200 - tot M) := HM5.out.keep hK
   have ob66 : σ6.obj σ1.nobj = [sc (.bool ro), ic RX.head.p, sl rih RX.head.ts.length (ecells RX.head.ts), sl rib RX.body.length rbc] := by rw [hK.obj _ (by omega), ob65]
   have hKs := hK5.trans hK
   have HLE : Abs.Hid _ := hLe
   have HPI : Abs.Hid (∀ (M' : MM) (d' : Int) (bb : Bool), GroA (LstF (L.map (afP N)) FX) M M' 0 d' → (¬ (200 - tot M) < d' → ClD (L.map (afP N)) (MD M')) → (if d' ≤ 200 - tot M then (bb = true ↔ MD M' RX.head.p.toNat (tupA (frzA RX.head))) else bb = false) → PImp ((oth l n l.length).map (afP N)) FX RX.head.p.toNat (tupA (frzA RX.head)) bb) := fun M' d' bb h1 h2 h3 => by
    rw [← HLE.out]
    exact pimp_of HMK.out (fun a ha => ⟨_, (hfa a ha).2.choose_spec.1⟩) h1 h2 h3
   have hFh := fun σ => efrozen_spec RX.head.p rih RX.head.ts (by have := hRW.rok.hd; omega) (by have := (hI.sm x hxm hxo).1; rw [HRX.out] at this; exact this) σ
   clear hLe hLE hFol hMD hL hAf hRWs
   repeat' (first
 |with_reducible first|apply Xa|apply Xb|(refine Xc ?_;intro κ hκ)|(apply hκ.out;clear hκ κ)|apply Xd|apply Xe|apply Xf
 |((with_reducible first|refine Xl ?_ ?_|refine Xm ?_ ?_|refine Xk ?_ ?_)<;> intro h hari<;> try exact Xp)
 |((with_reducible refine aapp_go ?_);refine Xt ?_;intro idn σn hOn hKn eobj enobj ever entop)
 |((with_reducible refine aappn_go ?_);refine Xu ?_)
 |((with_reducible refine Xh ?_);refine Xi (hFR _ hM6) ?_;rintro _ _ ⟨M',d',hM7,hKM7,hG7,hd7,hc7⟩;(have HG7 : Abs.Hid _:=hG7;have HC7 : Abs.Hid _:=hc7;clear hG7 hc7))
 |refine Xr ?_
 |exact True.intro
 |((with_reducible refine Xg ?_);refine Xj ?_)
 |(apply hκ.out;clear hκ κ))
   rename_i σ7
   have kno7 := hKM7.nobj
   have ob77 : σ7.obj σ1.nobj = [sc (.bool ro), ic RX.head.p, sl rih RX.head.ts.length (ecells RX.head.ts), sl rib RX.body.length rbc] := by rw [hKM7.obj _ (by omega) (by omega) (by omega), ob66]
   have hKe : Keep σ σ7 := Keep.km2 hKs hKM7 (by omega) (by omega) hMd
   have hOv := eover_spec σ3.nobj ot M' d' (200 - tot M)
   by_cases hov : 200 - tot M < d'
   ·rw [show decide (200 - tot M < d') = true by simpa using hov] at hOv
    have HR : Abs.Hid _ := HPI.out M' d' false HG7.out HC7.out (by rw [if_neg (by omega)])
    repeat' (first
 |with_reducible first|apply Xa|apply Xb|(refine Xc ?_;intro κ hκ)|(apply hκ.out;clear hκ κ)|apply Xd|apply Xe|apply Xf
 |((with_reducible first|refine Xl ?_ ?_|refine Xm ?_ ?_|refine Xk ?_ ?_)<;> intro h hari<;> try exact Xp)
 |((with_reducible refine aapp_go ?_);refine Xt ?_;intro idn σn hOn hKn eobj enobj ever entop)
 |((with_reducible refine aappn_go ?_);refine Xu ?_)
 |((with_reducible refine Xh ?_);refine Xi (hOv _ hM7) ?_;rintro _ _ ⟨rfl,rfl⟩)
 |refine Xr ?_
 |exact True.intro
 |((with_reducible refine Xg ?_);refine Xj ?_)
 |(apply hκ.out;clear hκ κ))
    first | exact ⟨_, rfl, false, rfl, HR.out, hKe⟩ | exact ⟨_, rfl, false, rfl, HR.out⟩
   ·rw [show decide (200 - tot M < d') = false by simpa using hov] at hOv
    obtain ⟨k, hk, hkn⟩ := hRW.rok.hp
    have hMl : M'.length = 2 * N.length := by rw [HG7.out.len]; exact hML
    have hx' := List.getElem?_eq_getElem (l := M') (i := k) (by omega)
    generalize M'[k]'(by omega) = x' at hx'
    have hHas := fun id σ (h : MOb σ σ3.nobj ot M' d' (200 - tot M)) => ehasM_spec σ3.nobj ot M' d' (200 - tot M) (frzA RX.head) id k x' (by simp only [frzA, List.length_map]; exact hRW.rok.hd) hk hx' σ h
    have HR : Abs.Hid (PImp ((oth l n l.length).map (afP N)) FX RX.head.p.toNat (tupA (frzA RX.head)) (decide (tupA (frzA RX.head) ∈ x'.2))) := HPI.out M' d' _ HG7.out HC7.out (by
     rw [if_pos (by omega), hk, Int.toNat_natCast]
     unfold MD
     rw [tupsOf_get hx']
     simp)
    generalize decide (tupA (frzA RX.head) ∈ x'.2) = bb at hHas HR
    simp only [frzA, List.length_map] at hHas
    clear hx' hk
    repeat' (first
 |with_reducible first|apply Xa|apply Xb|(refine Xc ?_;intro κ hκ)|(apply hκ.out;clear hκ κ)|apply Xd|apply Xe|apply Xf
 |((with_reducible first|refine Xl ?_ ?_|refine Xm ?_ ?_|refine Xk ?_ ?_)<;> intro h hari<;> try exact Xp)
 |((with_reducible refine aapp_go ?_);refine Xt ?_;intro idn σn hOn hKn eobj enobj ever entop)
 |((with_reducible refine aappn_go ?_);refine Xu ?_)
 |((with_reducible refine Xh ?_);first|(refine Xi (hOv _ hM7) ?_;rintro _ _ ⟨rfl,rfl⟩)|(refine Xi (hFh _) ?_;rintro _ _ ⟨⟨idh,rfl⟩,hK8⟩)|(refine Xi (hHas _ _ (hM7.keep hK8)) ?_;rintro _ _ ⟨rfl,hK9⟩))
 |refine Xr ?_
 |exact True.intro
 |((with_reducible refine Xg ?_);refine Xj ?_)
 |(apply hκ.out;clear hκ κ))
    first | exact ⟨_, rfl, _, rfl, HR.out, (hKe.trans hK8).trans hK9⟩ | exact ⟨_, rfl, _, rfl, HR.out⟩
/- Both tell the same of an implied rule: how the document's tuples are the program's. -/
/- lists without repeats -/
theorem nodupLe {α : Type} : ∀ {l m : List α}, l.Nodup → (∀ a ∈ l, a ∈ m) → l.length ≤ m.length
 | [], m, _, _ => by simp
 | a :: l, m, h, hs => by
  obtain ⟨s, t, rfl⟩ := List.append_of_mem (hs a (by simp))
  have hn := List.nodup_cons.1 h
  have := nodupLe (l := l) (m := s ++ t) hn.2 (fun b hb => by
   have := hs b (by simp [hb])
   rcases List.mem_append.1 this with h' | h'
   ·exact List.mem_append_left _ h'
   ·rcases List.mem_cons.1 h' with rfl | h'
    ·exact absurd hb hn.1
    ·exact List.mem_append_right _ h')
  simp only [List.length_cons, List.length_append] at this ⊢
  omega
theorem nodup_map {α β : Type} {f : α → β} : ∀ {l : List α}, l.Nodup → (∀ a ∈ l, ∀ b ∈ l, f a = f b → a = b) → (l.map f).Nodup
 | [], _, _ => List.nodup_nil
 | a :: l, h, hi => by
  have hn := List.nodup_cons.1 h
  rw [List.map_cons, List.nodup_cons]
  refine ⟨fun hm => ?_, nodup_map hn.2 fun b hb c hc => hi b (by simp [hb]) c (by simp [hc])⟩
  obtain ⟨b, hb, e⟩ := List.mem_map.1 hm
  have := hi b (by simp [hb]) a (by simp) e
  exact hn.1 (this ▸ hb)
def enumM : Nat → MM → List (Nat × Tup)
 | _, [] => []
 | k, x :: M => x.2.map (fun t => (k, t)) ++ enumM (k + 1) M
theorem enumM_len : ∀ (M : MM) (k : Nat), ((enumM k M).length : Int) = tot M
 | [], k => rfl
 | x :: M, k => by rw [enumM, tot_cons, ← enumM_len M (k + 1)]; simp
theorem enumM_mem : ∀ (M : MM) (k j : Nat) (t : Tup), (j, t) ∈ enumM k M ↔ k ≤ j ∧ MD M (j - k) t
 | [], k, j, t => by simp [enumM, MD, tupsOf]
 | x :: M, k, j, t => by
  rw [enumM, List.mem_append, enumM_mem M (k + 1) j t]
  unfold MD tupsOf
  simp only [Int.toNat_natCast]
  constructor
  ·rintro (h | ⟨h1, h2⟩)
   ·obtain ⟨u, hu, e⟩ := List.mem_map.1 h
    cases e
    simpa using hu
   ·refine ⟨by omega, ?_⟩
    rw [show j - k = (j - (k + 1)) + 1 by omega, List.getElem?_cons_succ]
    exact h2
  ·rintro ⟨h1, h2⟩
   by_cases e : j = k
   ·subst e
    left
    rw [Nat.sub_self, List.getElem?_cons_zero] at h2
    exact List.mem_map.2 ⟨t, by simpa using h2, rfl⟩
   ·right
    rw [show j - k = (j - (k + 1)) + 1 by omega, List.getElem?_cons_succ] at h2
    exact ⟨by omega, h2⟩
theorem enumM_nodup : ∀ (M : MM) (k : Nat), (∀ x ∈ M, x.2.Nodup) → (enumM k M).Nodup
 | [], k, _ => List.nodup_nil
 | x :: M, k, h => by
  rw [enumM, List.nodup_append]
  refine ⟨nodup_map (h x (by simp)) (fun a _ b _ e => by cases e; rfl), enumM_nodup M (k + 1) (fun y hy => h y (by simp [hy])), fun a ha b hb e => ?_⟩
  obtain ⟨t, -, rfl⟩ := List.mem_map.1 ha
  obtain ⟨j, u⟩ := b
  cases e
  have := ((enumM_mem M (k + 1) k t).1 hb).1
  omega
theorem tot_le {M : MM} {α : Type} {A : List α} {e : α → Nat × Tup} (hn : ∀ x ∈ M, x.2.Nodup) (h : ∀ k t, MD M k t → ∃ a ∈ A, e a = (k, t)) : tot M ≤ A.length := by
 have hc : ∀ p ∈ enumM 0 M, ∃ a ∈ A, e a = p := fun p hp => by
  obtain ⟨k, t⟩ := p
  exact h k t ((enumM_mem M 0 k t).1 hp).2
 have hg : ∃ g : Nat × Tup → Option α, ∀ p ∈ enumM 0 M, ∃ a ∈ A, g p = some a ∧ e a = p := by
  refine ⟨fun p => Classical.epsilon fun o => ∃ a ∈ A, o = some a ∧ e a = p, fun p hp => ?_⟩
  obtain ⟨a, ha, he⟩ := hc p hp
  have := Classical.epsilon_spec (p := fun o => ∃ a ∈ A, o = some a ∧ e a = p) ⟨some a, a, ha, rfl, he⟩
  exact this
 obtain ⟨g, hg⟩ := hg
 have h1 : ((enumM 0 M).map g).Nodup := nodup_map (enumM_nodup M 0 hn) (fun p hp q hq hpq => by
  obtain ⟨a, -, h1, h2⟩ := hg p hp
  obtain ⟨b, -, h3, h4⟩ := hg q hq
  rw [h1, h3] at hpq
  cases hpq
  exact h2.symm.trans h4)
 have h2 := nodupLe (m := A.map some) h1 (fun o ho => by
  obtain ⟨p, hp, rfl⟩ := List.mem_map.1 ho
  obtain ⟨a, ha, h1, -⟩ := hg p hp
  rw [h1]; exact List.mem_map.2 ⟨a, ha, rfl⟩)
 rw [List.length_map, List.length_map] at h2
 rw [← enumM_len M 0]
 omega
end Go.Proofs.YtmoeoppbmhfbpaaGreatDoorU
