import Derived.Test.YtmoeoppbmhfbpaaGreatDoorYDocG
/- The document's own answer: heads. -/
namespace Go.Proofs.YtmoeoppbmhfbpaaGreatDoorY
open Go.Abs
set_option linter.unusedSimpArgs false
set_option linter.unusedVariables false
set_option maxRecDepth 100000
structure KH (io : Nat) (σ σ' : St) : Prop where
 nobj : σ.nobj ≤ σ'.nobj
 obj : ∀ o, o < σ.nobj → σ'.obj o = σ.obj o
 ver : ∀ o, o < σ.nobj → σ'.ver o = σ.ver o
 ntop : σ.ntop ≤ σ'.ntop
 top : ∀ k, k < σ.ntop → k + 2 ≠ io → σ'.top k = σ.top k
structure HeadsR (fz : Bool) (A : List RAtom) (mo : Int) (x : RItem) (O O' : List RAtom) : Prop where
 ext : ∃ nw, O' = O ++ nw ∧ ∀ h ∈ nw, SolD fz A x h ∧ h ∉ A
 nd : O'.Nodup
 len : (O'.length : Int) ≤ mo + 1
 done : (O'.length : Int) ≤ mo → DoneX fz A O' x
def B0k : BK := List.replicate 4096 (1, [])
theorem B0k_none (s : Tx) : ¬ InB B0k s := by
 rintro ⟨x, hx, hm⟩
 have : x = (1, []) := by
  have := List.mem_of_getElem? hx
  exact (List.mem_replicate.1 this).2
 subst this
 simp at hm
theorem into_spec (fz : Bool) (A : List RAtom) (cA : List AV) (ida : Nat) (mo : Int) (c0 : Nat) (hA : TupsOk A cA) (hm0 : 0 ≤ mo) (hm1 : mo ≤ 900) : ∀ p, IntoS fz A cA ida mo c0 p := by
 intro p
 induction p with
 | zero => exact into_step fz A cA ida mo c0 hA hm0 hm1 0 (fun q h => by omega)
 | succ p ih => exact into_step fz A cA ida mo c0 hA hm0 hm1 (p + 1) (fun q h => by have : p = q := (by omega); subst this; exact ih)
theorem WOb.outs {σ : St} {ow ida nA : Nat} {cA : List AV} {fz : Bool} {mo : Int} {ido : Nat} {O : List RAtom} {oc : List AV} {B : BK} {N : Nat} (h : WOb σ ow ida nA cA fz mo ido O oc B N) : ∃ wc : List AV, σ.obj ow = wc ∧ wc[3]? = some (sl ido O.length oc) ∧ wc.length = 4100 := ⟨_, h.ob, rfl, wcells_len h.bl⟩
theorem wkZ_cells {ida nA : Nat} {cA : List AV} {fz : Bool} {mo : Int} {ido nO : Nat} {oc : List AV} : (((((wkZ.map cst1).set 0 (sl ida nA cA)).set 1 (sc (.bool fz))).set 3 (sl ido nO oc)).set 2 (sc (.int .i64 mo))) = wcells ida nA cA fz mo ido nO oc B0k := by
 have e : wkZ.map cst1 = nilS :: sc (.bool false) :: sc (.int .i64 0) :: nilS :: List.replicate 4096 nilS := by
  unfold wkZ
  rw [List.map_append, List.map_replicate]
  rfl
 rw [e]
 unfold wcells wbcells B0k
 rw [List.map_replicate]
 rfl
theorem rows0 (σ : St) {ido nO : Nat} (h : Live σ ido nO) : Rws σ (rowsB ido nO B0k) := by
 have hm : ∀ x ∈ B0k.map (fun x : Nat × List Tx => (x.1, x.2.length)), x = (1, 0) := fun x hx => by
  obtain ⟨y, hy, rfl⟩ := List.mem_map.1 hx
  rw [(List.mem_replicate.1 hy).2]; rfl
 refine ⟨fun x hx => ?_, fun i j x y hx hy hij => ?_⟩
 ·rcases List.mem_cons.1 hx with rfl | hx
  ·exact h
  ·rw [hm x hx]; exact .inl ⟨rfl, rfl⟩
 ·cases i with
  | zero =>
   cases j with
   | zero => omega
   | succ j =>
    have := hm y (List.mem_of_getElem? (i := j) (by simpa [rowsB] using hy))
    subst this
    by_cases e : x.1 = 1
    ·exact .inl e
    ·exact .inr e
  | succ i =>
   have := hm x (List.mem_of_getElem? (i := i) (by simpa [rowsB] using hx))
   subst this
   exact .inl rfl
theorem rows0_mem {ido nO : Nat} {x : Nat × Nat} (h : x ∈ rowsB ido nO B0k) : x.1 = ido ∨ x.1 = 1 := by
 rcases List.mem_cons.1 h with rfl | h
 ·exact .inl rfl
 ·obtain ⟨y, hy, rfl⟩ := List.mem_map.1 h
  rw [(List.mem_replicate.1 hy).2]; exact .inr rfl
set_option maxHeartbeats 16000000 in
theorem heads_spec (fz : Bool) (A : List RAtom) (cA : List AV) (ida : Nat) (mo : Int) (c0 p : Nat) (hA : TupsOk A cA) (hm0 : 0 ≤ mo) (hm1 : mo ≤ 900) (x : RItem) (c : List AV) (hc : EItem x c) (hH : HalfOk fz c0 p x) (hcost : costN c0 A.length p + 2002 ≤ 1000000000000) (O : List RAtom) (oc : List AV) (ido : Nat) (hO : EL EAtom O oc) (hOc : ∀ a ∈ O, clA a) (hnd : O.Nodup) (hlen : (O.length : Int) ≤ mo + 1) (σ : St) (hL : Live σ ido O.length) :
  ACalls Tryz.prog 182 [ag c, sl ida A.length cA, sc (.bool fz), sl ido O.length oc, sc (.int .i64 mo)] σ fun r σ' => ∃ ido' O' oc', r = sl ido' O'.length oc' ∧ EL EAtom O' oc' ∧ Live σ' ido' O'.length ∧ (ido' = ido ∨ ido' = 1 ∨ σ.ntop + 2 ≤ ido') ∧ KH ido σ σ' ∧ HeadsR fz A mo x O O' := by
 have hcx := hc
 obtain ⟨ih, id, b, hb, rfl⟩ := hc.cells
 unfold itemCells
 unfold itemCells at hcx
 have hW0 : WOb ((σ.new [sc (.bool x.out), sc (.bool x.head.nt), str x.head.pred, sl ih x.head.terms.length (x.head.terms.map str), sl id x.body.length b]).new (((((wkZ.map cst1).set 0 (sl ida A.length cA)).set 1 (sc (.bool fz))).set 3 (sl ido O.length oc)).set 2 (sc (.int .i64 mo)))) (σ.nobj + 1) ida A.length cA fz mo ido O oc B0k 0 :=
  ⟨by rw [new_at (by simp only [new_nobj]; omega) (by simp only [new_nobj]; omega)]; exact wkZ_cells, by simp only [new_nobj]; omega, by simp [B0k], hO, rows0 _ hL, fun y hy => by rw [(List.mem_replicate.1 hy).2]; simp⟩
 have hIn := into_spec fz A cA ida mo c0 hA hm0 hm1 p x _ hcx hH (σ.nobj + 1) ido O oc B0k 0 _ hW0 (by omega) hnd hlen hOc (fun y _ _ hs => absurd hs (B0k_none _))
 clear hW0
 refine acalls 25 [.tmp 10] Tryz.func182 rfl (by decide) rfl rfl (Nat.le_of_ble_eq_true rfl) ?_
 repeat' (first
 |with_reducible first|apply Xa|apply Xb|(refine Xc ?_;intro κ hκ)|(apply hκ.out;clear hκ κ)|apply Xd|apply Xe|apply Xf
 |((with_reducible first|refine Xl ?_ ?_|refine Xk ?_ ?_)<;> intro h hari<;> try exact Xp)
 |((with_reducible refine Xh ?_);refine Xi (hIn) ?_;rintro _ _ ⟨ido',O',oc',B',N',hW1,hKW1,hI1,hc1⟩;(obtain ⟨wc1,hwc1,hr3,hrl⟩:=hW1.outs;have kno1:=hKW1.nobj;simp only [new_nobj] at kno1))
 |refine Xr ?_
 |exact True.intro
 |(apply hκ.out;clear hκ κ))
 rename_i σ1
 have hLv : Live σ1 ido' O'.length := hW1.rw'.1 (ido', O'.length) (by simp [rowsB])
 have hid : ido' = ido ∨ ido' = 1 ∨ σ.ntop + 2 ≤ ido' := by
  rcases hKW1.mid (ido', O'.length) (by simp [rowsB]) with ⟨y, hy, e⟩ | e | e
  ·rcases rows0_mem hy with h | h
   ·exact .inl (e.symm.trans h)
   ·exact .inr (.inl (e.symm.trans h))
  ·exact .inr (.inl e)
  ·exact .inr (.inr e)
 have hKH : KH ido σ σ1 :=
  ⟨by omega, fun o ho => by rw [hKW1.obj o (by simp only [new_nobj]; omega) (by omega), new_lt (by simp only [new_nobj]; omega), new_lt (by omega)], fun o ho => by rw [hKW1.ver o (by simp only [new_nobj]; omega) (by omega)]; rfl, hKW1.ntop, fun k hk hne => hKW1.top k hk (fun y hy e => by
   rcases rows0_mem hy with h | h <;> omega)⟩
 have hHR : HeadsR fz A mo x O O' := ⟨hI1.ext, hI1.nd, hI1.len, hI1.done⟩
 exact ⟨_, rfl, ido', O', oc', rfl, hW1.oe, hLv, hid, hKH, hHR⟩
/- The document's own answer: settled. -/
def Sat (fz : Bool) (l : List RItem) (giv : List RAtom) (C : RAtom → Prop) : Prop := (∀ a ∈ giv, C a) ∧ ∀ A' : List RAtom, (∀ a ∈ A', C a) → (∀ a ∈ giv, a ∈ A') → ∀ x ∈ l, ∀ h, SolD fz A' x h → C h
structure SetOk (fz : Bool) (l : List RItem) (giv : List RAtom) (limit : Nat) (A : List RAtom) : Prop where
 gv : ∀ a ∈ giv, a ∈ A
 nd : A.Nodup
 len : A.length ≤ limit
 cl : ∀ x ∈ l, DoneX fz A [] x
 least : ∀ C, Sat fz l giv C → ∀ a ∈ A, C a
def SetNo (fz : Bool) (l : List RItem) (giv : List RAtom) (limit : Nat) : Prop := ∀ C, Sat fz l giv C → ∃ L : List RAtom, L.Nodup ∧ limit < L.length ∧ ∀ a ∈ L, C a
def RuleOk (fz : Bool) (limit : Nat) (x : RItem) : Prop := ∃ c0 p, HalfOk fz c0 p x ∧ ∀ a, a ≤ limit → costN c0 a p + 2002 ≤ 1000000000000
theorem Own.ofLive {σ0 σ σ' : St} {io io' n n' : Nat} (hK : Keep σ0 σ) (hO : Own σ0 σ io n) (hL : Live σ' io' n') (hid : io' = io ∨ io' = 1 ∨ σ.ntop + 2 ≤ io') : Own σ0 σ' io' n' := by
 rcases hL with h | ⟨k, e1, e2, e3, e4⟩
 ·exact .inl h
 ·refine .inr ⟨k, e1, ?_, e2, e3, e4⟩
  rcases hid with h | h | h
  ·rcases hO with ⟨h1, -⟩ | ⟨k', f1, f2, -⟩
   ·omega
   ·omega
  ·omega
  ·have := hK.ntop; omega
theorem Keep.kh {σ0 σ σ' : St} {io n : Nat} (hK : Keep σ0 σ) (hO : Own σ0 σ io n) (h : KH io σ σ') : Keep σ0 σ' :=
 ⟨Nat.le_trans hK.nobj h.nobj, fun o ho => (h.obj o (Nat.lt_of_lt_of_le ho hK.nobj)).trans (hK.obj o ho), fun o ho => (h.ver o (Nat.lt_of_lt_of_le ho hK.nobj)).trans (hK.ver o ho), Nat.le_trans hK.ntop h.ntop, fun k hk => (h.top k (Nat.lt_of_lt_of_le hk hK.ntop) (fun e => by
  rcases hO with ⟨h1, -⟩ | ⟨k', f1, f2, -⟩ <;> omega)).trans (hK.top k hk)⟩
theorem Own.kh {σ0 σ σ' : St} {ia io n m : Nat} (hO : Own σ0 σ ia n) (hne : ia = 1 ∨ io = 1 ∨ ia ≠ io) (h : KH io σ σ') : Own σ0 σ' ia n := by
 rcases hO with h1 | ⟨k, f1, f2, f3, f4, f5⟩
 ·exact .inl h1
 ·refine .inr ⟨k, f1, f2, Nat.lt_of_lt_of_le f3 h.ntop, ?_, f5⟩
  rw [h.top k f3 (by omega)]; exact f4
theorem Own.apart {σ0 σ : St} {ia io io' n : Nat} (hO : Own σ0 σ ia n) (hne : ia = 1 ∨ io = 1 ∨ ia ≠ io) (hid : io' = io ∨ io' = 1 ∨ σ.ntop + 2 ≤ io') : ia = 1 ∨ io' = 1 ∨ ia ≠ io' := by
 rcases hid with rfl | h | h
 ·exact hne
 ·exact .inr (.inl h)
 ·rcases hO with ⟨h1, -⟩ | ⟨k, f1, f2, f3, -⟩
  ·exact .inl h1
  ·exact .inr (.inr (by omega))
structure SetI (fz : Bool) (l : List RItem) (giv : List RAtom) (A : List RAtom) (cA : List AV) : Prop where
 el : EL EAtom A cA
 gnd : ∀ a ∈ A, Gnd a
 cl : ∀ a ∈ A, clA a
 nd : A.Nodup
 gv : ∀ a ∈ giv, a ∈ A
 least : ∀ C, Sat fz l giv C → ∀ a ∈ A, C a
structure OutI (fz : Bool) (l : List RItem) (A : List RAtom) (mo : Int) (i : Nat) (O : List RAtom) (oc : List AV) : Prop where
 el : EL EAtom O oc
 cl : ∀ a ∈ O, clA a
 nd : O.Nodup
 new : ∀ h ∈ O, h ∉ A ∧ ∃ x ∈ l, SolD fz A x h
 done : (O.length : Int) ≤ mo → ∀ x ∈ l.take i, DoneX fz A O x
theorem OutI.step {fz : Bool} {l : List RItem} {A : List RAtom} {cA : List AV} {mo : Int} {i : Nat} {O O' : List RAtom} {oc oc' : List AV} {x : RItem} {c0 p : Nat} (hA : TupsOk A cA) (hH : HalfOk fz c0 p x) (h : OutI fz l A mo i O oc) (hx : l[i]? = some x) (g : HeadsR fz A mo x O O') (he : EL EAtom O' oc') : OutI fz l A mo (i + 1) O' oc' := by
 obtain ⟨nw, e, f⟩ := g.ext
 have hxm := List.mem_of_getElem? hx
 refine ⟨he, fun a ha => ?_, g.nd, fun a ha => ?_, fun hle y hy => ?_⟩
 ·rw [e] at ha
  rcases List.mem_append.1 ha with h' | h'
  ·exact h.cl a h'
  ·exact sol_cl hA hH (f a h').1
 ·rw [e] at ha
  rcases List.mem_append.1 ha with h' | h'
  ·exact h.new a h'
  ·exact ⟨(f a h').2, x, hxm, (f a h').1⟩
 ·rw [List.take_add_one, hx] at hy
  rcases List.mem_append.1 hy with h' | h'
  ·exact (h.done (by rw [e] at hle; simp at hle; omega) y h').mono fun a ha => by rw [e]; exact List.mem_append_left _ ha
  ·simp at h'; subst h'; exact g.done hle
theorem SetI.tups {fz : Bool} {l : List RItem} {giv A : List RAtom} {cA : List AV} (h : SetI fz l giv A cA) (hl : A.length ≤ 1000) : TupsOk A cA := ⟨h.el, hl, h.gnd, h.cl⟩
theorem SetI.grow {fz : Bool} {l : List RItem} {giv A O : List RAtom} {cA oc c2 : List AV} {mo : Int} {i limit : Nat} (h : SetI fz l giv A cA) (hl : A.length ≤ 1000) (hr : ∀ x ∈ l, RuleOk fz limit x) (g : OutI fz l A mo i O oc) (he : EL EAtom (A ++ O) c2) : SetI fz l giv (A ++ O) c2 := by
 refine ⟨he, fun a ha => ?_, fun a ha => ?_, ?_, fun a ha => List.mem_append_left _ (h.gv a ha), fun C hC a ha => ?_⟩
 ·rcases List.mem_append.1 ha with h' | h'
  ·exact h.gnd a h'
  ·obtain ⟨-, x, hx, hs⟩ := g.new a h'
   obtain ⟨c0, p, hH, -⟩ := hr x hx
   exact sol_gnd h.gnd hH.saf hs
 ·rcases List.mem_append.1 ha with h' | h'
  ·exact h.cl a h'
  ·exact g.cl a h'
 ·rw [List.nodup_append]
  exact ⟨h.nd, g.nd, fun a ha b hb e => (g.new b hb).1 (e ▸ ha)⟩
 ·rcases List.mem_append.1 ha with h' | h'
  ·exact h.least C hC a h'
  ·obtain ⟨-, x, hx, hs⟩ := g.new a h'
   exact hC.2 A (h.least C hC) h.gv x hx a hs
def SetRes (fz : Bool) (l : List RItem) (giv : List RAtom) (limit : Nat) (r : AV) : Prop := (∃ A ida cA, r = tp [sl ida A.length cA, sc (.bool true)] ∧ TupsOk A cA ∧ SetOk fz l giv limit A) ∨ (r = tp [nilS, sc (.bool false)] ∧ SetNo fz l giv limit)
set_option maxHeartbeats 64000000 in
theorem settled_spec (fz : Bool) (l : List RItem) (cs : List AV) (idl : Nat) (giv : List RAtom) (cg : List AV) (idg : Nat) (limit : Nat) (hl : EL EItem l cs) (hln : l.length ≤ 1000) (hg : TupsOk giv cg) (hlim : limit ≤ 900) (hgl : giv.length ≤ limit) (hr : ∀ x ∈ l, RuleOk fz limit x) (σ : St) :
  ACalls Tryz.prog 141 [sl idl l.length cs, sl idg giv.length cg, sc (.bool fz), sc (.int .i64 limit)] σ fun r σ' => SetRes fz l giv limit r ∧ Keep σ σ' := by
 have hcl := EL.length EItem_len hl
 have hgcl := EL.length EAtom_len hg.el
 refine acalls 96 [.tmp 8, .tmp 9] Tryz.func141 rfl (by decide) rfl rfl (Nat.le_of_ble_eq_true rfl) ?_
 repeat' (first
 |with_reducible first|apply Xa|apply Xb|(refine Xc ?_;intro κ hκ)|(apply hκ.out;clear hκ κ)|apply Xd|apply Xe|apply Xf
 |((with_reducible first|refine Xl ?_ ?_|refine Xk ?_ ?_)<;> intro h hari<;> try exact Xp)
 |((with_reducible refine aapp_go ?_);refine Xt ?_;intro idn σn hOn hKn eobj enobj ever entop)
 |((with_reducible refine aappn_go ?_);refine Xu ?_)
 |refine Xr ?_
 |exact True.intro
 |(apply hκ.out;clear hκ κ))
 refine awp_loop (fun m s σ' => ∃ (i ia : Nat) (A : List RAtom) (cA : List AV), m = giv.length - i ∧ i ≤ giv.length ∧ s 0 = sl idl l.length cs ∧ s 1 = sl idg giv.length cg ∧ s 2 = sc (.bool fz) ∧ s 3 = sc (.int .i64 limit) ∧ s 10 = sl ia A.length cA ∧ s 11 = sc (.int .i64 i) ∧ Keep σ σ' ∧ Own σ σ' ia A.length ∧ cA.length = A.length * 3 ∧ A.length ≤ i ∧ Abs.Hid (EL EAtom A cA ∧ A.Nodup ∧ ∀ a, a ∈ A ↔ a ∈ giv.take i)) giv.length
  ⟨0, 1, [], [], by omega, by omega, by simp [upd, initS], by simp [upd, initS], by simp [upd, initS], by simp [upd, initS], by simp [upd], by simp [upd], Keep.refl _, Own.nil _ _, rfl, by simp, rfl, List.nodup_nil, by simp⟩ ?_
 rintro m s σ' ⟨i, ia, A, cA, rfl, hi, h0, h1, h2, h3, h10, h11, hK, hO, hxl, hAi, hH⟩
 by_cases hlt : i < giv.length
 ·have hget := List.getElem?_eq_getElem hlt
  have hgm := List.getElem_mem hlt
  obtain ⟨it, r, hd⟩ := EL_atom hg.el hget
  generalize giv[i] = w at hget hgm hd
  have hAm : ∀ a ∈ A, a.terms.length ≤ 1000 := fun a ha => (hg.cl a (List.mem_of_mem_take ((hH.out.2.2 a).1 ha))).2.2
  have hWi := fun σ => within_spec A cA ia w _ hH.out.1 ⟨it, rfl⟩ (by omega) hAm σ
  have HTK : Abs.Hid (giv.take (i + 1) = giv.take i ++ [w]) := by rw [Abs.Hid, List.take_add_one, hget, Option.toList_some]
  clear hget
  by_cases hwA : w ∈ A
  ·have hWi : ∀ σ, ACalls Tryz.prog 147 [sl ia A.length cA, ag [sc (.bool w.nt), str w.pred, sl it w.terms.length (w.terms.map str)]] σ fun r σ' => r = sc (.bool true) ∧ Keep σ σ' := fun σ => (hWi σ).mono fun r σ' ⟨b, h1, h2, h3⟩ => ⟨by rw [h1, h2.2 hwA], h3⟩
   have HN : Abs.Hid (EL EAtom A cA ∧ A.Nodup ∧ ∀ a, a ∈ A ↔ a ∈ giv.take (i + 1)) := ⟨hH.out.1, hH.out.2.1, fun a => by
    rw [HTK.out, List.mem_append, ← hH.out.2.2 a, List.mem_singleton]
    exact ⟨.inl, fun h => h.elim id fun e => e ▸ hwA⟩⟩
   clear hwA hH
   repeat' (first
 |with_reducible first|apply Xa|apply Xb|(refine Xc ?_;intro κ hκ)|(apply hκ.out;clear hκ κ)|apply Xd|apply Xe|apply Xf
 |((with_reducible first|refine Xl ?_ ?_|refine Xk ?_ ?_)<;> intro h hari<;> try exact Xp)
 |((with_reducible refine aapp_go ?_);refine Xt ?_;intro idn σn hOn hKn eobj enobj ever entop)
 |((with_reducible refine aappn_go ?_);refine Xu ?_)
 |((with_reducible refine Xh ?_);refine Xi (hWi _) ?_;rintro _ _ ⟨rfl,hK2⟩)
 |refine Xr ?_
 |exact True.intro
 |(apply hκ.out;clear hκ κ))
   refine ⟨giv.length - (i + 1), by omega, i + 1, ia, A, cA, ?_⟩
   ((repeat' with_reducible refine And.intro ?_ ?_)<;> first|exact Xq|exact (HN)|exact (hK.trans hK2)|exact (Own.keep hO hK2)|exact Xs)
  ·have hWi : ∀ σ, ACalls Tryz.prog 147 [sl ia A.length cA, ag [sc (.bool w.nt), str w.pred, sl it w.terms.length (w.terms.map str)]] σ fun r σ' => r = sc (.bool false) ∧ Keep σ σ' := fun σ => (hWi σ).mono fun r σ' ⟨b, h1, h2, h3⟩ => ⟨by
    cases b with
    | false => exact h1
    | true => exact absurd (h2.1 rfl) hwA, h3⟩
   have HN : Abs.Hid (EL EAtom (A ++ [w]) (cA ++ [sc (.bool w.nt), str w.pred, sl it w.terms.length (w.terms.map str)]) ∧ (A ++ [w]).Nodup ∧ ∀ a, a ∈ A ++ [w] ↔ a ∈ giv.take (i + 1)) := ⟨EL.append hH.out.1 (EL.single ⟨it, rfl⟩), by
     rw [List.nodup_append]
     exact ⟨hH.out.2.1, by simp, fun a ha b hb e => hwA (by rw [List.mem_singleton] at hb; rw [← hb, ← e]; exact ha)⟩, fun a => by
    rw [HTK.out, List.mem_append, List.mem_append, ← hH.out.2.2 a]⟩
   clear hwA hH
   repeat' (first
 |with_reducible first|apply Xa|apply Xb|(refine Xc ?_;intro κ hκ)|(apply hκ.out;clear hκ κ)|apply Xd|apply Xe|apply Xf
 |((with_reducible first|refine Xl ?_ ?_|refine Xk ?_ ?_)<;> intro h hari<;> try exact Xp)
 |((with_reducible refine aapp_go ?_);refine Xt ?_;intro idn σn hOn hKn eobj enobj ever entop)
 |((with_reducible refine aappn_go ?_);refine Xu ?_)
 |((with_reducible refine Xh ?_);refine Xi (hWi _) ?_;rintro _ _ ⟨rfl,hK2⟩;(have hKx:=hK.trans hK2;have hOx:=Own.keep hO hK2))
 |refine Xr ?_
 |exact True.intro
 |(apply hκ.out;clear hκ κ))
   refine ⟨giv.length - (i + 1), by omega, i + 1, idn, A ++ [w], cA ++ [sc (.bool w.nt), str w.pred, sl it w.terms.length (w.terms.map str)], ?_⟩
   ((repeat' with_reducible refine And.intro ?_ ?_)<;> first|exact Xq|exact (HN)|exact (by rw [List.length_append]; exact hOn)|exact Xs)
 ·have hil : i = giv.length := by omega
  subst hil
  have HS0 : Abs.Hid (SetI fz l giv A cA) := by
   obtain ⟨e1, e2, e3⟩ := hH.out
   rw [List.take_length] at e3
   exact ⟨e1, fun a ha => hg.gnd a ((e3 a).1 ha), fun a ha => hg.cl a ((e3 a).1 ha), e2, fun a ha => (e3 a).2 ha, fun C hC a ha => hC.1 a ((e3 a).1 ha)⟩
  have hAl : A.length ≤ limit := by omega
  clear hH hAi hi
  repeat' (first
 |with_reducible first|apply Xa|apply Xb|(refine Xc ?_;intro κ hκ)|(apply hκ.out;clear hκ κ)|apply Xd|apply Xe|apply Xf
 |((with_reducible first|refine Xl ?_ ?_|refine Xk ?_ ?_)<;> intro h hari<;> try exact Xp)
 |((with_reducible refine aapp_go ?_);refine Xt ?_;intro idn σn hOn hKn eobj enobj ever entop)
 |((with_reducible refine aappn_go ?_);refine Xu ?_)
 |refine Xr ?_
 |exact True.intro
 |(apply hκ.out;clear hκ κ))
  refine awp_loop (fun m s σ' => ∃ (r ia : Nat) (A : List RAtom) (cA : List AV), m = limit + 1 - r ∧ r ≤ limit + 1 ∧ s 0 = sl idl l.length cs ∧ s 2 = sc (.bool fz) ∧ s 3 = sc (.int .i64 limit) ∧ s 10 = sl ia A.length cA ∧ s 12 = sc (.int .i64 r) ∧ Keep σ σ' ∧ Own σ σ' ia A.length ∧ cA.length = A.length * 3 ∧ A.length ≤ limit ∧ r ≤ A.length ∧ Abs.Hid (SetI fz l giv A cA)) (limit + 1)
   ⟨0, ia, A, cA, by omega, by omega, by simp [upd, *], by simp [upd, *], by simp [upd, *], by simp [upd, *], by simp [upd], hK, hO, hxl, hAl, by omega, HS0.out⟩ ?_
  clear h0 h1 h2 h3 h10 h11 hK hO hxl HS0 hAl hlt
  rintro m s σ1 ⟨r, ia, A, cA, rfl, hrl, h0, h2, h3, h10, h12, hK, hO, hxl, hAl, hrA, hS⟩
  have hrlim : r ≤ limit := by omega
  have hAt : TupsOk A cA := hS.out.tups (by omega)
  obtain ⟨mo, hmo⟩ : ∃ mo : Int, mo = (limit : Int) - (A.length : Int) := ⟨_, rfl⟩
  have hmo0 : 0 ≤ mo := by omega
  have hmo1 : mo ≤ 900 := by omega
  have HMO : Abs.Hid _ := hmo
  have hsub : (limit : Int) - (A.length : Int) = mo := hmo.symm
  have hmb : mo ≤ (limit : Int) - (A.length : Int) ∧ (limit : Int) - (A.length : Int) ≤ mo := by omega
  clear hmo
  repeat' (first
 |with_reducible first|apply Xa|apply Xb|(refine Xc ?_;intro κ hκ)|(apply hκ.out;clear hκ κ)|apply Xd|apply Xe|apply Xf
 |((with_reducible first|refine Xl ?_ ?_|refine Xk ?_ ?_)<;> intro h hari<;> try exact Xp)
 |((with_reducible refine aapp_go ?_);refine Xt ?_;intro idn σn hOn hKn eobj enobj ever entop)
 |((with_reducible refine aappn_go ?_);refine Xu ?_)
 |refine Xr ?_
 |exact True.intro
 |(apply hκ.out;clear hκ κ))
  refine awp_loop (fun m s σ' => ∃ (i io : Nat) (O : List RAtom) (oc : List AV), m = l.length - i ∧ i ≤ l.length ∧ s 0 = sl idl l.length cs ∧ s 2 = sc (.bool fz) ∧ s 3 = sc (.int .i64 limit) ∧ s 10 = sl ia A.length cA ∧ s 12 = sc (.int .i64 r) ∧ s 13 = sc (.int .i64 A.length) ∧ s 14 = sl io O.length oc ∧ s 15 = sc (.int .i64 i) ∧ Keep σ σ' ∧ Own σ σ' ia A.length ∧ Own σ σ' io O.length ∧ (ia = 1 ∨ io = 1 ∨ ia ≠ io) ∧ (O.length : Int) ≤ mo + 1 ∧ Abs.Hid (OutI fz l A mo i O oc)) l.length
   ⟨0, 1, [], [], by omega, by omega, by simp [upd, *], by simp [upd, *], by simp [upd, *], by simp [upd, *], by simp [upd, *], by simp [upd, *], by simp [upd], by simp [upd], hK, hO, Own.nil _ _, .inr (.inl rfl), by simp; omega, rfl, by simp, List.nodup_nil, by simp, fun _ x hx => by simp at hx⟩ ?_
  clear h0 h2 h3 h10 h12 hK hO
  rintro m s σ2 ⟨i, io, O, oc, rfl, hi, h0, h2, h3, h10, h12, h13, h14, h15, hK, hO, hO2, hap, hOl, hOI⟩
  by_cases hlt : i < l.length
  ·have hget := List.getElem?_eq_getElem hlt
   obtain ⟨ih, id, b, rr, hb, hd⟩ := EL_item hl hget
   have hxr := hr _ (List.getElem_mem hlt)
   generalize l[i] = x at hget hxr hd hb
   obtain ⟨c0, p, hHx, hcx⟩ := hxr
   have hcost := hcx A.length hAl
   have hHe := fun σ (hL : Live σ io O.length) => heads_spec fz A cA ia mo c0 p hAt hmo0 hmo1 x [sc (.bool x.out), sc (.bool x.head.nt), str x.head.pred, sl ih x.head.terms.length (x.head.terms.map str), sl id x.body.length b] ⟨[sc (.bool x.head.nt), str x.head.pred, sl ih x.head.terms.length (x.head.terms.map str)], id, b, ⟨ih, rfl⟩, hb, rfl⟩ hHx hcost O oc io hOI.out.el hOI.out.cl hOI.out.nd hOl σ hL
   have hLv : Live σ2 io O.length := by
    rcases hO2 with h | ⟨k, f1, f2, f3, f4, f5⟩
    ·exact .inl h
    ·exact .inr ⟨k, f1, f3, f4, f5⟩
   have HST : Abs.Hid (∀ O' oc', HeadsR fz A mo x O O' → EL EAtom O' oc' → OutI fz l A mo (i + 1) O' oc') := fun O' oc' g he => OutI.step hAt hHx hOI.out hget g he
   clear hget hcx
   repeat' (first
 |with_reducible first|apply Xa|apply Xb|(refine Xc ?_;intro κ hκ)|(apply hκ.out;clear hκ κ)|apply Xd|apply Xe|apply Xf
 |((with_reducible first|refine Xl ?_ ?_|refine Xk ?_ ?_)<;> intro h hari<;> try exact Xp)
 |((with_reducible refine aapp_go ?_);refine Xt ?_;intro idn σn hOn hKn eobj enobj ever entop)
 |((with_reducible refine aappn_go ?_);refine Xu ?_)
 |((with_reducible refine Xh ?_);refine Xi (hHe _ hLv) ?_;rintro _ _ ⟨io',O',oc',rfl,hE',hL',hid',hKH',hHR'⟩;(have HN : Abs.Hid _:=HST.out O' oc' hHR' hE';have hlen':=hHR'.len;clear HST hE' hHR'))
 |refine Xr ?_
 |exact True.intro
 |(apply hκ.out;clear hκ κ))
   rename_i σ3
   have hK3 := Keep.kh hK hO2 hKH'
   have hO3 := Own.kh (m := 0) hO hap hKH'
   have hO4 := Own.ofLive hK hO2 hL' hid'
   have hap' := Own.apart hO hap hid'
   refine ⟨l.length - (i + 1), by omega, i + 1, io', O', oc', ?_⟩
   ((repeat' with_reducible refine And.intro ?_ ?_)<;> first|exact Xq|exact (HN)|exact (hK3)|exact (hO3)|exact (hO4)|exact (hap')|exact (hlen')|exact Xs)
  ·have hil : i = l.length := by omega
   subst hil
   have hocl := EL.length EAtom_len hOI.out.el
   have hOlen : A.length + O.length ≤ limit + 1 := by omega
   repeat' (first
 |with_reducible first|apply Xa|apply Xb|(refine Xc ?_;intro κ hκ)|(apply hκ.out;clear hκ κ)|apply Xd|apply Xe|apply Xf
 |((with_reducible first|refine Xl ?_ ?_|refine Xk ?_ ?_)<;> intro h hari<;> try exact Xp)
 |((with_reducible refine aapp_go ?_);refine Xt ?_;intro idn σn hOn hKn eobj enobj ever entop)
 |((with_reducible refine aappn_go ?_);refine Xu ?_)
 |refine Xr ?_
 |exact True.intro
 |(apply hκ.out;clear hκ κ))
   refine awp_loop (fun m s σ' => ∃ (q ia2 : Nat) (L : List RAtom) (c2 : List AV), m = O.length - q ∧ q ≤ O.length ∧ s 0 = sl idl l.length cs ∧ s 2 = sc (.bool fz) ∧ s 3 = sc (.int .i64 limit) ∧ s 10 = sl ia2 L.length c2 ∧ s 12 = sc (.int .i64 r) ∧ s 13 = sc (.int .i64 A.length) ∧ s 14 = sl io O.length oc ∧ s 16 = sc (.int .i64 q) ∧ Keep σ σ' ∧ Own σ σ' ia2 L.length ∧ c2.length = L.length * 3 ∧ L.length ≤ A.length + q ∧ A.length + q ≤ L.length ∧ Abs.Hid (L = A ++ O.take q ∧ EL EAtom L c2)) O.length
    ⟨0, ia, A, cA, by omega, by omega, by simp [upd, *], by simp [upd, *], by simp [upd, *], by simp [upd, *], by simp [upd, *], by simp [upd, *], by simp [upd, *], by simp [upd], hK, hO, hxl, by omega, by omega, by simp, hS.out.el⟩ ?_
   clear h0 h2 h3 h10 h12 h13 h14 h15 hK hO hO2 hap
   rintro m s σ3 ⟨q, ia2, L, c2, rfl, hq, h0, h2, h3, h10, h12, h13, h14, h16, hK, hO, hc2, hL1, hL2, hLI⟩
   by_cases hlq : q < O.length
   ·have hget := List.getElem?_eq_getElem hlq
    have hgm := List.getElem_mem hlq
    obtain ⟨it, rr, hd⟩ := EL_atom hOI.out.el hget
    generalize O[q] = w at hget hgm hd
    have hLm : ∀ a ∈ L, a.terms.length ≤ 1000 := fun a ha => by
     rw [hLI.out.1] at ha
     rcases List.mem_append.1 ha with h' | h'
     ·exact (hS.out.cl a h').2.2
     ·exact (hOI.out.cl a (List.mem_of_mem_take h')).2.2
    have hwn : w ∉ L := by
     rw [hLI.out.1]
     intro h
     rcases List.mem_append.1 h with h' | h'
     ·exact (hOI.out.new w hgm).1 h'
     ·obtain ⟨z, hz⟩ := List.getElem?_of_mem h'
      have hzl := (List.getElem?_eq_some_iff.1 hz).1
      rw [List.length_take] at hzl
      rw [List.getElem?_take, if_pos (by omega)] at hz
      have := (List.getElem?_inj hlq hOI.out.nd).1 (hget.trans hz.symm)
      omega
    have hWi := fun σ => within_spec L c2 ia2 w _ hLI.out.2 ⟨it, rfl⟩ (by omega) hLm σ
    have hWi : ∀ σ, ACalls Tryz.prog 147 [sl ia2 L.length c2, ag [sc (.bool w.nt), str w.pred, sl it w.terms.length (w.terms.map str)]] σ fun r σ' => r = sc (.bool false) ∧ Keep σ σ' := fun σ => (hWi σ).mono fun r σ' ⟨b, h1, h2, h3⟩ => ⟨by
     cases b with
     | false => exact h1
     | true => exact absurd (h2.1 rfl) hwn, h3⟩
    have hle : (L.length : Int) ≤ (limit : Int) := by omega
    have hled : decide ((L.length : Int) ≤ (limit : Int)) = true := by simpa using hle
    have HN : Abs.Hid (L ++ [w] = A ++ O.take (q + 1) ∧ EL EAtom (L ++ [w]) (c2 ++ [sc (.bool w.nt), str w.pred, sl it w.terms.length (w.terms.map str)])) := ⟨by rw [List.take_add_one, hget, hLI.out.1]; simp, EL.append hLI.out.2 (EL.single ⟨it, rfl⟩)⟩
    clear hget hwn
    repeat' (first
 |with_reducible first|apply Xa|apply Xb|(refine Xc ?_;intro κ hκ)|(apply hκ.out;clear hκ κ)|apply Xd|apply Xe|apply Xf
 |((with_reducible first|refine Xl ?_ ?_|refine Xk ?_ ?_)<;> intro h hari<;> try exact Xp)
 |((with_reducible refine aapp_go ?_);refine Xt ?_;intro idn σn hOn hKn eobj enobj ever entop)
 |((with_reducible refine aappn_go ?_);refine Xu ?_)
 |((with_reducible refine Xh ?_);refine Xi (hWi _) ?_;rintro _ _ ⟨rfl,hK2⟩;(have hKx:=hK.trans hK2;have hOx:=Own.keep hO hK2))
 |refine Xr ?_
 |exact True.intro
 |(apply hκ.out;clear hκ κ))
    refine ⟨O.length - (q + 1), by omega, q + 1, idn, L ++ [w], c2 ++ [sc (.bool w.nt), str w.pred, sl it w.terms.length (w.terms.map str)], ?_⟩
    ((repeat' with_reducible refine And.intro ?_ ?_)<;> first|exact Xq|exact (HN)|exact (by rw [List.length_append]; exact hOn)|exact Xs)
   ·have hql : q = O.length := by omega
    subst hql
    have hLe : L = A ++ O := by have := hLI.out.1; rw [List.take_length] at this; exact this
    have HSG : Abs.Hid (SetI fz l giv L c2) := by
     rw [hLe]; exact hS.out.grow (by omega) hr hOI.out (by rw [← hLe]; exact hLI.out.2)
    by_cases hbig : limit < L.length
    ·have hd1 : decide ((L.length : Int) > (limit : Int)) = true := by simp; omega
     have hd2 : decide ((limit : Int) < (L.length : Int)) = true := by simp; omega
     have HR : Abs.Hid (SetNo fz l giv limit) := fun C hC => ⟨L, HSG.out.nd, hbig, HSG.out.least C hC⟩
     clear hLe
     repeat' (first
 |with_reducible first|apply Xa|apply Xb|(refine Xc ?_;intro κ hκ)|(apply hκ.out;clear hκ κ)|apply Xd|apply Xe|apply Xf
 |((with_reducible first|refine Xl ?_ ?_|refine Xk ?_ ?_)<;> intro h hari<;> try exact Xp)
 |((with_reducible refine aapp_go ?_);refine Xt ?_;intro idn σn hOn hKn eobj enobj ever entop)
 |((with_reducible refine aappn_go ?_);refine Xu ?_)
 |refine Xr ?_
 |exact True.intro
 |(apply hκ.out;clear hκ κ))
     first | exact ⟨_, rfl, .inr ⟨rfl, HR.out⟩, hK⟩ | exact ⟨_, rfl, .inr ⟨rfl, HR.out⟩⟩
    ·have hd1 : decide ((L.length : Int) > (limit : Int)) = false := by simp; omega
     have hd2 : decide ((limit : Int) < (L.length : Int)) = false := by simp; omega
     by_cases hz : O.length = 0
     ·have hO0 : O = [] := List.eq_nil_of_length_eq_zero hz
      have he : ((L.length : Int) == (A.length : Int)) = true := by rw [hLe, hO0]; simp
      have HR : Abs.Hid (SetRes fz l giv limit (tp [sl ia2 L.length c2, sc (.bool true)])) := .inl ⟨L, ia2, c2, rfl, HSG.out.tups (by omega), HSG.out.gv, HSG.out.nd, by omega, fun x hx h hs => by
       have hdn := hOI.out.done (by rw [hz]; omega) x (by rw [List.take_length]; exact hx)
       have hLA : L = A := by rw [hLe, hO0, List.append_nil]
       rw [hLA] at hs ⊢
       rcases hdn h hs with h' | h'
       ·exact .inl h'
       ·rw [hO0] at h'; exact .inr h', HSG.out.least⟩
      clear hLe hO0
      repeat' (first
 |with_reducible first|apply Xa|apply Xb|(refine Xc ?_;intro κ hκ)|(apply hκ.out;clear hκ κ)|apply Xd|apply Xe|apply Xf
 |((with_reducible first|refine Xl ?_ ?_|refine Xk ?_ ?_)<;> intro h hari<;> try exact Xp)
 |((with_reducible refine aapp_go ?_);refine Xt ?_;intro idn σn hOn hKn eobj enobj ever entop)
 |((with_reducible refine aappn_go ?_);refine Xu ?_)
 |refine Xr ?_
 |exact True.intro
 |(apply hκ.out;clear hκ κ))
      first | exact ⟨_, rfl, HR.out, hK⟩ | exact ⟨_, rfl, HR.out⟩
     ·have he : ((L.length : Int) == (A.length : Int)) = false := by rw [hLe]; simp; omega
      have hgrow : A.length + 1 ≤ L.length := by rw [hLe]; simp; omega
      clear hLe
      repeat' (first
 |with_reducible first|apply Xa|apply Xb|(refine Xc ?_;intro κ hκ)|(apply hκ.out;clear hκ κ)|apply Xd|apply Xe|apply Xf
 |((with_reducible first|refine Xl ?_ ?_|refine Xk ?_ ?_)<;> intro h hari<;> try exact Xp)
 |((with_reducible refine aapp_go ?_);refine Xt ?_;intro idn σn hOn hKn eobj enobj ever entop)
 |((with_reducible refine aappn_go ?_);refine Xu ?_)
 |refine Xr ?_
 |exact True.intro
 |(apply hκ.out;clear hκ κ))
      refine ⟨limit + 1 - (r + 1), by omega, r + 1, ia2, L, c2, ?_⟩
      ((repeat' with_reducible refine And.intro ?_ ?_)<;> first|exact Xq|exact (HSG)|exact Xs)
end Go.Proofs.YtmoeoppbmhfbpaaGreatDoorY
