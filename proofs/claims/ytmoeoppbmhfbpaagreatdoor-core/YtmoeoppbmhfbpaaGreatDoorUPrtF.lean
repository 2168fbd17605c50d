import Derived.Test.YtmoeoppbmhfbpaaGreatDoorUPrtA
import Derived.Test.YtmoeoppbmhfbpaaGreatDoorUAbsWp
import Derived.Test.YtmoeoppbmhfbpaaGreatDoorUProgR
/- The program: an item with its variables in order. -/
namespace Go.Proofs.YtmoeoppbmhfbpaaGreatDoorU
open Go.Abs
set_option linter.unusedSimpArgs false
set_option linter.unusedVariables false
set_option maxRecDepth 100000
def RL (N l : List Tx) (a : RAtom) (c : List AV) : Prop := ∃ ids, c = [sc (.bool a.nt), sc (.int .i64 (N.idxOf a.pred : Nat)), sl ids a.terms.length (rcells l a.terms)]
theorem RL_len {N l : List Tx} (a : RAtom) (c : List AV) (h : RL N l a c) : c.length = 3 := by obtain ⟨ids, rfl⟩ := h; rfl
theorem EL_RL {N l : List Tx} {ls : List RAtom} {cs : List AV} {i : Nat} {a : RAtom} (h : EL (RL N l) ls cs) (hi : ls[i]? = some a) : ∃ ia r, cs.drop (i * 3) = sc (.bool a.nt) :: sc (.int .i64 (N.idxOf a.pred : Nat)) :: sl ia a.terms.length (rcells l a.terms) :: r := by
 obtain ⟨c, r, ⟨ia, rfl⟩, e⟩ := EL.get RL_len h hi
 exact ⟨ia, r, e⟩
def RI (N l : List Tx) (x : RItem) (c : List AV) : Prop := ∃ ih id b, EL (RL N l) x.body b ∧ c = [sc (.bool x.out), sc (.int .i64 (N.idxOf x.head.pred : Nat)), sl ih x.head.terms.length (rcells l x.head.terms), sl id x.body.length b]
set_option maxHeartbeats 16000000 in
theorem inOrder_spec (N : List Tx) (x : RItem) (c : List AV) (hc : PI N x c) (ho : x.out = true → x.body = []) (hx : x.fits) (hV : ∀ a ∈ atomsL x, VA a) (hVh : VA x.head) (hVb : ∀ a ∈ x.body, VA a) (σ : St) :
  ACalls Tryz.prog 63 [ag c] σ fun r σ' => ∃ c', r = ag c' ∧ RI N (ordL x) x c' ∧ VL (ordL x) ∧ Keep σ σ' := by
 have hVs := fun σ => pvariables_spec N x c hc ho hx hV σ
 have hol := ordL_len hx
 have hx1 := hx.1
 have hxb := hx.2.2
 obtain ⟨hm, ih, id, b, hb, rfl⟩ := hc
 have hbl := EL.length PL_len hb
 have hRh := fun lo ido (hl : lo.length ≤ 10000000) hL σ => renamed_spec lo ido (N.idxOf x.head.pred : Nat) ih x.head hl hL hVh hx.2.1 σ
 have hRb := fun lo ido (a : RAtom) ia ha (hl : lo.length ≤ 10000000) hL hv σ => renamed_spec lo ido (N.idxOf a.pred : Nat) ia a hl hL hv (hxb a ha) σ
 generalize ordL x = lo at hVs hol
 have hRh := fun ido hL σ => hRh lo ido hol hL σ
 refine acalls 39 [.cell 2 97] Tryz.func63 rfl (by decide) rfl rfl (Nat.le_of_ble_eq_true rfl) ?_
 repeat' (first
 |with_reducible first|apply Xa|apply Xb|(refine Xc ?_;intro κ hκ)|(apply hκ.out;clear hκ κ)|apply Xd|apply Xe|apply Xf
 |((with_reducible first|refine Xl ?_ ?_|refine Xm ?_ ?_|refine Xk ?_ ?_)<;> intro h hari<;> try exact Xp)
 |((with_reducible refine aapp_go ?_);refine Xt ?_;intro idn σn hOn hKn eobj enobj ever entop)
 |((with_reducible refine aappn_go ?_);refine Xu ?_)
 |((with_reducible refine Xh ?_);refine Xi (hVs _) ?_;rintro _ _ ⟨ido,rfl,hVL,hK1⟩;(have kob1:=hK1.obj;have kno1:=hK1.nobj;simp only [new_nobj] at kno1))
 |refine Xr ?_
 |exact True.intro
 |((with_reducible refine Xg ?_);refine Xj ?_)
 |(apply hκ.out;clear hκ κ))
 rename_i σ1
 have ho0 : σ1.obj σ.nobj = [sc (.bool x.out), sc (.int .i64 (N.idxOf x.head.pred : Nat)), sl ih x.head.terms.length (tcells x.head.terms), sl id x.body.length b] := by
  rw [kob1 _ (by simp only [new_nobj]; omega), new_lt (by simp only [new_nobj]; omega), new_same]
 have ho1 : σ1.obj (σ.nobj + 1) = [sc (.bool false), sc (.int .i64 0), nilS, nilS] := by
  rw [kob1 _ (by simp only [new_nobj]; omega), new_at (by rw [new_nobj]; omega) (by rw [new_nobj]; omega)]
 have hK0 : Keep σ σ1 := by exact Xs
 clear kob1 hK1
 have HVL : Abs.Hid (VL lo) := hVL
 refine awp_mono (Q := fun e s σ' => e = .normal ∧ ∃ o i2 : Nat, s 1 = ptr σ.nobj 0 ∧ s 2 = ptr (σ.nobj + 1) 0 ∧ s 3 = sl ido lo.length (lo.map encI) ∧ s 4 = ptr o 0 ∧ σ.nobj + 1 < o ∧ o < σ'.nobj ∧ σ'.obj σ.nobj = [sc (.bool x.out), sc (.int .i64 (N.idxOf x.head.pred : Nat)), sl ih x.head.terms.length (tcells x.head.terms), sl id x.body.length b] ∧ σ'.obj (σ.nobj + 1) = [sc (.bool false), sc (.int .i64 0), nilS, nilS] ∧ σ'.obj o = [sc (.bool x.out), sc (.int .i64 (N.idxOf x.head.pred : Nat)), sl i2 x.head.terms.length (rcells lo x.head.terms), nilS] ∧ Keep σ σ') ?_ ?_
 ·refine awp_draw_h follows_mixed (fun _ => True) [8] [0, 1, 2, 3, 4] 4 #[true, true, true, true, true, false, false, false, false] (by kernel_rfl) (fun _ _ _ h => by cases h.1) ?_
  intro κ hκ
  refine Xr ?_
  refine hκ.out _ ?_
  clear hκ κ
  have hR2 := fun σ => hRh ido HVL.out σ
  refine uany_all (rs := [5, 7]) (by kernel_rfl) (by simp) ?_
  intro i hi
  simp only [List.mem_cons, List.not_mem_nil, or_false] at hi
  rcases hi with rfl | rfl
  ·refine aOne_k ?_
   intro κ hκ
   refine Xr ?_
   refine ACalls.mono (hR2 _) ?_
   rintro _ σ2 ⟨i2, rfl, hK2⟩
   have kob2 := hK2.obj
   have kno2 := hK2.nobj
   refine Xr ?_
   refine hκ.out _ _ ⟨kept_keep hK2, ?_⟩
   clear hκ κ
   refine uany_all (rs := [6, 7]) (by kernel_rfl) (by simp) ?_
   intro i hi
   simp only [List.mem_cons, List.not_mem_nil, or_false] at hi
   rcases hi with rfl | rfl
   ·refine aOne_k ?_
    intro κ hκ
    refine Xr ?_
    refine hκ.out _ _ ⟨kept_keep hK2, ?_⟩
    clear hκ κ
    refine uany_one (i := 7) (by kernel_rfl) ?_
    refine aOne_k ?_
    intro κ hκ
    refine Xr ?_
    refine hκ.out _ _ ⟨kept_keep (hK2.new _), ?_⟩
    clear hκ κ
    refine uany_one (i := 8) (by kernel_rfl) ?_
    refine aOne_k ?_
    intro κ hκ
    refine Xr ?_
    refine hκ.out _ _ ⟨kept_last rfl, ?_⟩
    clear hκ κ
    refine uany_done (by kernel_rfl) ⟨rfl, σ2.nobj, i2, by simp [upd], by simp [upd], by simp [upd], by simp [upd], by omega, by simp only [put_nobj, new_nobj]; omega, ?_, ?_, put_same, ?_⟩
    ·rw [put_ne (by omega), new_lt (by omega), kob2 _ (by omega), ho0]
    ·rw [put_ne (by omega), new_lt (by omega), kob2 _ (by omega), ho1]
    ·exact ((hK0.trans hK2).new _).put (by omega) _
   ·refine aOne_k ?_
    intro κ hκ
    refine Xr ?_
    refine hκ.out _ _ ⟨kept_keep (hK2.new _), ?_⟩
    clear hκ κ
    refine uany_one (i := 6) (by kernel_rfl) ?_
    refine aOne_k ?_
    intro κ hκ
    refine Xr ?_
    refine hκ.out _ _ ⟨kept_keep (hK2.new _), ?_⟩
    clear hκ κ
    refine uany_one (i := 8) (by kernel_rfl) ?_
    refine aOne_k ?_
    intro κ hκ
    refine Xr ?_
    refine hκ.out _ _ ⟨kept_last rfl, ?_⟩
    clear hκ κ
    refine uany_done (by kernel_rfl) ⟨rfl, σ2.nobj, i2, by simp [upd], by simp [upd], by simp [upd], by simp [upd], by omega, by simp only [put_nobj, new_nobj]; omega, ?_, ?_, put_same, ?_⟩
    ·rw [put_ne (by omega), new_lt (by omega), kob2 _ (by omega), ho0]
    ·rw [put_ne (by omega), new_lt (by omega), kob2 _ (by omega), ho1]
    ·exact ((hK0.trans hK2).new _).put (by omega) _
  ·refine aOne_k ?_
   intro κ hκ
   refine Xr ?_
   refine hκ.out _ _ ⟨kept_keep ((Keep.refl _).new _), ?_⟩
   clear hκ κ
   refine uany_one (i := 5) (by kernel_rfl) ?_
   refine aOne_k ?_
   intro κ hκ
   refine Xr ?_
   refine ACalls.mono (hR2 _) ?_
   rintro _ σ2 ⟨i2, rfl, hK2⟩
   have kob2 := hK2.obj
   have kno2 := hK2.nobj
   simp only [new_nobj] at kno2
   refine Xr ?_
   refine hκ.out _ _ ⟨kept_keep (((Keep.refl _).new _).trans hK2), ?_⟩
   clear hκ κ
   refine uany_one (i := 6) (by kernel_rfl) ?_
   refine aOne_k ?_
   intro κ hκ
   refine Xr ?_
   refine hκ.out _ _ ⟨kept_keep (((Keep.refl _).new _).trans hK2), ?_⟩
   clear hκ κ
   refine uany_one (i := 8) (by kernel_rfl) ?_
   refine aOne_k ?_
   intro κ hκ
   refine Xr ?_
   refine hκ.out _ _ ⟨kept_last rfl, ?_⟩
   clear hκ κ
   refine uany_done (by kernel_rfl) ⟨rfl, σ1.nobj, i2, by simp [upd], by simp [upd], by simp [upd], by simp [upd], by omega, by simp only [put_nobj, new_nobj]; omega, ?_, ?_, put_same, ?_⟩
   ·rw [put_ne (by omega), kob2 _ (by rw [new_nobj]; omega), new_lt (by omega), ho0]
   ·rw [put_ne (by omega), kob2 _ (by rw [new_nobj]; omega), new_lt (by omega), ho1]
   ·exact ((hK0.new _).trans hK2).put (by omega) _
 ·rintro e s σ2 ⟨rfl, o, i2, h1, h2, h3, h4, hlo, hoo, ob0, ob1, ob, hK⟩
  have kno := hK.nobj
  clear hK0 ho0 ho1 kno1 hRh
  repeat' (first
 |with_reducible first|apply Xa|apply Xb|(refine Xc ?_;intro κ hκ)|(apply hκ.out;clear hκ κ)|apply Xd|apply Xe|apply Xf
 |((with_reducible first|refine Xl ?_ ?_|refine Xm ?_ ?_|refine Xk ?_ ?_)<;> intro h hari<;> try exact Xp)
 |((with_reducible refine aapp_go ?_);refine Xt ?_;intro idn σn hOn hKn eobj enobj ever entop)
 |((with_reducible refine aappn_go ?_);refine Xu ?_)
 |refine Xr ?_
 |exact True.intro
 |((with_reducible refine Xg ?_);refine Xj ?_)
 |(apply hκ.out;clear hκ κ))
  refine awp_loop (fun m s σ' => ∃ (k i3 : Nat) (xs : List AV), m = x.body.length - k ∧ k ≤ x.body.length ∧ s 2 = ptr (σ.nobj + 1) 0 ∧ s 3 = sl ido lo.length (lo.map encI) ∧ s 4 = ptr o 0 ∧ s 18 = sl id x.body.length b ∧ s 19 = sc (.int .i64 x.body.length) ∧ s 20 = sc (.int .i64 k) ∧ Keep σ σ' ∧ o < σ'.nobj ∧ σ'.obj (σ.nobj + 1) = [sc (.bool false), sc (.int .i64 0), nilS, nilS] ∧ σ'.obj o = [sc (.bool x.out), sc (.int .i64 (N.idxOf x.head.pred : Nat)), sl i2 x.head.terms.length (rcells lo x.head.terms), sl i3 k xs] ∧ Own σ σ' i3 k ∧ xs.length = k * 3 ∧ Abs.Hid (EL (RL N lo) (x.body.take k) xs)) x.body.length
   ⟨0, 1, [], by omega, by omega, by simp [upd, h2], by simp [upd, h3], by simp [upd, h4], by simp [upd], by simp [upd], rfl, hK, hoo, ob1, ob, Own.nil _ _, by simp, rfl⟩ ?_
  clear h1 h2 h3 h4 ob0 ob1 ob hK hoo kno
  rintro m s σ' ⟨k, i3, xs, rfl, hk, h2, h3, h4, h18, h19, h20, hK, hoo, ob1, ob, hO, hxl, hX⟩
  have kno := hK.nobj
  by_cases hlt : k < x.body.length
  ·have hget := List.getElem?_eq_getElem hlt
   have hmb := List.getElem_mem hlt
   obtain ⟨ha, ia, r, hd⟩ := EL_PL hb hget
   have hR := fun σ => hRb lo ido x.body[k] ia hmb hol HVL.out (hVb _ hmb) σ
   generalize x.body[k] = a at hd hget ha hR hmb
   have HG : Abs.Hid (x.body[k]? = some a) := hget
   clear hget hmb
   repeat' (first
 |with_reducible first|apply Xa|apply Xb|(refine Xc ?_;intro κ hκ)|(apply hκ.out;clear hκ κ)|apply Xd|apply Xe|apply Xf
 |((with_reducible first|refine Xl ?_ ?_|refine Xm ?_ ?_|refine Xk ?_ ?_)<;> intro h hari<;> try exact Xp)
 |((with_reducible refine aapp_go ?_);refine Xt ?_;intro idn σn hOn hKn eobj enobj ever entop)
 |((with_reducible refine aappn_go ?_);refine Xu ?_)
 |((with_reducible refine Xh ?_);refine Xi (hR _) ?_;rintro _ _ ⟨i4,rfl,hK4⟩;(have kob4:=hK4.obj;have kno4:=hK4.nobj;simp only [new_nobj,put_nobj] at kno4))
 |refine Xr ?_
 |exact True.intro
 |((with_reducible refine Xg ?_);refine Xj ?_)
 |(apply hκ.out;clear hκ κ))
   rename_i σ4
   have hKz := ((hK.new [sc (.bool false), sc (.int .i64 0), nilS]).put hK.nobj _).trans hK4
   have hOz := Own.keep (Own.put (Own.new hO [sc (.bool false), sc (.int .i64 0), nilS]) σ'.nobj [sc (.bool a.nt), sc (.int .i64 (N.idxOf a.pred : Nat)), sl ia a.terms.length (tcells a.terms)]) hK4
   refine aApp_own (by first | exact tez_95) ((hKz.new _).put (by omega) _) (Own.put (Own.new hOz _) _ _) (by decide) (by rfl) hxl (by rfl) (by rfl) (by decide) (by omega) (by omega) ?_
   intro idn σn hOn hKn eobj enobj ever entop
   simp only [put_nobj, new_nobj] at enobj
   refine Xr ?_
   repeat' (first
 |with_reducible first|apply Xa|apply Xb|(refine Xc ?_;intro κ hκ)|(apply hκ.out;clear hκ κ)|apply Xd|apply Xe|apply Xf
 |((with_reducible first|refine Xl ?_ ?_|refine Xm ?_ ?_|refine Xk ?_ ?_)<;> intro h hari<;> try exact Xp)
 |((with_reducible refine aapp_go ?_);refine Xt ?_;intro idn σn hOn hKn eobj enobj ever entop)
 |((with_reducible refine aappn_go ?_);refine Xu ?_)
 |refine Xr ?_
 |exact True.intro
 |((with_reducible refine Xg ?_);refine Xj ?_)
 |(apply hκ.out;clear hκ κ))
   refine ⟨x.body.length - (k + 1), by omega, k + 1, idn, _, rfl, by omega, by simp, hKn.put (by omega) _, by omega, rfl, Own.put hOn _ _, by simp; omega, ?_⟩
   rw [Abs.Hid, List.take_add_one, HG.out]
   exact EL.append hX.out (EL.single ⟨i4, rfl⟩)
  ·have hkl : k = x.body.length := by omega
   subst hkl
   rw [List.take_length] at hX
   repeat' (first
 |with_reducible first|apply Xa|apply Xb|(refine Xc ?_;intro κ hκ)|(apply hκ.out;clear hκ κ)|apply Xd|apply Xe|apply Xf
 |((with_reducible first|refine Xl ?_ ?_|refine Xm ?_ ?_|refine Xk ?_ ?_)<;> intro h hari<;> try exact Xp)
 |((with_reducible refine aapp_go ?_);refine Xt ?_;intro idn σn hOn hKn eobj enobj ever entop)
 |((with_reducible refine aappn_go ?_);refine Xu ?_)
 |refine Xr ?_
 |exact True.intro
 |((with_reducible refine Xg ?_);refine Xj ?_)
 |(apply hκ.out;clear hκ κ))
   exact ⟨_, rfl, _, rfl, ⟨i2, i3, xs, hX.out, rfl⟩, hK.put (by omega) _⟩
/- What can be written. -/
theorem letB_small {k : Int} (h0 : 0 ≤ k) (h1 : k < 26) : letB k = UInt8.ofNat (IntKind.u8.wrap (65 + k)).toNat := by
 unfold letB
 rw [Int.tmod_eq_of_lt h0 h1, i64w (by omega) (by omega)]
def WT (l : List Tx) (a : RAtom) : Prop := ∀ w ∈ a.terms, DT w ∧ w.length ≤ 1000 ∧ (variableB w = true → 0 ≤ whichL l w ∧ whichL l w < 26)
def WA (N l : List Tx) (a : RAtom) : Prop := a.pred ∈ N ∧ 0 < a.terms.length ∧ a.terms.length ≤ 1000 ∧ a.pred.length ≤ 1000 ∧ WT l a
structure WI (N : List Tx) (x : RItem) : Prop where
 fits : x.fits
 short : x.short
 va : ∀ a ∈ atomsL x, VA a
 vh : VA x.head
 vb : ∀ a ∈ x.body, VA a
 mem : x.head.pred ∈ N
 body : x.body.length ≤ 5
 out : x.out = true → x.body = []
 head : x.out = false → x.head.nt = false ∧ WA N (ordL x) x.head
 wa : ∀ a ∈ x.body, WA N (ordL x) a
theorem mem_ordF {acc : List Tx} {t u : Tx} (h : t ∈ acc ∨ (t = u ∧ variableB u = true)) : t ∈ ordF acc u := by
 unfold ordF
 split
 ·rcases h with h | ⟨rfl, -⟩
  ·exact List.mem_append.2 (.inl h)
  ·exact List.mem_append.2 (.inr (by simp))
 ·rename_i hn
  rcases h with h | ⟨rfl, hv⟩
  ·exact h
  ·exact Classical.byContradiction fun hm => hn ⟨hv, hm⟩
theorem mem_ordT : ∀ (ts acc : List Tx) (t : Tx), (t ∈ acc ∨ (t ∈ ts ∧ variableB t = true)) → t ∈ ordT acc ts
 | [], acc, t, h => by
  rcases h with h | ⟨h, -⟩
  ·exact h
  ·cases h
 | u :: ts, acc, t, h => by
  show t ∈ ordT (ordF acc u) ts
  apply mem_ordT ts
  rcases h with h | ⟨h, hv⟩
  ·exact .inl (mem_ordF (.inl h))
  ·rcases List.mem_cons.1 h with rfl | h
   ·exact .inl (mem_ordF (.inr ⟨rfl, hv⟩))
   ·exact .inr ⟨h, hv⟩
theorem flat_len {ls : List RAtom} (h : ∀ a ∈ ls, a.terms.length ≤ 3) : (ls.flatMap (·.terms)).length ≤ ls.length * 3 := by
 induction ls with
 | nil => simp
 | cons a ls ih =>
  have h2 := ih fun b hb => h b (by simp [hb])
  have h3 := h a (by simp)
  simp only [List.flatMap_cons, List.length_append, List.length_cons]
  omega
theorem atoms_mem {x : RItem} {a : RAtom} (h : (x.out = false ∧ a = x.head) ∨ a ∈ x.body) : a ∈ atomsL x := by
 unfold atomsL
 rcases h with ⟨h, rfl⟩ | h
 ·exact List.mem_append.2 (.inl (by rw [h]; simp))
 ·exact List.mem_append.2 (.inr h)
theorem ord_small {x : RItem} (hw : WItem x) {a : RAtom} (ha : a ∈ atomsL x) {w : Tx} (hm : w ∈ a.terms) (hv : variableB w = true) : 0 ≤ whichL (ordL x) w ∧ whichL (ordL x) w < 26 := by
 have h1 : w ∈ ordL x := mem_ordT _ _ _ (.inr ⟨List.mem_flatMap.2 ⟨a, ha, hm⟩, hv⟩)
 have h2 := List.idxOf_lt_length_of_mem h1
 have h3 := ordT_len ((atomsL x).flatMap (·.terms)) []
 obtain ⟨q1, q2, q3⟩ := hw
 have h4 : (atomsL x).length ≤ 6 ∧ ∀ b ∈ atomsL x, b.terms.length ≤ 3 := by
  cases ho : x.out with
  | true =>
   obtain ⟨-, -, e⟩ := q2 ho
   simp [atomsL, ho, e]
  | false =>
   obtain ⟨e1, -, e2, e3⟩ := q3 ho
   refine ⟨by simp [atomsL, ho]; omega, fun b hb => ?_⟩
   simp [atomsL, ho] at hb
   rcases hb with rfl | hb
   ·exact e1.2.2.1
   ·exact (e3 b hb).2.2.1
 have h5 := flat_len h4.2
 have h6 : (ordL x).length ≤ 18 := by
  unfold ordL
  rw [List.length_nil, Nat.zero_add] at h3
  omega
 unfold whichL
 rw [if_pos h1]
 omega
theorem wi_of {t : Tx} {N : List Tx} {l : List RItem} {cs : List AV} {r : Tx} (hl : t.length ≤ 1000) (hp : pItems 16 t = .got l r) (hB : Bk N l cs) (hWI : ∀ x ∈ l, WItem x) : ∀ x ∈ l, WI N x := by
 intro x hx
 have hva := pItems_va 16 t l r hp x hx
 have hdt := pItems_all (T := DT) pTerm_dt 16 t l r hp x hx
 have hsh := parse_short hl hp x hx
 have hm := EL_PI_mem hB.el x hx
 have hw := hWI x hx
 have hf := hB.fits x hx
 have hwa : ∀ a, a ∈ atomsL x → a.pred ∈ N → WAtom a → short a → a.terms.length ≤ 1000 → WA N (ordL x) a := fun a ha hN hW hs hn =>
  ⟨hN, List.length_pos_iff.2 hW.2.1, hn, hs.1, fun w hm => ⟨hdt a ha w hm, hs.2.2 w hm, fun hv => ord_small hw ha hm hv⟩⟩
 refine ⟨hf, hsh, hva, ?_, ?_, hm.1, ?_, hB.out x hx, ?_, ?_⟩
 ·cases ho : x.out with
  | true => intro w hw'; rw [(hw.2.1 ho).2.1] at hw'; cases hw'
  | false => exact hva x.head (atoms_mem (.inl ⟨ho, rfl⟩))
 ·exact fun a ha => hva a (atoms_mem (.inr ha))
 ·cases ho : x.out with
  | true => rw [hB.out x hx ho]; simp
  | false => exact (hw.2.2 ho).2.2.1
 ·intro ho
  obtain ⟨e1, e2, -⟩ := hw.2.2 ho
  exact ⟨e2, hwa x.head (atoms_mem (.inl ⟨ho, rfl⟩)) hm.1 e1 hsh.1 hf.2.1⟩
 ·intro a ha
  have ho : x.out = false := by
   cases h : x.out with
   | false => rfl
   | true => rw [hB.out x hx h] at ha; cases ha
  exact hwa a (atoms_mem (.inr ha)) (hm.2 a ha) ((hw.2.2 ho).2.2.2 a ha) (hsh.2 a ha) (hf.2.2 a ha)
/- An item with its variables in order, as a text. -/
def renA (l : List Tx) (a : RAtom) : RAtom := { nt := a.nt, pred := a.pred, terms := a.terms.map (wrT l) }
def ren (x : RItem) : RItem := { out := x.out, head := renA (ordL x) x.head, body := x.body.map (renA (ordL x)) }
theorem let_toNat {k : Int} (h0 : 0 ≤ k) (h1 : k < 26) : ((letB k).toNat : Int) = 65 + k := by
 rw [letB_small h0 h1, u8w (by omega) (by omega)]
 rw [UInt8.toNat_ofNat_of_lt' (by show (65 + k).toNat < 256; omega)]
 omega
theorem let_large {k : Int} (h0 : 0 ≤ k) (h1 : k < 26) : largeB (letB k).toNat = true := by
 rw [let_toNat h0 h1]; simp [largeB]; omega
theorem var_wr {l : List Tx} {w : Tx} (hv : variableB w = true → 0 ≤ whichL l w ∧ whichL l w < 26) : variableB (wrT l w) = variableB w := by
 unfold wrT
 split
 ·rename_i h
  obtain ⟨h0, h1⟩ := hv h
  rw [h]
  exact let_large h0 h1
 ·rfl
theorem enc_wr {l : List Tx} {w : Tx} (hD : DT w) (hv : variableB w = true → 0 ≤ whichL l w ∧ whichL l w < 26) : encT (wrT l w) = (variableB w, if variableB w = true then whichL l w else (encT w).2) := by
 unfold wrT
 split
 ·rename_i h
  obtain ⟨h0, h1⟩ := hv h
  rw [encT_large (let_large h0 h1), let_toNat h0 h1, h]
  congr 1; omega
 ·rename_i h
  have h' : variableB w = false := by simpa using h
  rw [h']
  cases w with
  | nil => rfl
  | cons b r => rw [encT_num h']
theorem rcells_tcells {l ts : List Tx} (h : ∀ w ∈ ts, DT w ∧ (variableB w = true → 0 ≤ whichL l w ∧ whichL l w < 26)) : rcells l ts = tcells (ts.map (wrT l)) := by
 induction ts with
 | nil => rfl
 | cons w ts ih =>
  obtain ⟨h1, h2⟩ := h w (by simp)
  unfold rcells tcells at *
  rw [List.flatMap_cons, List.map_cons, List.flatMap_cons, ih fun w' hw' => h w' (by simp [hw'])]
  congr 1
  unfold rcell tcell
  rw [enc_wr h1 h2]
theorem WT_of {N l : List Tx} {a : RAtom} (h : WA N l a) : ∀ w ∈ a.terms, DT w ∧ (variableB w = true → 0 ≤ whichL l w ∧ whichL l w < 26) := fun w hw => ⟨(h.2.2.2.2 w hw).1, (h.2.2.2.2 w hw).2.2⟩
theorem RL_PL {N l : List Tx} : ∀ {ls : List RAtom} {b : List AV}, (∀ a ∈ ls, WA N l a) → EL (RL N l) ls b → EL (PL N) (ls.map (renA l)) b
 | [], b, _, h => h
 | a :: ls, b, hw, ⟨c, d, ⟨ids, hc⟩, hd, e⟩ => by
  have ha := hw a (by simp)
  refine ⟨c, d, ⟨ha.1, ids, ?_⟩, RL_PL (fun a' h => hw a' (by simp [h])) hd, e⟩
  rw [hc, rcells_tcells (WT_of ha)]
  simp [renA]
theorem RI_PI {N : List Tx} {x : RItem} {c : List AV} (hw : WI N x) (ho : x.out = false) (h : RI N (ordL x) x c) : PI N (ren x) c := by
 obtain ⟨ih, id, b, hb, rfl⟩ := h
 refine ⟨hw.mem, ih, id, b, RL_PL hw.wa hb, ?_⟩
 rw [rcells_tcells (WT_of (hw.head ho).2)]
 simp [ren, renA]
/-! ### Its text -/
theorem wrTs_u (l : List Tx) : ∀ (ts : List Tx) (k : Nat), 0 < k → wrTs l k ts = uMore (ts.map (wrT l))
 | [], k, _ => rfl
 | t :: ts, k, hk => by
  rw [wrTs, wrTs_u l ts (k + 1) (by omega), wrS, if_neg (by omega)]
  simp [uMore]
theorem wrTs_list {l ts : List Tx} (h : ts ≠ []) : wrTs l 0 ts = 40 :: uList (ts.map (wrT l)) := by
 cases ts with
 | nil => exact absurd rfl h
 | cons t ts => rw [wrTs, wrTs_u l ts 1 (by omega)]; simp [wrS, uList]
theorem writeL_u {l : List Tx} {a : RAtom} (h : a.terms ≠ []) : writeL l a = uLit (renA l a) := by
 unfold writeL uLit uAtom
 rw [wrTs_list h]
 cases ha : a.nt <;> simp [renA, ha]
theorem wrBs_u {l : List Tx} : ∀ (ls : List RAtom) (k : Nat), 0 < k → (∀ a ∈ ls, a.terms ≠ []) → wrBs l k ls = uMore ((ls.map (renA l)).map uLit)
 | [], k, _, _ => rfl
 | a :: ls, k, hk, h => by
  rw [wrBs, wrBs_u ls (k + 1) (by omega) (fun a' h' => h a' (by simp [h'])), wrB, if_neg (by omega), writeL_u (h a (by simp))]
  simp [uMore]
theorem wrBs_list {l : List Tx} {ls : List RAtom} (h : ∀ a ∈ ls, a.terms ≠ []) : wrBs l 0 ls = if ls = [] then [] else 58 :: 45 :: uList ((ls.map (renA l)).map uLit) := by
 cases ls with
 | nil => rfl
 | cons a ls =>
  rw [wrBs, wrBs_u ls 1 (by omega) (fun a' h' => h a' (by simp [h'])), writeL_u (h a (by simp)), if_neg (by simp)]
  simp [wrB, uList]
theorem written_u {x : RItem} (hw : WItem x) : writtenL x = uItem (ren x) ++ [46] := by
 obtain ⟨-, h2, h3⟩ := hw
 unfold writtenL uItem
 cases ho : x.out with
 | true => simp [ren, renA, ho]
 | false =>
  obtain ⟨q1, q2, -, q3⟩ := h3 ho
  rw [if_neg (by simp), if_neg (by simp [ren, ho]), writeL_u q1.2.1, wrBs_list (fun a ha => (q3 a ha).2.1), uLit_pos (by simpa [renA] using q2)]
  unfold uRule
  simp [ren]
theorem ren_WAtom {N l : List Tx} {a : RAtom} (h : WAtom a) (hw : ∀ w ∈ a.terms, variableB w = true → 0 ≤ whichL l w ∧ whichL l w < 26) : WAtom (renA l a) := by
 obtain ⟨h1, h2, h3, h4⟩ := h
 refine ⟨h1, by simpa [renA] using h2, by simpa [renA] using h3, fun t ht => ?_⟩
 simp only [renA, List.mem_map] at ht
 obtain ⟨w, hm, rfl⟩ := ht
 unfold wrT
 split
 ·rename_i hv
  obtain ⟨q0, q1⟩ := hw w hm hv
  exact ⟨by simp, fun b hb => by simp at hb; subst hb; exact .inl (let_large q0 q1)⟩
 ·exact h4 w hm
theorem ren_WItem {N : List Tx} {x : RItem} (hw : WItem x) (hi : WI N x) : WItem (ren x) := by
 obtain ⟨h1, h2, h3⟩ := hw
 refine ⟨h1, fun ho => ?_, fun ho => ?_⟩
 ·obtain ⟨q1, q2, q3⟩ := h2 ho
  exact ⟨q1, by simp [ren, renA, q2], by simp [ren, q3]⟩
 ·obtain ⟨q1, q2, q3, q4⟩ := h3 ho
  refine ⟨ren_WAtom (N := N) q1 (fun w hm => (WT_of (hi.head ho).2 w hm).2), q2, by simpa [ren] using q3, fun a ha => ?_⟩
  simp only [ren, List.mem_map] at ha
  obtain ⟨a', ha', rfl⟩ := ha
  exact ren_WAtom (N := N) (q4 a' ha') (fun w hm => (WT_of (hi.wa a' ha') w hm).2)
theorem whole_u {l : List RItem} (hw : ∀ x ∈ l, WItem x) : wholeL l = uItems (l.map ren) := by
 unfold wholeL uItems
 induction l with
 | nil => rfl
 | cons x l ih =>
  rw [List.flatMap_cons, List.map_cons, List.flatMap_cons, written_u (hw x (by simp)), ih fun y hy => hw y (by simp [hy])]
theorem items_whole {N : List Tx} {l : List RItem} (hw : ∀ x ∈ l, WItem x) (hi : ∀ x ∈ l, WI N x) : itemsL (wholeL l) = l.map ren := by
 have h2 : ∀ y ∈ l.map ren, WItem y := fun y hy => by
  obtain ⟨x, hx, rfl⟩ := List.mem_map.1 hy
  exact ren_WItem (hw x hx) (hi x hx)
 rw [whole_u hw]
 unfold itemsL
 rw [cut_items _ h2, List.map_map]
 conv => rhs; rw [← List.map_id (l.map ren)]
 apply List.map_congr_left
 intro y hy
 exact (itemL_of (h2 y hy)).1
/- The program: texts of terms and atoms. -/
set_option maxHeartbeats 4000000 in
theorem ttext_spec (l : List Tx) (w : Tx) (hD : DT w) (hv : variableB w = true → 0 ≤ whichL l w ∧ whichL l w < 26) (σ : St) : ACalls Tryz.prog 110 [ag (rcell l w)] σ fun r σ' => r = str (wrT l w) ∧ Keep σ σ' := by
 have hone : ∀ z : UInt8, ({ data := #[z] } : ByteArray) = bs [z] := fun _ => rfl
 unfold rcell
 cases hb : variableB w with
 | true =>
  obtain ⟨h0, h1⟩ := hv hb
  have hL : Abs.Hid (wrT l w = [UInt8.ofNat (IntKind.u8.wrap (65 + whichL l w)).toNat]) := by rw [Abs.Hid, wrT, if_pos hb, letB_small h0 h1]
  rw [if_pos rfl]
  generalize whichL l w = k at h0 h1 hL
  clear hv
  refine acalls 14 [.tmp 2] Tryz.func110 rfl (by decide) rfl rfl (Nat.le_of_ble_eq_true rfl) ?_
  repeat' (first
 |with_reducible first|apply Xa|apply Xb|(refine Xc ?_;intro κ hκ)|(apply hκ.out;clear hκ κ)|apply Xd|apply Xe|apply Xf
 |((with_reducible first|refine Xl ?_ ?_|refine Xk ?_ ?_)<;> intro h hari<;> try exact Xp)
 |refine Xw ?_
 |exact True.intro
 |(apply hκ.out;clear hκ κ))
  exact ⟨_, rfl, by rw [hL.out], by exact Xs⟩
 | false =>
  obtain ⟨d1, d2, d3⟩ : Lib.itoa (encT w).2 = w ∧ 0 ≤ (encT w).2 ∧ (encT w).2 ≤ 999 := by
   rcases hD with h | h
   ·rw [hb] at h; cases h
   ·exact h.2
  have hI := fun σ => itoa_spec (encT w).2 d2 (by omega) σ
  rw [if_neg (by simp)]
  rw [d1] at hI
  have hL : Abs.Hid (wrT l w = w) := by rw [Abs.Hid, wrT, if_neg (by rw [hb]; simp)]
  generalize (encT w).2 = v at hI
  clear hv hD
  refine acalls 14 [.tmp 2] Tryz.func110 rfl (by decide) rfl rfl (Nat.le_of_ble_eq_true rfl) ?_
  repeat' (first
 |with_reducible first|apply Xa|apply Xb|(refine Xc ?_;intro κ hκ)|(apply hκ.out;clear hκ κ)|apply Xd|apply Xe|apply Xf
 |((with_reducible first|refine Xl ?_ ?_|refine Xk ?_ ?_)<;> intro h hari<;> try exact Xp)
 |((with_reducible refine Xh ?_);refine Xi (hI _) ?_;rintro _ _ ⟨rfl,rfl⟩)
 |refine Xw ?_
 |exact True.intro
 |(apply hκ.out;clear hκ κ))
  exact ⟨_, rfl, by rw [hL.out], by exact Xs⟩
theorem rcells_get {l ts : List Tx} {k : Nat} {w : Tx} (h : ts[k]? = some w) : ∃ r, (rcells l ts).drop (k * 2) = sc (.bool (variableB w)) :: sc (.int .i64 (if variableB w = true then whichL l w else (encT w).2)) :: r := by
 have hE : ∀ ts : List Tx, EL (fun w c => c = rcell l w) ts (rcells l ts) := by
  intro ts
  induction ts with
  | nil => rfl
  | cons a l ih => exact ⟨rcell _ a, rcells _ l, rfl, ih, by simp [rcells]⟩
 obtain ⟨c, r, rfl, e⟩ := EL.get (z := 2) (fun a c h => by rw [h]; rfl) (hE ts) h
 exact ⟨r, e⟩
def prT (l : List Tx) (k : Nat) (ts : List Tx) : Tx := if k = 0 then [40] else wrTs l 0 (ts.take k)
theorem prT_step {l ts : List Tx} {k : Nat} {w : Tx} (h : ts[k]? = some w) : prT l (k + 1) ts = prT l k ts ++ ((if k = 0 then [] else [44]) ++ wrT l w) := by
 have hk : k < ts.length := (List.getElem?_eq_some_iff.1 h).1
 unfold prT
 rw [if_neg (by omega), List.take_add_one, h, Option.toList_some, wrTs_snoc, List.length_take, Nat.min_eq_left (by omega), Nat.zero_add]
 by_cases h0 : k = 0
 ·subst h0; simp [wrTs, wrS]
 ·rw [if_neg h0, if_neg h0]; simp [wrS, h0]
set_option maxHeartbeats 16000000 in
theorem atext_spec (N l : List Tx) (idn ids : Nat) (a : RAtom) (ha : a.pred ∈ N) (hN : N.length ≤ 2000) (hp : 0 < a.terms.length) (hn : a.terms.length ≤ 1000) (hpl : a.pred.length ≤ 1000) (hw : WT l a) (σ : St) :
  ACalls Tryz.prog 198 [ag [sc (.int .i64 (N.idxOf a.pred : Nat)), sl ids a.terms.length (rcells l a.terms)], sl idn N.length (N.map str)] σ fun r σ' => r = str (a.pred ++ wrTs l 0 a.terms ++ [41]) ∧ Keep σ σ' := by
 have hrl := rcells_len l a.terms
 have h40 : ({ data := #[40] } : ByteArray) = bs [40] := rfl
 have h44 : ({ data := #[44] } : ByteArray) = bs [44] := rfl
 have h41 : ({ data := #[41] } : ByteArray) = bs [41] := rfl
 have hix := List.idxOf_lt_length_of_mem ha
 have hge : (N.map str).drop (N.idxOf a.pred) = str a.pred :: (N.map str).drop (N.idxOf a.pred + 1) := by
  have := map_str_get hix
  rwa [List.getElem_idxOf hix] at this
 generalize N.idxOf a.pred = ix at hix hge
 refine acalls 33 [.tmp 4] Tryz.func198 rfl (by decide) rfl rfl (Nat.le_of_ble_eq_true rfl) ?_
 repeat' (first
 |with_reducible first|apply Xa|apply Xb|(refine Xc ?_;intro κ hκ)|(apply hκ.out;clear hκ κ)|apply Xd|apply Xe|apply Xf
 |((with_reducible first|refine Xl ?_ ?_|refine Xk ?_ ?_)<;> intro h hari<;> try exact Xp)
 |refine Xw ?_
 |exact True.intro
 |(apply hκ.out;clear hκ κ))
 refine awp_loop (fun m s σ' => ∃ (k : Nat) (acc : Tx), m = a.terms.length - k ∧ k ≤ a.terms.length ∧ s 5 = str acc ∧ s 15 = sl ids a.terms.length (rcells l a.terms) ∧ s 16 = sc (.int .i64 a.terms.length) ∧ s 17 = sc (.int .i64 k) ∧ Keep σ σ' ∧ acc.length ≤ 1001 + k * 1001 ∧ Abs.Hid (acc = a.pred ++ prT l k a.terms)) a.terms.length
  ⟨0, a.pred ++ [40], by omega, by omega, by simp [upd], by simp [upd], by simp [upd], rfl, by exact Xs, by simp; omega, by simp [Abs.Hid, prT]⟩ ?_
 rintro m s σ' ⟨k, acc, rfl, hk, h5, h15, h16, h17, hK, hal, hA⟩
 have kno := hK.nobj
 by_cases hlt : k < a.terms.length
 ·have hget := List.getElem?_eq_getElem hlt
  obtain ⟨w1, w2, w3⟩ := hw a.terms[k] (List.getElem_mem hlt)
  obtain ⟨r, hd⟩ := rcells_get (l := l) hget
  have hst : Abs.Hid (a.pred ++ prT l (k + 1) a.terms = acc ++ ((if k = 0 then [] else [44]) ++ wrT l a.terms[k])) := by
   rw [Abs.Hid, prT_step hget, hA.out, List.append_assoc]
  have hwl := wrT_len l a.terms[k] w2
  have hT := fun σ => ttext_spec l a.terms[k] w1 w3 σ
  unfold rcell at hT
  generalize wrT l a.terms[k] = tw at hst hT hwl
  generalize (if variableB a.terms[k] = true then whichL l a.terms[k] else (encT a.terms[k]).2) = vw at hT hd
  generalize variableB a.terms[k] = bw at hT hd
  clear hget w1 w2 w3
  by_cases hk0 : k = 0
  ·have hkb : decide ((0 : Int) < (k : Int)) = false := by simp [hk0]
   have hst : Abs.Hid (a.pred ++ prT l (k + 1) a.terms = acc ++ tw) := by rw [Abs.Hid, hst.out, if_pos hk0]; simp
   clear hk0
   repeat' (first
 |with_reducible first|apply Xa|apply Xb|(refine Xc ?_;intro κ hκ)|(apply hκ.out;clear hκ κ)|apply Xd|apply Xe|apply Xf
 |((with_reducible first|refine Xl ?_ ?_|refine Xk ?_ ?_)<;> intro h hari<;> try exact Xp)
 |((with_reducible refine Xh ?_);refine Xi (hT _) ?_;rintro _ _ ⟨rfl,hK2⟩;(have kob2:=hK2.obj;have kno2:=hK2.nobj))
 |refine Xw ?_
 |exact True.intro
 |(apply hκ.out;clear hκ κ))
   exact ⟨a.terms.length - (k + 1), by omega, k + 1, acc ++ tw, rfl, by omega, rfl, by simp, ((hK.new _).put hK.nobj _).trans hK2, by simp only [List.length_append]; omega, by rw [Abs.Hid, hst.out]⟩
  ·have hkb : decide ((0 : Int) < (k : Int)) = true := by simp; omega
   have hst : Abs.Hid (a.pred ++ prT l (k + 1) a.terms = acc ++ ([44] ++ tw)) := by rw [Abs.Hid, hst.out, if_neg hk0]
   clear hk0
   repeat' (first
 |with_reducible first|apply Xa|apply Xb|(refine Xc ?_;intro κ hκ)|(apply hκ.out;clear hκ κ)|apply Xd|apply Xe|apply Xf
 |((with_reducible first|refine Xl ?_ ?_|refine Xk ?_ ?_)<;> intro h hari<;> try exact Xp)
 |((with_reducible refine Xh ?_);refine Xi (hT _) ?_;rintro _ _ ⟨rfl,hK2⟩;(have kob2:=hK2.obj;have kno2:=hK2.nobj))
 |refine Xw ?_
 |exact True.intro
 |(apply hκ.out;clear hκ κ))
   exact ⟨a.terms.length - (k + 1), by omega, k + 1, acc ++ ([44] ++ tw), rfl, by omega, by rw [List.append_assoc], by simp, ((hK.new _).put hK.nobj _).trans hK2, by simp only [List.length_append, List.length_singleton]; omega, by rw [Abs.Hid, hst.out]⟩
 ·have hkl : k = a.terms.length := by omega
  subst hkl
  have hA2 : acc = a.pred ++ wrTs l 0 a.terms := by rw [hA.out, prT, if_neg (by omega), List.take_length]
  have HA : Abs.Hid _ := hA2
  clear hA hA2
  repeat' (first
 |with_reducible first|apply Xa|apply Xb|(refine Xc ?_;intro κ hκ)|(apply hκ.out;clear hκ κ)|apply Xd|apply Xe|apply Xf
 |((with_reducible first|refine Xl ?_ ?_|refine Xk ?_ ?_)<;> intro h hari<;> try exact Xp)
 |refine Xw ?_
 |exact True.intro
 |(apply hκ.out;clear hκ κ))
  first
  | exact ⟨_, rfl, by rw [HA.out], hK⟩
  | exact ⟨_, rfl, by rw [HA.out]⟩
end Go.Proofs.YtmoeoppbmhfbpaaGreatDoorU
