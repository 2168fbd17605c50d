import Derived.Test.YtmoeoppbmhfbpaaGreatDoorBAbsWp
import Derived.Test.YtmoeoppbmhfbpaaGreatDoorBEngU
/- Slices that are an object's: they grow, they are written, and once they are frozen they are read alone. -/
namespace Go.Abs
set_option linter.unusedSimpArgs false
set_option linter.unusedVariables false

theorem aApp_obj {P : Program} {t : TypeId} {z b : Nat} {zc : List Value} {σ : St} {id2 m n : Nat} {x : AV} {xs ys : List AV} {K : AV → St → Prop} (ht : tez P t = some (z, b, zc))
    (hz : 0 < z) (hzc : zc.length = z) (hy : ys.length = m * z) (hf : ys.all flat = true) (hm : 0 < m) (hb : (n + m) * b ≤ 140737488355328) (hl : n + m ≤ 1099511627776)
    (hx : (x = nilS ∧ n = 0 ∧ xs = []) ∨ ∃ o cap, x = gx o n cap ∧ 0 < n ∧ n ≤ cap ∧ (σ.obj o).length = cap * z ∧ (σ.obj o).take (n * z) = xs)
    (hO : ∀ o cap cs, ((∃ c0, x = gx o n c0 ∧ n + m ≤ c0 ∧ cap = c0) → cs.length = cap * z → cs.take ((n + m) * z) = xs ++ ys → K (gx o (n + m) cap) (σ.put o cs)))
    (hN : ∀ cap cs, cs.length = cap * z → n + m ≤ cap → cs.take ((n + m) * z) = xs ++ ys → K (gx σ.nobj (n + m) cap) (σ.new cs)) : aApp P t t x (sl id2 m ys) σ K := by
  right
  refine ⟨z, b, zc, id2, m, ys, ht, rfl, rfl, hz, hzc, hy, hf, hm, ?_⟩
  have hrep : ∀ k, (List.replicate k (zc.map cst1)).flatten.length = k * z := fun k => by
    induction k with
    | zero => simp
    | succ k ih => rw [List.replicate_succ, List.flatten_cons, List.length_append, ih, List.length_map, hzc, Nat.succ_mul, Nat.add_comm]
  rcases hx with ⟨rfl, rfl, rfl⟩ | ⟨o, cap, rfl, hn0, hle, hlen, htk⟩
  · refine .inl ⟨rfl, by simpa using hb, by simpa using hl, fun cap hc => ?_⟩
    have := hN cap (ys ++ (List.replicate (cap - m) (zc.map cst1)).flatten) (by rw [List.length_append, hy, hrep, ← Nat.add_mul]; congr 1; omega) (by omega) (by rw [Nat.zero_add, ← hy, List.take_left]; rfl)
    rw [Nat.zero_add] at this
    exact this
  · have hxl : xs.length = n * z := by rw [← htk, List.length_take, hlen]; exact Nat.min_eq_left (Nat.mul_le_mul_right _ hle)
    refine .inr ⟨o, n, cap, rfl, hb, hl, hlen, hn0, fun hc => ?_, fun hc cap' hc' => ?_⟩
    · have hfit : n * z + ys.length ≤ (σ.obj o).length := by rw [hy, hlen, ← Nat.add_mul]; exact Nat.mul_le_mul_right _ hc
      refine hO o cap _ ⟨cap, rfl, hc, rfl⟩ (by rw [lsp_length]; exact hlen) ?_
      rw [lsp_eq _ _ _ hfit, htk]
      have : (n + m) * z = (xs ++ ys).length := by rw [List.length_append, hxl, hy, Nat.add_mul]
      rw [this, List.take_left]
    · refine hN cap' _ ?_ hc' ?_
      · rw [htk, List.length_append, List.length_append, hxl, hy, hrep, ← Nat.add_mul, ← Nat.add_mul]
        congr 1; omega
      · rw [htk]
        have : (n + m) * z = (xs ++ ys).length := by rw [List.length_append, hxl, hy, Nat.add_mul]
        rw [this, List.take_left]
theorem awp_freeze {P : Program} {N : Nat} {c : Code} {Q : Post} {s : Sl} {σ : St} {o p n cap j k : Nat} {ys : List AV} (ho : o < σ.nobj) (hp : p < σ.nobj) (hop : o ≠ p) (hy : σ.obj p = ys) (hj : ys[j]? = some (gx o n cap)) (hk : k ≤ (σ.obj o).length)
    (h : AWp P N c Q s ((σ.put o []).put p (ys.set j (sl 0 n ((σ.obj o).take k))))) : AWp P N c Q s σ := fun G a w R => by
  obtain ⟨G', I', E, hper, hblk⟩ := R.inv.freeze ho
  have hpo : (σ.put o []).obj p = ys := by simp [St.put, hop.symm, hy]
  have hne : (σ.put o []).obj p ≠ [] := fun e => by rw [hpo] at e; rw [e] at hj; simp at hj
  obtain ⟨I2, E2⟩ := I'.retell (o := p) hp hne (ys.set j (sl 0 n ((σ.obj o).take k))) (fun arr ha => by
    rw [hpo] at ha
    refine ⟨by rw [List.length_set]; exact ha.1, fun i v x hv hx => ?_⟩
    by_cases hij : i = j
    · subst hij
      have hjl := (List.getElem?_eq_some_iff.1 hj).1
      rw [List.getElem?_set_self hjl] at hx
      cases hx
      obtain ⟨e1, e2, e3⟩ := VR.of_gx (ha.2 i v _ hv hj)
      refine VR.fold ⟨some ⟨G'.blk o, 0, none⟩, cap, e1, ⟨e2, fun h => by cases h⟩, fun hxs => ⟨G'.blk o, 0, rfl, fun q y hq => ?_⟩, fun k' hk' => by omega⟩
      have hon : σ.obj o ≠ [] := fun e => hxs (by rw [e]; simp)
      obtain ⟨⟨cur, ecur, hcur, hca⟩, -⟩ := (R.inv.obj o ho).2.2 hon
      rw [List.getElem?_take] at hq
      split at hq
      case isFalse => cases hq
      obtain ⟨u, hu1, hu2⟩ := hca.get hq
      refine ⟨by rw [hblk]; exact hper _, u, ?_, hu2.ext E⟩
      rw [hblk]
      simp only [World.cell?, hcur, Nat.zero_add]
      simpa using hu1
    · rw [List.getElem?_set_ne (Ne.symm hij)] at hx
      exact ha.2 i v x hv hx)
  have R2 : Rel N G' s ((σ.put o []).put p (ys.set j (sl 0 n ((σ.obj o).take k)))) a w := ⟨R.defers, R.size, fun t => (R.tmps t).ext (E.trans E2), I2⟩
  exact wp_mono (h G' a w R2) fun e a' w' hc => hc.ext (E.trans E2)
theorem awp_freeze_tmp {P : Program} {N : Nat} {c : Code} {Q : Post} {s : Sl} {σ : St} {o n cap k t : Nat} (ho : o < σ.nobj) (ht : s t = gx o n cap) (hk : k ≤ (σ.obj o).length)
    (h : AWp P N c Q (upd s t (sl 0 n ((σ.obj o).take k))) (σ.put o [])) : AWp P N c Q s σ := fun G a w R => by
  obtain ⟨G', I', E, hper, hblk⟩ := R.inv.freeze ho
  have R2 : Rel N G' (upd s t (sl 0 n ((σ.obj o).take k))) (σ.put o []) a w := ⟨R.defers, R.size, fun q => by
    unfold upd
    by_cases hq : q = t
    · rw [if_pos hq]
      subst hq
      have hv := R.tmps q
      rw [ht] at hv
      obtain ⟨e1, e2, e3⟩ := VR.of_gx hv
      refine VR.fold ⟨some ⟨G.blk o, 0, none⟩, cap, e1, ⟨e2, fun h => by cases h⟩, fun hxs => ⟨G.blk o, 0, rfl, fun q y hq => ?_⟩, fun k' hk' => by omega⟩
      have hon : σ.obj o ≠ [] := fun e => hxs (by rw [e]; simp)
      obtain ⟨⟨cur, ecur, hcur, hca⟩, -⟩ := (R.inv.obj o ho).2.2 hon
      rw [List.getElem?_take] at hq
      split at hq
      case isFalse => cases hq
      obtain ⟨u, hu1, hu2⟩ := hca.get hq
      refine ⟨hper _, u, ?_, hu2.ext E⟩
      simp only [World.cell?, hcur, Nat.zero_add]
      simpa using hu1
    · rw [if_neg hq]; exact (R.tmps q).ext E, I'⟩
  exact wp_mono (h G' a w R2) fun e a' w' hc => hc.ext E
end Go.Abs
/- The program's engine: what must not be, and a part whose tuples bar it. -/
namespace Go.Proofs.YtmoeoppbmhfbpaaGreatDoorB
open Go.Abs
set_option linter.unusedSimpArgs false
set_option linter.unusedVariables false
set_option maxRecDepth 100000

theorem setl_sub {a : Atm} (h : setl a.ts = true) (ν : Nu) : esub a ν = tupA a := by
  unfold esub tupA
  congr 1
  apply List.map_congr_left
  intro t ht
  unfold setl at h
  rw [List.all_eq_true] at h
  have := h t ht
  obtain ⟨b, w⟩ := t
  cases b with
  | false => rfl
  | true => simp at this
def barF (t : Tup) (ts : List Tm) (x : Tm × Nat) : List Tm := if x.1.1 = true then eputTs x.1.2 (tat t (x.2 : Nat)) ts else ts
def barT (ps : List Tm) (t : Tup) (ts : List Tm) : List Tm := ps.zipIdx.foldl (barF t) ts
def barP (l : List Tup) (a : Atm) (p : Part) : Part := ⟨p.a, p.tups.filter fun t => !decide (tupA ⟨a.p, barT p.a.ts t a.ts⟩ ∈ l)⟩
theorem barT_snoc (ps : List Tm) (x : Tm) (t : Tup) (ts : List Tm) : barT (ps ++ [x]) t ts = barF t (barT ps t ts) (x, ps.length) := by
  unfold barT
  rw [List.zipIdx_append, List.foldl_append]
  simp
theorem upd_self (μ : Nu) (v : Int) : updN μ v (μ v) = μ := by
  funext w
  unfold updN
  split
  · rename_i e; rw [e]
  · rfl
theorem bar_has {t : Tup} {v : Int} : ∀ (l : List (Tm × Nat)) (ts : List Tm), hasV (l.foldl (barF t) ts) v = true → hasV ts v = true ∧ ∀ x ∈ l, x.1 ≠ (true, v)
  | [], ts, h => ⟨h, by simp⟩
  | x :: l, ts, h => by
    rw [List.foldl_cons] at h
    obtain ⟨h1, h2⟩ := bar_has l _ h
    unfold barF at h1
    obtain ⟨⟨xb, xv⟩, xi⟩ := x
    cases xb with
    | false =>
      simp only [Bool.false_eq_true, if_false] at h1
      exact ⟨h1, fun y hy => by
        rcases List.mem_cons.1 hy with rfl | hy
        · simp
        · exact h2 y hy⟩
    | true =>
      simp only [if_true] at h1
      have := (hasV_put (a := ⟨0, ts⟩)).1 h1
      exact ⟨this.1, fun y hy => by
        rcases List.mem_cons.1 hy with rfl | hy
        · simp only [ne_eq, Prod.mk.injEq, true_and]; exact fun e => this.2 e.symm
        · exact h2 y hy⟩
theorem bar_sub {pa a : Atm} {μ : Nu} (h3 : pa.ts.length ≤ 3) (hv : ∀ v, hasV a.ts v = true → hasV pa.ts v = true) : tupA ⟨a.p, barT pa.ts (esub pa μ) a.ts⟩ = esub a μ := by
  have key : ∀ (l : List (Tm × Nat)) (ts : List Tm), (∀ x ∈ l, pa.ts[x.2]? = some x.1) → esub ⟨a.p, l.foldl (barF (esub pa μ)) ts⟩ μ = esub ⟨a.p, ts⟩ μ := by
    intro l
    induction l with
    | nil => intro ts _; rfl
    | cons x l ih =>
      intro ts hl
      rw [List.foldl_cons, ih _ (fun y hy => hl y (List.mem_cons_of_mem _ hy))]
      unfold barF
      split
      · rename_i hx
        obtain ⟨⟨xb, xv⟩, xi⟩ := x
        simp only at hx
        subst hx
        have hg : pa.ts[xi]? = some (true, xv) := hl _ List.mem_cons_self
        have hlt := (List.getElem?_eq_some_iff.1 hg).1
        have ht : tat (esub pa μ) ((xi : Nat) : Int) = μ xv := by
          unfold tat
          rw [Int.toNat_natCast, esub, tupOf_get (by simpa using hlt) (by simpa using h3)]
          have := (List.getElem?_eq_some_iff.1 hg).2
          simp [this, valN]
        show esub ⟨a.p, eputTs xv (tat (esub pa μ) ((xi : Nat) : Int)) ts⟩ μ = _
        rw [ht]
        have := sub_put ⟨a.p, ts⟩ xv (μ xv) μ
        rw [upd_self] at this
        exact this
      · rfl
  have hz : ∀ x ∈ pa.ts.zipIdx, pa.ts[x.2]? = some x.1 := fun x hx => by
    obtain ⟨y, i⟩ := x
    exact List.mem_zipIdx_iff_getElem?.1 hx
  have h1 := key pa.ts.zipIdx a.ts hz
  have h2 : setl (barT pa.ts (esub pa μ) a.ts) = true := by
    unfold setl
    rw [List.all_eq_true]
    intro t ht
    obtain ⟨b, w⟩ := t
    cases b with
    | false => rfl
    | true =>
      exfalso
      obtain ⟨g1, g2⟩ := bar_has pa.ts.zipIdx a.ts (hasV_iff.2 ht)
      have := hasV_iff.1 (hv w g1)
      obtain ⟨i, hi⟩ := List.getElem?_of_mem this
      exact g2 ((true, w), i) (List.mem_zipIdx_iff_getElem?.2 hi) rfl
  rw [← setl_sub (a := ⟨a.p, barT pa.ts (esub pa μ) a.ts⟩) h2 μ]
  exact h1
theorem bar_mem {l : List Tup} {a : Atm} {p : Part} {ν : Nu} (h3 : p.a.ts.length ≤ 3) (hv : ∀ v, hasV a.ts v = true → hasV p.a.ts v = true) : esub p.a ν ∈ (barP l a p).tups ↔ esub p.a ν ∈ p.tups ∧ esub a ν ∉ l := by
  unfold barP
  rw [List.mem_filter, bar_sub h3 hv]
  simp
set_option maxHeartbeats 32000000 in
theorem ebarred_spec (om ot : Nat) (M : MM) (d b : Int) (p : Part) (a : Atm) (id idt ida k : Nat) (x : Nat × List Tup) (hpa : p.a.ts.length ≤ 3) (hpt : p.tups.length ≤ 5000) (h3 : T3 p.tups) (ha : a.ts.length ≤ 3) (hk : a.p = (k : Int)) (hx : M[k]? = some x) (σ : St) (hM : MOb σ om ot M d b) : ACalls Tryz.prog 212 [ptr om 0, ag [ic p.a.p, sl id p.a.ts.length (ecells p.a.ts), sl idt p.tups.length (tcs p.tups)], ag [ic a.p, sl ida a.ts.length (ecells a.ts)]] σ fun r σ' => (∃ idn, r = ag [ic p.a.p, sl id p.a.ts.length (ecells p.a.ts), sl idn (barP x.2 a p).tups.length (tcs (barP x.2 a p).tups)]) ∧ Keep σ σ' := by
  have htl := tcs_len h3
  have hel := ecells_len p.a.ts
  have HR : Abs.Hid ((barP x.2 a p).tups = p.tups.filter fun t => !decide (tupA ⟨a.p, barT p.a.ts t a.ts⟩ ∈ x.2)) := rfl
  have hHas : Abs.Hid (∀ (ts : List Tm) (i : Nat) (σ1 : St), ts.length ≤ 3 → Keep σ σ1 → ACalls Tryz.prog 75 [ptr om 0, ag [ic a.p, sl i ts.length (ecells ts)]] σ1 fun r σ' => r = sc (.bool (decide (tupA ⟨a.p, ts⟩ ∈ x.2))) ∧ Keep σ1 σ') := fun ts i σ1 h1 h2 => ehasM_spec om ot M d b ⟨a.p, ts⟩ i k x h1 hk hx σ1 (hM.keep h2)
  generalize hG : (fun t : Tup => tupA ⟨a.p, barT p.a.ts t a.ts⟩) = bT at *
  have HG : Abs.Hid (∀ t, bT t = tupA ⟨a.p, barT p.a.ts t a.ts⟩) := fun t => by rw [← hG]
  have HR2 : Abs.Hid ((barP x.2 a p).tups = p.tups.filter fun t => !decide (bT t ∈ x.2)) := by
    rw [Abs.Hid, HR.out]
    congr 1
    funext t
    rw [HG.out t]
  clear hG HR hk hx hM
  generalize barP x.2 a p = bp at *
  refine acalls 55 [.cell 6 214] Tryz.func212 rfl (by decide) rfl rfl (Nat.le_of_ble_eq_true rfl) ?_
  repeat' (first
 |with_reducible first|apply Xa|apply Xb|(refine Xc ?_;intro κ hκ)|(apply hκ.out;clear hκ κ)|apply Xd|apply Xe|apply Xf
 |((with_reducible first|refine Xl ?_ ?_|refine Xm ?_ ?_|refine Xk ?_ ?_)<;> intro h hari<;> try exact Xp)
 |((with_reducible refine aapp_go ?_);refine Xt ?_;intro idn σn hOn hKn eobj enobj ever entop)
 |((with_reducible refine aappn_go ?_);refine Xu ?_)
 |refine Xr ?_
 |exact True.intro
 |((with_reducible refine Xg ?_);refine Xj ?_)
 |(apply hκ.out;clear hκ κ))
  refine awp_loop (fun m s σ' => ∃ (i i3 : Nat) (o : List Tup) (xs : List AV), m = p.tups.length - i ∧ i ≤ p.tups.length ∧ s 0 = ptr om 0 ∧ s 4 = ptr σ.nobj 0 ∧ s 5 = ptr (σ.nobj + 1) 0 ∧ s 6 = ptr (σ.nobj + 2) 0 ∧ s 7 = ptr (σ.nobj + 3) 0 ∧ s 17 = sl idt p.tups.length (tcs p.tups) ∧ s 18 = ic p.tups.length ∧ s 19 = ic i ∧ Keep σ σ' ∧ σ.nobj + 3 < σ'.nobj ∧ σ'.obj σ.nobj = [ic p.a.p, sl id p.a.ts.length (ecells p.a.ts), sl idt p.tups.length (tcs p.tups)] ∧ σ'.obj (σ.nobj + 1) = [ic a.p, sl ida a.ts.length (ecells a.ts)] ∧ σ'.obj (σ.nobj + 2) = [ic 0, nilS, nilS] ∧ σ'.obj (σ.nobj + 3) = [ic p.a.p, sl id p.a.ts.length (ecells p.a.ts), sl i3 o.length xs] ∧ Own σ σ' i3 o.length ∧ o.length ≤ i ∧ xs.length = o.length * 3 ∧ Abs.Hid (xs = tcs o ∧ o = (p.tups.take i).filter fun t => !decide (bT t ∈ x.2))) p.tups.length
    ⟨0, 1, [], [], by omega, by omega, by simp [upd, initS], by simp [upd], by simp [upd], by simp [upd], by simp [upd], by simp [upd], by simp [upd], rfl, by exact Xs, by simp only [put_nobj, new_nobj]; omega, ?_, ?_, ?_, ?_, Own.nil _ _, by simp, by simp, ⟨rfl, by simp⟩⟩ ?_
  · rw [put_ne (by omega), new_lt (by simp only [new_nobj]; omega), new_lt (by simp only [new_nobj]; omega), new_lt (by simp only [new_nobj]; omega), new_same]
  · rw [put_ne (by omega), new_lt (by simp only [new_nobj]; omega), new_lt (by simp only [new_nobj]; omega), new_at (by simp only [new_nobj]; omega) (by simp only [new_nobj]; omega)]
  · rw [put_ne (by omega), new_lt (by simp only [new_nobj]; omega), new_at (by simp only [new_nobj]; omega) (by simp only [new_nobj]; omega)]
  · rw [show σ.nobj + 3 = σ.nobj + 1 + 1 + 1 from rfl, put_same]; simp
  rintro m s σ' ⟨i, i3, o, xs, rfl, hi, h0, h4, h5, h6, h7, h17, h18, h19, hK, hno, ob0, ob1, ob2, ob3, hO, hol, hxl, hX⟩
  have kno := hK.nobj
  by_cases hlt : i < p.tups.length
  · have hget := List.getElem?_eq_getElem hlt
    obtain ⟨ht3, r, hd⟩ := tcs_get3 h3 hget
    generalize p.tups[i] = t at hd hget ht3
    have HF : Abs.Hid ((p.tups.take (i + 1)).filter (fun t => !decide (bT t ∈ x.2)) = (p.tups.take i).filter (fun t => !decide (bT t ∈ x.2)) ++ if (!decide (bT t ∈ x.2)) = true then [t] else []) := by
      rw [Abs.Hid, List.take_add_one, hget, Option.toList_some, filter_snoc]
    clear hget
    have f1 := i3_len ht3
    have f2 := i3_take ht3
    have f3 := i3_take0 ht3
    have f4 := i3_lsp ht3
    have f5 := icells_flat t
    have f6 := i3_le ht3
    repeat' (first
 |with_reducible first|apply Xa|apply Xb|(refine Xc ?_;intro κ hκ)|(apply hκ.out;clear hκ κ)|apply Xd|apply Xe|apply Xf
 |((with_reducible first|refine Xl ?_ ?_|refine Xm ?_ ?_|refine Xk ?_ ?_)<;> intro h hari<;> try exact Xp)
 |((with_reducible refine aapp_go ?_);refine Xt ?_;intro idn σn hOn hKn eobj enobj ever entop)
 |((with_reducible refine aappn_go ?_);refine Xu ?_)
 |refine Xr ?_
 |exact True.intro
 |((with_reducible refine Xg ?_);refine Xj ?_)
 |(apply hκ.out;clear hκ κ))
    refine awp_loop (fun m s σ2 => ∃ (j idj : Nat) (ts : List Tm), m = p.a.ts.length - j ∧ j ≤ p.a.ts.length ∧ s 0 = ptr om 0 ∧ s 4 = ptr σ.nobj 0 ∧ s 5 = ptr (σ.nobj + 1) 0 ∧ s 6 = ptr (σ.nobj + 2) 0 ∧ s 7 = ptr (σ.nobj + 3) 0 ∧ s 9 = ptr σ'.nobj 0 ∧ s 10 = ptr (σ'.nobj + 1) 0 ∧ s 17 = sl idt p.tups.length (tcs p.tups) ∧ s 18 = ic p.tups.length ∧ s 19 = ic i ∧ s 26 = sl id p.a.ts.length (ecells p.a.ts) ∧ s 27 = ic p.a.ts.length ∧ s 28 = ic j ∧ Keep σ' σ2 ∧ σ'.nobj + 1 < σ2.nobj ∧ σ2.obj σ'.nobj = icells t ∧ σ2.obj (σ'.nobj + 1) = [ic a.p, sl idj ts.length (ecells ts)] ∧ ts.length ≤ 3 ∧ Abs.Hid (ts = barT (p.a.ts.take j) t a.ts)) p.a.ts.length
      ⟨0, ida, a.ts, by omega, by omega, by simp [upd, *], by simp [upd, *], by simp [upd, *], by simp [upd, *], by simp [upd, *], by simp [upd, *], by simp [upd, *], by simp [upd, *], by simp [upd, *], by simp [upd, *], by simp [upd, *], by simp [upd, *], by simp [upd], by exact Xs, by simp only [put_nobj, new_nobj]; omega, ?_, ?_, ha, rfl⟩ ?_
    · rw [put_ne (by omega), new_lt (by simp only [put_nobj, new_nobj]; omega), put_same]
    · rw [put_same]
    clear h0 h4 h5 h6 h7 h17 h18 h19
    rintro m s σ2 ⟨j, idj, ts, rfl, hj, h0, h4, h5, h6, h7, h9, h10, h17, h18, h19, h26, h27, h28, hK2, hno2, oc0, oc1, hts, hT⟩
    have kno2 := hK2.nobj
    by_cases hltj : j < p.a.ts.length
    · have hgetj := List.getElem?_eq_getElem hltj
      obtain ⟨rj, hdj⟩ := ecells_get hgetj
      generalize p.a.ts[j] = w at hdj hgetj
      obtain ⟨w1, w2⟩ := w
      have htj : t[j]? = some t[j] := List.getElem?_eq_getElem (by omega)
      have hgj := i3_get htj
      have hta : Abs.Hid (tat t (j : Nat) = t[j]) := by simp [Abs.Hid, tat, htj]
      generalize t[j] = y at htj hgj hta
      have HT : Abs.Hid (barT (p.a.ts.take (j + 1)) t a.ts = if w1 = true then eputTs w2 y ts else ts) := by
        rw [Abs.Hid, List.take_add_one, hgetj, Option.toList_some, barT_snoc, List.length_take, Nat.min_eq_left hj, ← hT.out]
        unfold barF
        simp only [hta.out]
      clear hgetj htj hta hT
      cases w1 with
      | false =>
        have HT2 : Abs.Hid (ts = barT (p.a.ts.take (j + 1)) t a.ts) := by rw [Abs.Hid, HT.out]; rfl
        clear HT
        repeat' (first
 |with_reducible first|apply Xa|apply Xb|(refine Xc ?_;intro κ hκ)|(apply hκ.out;clear hκ κ)|apply Xd|apply Xe|apply Xf
 |((with_reducible first|refine Xl ?_ ?_|refine Xm ?_ ?_|refine Xk ?_ ?_)<;> intro h hari<;> try exact Xp)
 |((with_reducible refine aapp_go ?_);refine Xt ?_;intro idn σn hOn hKn eobj enobj ever entop)
 |((with_reducible refine aappn_go ?_);refine Xu ?_)
 |refine Xr ?_
 |exact True.intro
 |((with_reducible refine Xg ?_);refine Xj ?_)
 |(apply hκ.out;clear hκ κ))
        refine ⟨p.a.ts.length - (j + 1), by omega, j + 1, idj, ts, ?_⟩
        ((repeat' with_reducible refine And.intro ?_ ?_)<;> first|exact Xq|exact (HT2)|exact Xs)
      | true =>
        have HT2 : Abs.Hid (eputTs w2 y ts = barT (p.a.ts.take (j + 1)) t a.ts) := by rw [Abs.Hid, HT.out]; rfl
        clear HT
        have hPu := fun σ => eput_spec a.p idj ts w2 y (by omega) σ
        have hel2 : (eputTs w2 y ts).length ≤ 3 := by simpa [eputTs] using hts
        repeat' (first
 |with_reducible first|apply Xa|apply Xb|(refine Xc ?_;intro κ hκ)|(apply hκ.out;clear hκ κ)|apply Xd|apply Xe|apply Xf
 |((with_reducible first|refine Xl ?_ ?_|refine Xm ?_ ?_|refine Xk ?_ ?_)<;> intro h hari<;> try exact Xp)
 |((with_reducible refine aapp_go ?_);refine Xt ?_;intro idn σn hOn hKn eobj enobj ever entop)
 |((with_reducible refine aappn_go ?_);refine Xu ?_)
 |refine Xr ?_
 |exact True.intro
 |((with_reducible refine Xg ?_);refine Xj ?_)
 |(apply hκ.out;clear hκ κ))
        have hK3 : Keep σ' ((σ2.new [sc (.bool false), ic 0]).put σ2.nobj [sc (.bool true), ic w2]) := (hK2.new _).put kno2 _
        refine awp_mono (Q := fun e s' σ'' => e = .normal ∧ s' 0 = ptr om 0 ∧ s' 4 = ptr σ.nobj 0 ∧ s' 5 = ptr (σ.nobj + 1) 0 ∧ s' 6 = ptr (σ.nobj + 2) 0 ∧ s' 7 = ptr (σ.nobj + 3) 0 ∧ s' 9 = ptr σ'.nobj 0 ∧ s' 10 = ptr (σ'.nobj + 1) 0 ∧ s' 17 = sl idt p.tups.length (tcs p.tups) ∧ s' 18 = ic p.tups.length ∧ s' 19 = ic i ∧ s' 26 = sl id p.a.ts.length (ecells p.a.ts) ∧ s' 27 = ic p.a.ts.length ∧ s' 28 = ic j ∧ Keep σ' σ'' ∧ σ'.nobj + 1 < σ''.nobj ∧ σ''.obj σ'.nobj = icells t ∧ ∃ idn, σ''.obj (σ'.nobj + 1) = [ic a.p, sl idn (eputTs w2 y ts).length (ecells (eputTs w2 y ts))]) ?_ ?_
        · refine awp_draw_h follows_mixed (fun _ => True) [7] [0, 1, 2, 3, 4, 5] 2 #[true, true, true, true, true, true, false, false] (by kernel_rfl) (fun _ _ _ h => by cases h.1) ?_; intro κ hκ; refine Xr ?_; refine hκ.out _ ?_; clear hκ κ
          refine uany_one (i := 6) (by kernel_rfl) ?_; refine aOne_k ?_; intro κ hκ; refine Xr ?_
          refine ACalls.mono (hPu _) ?_
          rintro _ σb ⟨⟨idn, rfl⟩, hKb⟩
          have knb := hKb.nobj
          simp only [put_nobj, new_nobj] at knb
          have kob := hKb.obj
          simp only [put_nobj, new_nobj] at kob
          have og0 : σb.obj σ'.nobj = icells t := by rw [kob _ (by omega), put_ne (by omega), new_lt (by omega), oc0]
          have og1 : σb.obj (σ'.nobj + 1) = [ic a.p, sl idj ts.length (ecells ts)] := by rw [kob _ (by omega), put_ne (by omega), new_lt (by omega), oc1]
          refine Xr ?_
          refine hκ.out _ _ ⟨kept_keep hKb, ?_⟩; clear hκ κ
          refine uany_one (i := 7) (by kernel_rfl) ?_; refine aOne_k ?_; intro κ hκ; refine Xr ?_
          refine hκ.out _ _ ⟨kept_last rfl, ?_⟩; clear hκ κ
          refine uany_done (by kernel_rfl) ⟨rfl, by simp [upd, *], by simp [upd, *], by simp [upd, *], by simp [upd, *], by simp [upd, *], by simp [upd, *], by simp [upd, *], by simp [upd, *], by simp [upd, *], by simp [upd, *], by simp [upd, *], by simp [upd, *], by simp [upd, *], (hK3.trans hKb).put (by omega) _, by simp only [put_nobj]; omega, by rw [put_ne (by omega), og0], idn, put_same⟩
        · rintro e s2 σ3 ⟨rfl, g0, g4, g5, g6, g7, g9, g10, g17, g18, g19, g26, g27, g28, hKc, hnc, oe0, idn, oe1⟩
          clear h0 h4 h5 h6 h7 h9 h10 h17 h18 h19 h26 h27 h28 oc0 oc1 hK3 hK2 kno2 hno2
          repeat' (first
 |with_reducible first|apply Xa|apply Xb|(refine Xc ?_;intro κ hκ)|(apply hκ.out;clear hκ κ)|apply Xd|apply Xe|apply Xf
 |((with_reducible first|refine Xl ?_ ?_|refine Xm ?_ ?_|refine Xk ?_ ?_)<;> intro h hari<;> try exact Xp)
 |((with_reducible refine aapp_go ?_);refine Xt ?_;intro idn σn hOn hKn eobj enobj ever entop)
 |((with_reducible refine aappn_go ?_);refine Xu ?_)
 |refine Xr ?_
 |exact True.intro
 |((with_reducible refine Xg ?_);refine Xj ?_)
 |(apply hκ.out;clear hκ κ))
          refine ⟨p.a.ts.length - (j + 1), by omega, j + 1, idn, eputTs w2 y ts, ?_⟩
          ((repeat' with_reducible refine And.intro ?_ ?_)<;> first|exact Xq|exact (HT2)|exact Xs)
    · have hjl : j = p.a.ts.length := by omega
      subst hjl
      have HB : Abs.Hid (tupA ⟨a.p, ts⟩ = bT t) := by
        rw [Abs.Hid, HG.out t, hT.out, List.take_length]
      have hHs := fun σ1 hh => hHas.out ts idj σ1 hts hh
      rw [HB.out] at hHs
      have hKK := hK.trans hK2
      clear hT HB hj hltj
      cases hbb : decide (bT t ∈ x.2) with
      | true =>
        have HX : Abs.Hid (xs = tcs o ∧ o = (p.tups.take (i + 1)).filter fun t => !decide (bT t ∈ x.2)) := by
          obtain ⟨x1, x2⟩ := hX.out
          refine ⟨x1, ?_⟩
          rw [HF.out, hbb, x2]; simp
        rw [hbb] at hHs
        clear hX HF hbb
        repeat' (first
 |with_reducible first|apply Xa|apply Xb|(refine Xc ?_;intro κ hκ)|(apply hκ.out;clear hκ κ)|apply Xd|apply Xe|apply Xf
 |((with_reducible first|refine Xl ?_ ?_|refine Xm ?_ ?_|refine Xk ?_ ?_)<;> intro h hari<;> try exact Xp)
 |((with_reducible refine aapp_go ?_);refine Xt ?_;intro idn σn hOn hKn eobj enobj ever entop)
 |((with_reducible refine aappn_go ?_);refine Xu ?_)
 |((with_reducible refine Xh ?_);refine Xi (hHs _ hKK) ?_;rintro _ _ ⟨rfl,hK5⟩;(have kno5:=hK5.nobj;have kob5:=(hK2.trans hK5).obj;have hKy:=hKK.trans hK5;have hOy:=Own.keep hO (hK2.trans hK5)))
 |refine Xr ?_
 |exact True.intro
 |((with_reducible refine Xg ?_);refine Xj ?_)
 |(apply hκ.out;clear hκ κ))
        refine ⟨p.tups.length - (i + 1), by omega, i + 1, i3, o, xs, ?_⟩
        ((repeat' with_reducible refine And.intro ?_ ?_)<;> first|exact Xq|exact (hKy)|exact (hOy)|exact (HX)|exact (by rw [kob5 _ (by omega)]; assumption)|exact Xs)
      | false =>
        have HX : Abs.Hid (xs ++ icells t = tcs (o ++ [t]) ∧ o ++ [t] = (p.tups.take (i + 1)).filter fun t => !decide (bT t ∈ x.2)) := by
          obtain ⟨x1, x2⟩ := hX.out
          refine ⟨by rw [x1, tcs_snoc], ?_⟩
          rw [HF.out, hbb, ← x2]; simp
        rw [hbb] at hHs
        clear hX HF hbb
        repeat' (first
 |with_reducible first|apply Xa|apply Xb|(refine Xc ?_;intro κ hκ)|(apply hκ.out;clear hκ κ)|apply Xd|apply Xe|apply Xf
 |((with_reducible first|refine Xl ?_ ?_|refine Xm ?_ ?_|refine Xk ?_ ?_)<;> intro h hari<;> try exact Xp)
 |((with_reducible refine aapp_go ?_);refine Xt ?_;intro idn σn hOn hKn eobj enobj ever entop)
 |((with_reducible refine aappn_go ?_);refine Xu ?_)
 |((with_reducible refine Xh ?_);refine Xi (hHs _ hKK) ?_;rintro _ _ ⟨rfl,hK5⟩;(have kno5:=hK5.nobj;have kob5:=(hK2.trans hK5).obj;have kob6:=hK5.obj;have hKy:=hKK.trans hK5;have hOy:=Own.keep hO (hK2.trans hK5)))
 |refine Xr ?_
 |exact True.intro
 |((with_reducible refine Xg ?_);refine Xj ?_)
 |(apply hκ.out;clear hκ κ))
        rename_i σ5
        have oh0 : σ5.obj σ'.nobj = icells t := by rw [kob6 _ (by omega), oc0]
        have oh3 : σ5.obj (σ.nobj + 3) = [ic p.a.p, sl id p.a.ts.length (ecells p.a.ts), sl i3 o.length xs] := by rw [kob5 _ (by omega), ob3]
        repeat' (first
 |with_reducible first|apply Xa|apply Xb|(refine Xc ?_;intro κ hκ)|(apply hκ.out;clear hκ κ)|apply Xd|apply Xe|apply Xf
 |((with_reducible first|refine Xl ?_ ?_|refine Xm ?_ ?_|refine Xk ?_ ?_)<;> intro h hari<;> try exact Xp)
 |((with_reducible refine aapp_go ?_);refine Xt ?_;intro idn σn hOn hKn eobj enobj ever entop)
 |((with_reducible refine aappn_go ?_);refine Xu ?_)
 |refine Xr ?_
 |exact True.intro
 |((with_reducible refine Xg ?_);refine Xj ?_)
 |(apply hκ.out;clear hκ κ))
        refine aApp_own (by first | exact tez_122) (hKy) (hOy) (by decide) (by rfl) (hxl) (by rw [f1]) (f5) (by decide) (by omega) (by omega) ?_

        intro idn σn hOn hKn eobj enobj ever entop
        have eob : ∀ q, q < σ'.nobj → σn.obj q = σ'.obj q := fun q hq => by rw [eobj, kob5 _ hq]
        refine Xr ?_
        repeat' (first
 |with_reducible first|apply Xa|apply Xb|(refine Xc ?_;intro κ hκ)|(apply hκ.out;clear hκ κ)|apply Xd|apply Xe|apply Xf
 |((with_reducible first|refine Xl ?_ ?_|refine Xm ?_ ?_|refine Xk ?_ ?_)<;> intro h hari<;> try exact Xp)
 |((with_reducible refine aapp_go ?_);refine Xt ?_;intro idn σn hOn hKn eobj enobj ever entop)
 |((with_reducible refine aappn_go ?_);refine Xu ?_)
 |refine Xr ?_
 |exact True.intro
 |((with_reducible refine Xg ?_);refine Xj ?_)
 |(apply hκ.out;clear hκ κ))
        refine ⟨p.tups.length - (i + 1), by omega, i + 1, idn, o ++ [t], xs ++ icells t, ?_⟩
        ((repeat' with_reducible refine And.intro ?_ ?_)<;> first|exact Xq|exact (hKn.put (by omega) _)|exact (by simpa using Own.put hOn _ _)|exact (HX)|exact Xs)
  · have hil : i = p.tups.length := by omega
    subst hil
    obtain ⟨x1, x2⟩ := hX.out
    rw [List.take_length] at x2
    repeat' (first
 |with_reducible first|apply Xa|apply Xb|(refine Xc ?_;intro κ hκ)|(apply hκ.out;clear hκ κ)|apply Xd|apply Xe|apply Xf
 |((with_reducible first|refine Xl ?_ ?_|refine Xm ?_ ?_|refine Xk ?_ ?_)<;> intro h hari<;> try exact Xp)
 |((with_reducible refine aapp_go ?_);refine Xt ?_;intro idn σn hOn hKn eobj enobj ever entop)
 |((with_reducible refine aappn_go ?_);refine Xu ?_)
 |refine Xr ?_
 |exact True.intro
 |((with_reducible refine Xg ?_);refine Xj ?_)
 |(apply hκ.out;clear hκ κ))
    exact ⟨_, rfl, ⟨_, by rw [HR2.out, ← x2] <;> first | rfl | rw [x1]⟩, hK.put (by omega) _⟩
end Go.Proofs.YtmoeoppbmhfbpaaGreatDoorB
