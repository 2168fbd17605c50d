import Derived.Test.YtmoeoppbmhfbpaaGreatDoorUProgL
import Derived.Test.YtmoeoppbmhfbpaaGreatDoorURefA
/- The program: what is put for variables. -/
namespace Go.Proofs.YtmoeoppbmhfbpaaGreatDoorU
open Go.Abs
set_option linter.unusedSimpArgs false
set_option linter.unusedVariables false
set_option maxRecDepth 100000
abbrev Sw := (Nat → Bool) × (Nat → Bool × Int)
def sw0 : Sw := (fun _ => false, fun _ => (false, 0))
def swF (s : Sw) (n : Nat) : AV := if n < 26 then sc (.bool (s.1 n)) else if n % 2 = 0 then sc (.bool (s.2 ((n - 26) / 2)).1) else sc (.int .i64 (s.2 ((n - 26) / 2)).2)
def swC (s : Sw) : List AV := (List.range 78).map (swF s)
theorem swC_len (s : Sw) : (swC s).length = 78 := by simp [swC]
theorem swC_zero : swZ.map cst1 = swC sw0 := rfl
theorem swC_get1 {s : Sw} {i : Nat} (h : i < 26) : (swC s)[i]? = some (sc (.bool (s.1 i))) := by
 simp [swC, swF, h, show i < 78 by omega]
theorem swC_set1 {s : Sw} {i : Nat} (h : i < 26) (v : Bool) : (swC s).set i (sc (.bool v)) = swC (fun j => if j = i then v else s.1 j, s.2) := by
 apply List.ext_getElem?
 intro n
 rw [List.getElem?_set]
 by_cases hn : n < 78
 ·by_cases he : i = n
  ·subst he; simp [swC, swF, h, hn]
  ·have : n ≠ i := fun e => he e.symm
   simp [swC, swF, hn, he, this]
 ·have : i ≠ n := by omega
  simp [swC, hn, this]
theorem swC_at {s : Sw} {n : Nat} (h : n < 78) : (swC s)[n]? = some (swF s n) := by simp [swC, h]
theorem swC_get2 (s : Sw) {i : Nat} (h : i < 26) : ∃ r, (swC s).drop (26 + i * 2) = sc (.bool (s.2 i).1) :: sc (.int .i64 (s.2 i).2) :: r := by
 have e1 : swF s (26 + i * 2) = sc (.bool (s.2 i).1) := by
  unfold swF
  rw [if_neg (by omega), if_pos (by omega), show (26 + i * 2 - 26) / 2 = i by omega]
 have e2 : swF s (26 + i * 2 + 1) = sc (.int .i64 (s.2 i).2) := by
  unfold swF
  rw [if_neg (by omega), if_neg (by omega), show (26 + i * 2 + 1 - 26) / 2 = i by omega]
 refine ⟨(swC s).drop (26 + i * 2 + 1 + 1), ?_⟩
 have l1 : 26 + i * 2 < (swC s).length := by rw [swC_len]; omega
 have l2 : 26 + i * 2 + 1 < (swC s).length := by rw [swC_len]; omega
 rw [List.drop_eq_getElem_cons l1, List.drop_eq_getElem_cons l2]
 have g1 := List.getElem?_eq_getElem l1
 have g2 := List.getElem?_eq_getElem l2
 rw [swC_at (by omega), e1] at g1
 rw [swC_at (by omega), e2] at g2
 rw [← Option.some.inj g1, ← Option.some.inj g2]
theorem swC_set2 (s : Sw) {i : Nat} (h : i < 26) (b : Bool) (v : Int) : lsp (swC s) (26 + i * 2) [sc (.bool b), sc (.int .i64 v)] = swC (s.1, fun j => if j = i then (b, v) else s.2 j) := by
 rw [lsp_eq _ _ _ (by rw [swC_len]; simp; omega)]
 apply List.ext_getElem?
 intro n
 have hl := swC_len s
 by_cases hn : n < 78
 ·rw [swC_at hn]
  by_cases c1 : n < 26 + i * 2
  ·rw [List.append_assoc, List.getElem?_append_left (by rw [List.length_take]; omega), List.getElem?_take, if_pos c1, swC_at hn]
   congr 1
   unfold swF
   by_cases c : n < 26
   ·rw [if_pos c, if_pos c]
   ·have : (n - 26) / 2 ≠ i := by omega
    simp [c, this]
  ·by_cases c2 : n < 26 + i * 2 + 2
   ·rw [List.append_assoc, List.getElem?_append_right (by rw [List.length_take]; omega), List.length_take, Nat.min_eq_left (by omega)]
    rcases (show n = 26 + i * 2 ∨ n = 26 + i * 2 + 1 by omega) with e | e
    ·subst e
     simp only [Nat.sub_self, List.cons_append, List.getElem?_cons_zero]
     unfold swF
     rw [if_neg (by omega), if_pos (by omega), show (26 + i * 2 - 26) / 2 = i by omega]
     simp
    ·subst e
     rw [show 26 + i * 2 + 1 - (26 + i * 2) = 1 by omega]
     simp only [List.cons_append, List.getElem?_cons_succ, List.getElem?_cons_zero]
     unfold swF
     rw [if_neg (by omega), if_neg (by omega), show (26 + i * 2 + 1 - 26) / 2 = i by omega]
     simp
   ·rw [List.getElem?_append_right (by simp [List.length_take]; omega)]
    simp only [List.length_append, List.length_take, List.length_cons, List.length_nil]
    rw [List.getElem?_drop, Nat.min_eq_left (by omega), show 26 + i * 2 + 2 + (n - (26 + i * 2 + (0 + 1 + 1))) = n by omega, swC_at hn]
    congr 1
    unfold swF
    have : (n - 26) / 2 ≠ i := by omega
    have c : ¬ n < 26 := by omega
    simp [c, this]
 ·rw [List.getElem?_eq_none (by simp [List.length_take, swC_len]; omega), List.getElem?_eq_none (by rw [swC_len]; omega)]
theorem swC_set3 (s : Sw) {i : Nat} (h : i < 26) (b : Bool) (v : Int) : ((swC s).set (26 + i * 2) (sc (.bool b))).set (26 + i * 2 + 1) (sc (.int .i64 v)) = swC (s.1, fun j => if j = i then (b, v) else s.2 j) := swC_set2 s h b v
/-! ### One atom on another -/
def wStep (s : Sw) (e b : Bool × Int) : Option Sw :=
 if e.1 = true then
  (if s.1 e.2.toNat = true then (if s.2 e.2.toNat = b then some s else none)
   else some (fun j => if j = e.2.toNat then true else s.1 j, fun j => if j = e.2.toNat then b else s.2 j))
 else if e = b then some s else none
def withL : Sw → List (Bool × Int) → List (Bool × Int) → Option Sw
 | s, [], _ => some s
 | _, _ :: _, [] => none
 | s, e :: es, b :: bs => (wStep s e b).bind fun s' => withL s' es bs
def wRes : Option Sw → AV
 | some s => tp [ag (swC s), sc (.bool true)]
 | none => tp [ag (swC sw0), sc (.bool false)]
def varOk (t : Tx) : Prop := (encT t).1 = true → ∃ k : Nat, k < 26 ∧ (encT t).2 = (k : Int)
theorem withL_step {s : Sw} {ts us : List Tx} {k : Nat} {t u : Tx} (ht : ts[k]? = some t) (hu : us[k]? = some u) : withL s ((ts.drop k).map encT) ((us.drop k).map encT) = (wStep s (encT t) (encT u)).bind fun s' => withL s' ((ts.drop (k + 1)).map encT) ((us.drop (k + 1)).map encT) := by
 have h1 := (List.getElem?_eq_some_iff.1 ht)
 have h2 := (List.getElem?_eq_some_iff.1 hu)
 obtain ⟨l1, e1⟩ := h1
 obtain ⟨l2, e2⟩ := h2
 rw [List.drop_eq_getElem_cons l1, List.drop_eq_getElem_cons l2, e1, e2]
 rfl
set_option maxHeartbeats 16000000 in
theorem with_spec (s : Sw) (p q : Int) (ts us : List Tx) (i1 i2 : Nat) (hl : p = q → ts.length = us.length) (hn : ts.length ≤ 1000) (hv : ∀ t ∈ ts, varOk t) (σ : St) :
  ACalls Tryz.prog 108 [ag (swC s), ag [sc (.int .i64 p), sl i1 ts.length (tcells ts)], ag [sc (.int .i64 q), sl i2 us.length (tcells us)]] σ fun r σ' => r = wRes (if p = q then withL s (ts.map encT) (us.map encT) else none) ∧ Keep σ σ' := by
 have htl := tcells_len ts
 have hul := tcells_len us
 have hsl := swC_len
 have hsz := swC_zero
 have htk : ∀ s, List.take 78 (swC s) = swC s := fun s => List.take_of_length_le (by rw [swC_len]; exact Nat.le_refl _)
 have hls : ∀ s s', lsp (swC s) 0 (swC s') = swC s' := fun s s' => lsp_whole (by rw [swC_len, swC_len])
 have hfl : ∀ s, (swC s).all flat = true := fun s => by
  rw [List.all_eq_true]
  intro x hx
  obtain ⟨n, -, rfl⟩ := List.mem_map.1 hx
  unfold swF
  split
  ·rfl
  ·split <;> rfl
 by_cases hpq : p = q
 ·have HLEN : Abs.Hid (ts.length = us.length) := hl hpq
  have hb : (p != q) = false := by simp [hpq]
  rw [if_pos hpq]
  clear hl hpq
  refine acalls 62 [.cell 6 104, .tmp 7] Tryz.func108 rfl (by decide) rfl rfl (Nat.le_of_ble_eq_true rfl) ?_
  repeat' (first
 |with_reducible first|apply Xa|apply Xb|(refine Xc ?_;intro κ hκ)|(apply hκ.out;clear hκ κ)|apply Xd|apply Xe|apply Xf
 |((with_reducible first|refine Xl ?_ ?_|refine Xk ?_ ?_)<;> intro h hari<;> try exact Xp)
 |refine Xr ?_
 |exact True.intro
 |(apply hκ.out;clear hκ κ))
  refine awp_loop (fun m s0 σ' => ∃ (k : Nat) (s' : Sw), m = ts.length - k ∧ k ≤ ts.length ∧ s0 3 = ptr σ.nobj 0 ∧ s0 5 = ptr (σ.nobj + 2) 0 ∧ s0 6 = ptr (σ.nobj + 3) 0 ∧ s0 18 = sl i1 ts.length (tcells ts) ∧ s0 19 = sc (.int .i64 ts.length) ∧ s0 20 = sc (.int .i64 k) ∧ Keep σ σ' ∧ σ.nobj + 3 < σ'.nobj ∧ σ'.obj σ.nobj = swC s' ∧ σ'.obj (σ.nobj + 2) = [sc (.int .i64 q), sl i2 us.length (tcells us)] ∧ σ'.obj (σ.nobj + 3) = swC sw0 ∧ Abs.Hid (withL s (ts.map encT) (us.map encT) = withL s' ((ts.drop k).map encT) ((us.drop k).map encT))) ts.length
   ⟨0, s, by omega, by omega, by simp [upd], by simp [upd], by simp [upd], by simp [upd], by simp [upd], rfl, by exact Xs, by simp only [new_nobj]; omega, ?_, ?_, ?_, by simp [Abs.Hid]⟩ ?_
  ·rw [new_lt (by simp only [new_nobj]; omega), new_lt (by simp only [new_nobj]; omega), new_lt (by simp only [new_nobj]; omega), new_same]
  ·rw [new_lt (by simp only [new_nobj]; omega), new_at (by simp only [new_nobj]; omega) (by simp only [new_nobj]; omega)]
  ·rw [new_at (by simp only [new_nobj]; omega) (by simp only [new_nobj]; omega)]
  rintro m s0 σ' ⟨k, s', rfl, hk, h3, h5, h6, h18, h19, h20, hK, hno, ob0, ob2, ob3, hW⟩
  have kno := hK.nobj
  by_cases hlt : k < ts.length
  ·have hlu : k < us.length := by have := HLEN.out; omega
   have g1 := List.getElem?_eq_getElem hlt
   have g2 := List.getElem?_eq_getElem hlu
   have hvt := hv ts[k] (List.getElem_mem hlt)
   obtain ⟨r1, hd1⟩ := tcells_get g1
   obtain ⟨r2, hd2⟩ := tcells_get g2
   have hst : Abs.Hid (withL s (ts.map encT) (us.map encT) = (wStep s' (encT ts[k]) (encT us[k])).bind fun s' => withL s' ((ts.drop (k + 1)).map encT) ((us.drop (k + 1)).map encT)) := by rw [Abs.Hid, hW.out, withL_step g1 g2]
   unfold varOk at hvt
   clear g1 g2 hW
   generalize encT ts[k] = e at hd1 hst hvt
   generalize encT us[k] = b at hd2 hst
   obtain ⟨e1, e2⟩ := e
   obtain ⟨b1, b2⟩ := b
   dsimp only at hd1 hd2 hvt
   cases e1 with
   | true =>
    obtain ⟨kk, hkk, rfl⟩ := hvt rfl
    have hg1 := swC_get1 (s := s') hkk
    obtain ⟨r3, hg2⟩ := swC_get2 s' hkk
    cases hse : s'.1 kk with
    | true =>
     rw [hse] at hg1
     by_cases hcmp : s'.2 kk = (b1, b2)
     ·have hok : Abs.Hid (withL s (ts.map encT) (us.map encT) = withL s' ((ts.drop (k + 1)).map encT) ((us.drop (k + 1)).map encT)) := by
       rw [Abs.Hid, hst.out]; unfold wStep; simp [hse, hcmp]
      rw [hcmp] at hg2
      dsimp only at hg2
      clear hst hse hcmp
      repeat' (first
 |with_reducible first|apply Xa|apply Xb|(refine Xc ?_;intro κ hκ)|(apply hκ.out;clear hκ κ)|apply Xd|apply Xe|apply Xf
 |((with_reducible first|refine Xl ?_ ?_|refine Xk ?_ ?_)<;> intro h hari<;> try exact Xp)
 |refine Xr ?_
 |exact True.intro
 |(apply hκ.out;clear hκ κ))
      exact ⟨ts.length - (k + 1), by omega, k + 1, s', rfl, by omega, by simp, ((((hK.new _).put hK.nobj _).new _).put (by omega) _).put hK.nobj _, by omega, rfl, hok⟩
     ·have hno' : Abs.Hid (withL s (ts.map encT) (us.map encT) = none) := by
       rw [Abs.Hid, hst.out]; unfold wStep; simp [hse, hcmp]
      clear hst hse
      generalize s'.2 kk = g at hg2 hcmp
      obtain ⟨c1, c2⟩ := g
      have hcb : (c1 == b1 && c2 == b2) = false := by
       cases hq : (c1 == b1 && c2 == b2) with
       | false => rfl
       | true => simp at hq; exact absurd (by rw [hq.1, hq.2]) hcmp
      dsimp only at hg2
      clear hcmp
      repeat' (first
 |with_reducible first|apply Xa|apply Xb|(refine Xc ?_;intro κ hκ)|(apply hκ.out;clear hκ κ)|apply Xd|apply Xe|apply Xf
 |((with_reducible first|refine Xl ?_ ?_|refine Xk ?_ ?_)<;> intro h hari<;> try exact Xp)
 |refine Xr ?_
 |exact True.intro
 |(apply hκ.out;clear hκ κ))
      exact ⟨_, rfl, by rw [hno'.out]; rfl, (((((hK.new _).put hK.nobj _).new _).put (by omega) _).put hK.nobj _).put (by omega) _⟩
    | false =>
     rw [hse] at hg1
     have hs1 := swC_set1 (s := s') hkk true
     have hs2 := fun s' => swC_set3 s' hkk b1 b2
     have hok : Abs.Hid (withL s (ts.map encT) (us.map encT) = withL (fun j => if j = kk then true else s'.1 j, fun j => if j = kk then (b1, b2) else s'.2 j) ((ts.drop (k + 1)).map encT) ((us.drop (k + 1)).map encT)) := by
      rw [Abs.Hid, hst.out]; unfold wStep; simp [hse]
     obtain ⟨r4, hg4⟩ := swC_get2 (fun j => if j = kk then true else s'.1 j, fun j => if j = kk then (b1, b2) else s'.2 j) hkk
     simp only [if_true] at hg4
     clear hst hse
     repeat' (first
 |with_reducible first|apply Xa|apply Xb|(refine Xc ?_;intro κ hκ)|(apply hκ.out;clear hκ κ)|apply Xd|apply Xe|apply Xf
 |((with_reducible first|refine Xl ?_ ?_|refine Xk ?_ ?_)<;> intro h hari<;> try exact Xp)
 |refine Xr ?_
 |exact True.intro
 |(apply hκ.out;clear hκ κ))
     exact ⟨ts.length - (k + 1), by omega, k + 1, (fun j => if j = kk then true else s'.1 j, fun j => if j = kk then (b1, b2) else s'.2 j), rfl, by omega, by simp, ((((((hK.new _).put hK.nobj _).new _).put (by omega) _).put (Nat.le_refl _) _).put (Nat.le_refl _) _).put hK.nobj _, by omega, rfl, hok⟩
   | false =>
    by_cases hcmp : (false, e2) = (b1, b2)
    ·have hok : Abs.Hid (withL s (ts.map encT) (us.map encT) = withL s' ((ts.drop (k + 1)).map encT) ((us.drop (k + 1)).map encT)) := by
      rw [Abs.Hid, hst.out]; unfold wStep; simp [hcmp]
     cases hcmp
     clear hst hvt
     repeat' (first
 |with_reducible first|apply Xa|apply Xb|(refine Xc ?_;intro κ hκ)|(apply hκ.out;clear hκ κ)|apply Xd|apply Xe|apply Xf
 |((with_reducible first|refine Xl ?_ ?_|refine Xk ?_ ?_)<;> intro h hari<;> try exact Xp)
 |refine Xr ?_
 |exact True.intro
 |(apply hκ.out;clear hκ κ))
     exact ⟨ts.length - (k + 1), by omega, k + 1, s', rfl, by omega, by simp, (((hK.new _).put hK.nobj _).new _).put (by omega) _, by omega, rfl, hok⟩
    ·have hno' : Abs.Hid (withL s (ts.map encT) (us.map encT) = none) := by
      rw [Abs.Hid, hst.out]; unfold wStep; simp [hcmp]
     have hcb : (false == b1 && e2 == b2) = false := by
      cases hq : (false == b1 && e2 == b2) with
      | false => rfl
      | true => simp at hq; exact absurd (by rw [← hq.1, hq.2]) hcmp
     clear hst hvt hcmp
     repeat' (first
 |with_reducible first|apply Xa|apply Xb|(refine Xc ?_;intro κ hκ)|(apply hκ.out;clear hκ κ)|apply Xd|apply Xe|apply Xf
 |((with_reducible first|refine Xl ?_ ?_|refine Xk ?_ ?_)<;> intro h hari<;> try exact Xp)
 |refine Xr ?_
 |exact True.intro
 |(apply hκ.out;clear hκ κ))
     exact ⟨_, rfl, by rw [hno'.out]; rfl, ((((hK.new _).put hK.nobj _).new _).put (by omega) _).put (by omega) _⟩
  ·have hkl : k = ts.length := by omega
   subst hkl
   have hR : withL s (ts.map encT) (us.map encT) = some s' := by rw [hW.out, List.drop_length]; simp [withL]
   repeat' (first
 |with_reducible first|apply Xa|apply Xb|(refine Xc ?_;intro κ hκ)|(apply hκ.out;clear hκ κ)|apply Xd|apply Xe|apply Xf
 |((with_reducible first|refine Xl ?_ ?_|refine Xk ?_ ?_)<;> intro h hari<;> try exact Xp)
 |refine Xr ?_
 |exact True.intro
 |(apply hκ.out;clear hκ κ))
   exact ⟨_, rfl, rfl, hK.put (by omega) _⟩
 ·have hb : (p != q) = true := by simpa using hpq
  rw [if_neg hpq]
  clear hl hpq
  refine acalls 62 [.cell 6 104, .tmp 7] Tryz.func108 rfl (by decide) rfl rfl (Nat.le_of_ble_eq_true rfl) ?_
  repeat' (first
 |with_reducible first|apply Xa|apply Xb|(refine Xc ?_;intro κ hκ)|(apply hκ.out;clear hκ κ)|apply Xd|apply Xe|apply Xf
 |((with_reducible first|refine Xl ?_ ?_|refine Xk ?_ ?_)<;> intro h hari<;> try exact Xp)
 |refine Xr ?_
 |exact True.intro
 |(apply hκ.out;clear hκ κ))
  exact ⟨_, rfl, rfl, ((((((Keep.refl _).new _).new _).new _).new _).put (by omega) _)⟩
/- Laying literals on literals: the search, and all ways, say the same. -/
structure Lt where
 nt : Bool
 pr : Nat
 es : List (Bool × Int)
/-! ### Laying literals on literals -/
def ontoL (left : List Lt) : List Lt → Sw → Option Sw
 | [], s => some s
 | x :: xs, s => left.findSome? fun b => if b.nt = x.nt ∧ x.pr = b.pr then (withL s x.es b.es).bind (ontoL left xs) else none
def ltA (e : Tx → Bool × Int) (N : List Tx) (a : RAtom) : Lt := ⟨a.nt, N.idxOf a.pred, a.terms.map e⟩
def appT (θ : Tx → Tx) (t : Tx) : Tx := if variableB t = true then θ t else t
def landsOn (θ : Tx → Tx) (a b : RAtom) : Prop := a.nt = b.nt ∧ a.pred = b.pred ∧ a.terms.map (appT θ) = b.terms
def SpareP (x : RItem) (k : Nat) : Prop := ∃ θ : Tx → Tx, (∀ t ∈ x.head.terms, variableB t = true → θ t = t) ∧ ∀ a ∈ x.body, ∃ b ∈ x.body.eraseIdx k, landsOn θ a b
structure Tell (e : Tx → Bool × Int) (U : Tx → Prop) : Prop where
 var : ∀ t, U t → (e t).1 = variableB t
 inj : ∀ t u, U t → U u → e t = e u → t = u
 pos : ∀ t, U t → variableB t = true → 0 ≤ (e t).2
def plc (e : Tx → Bool × Int) (t : Tx) : Nat := (e t).2.toNat
theorem Tell.same {e : Tx → Bool × Int} {U : Tx → Prop} (T : Tell e U) {t u : Tx} (ht : U t) (hu : U u) (vt : variableB t = true) (vu : variableB u = true) (h : plc e t = plc e u) : t = u := by
 apply T.inj t u ht hu
 have h1 := T.var t ht
 have h2 := T.var u hu
 have h3 := T.pos t ht vt
 have h4 := T.pos u hu vu
 unfold plc at h
 apply Prod.ext
 ·rw [h1, h2, vt, vu]
 ·omega
def Agr (e : Tx → Bool × Int) (U : Tx → Prop) (s : Sw) (θ : Tx → Tx) : Prop := ∀ t, U t → variableB t = true → s.1 (plc e t) = true → s.2 (plc e t) = e (θ t)
def Grow (s s' : Sw) : Prop := ∀ k, s.1 k = true → s'.1 k = true ∧ s'.2 k = s.2 k
theorem Grow.refl (s : Sw) : Grow s s := fun k h => ⟨h, rfl⟩
theorem Grow.trans {a b c : Sw} (h : Grow a b) (g : Grow b c) : Grow a c := fun k hk => by
 obtain ⟨h1, h2⟩ := h k hk
 obtain ⟨g1, g2⟩ := g k h1
 exact ⟨g1, g2.trans h2⟩
def Bec (e : Tx → Bool × Int) (s : Sw) (t u : Tx) : Prop := if variableB t = true then s.1 (plc e t) = true ∧ s.2 (plc e t) = e u else e t = e u
theorem Bec.grow {e : Tx → Bool × Int} {s s' : Sw} {t u : Tx} (h : Bec e s t u) (g : Grow s s') : Bec e s' t u := by
 unfold Bec at *
 split
 ·rename_i hv
  rw [if_pos hv] at h
  obtain ⟨g1, g2⟩ := g _ h.1
  exact ⟨g1, g2.trans h.2⟩
 ·rename_i hv
  rw [if_neg hv] at h
  exact h
section
variable {e : Tx → Bool × Int} {U : Tx → Prop} (T : Tell e U)
include T
theorem step_full {s : Sw} {θ : Tx → Tx} {t u : Tx} (ha : Agr e U s θ) (ht : U t) (hu : appT θ t = u) : ∃ s', wStep s (e t) (e u) = some s' ∧ Agr e U s' θ := by
 unfold appT at hu
 unfold wStep
 rw [T.var t ht]
 split at hu
 ·rename_i hv
  subst hu
  rw [if_pos hv]
  by_cases hs : s.1 (e t).2.toNat = true
  ·rw [if_pos hs, if_pos (show s.2 (e t).2.toNat = e (θ t) from ha t ht hv hs)]
   exact ⟨s, rfl, ha⟩
  ·rw [if_neg hs]
   refine ⟨_, rfl, fun t' ht' hv' h' => ?_⟩
   by_cases he : plc e t' = (e t).2.toNat
   ·have := T.same ht' ht hv' hv he
    subst this
    simp [plc]
   ·dsimp only at h' ⊢
    rw [if_neg he] at h' ⊢
    exact ha t' ht' hv' h'
 ·rename_i hv
  subst hu
  rw [if_neg hv, if_pos rfl]
  exact ⟨s, rfl, ha⟩
theorem with_full : ∀ (ts us : List Tx) (s : Sw) (θ : Tx → Tx), Agr e U s θ → (∀ t ∈ ts, U t) → ts.map (appT θ) = us → ∃ s', withL s (ts.map e) (us.map e) = some s' ∧ Agr e U s' θ
 | [], us, s, θ, ha, _, _ => ⟨s, by simp [withL], ha⟩
 | t :: ts, us, s, θ, ha, hU, hu => by
  subst hu
  obtain ⟨s1, h1, h2⟩ := step_full T (u := appT θ t) ha (hU t (by simp)) rfl
  obtain ⟨s2, h3, h4⟩ := with_full ts _ s1 θ h2 (fun t' h => hU t' (by simp [h])) rfl
  refine ⟨s2, ?_, h4⟩
  simp only [List.map_cons, withL, h1, Option.bind_some]
  exact h3
theorem step_fit {s s' : Sw} {t u : Tx} (ht : U t) (h : wStep s (e t) (e u) = some s') : Grow s s' ∧ Bec e s' t u := by
 unfold wStep at h
 rw [T.var t ht] at h
 unfold Bec
 split at h
 ·rename_i hv
  rw [if_pos hv]
  split at h
  ·rename_i hs
   split at h
   ·rename_i hb; cases h; exact ⟨Grow.refl _, hs, hb⟩
   ·cases h
  ·rename_i hs
   cases h
   refine ⟨fun k hk => ?_, by simp [plc], by simp [plc]⟩
   have : k ≠ (e t).2.toNat := fun e => hs (e ▸ hk)
   simp [this, hk]
 ·rename_i hv
  rw [if_neg hv]
  split at h
  ·rename_i hb; cases h; exact ⟨Grow.refl _, hb⟩
  ·cases h
theorem with_fit : ∀ (ts us : List Tx) (s s' : Sw), (∀ t ∈ ts, U t) → withL s (ts.map e) (us.map e) = some s' → Grow s s' ∧ ∀ (i : Nat) (t u : Tx), ts[i]? = some t → us[i]? = some u → Bec e s' t u
 | [], us, s, s', _, h => by
  simp only [List.map_nil, withL] at h
  cases h
  exact ⟨Grow.refl _, fun i t u ht => by simp at ht⟩
 | t :: ts, [], s, s', _, h => by simp [withL] at h
 | t :: ts, u :: us, s, s', hU, h => by
  simp only [List.map_cons, withL] at h
  cases h1 : wStep s (e t) (e u) with
  | none => rw [h1] at h; cases h
  | some s1 =>
   rw [h1] at h
   simp only [Option.bind_some] at h
   obtain ⟨g1, b1⟩ := step_fit T (hU t (by simp)) h1
   obtain ⟨g2, b2⟩ := with_fit ts us s1 s' (fun t' h => hU t' (by simp [h])) h
   refine ⟨g1.trans g2, fun i t' u' ht hu => ?_⟩
   cases i with
   | zero => simp at ht hu; subst ht; subst hu; exact b1.grow g2
   | succ i => simp at ht hu; exact b2 i t' u' ht hu
theorem onto_full (N : List Tx) (left : List RAtom) (θ : Tx → Tx) : ∀ (lits : List RAtom) (s : Sw), Agr e U s θ → (∀ a ∈ lits, ∀ t ∈ a.terms, U t) → (∀ a ∈ lits, ∃ b ∈ left, landsOn θ a b) → ∃ s', ontoL (left.map (ltA e N)) (lits.map (ltA e N)) s = some s'
 | [], s, _, _, _ => ⟨s, by simp [ontoL]⟩
 | a :: lits, s, ha, hU, hl => by
  obtain ⟨b, hb, h1, h2, h3⟩ := hl a (by simp)
  obtain ⟨s1, w1, a1⟩ := with_full T a.terms b.terms s θ ha (hU a (by simp)) h3
  obtain ⟨s2, o2⟩ := onto_full N left θ lits s1 a1 (fun a' h => hU a' (by simp [h])) (fun a' h => hl a' (by simp [h]))
  simp only [List.map_cons, ontoL]
  have hne : (left.map (ltA e N)).findSome? (fun b => if b.nt = (ltA e N a).nt ∧ (ltA e N a).pr = b.pr then (withL s (ltA e N a).es b.es).bind (ontoL (left.map (ltA e N)) (lits.map (ltA e N))) else none) ≠ none := by
   intro hn
   rw [List.findSome?_eq_none_iff] at hn
   have := hn (ltA e N b) (List.mem_map.2 ⟨b, hb, rfl⟩)
   rw [if_pos ⟨h1.symm, by simp [ltA, h2]⟩] at this
   have w1' : withL s (ltA e N a).es (ltA e N b).es = some s1 := w1
   rw [w1', Option.bind_some, o2] at this
   cases this
  exact Option.ne_none_iff_exists'.1 hne
theorem onto_fit (N : List Tx) (left : List RAtom) : ∀ (lits : List RAtom) (s s' : Sw), (∀ a ∈ lits, a.pred ∈ N ∧ ∀ t ∈ a.terms, U t) → (∀ b ∈ left, b.pred ∈ N) → ontoL (left.map (ltA e N)) (lits.map (ltA e N)) s = some s' → Grow s s' ∧ ∀ a ∈ lits, ∃ b ∈ left, a.nt = b.nt ∧ a.pred = b.pred ∧ ∀ (i : Nat) (t u : Tx), a.terms[i]? = some t → b.terms[i]? = some u → Bec e s' t u
 | [], s, s', _, _, h => by
  simp only [List.map_nil, ontoL] at h
  cases h
  exact ⟨Grow.refl _, fun a h => by cases h⟩
 | a :: lits, s, s', hU, hN, h => by
  simp only [List.map_cons, ontoL] at h
  rw [List.findSome?_eq_some_iff] at h
  obtain ⟨l1, c, l2, hl, hc, -⟩ := h
  have hcm : c ∈ left.map (ltA e N) := by rw [hl]; simp
  obtain ⟨b, hb, rfl⟩ := List.mem_map.1 hcm
  split at hc
  ·rename_i hcond
   cases hw : withL s (ltA e N a).es (ltA e N b).es with
   | none => rw [hw] at hc; cases hc
   | some s1 =>
    rw [hw] at hc
    simp only [Option.bind_some] at hc
    obtain ⟨g1, b1⟩ := with_fit T a.terms b.terms s s1 (hU a (by simp)).2 hw
    obtain ⟨g2, b2⟩ := onto_fit N left lits s1 s' (fun a' h => hU a' (by simp [h])) hN hc
    refine ⟨g1.trans g2, fun a' ha' => ?_⟩
    rcases List.mem_cons.1 ha' with rfl | ha'
    ·exact ⟨b, hb, hcond.1.symm, idx_inj (hU _ (by simp)).1 (hN b hb) hcond.2, fun i t u ht hu => (b1 i t u ht hu).grow g2⟩
    ·exact b2 a' ha'
  ·cases hc
end
theorem with_self {e : Tx → Bool × Int} {U : Tx → Prop} (T : Tell e U) (ts : List Tx) (hU : ∀ t ∈ ts, U t) : ∃ s, withL sw0 (ts.map e) (ts.map e) = some s ∧ (∀ θ : Tx → Tx, (∀ t ∈ ts, variableB t = true → θ t = t) → ∀ t, U t → variableB t = true → s.1 (plc e t) = true → t ∈ ts) ∧ ∀ t ∈ ts, Bec e s t t := by
 have key : ∀ (us : List Tx) (s : Sw), (∀ t ∈ us, U t) → (∀ t, U t → variableB t = true → s.1 (plc e t) = true → s.2 (plc e t) = e t) → ∃ s', withL s (us.map e) (us.map e) = some s' ∧ (∀ t, U t → variableB t = true → s'.1 (plc e t) = true → s'.2 (plc e t) = e t ∧ (t ∈ us ∨ s.1 (plc e t) = true)) := by
  intro us
  induction us with
  | nil => exact fun s _ ha => ⟨s, by simp [withL], fun t ht hv h => ⟨ha t ht hv h, .inr h⟩⟩
  | cons u us ih =>
   intro s hU ha
   obtain ⟨s1, h1, h2⟩ := step_full T (θ := fun t => t) (t := u) (u := u) ha (hU u (by simp)) (by unfold appT; split <;> rfl)
   obtain ⟨s2, h3, h4⟩ := ih s1 (fun t h => hU t (by simp [h])) h2
   refine ⟨s2, by simp only [List.map_cons, withL, h1, Option.bind_some]; exact h3, fun t ht hv h => ?_⟩
   obtain ⟨q1, q2⟩ := h4 t ht hv h
   refine ⟨q1, ?_⟩
   rcases q2 with q2 | q2
   ·exact .inl (by simp [q2])
   ·unfold wStep at h1
    rw [T.var u (hU u (by simp))] at h1
    split at h1
    ·rename_i hvu
     split at h1
     ·split at h1
      ·cases h1; exact .inr q2
      ·cases h1
     ·cases h1
      dsimp only at q2
      by_cases he : plc e t = (e u).2.toNat
      ·have := T.same ht (hU u (by simp)) hv hvu he
       exact .inl (by simp [this])
      ·rw [if_neg he] at q2; exact .inr q2
    ·split at h1
     ·cases h1; exact .inr q2
     ·cases h1
 obtain ⟨s, h1, h2⟩ := key ts sw0 hU (fun t _ _ h => by simp [sw0] at h)
 obtain ⟨-, b1⟩ := with_fit T ts ts sw0 s hU h1
 refine ⟨s, h1, fun θ _ t ht hv h => ?_, fun t ht => ?_⟩
 ·rcases (h2 t ht hv h).2 with q | q
  ·exact q
  ·simp [sw0] at q
 ·obtain ⟨i, hi⟩ := List.getElem?_of_mem ht
  exact b1 i t t hi hi
theorem search_iff {e : Tx → Bool × Int} {U : Tx → Prop} (T : Tell e U) (N : List Tx) (x : RItem) (k : Nat) (hN : ∀ a ∈ x.body, a.pred ∈ N) (hUh : ∀ t ∈ x.head.terms, U t) (hUb : ∀ a ∈ x.body, ∀ t ∈ a.terms, U t)
  (hlen : ∀ a ∈ x.body, ∀ b ∈ x.body, a.pred = b.pred → a.terms.length = b.terms.length) (hdec : ∀ t, U t → ∀ u, U u → e t = e u → t = u) :
  ∃ s0, withL sw0 (x.head.terms.map e) (x.head.terms.map e) = some s0 ∧ ((∃ s', ontoL ((x.body.eraseIdx k).map (ltA e N)) (x.body.map (ltA e N)) s0 = some s') ↔ SpareP x k) := by
 obtain ⟨s0, h0, h1, h2⟩ := with_self T x.head.terms hUh
 refine ⟨s0, h0, ?_, ?_⟩
 ·rintro ⟨s', hs'⟩
  have hsub : ∀ b ∈ x.body.eraseIdx k, b ∈ x.body := fun b hb => List.mem_of_mem_eraseIdx hb
  obtain ⟨g, hfit⟩ := onto_fit T N (x.body.eraseIdx k) x.body s0 s' (fun a ha => ⟨hN a ha, hUb a ha⟩) (fun b hb => hN b (hsub b hb)) hs'
  have hex : ∀ t : Tx, ∃ u : Tx, (U t ∧ variableB t = true ∧ ∃ u', U u' ∧ s'.2 (plc e t) = e u') → (U u ∧ s'.2 (plc e t) = e u) := fun t => by
   by_cases h : U t ∧ variableB t = true ∧ ∃ u', U u' ∧ s'.2 (plc e t) = e u'
   ·obtain ⟨u, hu⟩ := h.2.2; exact ⟨u, fun _ => hu⟩
   ·exact ⟨t, fun h' => absurd h' h⟩
  let θ : Tx → Tx := fun t => Classical.choose (hex t)
  have hθ : ∀ t u, U t → variableB t = true → U u → s'.2 (plc e t) = e u → θ t = u := fun t u ht hv hu h => by
   obtain ⟨q1, q2⟩ := Classical.choose_spec (hex t) ⟨ht, hv, u, hu, h⟩
   exact hdec _ q1 _ hu (q2.symm.trans h)
  refine ⟨θ, fun t ht hv => ?_, fun a ha => ?_⟩
  ·have := (h2 t ht).grow g
   unfold Bec at this
   rw [if_pos hv] at this
   exact hθ t t (hUh t ht) hv (hUh t ht) this.2
  ·obtain ⟨b, hb, c1, c2, c3⟩ := hfit a ha
   have hbb := hsub b hb
   refine ⟨b, hb, c1, c2, ?_⟩
   have hl := hlen a ha b hbb c2
   apply List.ext_getElem?
   intro i
   rw [List.getElem?_map]
   by_cases hi : i < a.terms.length
   ·have e1 := List.getElem?_eq_getElem hi
    have e2 := List.getElem?_eq_getElem (show i < b.terms.length by omega)
    have hu1 := hUb a ha _ (List.getElem_mem hi)
    have hu2 := hUb b hbb _ (List.getElem_mem (show i < b.terms.length by omega))
    have := c3 i _ _ e1 e2
    rw [e1, e2]
    simp only [Option.map_some]
    congr 1
    unfold Bec at this
    unfold appT
    split
    ·rename_i hv
     rw [if_pos hv] at this
     exact hθ _ _ hu1 hv hu2 this.2
    ·rename_i hv
     rw [if_neg hv] at this
     exact hdec _ hu1 _ hu2 this
   ·rw [List.getElem?_eq_none (by omega), List.getElem?_eq_none (by omega)]; rfl
 ·rintro ⟨θ, t1, t2⟩
  refine onto_full T N (x.body.eraseIdx k) θ x.body s0 (fun t ht hv h => ?_) hUb t2
  have hm := h1 θ t1 t ht hv h
  have := h2 t hm
  unfold Bec at this
  rw [if_pos hv] at this
  rw [this.2, t1 t hm hv]
/-! ### The document's way: all ways to lay each literal on another one -/
end Go.Proofs.YtmoeoppbmhfbpaaGreatDoorU
