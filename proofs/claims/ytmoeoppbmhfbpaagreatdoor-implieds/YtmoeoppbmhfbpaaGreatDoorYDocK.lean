import Derived.Test.YtmoeoppbmhfbpaaGreatDoorYDocD
/- The document's own answer: key. -/
namespace Go.Proofs.YtmoeoppbmhfbpaaGreatDoorY
open Go.Abs
set_option linter.unusedSimpArgs false
set_option linter.unusedVariables false
set_option maxRecDepth 100000
theorem segA_len {a : RAtom} (h : clA a) : (segA a).length ≤ 1100000 := by
 have h1 := h.1.2
 have h3 := h.2.2
 have hT : ∀ ts : List Tx, (∀ t ∈ ts, Clean t) → (ts.flatMap fun t => (44 : UInt8) :: t).length ≤ ts.length * 1001 := by
  intro ts
  induction ts with
  | nil => intro _; simp
  | cons t ts ih =>
   intro hh
   have e1 := ih (fun u hu => hh u (by simp [hu]))
   have e2 := (hh t (by simp)).2
   simp only [List.flatMap_cons, List.length_append, List.length_cons]
   omega
 have h2 := hT a.terms h.2.1
 unfold segA
 simp only [List.length_append]
 have : (if a.nt = true then [(33 : UInt8)] else []).length ≤ 1 := by split <;> simp
 omega
def keyI (x : RItem) (i : Nat) : Tx := ((x.head :: x.body).take i).flatMap fun a => segA a ++ [46]
theorem keyI_succ {x : RItem} {i : Nat} {w : RAtom} (h : (x.head :: x.body)[i]? = some w) : keyI x (i + 1) = keyI x i ++ (segA w ++ [46]) := by
 unfold keyI
 rw [List.take_add_one, h, List.flatMap_append]
 simp
set_option maxHeartbeats 32000000 in
theorem rkey_spec (x : RItem) (c : List AV) (hc : EItem x c) (hx : clI x) (hb5 : x.body.length ≤ 1000) (σ : St) : ACalls Tryz.prog 268 [ag c] σ fun r σ' => r = str (keyL x) ∧ Keep σ σ' := by
 obtain ⟨ih, id, b, hb, rfl⟩ := hc.cells
 have hbl := EL.length EAtom_len hb
 have h33 : ({ data := #[33] } : ByteArray) = bs [33] := rfl
 have h44 : ({ data := #[44] } : ByteArray) = bs [44] := rfl
 have h46 : ({ data := #[46] } : ByteArray) = bs [46] := rfl
 unfold itemCells
 refine acalls 49 [.tmp 2] Tryz.func268 rfl (by decide) rfl rfl (Nat.le_of_ble_eq_true rfl) ?_
 repeat' (first
 |with_reducible first|apply Xa|apply Xb|(refine Xc ?_;intro κ hκ)|(apply hκ.out;clear hκ κ)|apply Xd|apply Xe|apply Xf
 |((with_reducible first|refine Xl ?_ ?_|refine Xk ?_ ?_)<;> intro h hari<;> try exact Xp)
 |refine Xw ?_
 |exact True.intro
 |(apply hκ.out;clear hκ κ))
 refine awp_loop (fun m s σ' => ∃ (i : Nat) (n : Int) (acc : Tx), m = x.body.length + 1 - i ∧ i ≤ x.body.length + 1 ∧ n = (i : Int) - 1 ∧ s 1 = ptr σ.nobj 0 ∧ s 3 = str acc ∧ s 4 = sc (.int .i64 n) ∧ Keep σ σ' ∧ σ.nobj < σ'.nobj ∧ σ'.obj σ.nobj = [sc (.bool x.out), sc (.bool x.head.nt), str x.head.pred, sl ih x.head.terms.length (x.head.terms.map str), sl id x.body.length b] ∧ acc.length ≤ i * 1100001 ∧ Abs.Hid (acc = keyI x i)) (x.body.length + 1)
  ⟨0, -1, [], by omega, by omega, by omega, by simp [upd], by simp [upd], by simp [upd], by exact Xs, by simp only [new_nobj]; omega, new_same, by simp, by simp [Abs.Hid, keyI]⟩ ?_
 rintro m s σ1 ⟨i, n, acc, rfl, hi, hn, h1, h3, h4, hK, hno, ob0, hal, hA⟩
 have kno := hK.nobj
 by_cases hlt : i < x.body.length + 1
 ·have HA : Abs.Hid _ := hA.out
  clear hA
  have hl0 : decide (n < (x.body.length : Int)) = true := by simp; omega
  have hnb : n ≤ (i : Int) - 1 ∧ (i : Int) - 1 ≤ n := by omega
  clear hn
  by_cases h0 : i = 0
  ·have hgz : decide ((0 : Int) ≤ n) = false := by simp; omega
   have hgz2 : decide (n ≥ 0) = false := hgz
   have HW : Abs.Hid (keyI x (i + 1) = keyI x i ++ (segA x.head ++ [46])) := keyI_succ (by rw [h0]; rfl)
   have hw := hx.2.1
   have hw1 := hw.1.2
   have hw2 := hw.2.2
   clear h0
   cases hw0 : x.head.nt with
   | true =>
    repeat' (first
 |with_reducible first|apply Xa|apply Xb|(refine Xc ?_;intro κ hκ)|(apply hκ.out;clear hκ κ)|apply Xd|apply Xe|apply Xf
 |((with_reducible first|refine Xl ?_ ?_|refine Xk ?_ ?_)<;> intro h hari<;> try exact Xp)
 |refine Xw ?_
 |exact True.intro
 |(apply hκ.out;clear hκ κ))
    refine awp_loop (fun m s σ' => ∃ (k : Nat) (acc2 : Tx), m = x.head.terms.length - k ∧ k ≤ x.head.terms.length ∧ s 1 = ptr σ.nobj 0 ∧ s 3 = str acc2 ∧ s 4 = sc (.int .i64 n) ∧ s 5 = ptr σ1.nobj 0 ∧ s 6 = sc (.int .i64 k) ∧ Keep σ σ' ∧ σ1.nobj < σ'.nobj ∧ σ'.obj σ.nobj = [sc (.bool x.out), sc (.bool x.head.nt), str x.head.pred, sl ih x.head.terms.length (x.head.terms.map str), sl id x.body.length b] ∧ σ'.obj σ1.nobj = [sc (.bool x.head.nt), str x.head.pred, sl ih x.head.terms.length (x.head.terms.map str)] ∧ acc2.length ≤ i * 1100001 + 1001 + k * 1001 ∧ Abs.Hid (acc2 = (acc ++ [33] ++ x.head.pred) ++ (x.head.terms.take k).flatMap fun t => 44 :: t)) x.head.terms.length
     ⟨0, (acc ++ [33] ++ x.head.pred), by omega, by omega, by simp [upd, *], by simp [upd], by simp [upd, *], by simp [upd], by simp [upd], by exact Xs, by simp only [put_nobj, new_nobj]; omega, by simp (disch := omega) only [put_ne, new_lt, new_nobj, ob0, hw0], by simp only [put_same, hw0], by simp only [List.length_append, List.length_cons, List.length_nil]; omega, by simp [Abs.Hid]⟩ ?_
    have hno1 := hno
    clear h1 h3 h4 ob0 hno hK kno hal hgz hgz2
    rintro m s σ' ⟨k, acc2, rfl, hk, h1, h3, h4, h5, h6, hK, hno, ob0, ob1, hal, hA⟩
    have kno := hK.nobj
    by_cases hlt : k < x.head.terms.length
    ·have hget := List.getElem?_eq_getElem hlt
     have hd := map_str_get hlt
     have htl := (hw.2.1 _ (List.getElem_mem hlt)).2
     generalize x.head.terms[k] = t at hd hget htl
     have HN : Abs.Hid ((acc2 ++ [44]) ++ t = (acc ++ [33] ++ x.head.pred) ++ (x.head.terms.take (k + 1)).flatMap fun t => 44 :: t) := by
      rw [Abs.Hid, List.take_add_one, hget, List.flatMap_append, hA.out]; simp
     have HL : ((acc2 ++ [44]) ++ t).length ≤ i * 1100001 + 1001 + (k + 1) * 1001 := by simp only [List.length_append, List.length_cons, List.length_nil]; omega
     clear hget
     repeat' (first
 |with_reducible first|apply Xa|apply Xb|(refine Xc ?_;intro κ hκ)|(apply hκ.out;clear hκ κ)|apply Xd|apply Xe|apply Xf
 |((with_reducible first|refine Xl ?_ ?_|refine Xk ?_ ?_)<;> intro h hari<;> try exact Xp)
 |refine Xw ?_
 |exact True.intro
 |(apply hκ.out;clear hκ κ))
     refine ⟨x.head.terms.length - (k + 1), by omega, k + 1, (acc2 ++ [44]) ++ t, ?_⟩
     ((repeat' with_reducible refine And.intro ?_ ?_)<;> first|exact Xq|exact (HN)|exact (HL)|exact Xs)
    ·have hkl : k = x.head.terms.length := by omega
     subst hkl
     have HN : Abs.Hid (acc2 ++ [46] = keyI x (i + 1)) := by
      rw [Abs.Hid, HW.out, hA.out, List.take_length, ← HA.out]
      simp [segA, hw0]
     have hal2 : acc2.length ≤ i * 1100001 + 1100000 := Nat.le_trans hal (by rw [Nat.add_assoc]; exact Nat.add_le_add_left (Nat.le_trans (Nat.add_le_add_left (Nat.mul_le_mul_right 1001 hw2) 1001) (by decide)) _)
     have HL : (acc2 ++ [46]).length ≤ (i + 1) * 1100001 := by simp only [List.length_append, List.length_cons, List.length_nil]; omega
     repeat' (first
 |with_reducible first|apply Xa|apply Xb|(refine Xc ?_;intro κ hκ)|(apply hκ.out;clear hκ κ)|apply Xd|apply Xe|apply Xf
 |((with_reducible first|refine Xl ?_ ?_|refine Xk ?_ ?_)<;> intro h hari<;> try exact Xp)
 |refine Xw ?_
 |exact True.intro
 |(apply hκ.out;clear hκ κ))
     refine ⟨x.body.length + 1 - (i + 1), by omega, i + 1, n + 1, acc2 ++ [46], ?_⟩
     ((repeat' with_reducible refine And.intro ?_ ?_)<;> first|exact Xq|exact (HN)|exact (HL)|exact Xs)
   | false =>
    repeat' (first
 |with_reducible first|apply Xa|apply Xb|(refine Xc ?_;intro κ hκ)|(apply hκ.out;clear hκ κ)|apply Xd|apply Xe|apply Xf
 |((with_reducible first|refine Xl ?_ ?_|refine Xk ?_ ?_)<;> intro h hari<;> try exact Xp)
 |refine Xw ?_
 |exact True.intro
 |(apply hκ.out;clear hκ κ))
    refine awp_loop (fun m s σ' => ∃ (k : Nat) (acc2 : Tx), m = x.head.terms.length - k ∧ k ≤ x.head.terms.length ∧ s 1 = ptr σ.nobj 0 ∧ s 3 = str acc2 ∧ s 4 = sc (.int .i64 n) ∧ s 5 = ptr σ1.nobj 0 ∧ s 6 = sc (.int .i64 k) ∧ Keep σ σ' ∧ σ1.nobj < σ'.nobj ∧ σ'.obj σ.nobj = [sc (.bool x.out), sc (.bool x.head.nt), str x.head.pred, sl ih x.head.terms.length (x.head.terms.map str), sl id x.body.length b] ∧ σ'.obj σ1.nobj = [sc (.bool x.head.nt), str x.head.pred, sl ih x.head.terms.length (x.head.terms.map str)] ∧ acc2.length ≤ i * 1100001 + 1001 + k * 1001 ∧ Abs.Hid (acc2 = (acc ++ x.head.pred) ++ (x.head.terms.take k).flatMap fun t => 44 :: t)) x.head.terms.length
     ⟨0, (acc ++ x.head.pred), by omega, by omega, by simp [upd, *], by simp [upd], by simp [upd, *], by simp [upd], by simp [upd], by exact Xs, by simp only [put_nobj, new_nobj]; omega, by simp (disch := omega) only [put_ne, new_lt, new_nobj, ob0, hw0], by simp only [put_same, hw0], by simp only [List.length_append, List.length_cons, List.length_nil]; omega, by simp [Abs.Hid]⟩ ?_
    have hno1 := hno
    clear h1 h3 h4 ob0 hno hK kno hal hgz hgz2
    rintro m s σ' ⟨k, acc2, rfl, hk, h1, h3, h4, h5, h6, hK, hno, ob0, ob1, hal, hA⟩
    have kno := hK.nobj
    by_cases hlt : k < x.head.terms.length
    ·have hget := List.getElem?_eq_getElem hlt
     have hd := map_str_get hlt
     have htl := (hw.2.1 _ (List.getElem_mem hlt)).2
     generalize x.head.terms[k] = t at hd hget htl
     have HN : Abs.Hid ((acc2 ++ [44]) ++ t = (acc ++ x.head.pred) ++ (x.head.terms.take (k + 1)).flatMap fun t => 44 :: t) := by
      rw [Abs.Hid, List.take_add_one, hget, List.flatMap_append, hA.out]; simp
     have HL : ((acc2 ++ [44]) ++ t).length ≤ i * 1100001 + 1001 + (k + 1) * 1001 := by simp only [List.length_append, List.length_cons, List.length_nil]; omega
     clear hget
     repeat' (first
 |with_reducible first|apply Xa|apply Xb|(refine Xc ?_;intro κ hκ)|(apply hκ.out;clear hκ κ)|apply Xd|apply Xe|apply Xf
 |((with_reducible first|refine Xl ?_ ?_|refine Xk ?_ ?_)<;> intro h hari<;> try exact Xp)
 |refine Xw ?_
 |exact True.intro
 |(apply hκ.out;clear hκ κ))
     refine ⟨x.head.terms.length - (k + 1), by omega, k + 1, (acc2 ++ [44]) ++ t, ?_⟩
     ((repeat' with_reducible refine And.intro ?_ ?_)<;> first|exact Xq|exact (HN)|exact (HL)|exact Xs)
    ·have hkl : k = x.head.terms.length := by omega
     subst hkl
     have HN : Abs.Hid (acc2 ++ [46] = keyI x (i + 1)) := by
      rw [Abs.Hid, HW.out, hA.out, List.take_length, ← HA.out]
      simp [segA, hw0]
     have hal2 : acc2.length ≤ i * 1100001 + 1100000 := Nat.le_trans hal (by rw [Nat.add_assoc]; exact Nat.add_le_add_left (Nat.le_trans (Nat.add_le_add_left (Nat.mul_le_mul_right 1001 hw2) 1001) (by decide)) _)
     have HL : (acc2 ++ [46]).length ≤ (i + 1) * 1100001 := by simp only [List.length_append, List.length_cons, List.length_nil]; omega
     repeat' (first
 |with_reducible first|apply Xa|apply Xb|(refine Xc ?_;intro κ hκ)|(apply hκ.out;clear hκ κ)|apply Xd|apply Xe|apply Xf
 |((with_reducible first|refine Xl ?_ ?_|refine Xk ?_ ?_)<;> intro h hari<;> try exact Xp)
 |refine Xw ?_
 |exact True.intro
 |(apply hκ.out;clear hκ κ))
     refine ⟨x.body.length + 1 - (i + 1), by omega, i + 1, n + 1, acc2 ++ [46], ?_⟩
     ((repeat' with_reducible refine And.intro ?_ ?_)<;> first|exact Xq|exact (HN)|exact (HL)|exact Xs)
  ·have hgz : decide ((0 : Int) ≤ n) = true := by simp; omega
   have hgz2 : decide (n ≥ 0) = true := hgz
   have hn0 : 0 ≤ n := by omega
   have hn1 : n.toNat < x.body.length := by omega
   have hn2 : n < (x.body.length : Int) := by omega
   have hget := List.getElem?_eq_getElem hn1
   have hw := hx.2.2 _ (List.getElem_mem hn1)
   obtain ⟨ia, r, hd⟩ := EL_atom hb hget
   generalize x.body[n.toNat] = w at hget hw hd
   have HW : Abs.Hid (keyI x (i + 1) = keyI x i ++ (segA w ++ [46])) := keyI_succ (by rw [show i = n.toNat + 1 by omega]; exact hget)
   have hw1 := hw.1.2
   have hw2 := hw.2.2
   clear hget h0
   cases hw0 : w.nt with
   | true =>
    repeat' (first
 |with_reducible first|apply Xa|apply Xb|(refine Xc ?_;intro κ hκ)|(apply hκ.out;clear hκ κ)|apply Xd|apply Xe|apply Xf
 |((with_reducible first|refine Xl ?_ ?_|refine Xk ?_ ?_)<;> intro h hari<;> try exact Xp)
 |refine Xw ?_
 |exact True.intro
 |(apply hκ.out;clear hκ κ))
    refine awp_loop (fun m s σ' => ∃ (k : Nat) (acc2 : Tx), m = w.terms.length - k ∧ k ≤ w.terms.length ∧ s 1 = ptr σ.nobj 0 ∧ s 3 = str acc2 ∧ s 4 = sc (.int .i64 n) ∧ s 5 = ptr σ1.nobj 0 ∧ s 6 = sc (.int .i64 k) ∧ Keep σ σ' ∧ σ1.nobj < σ'.nobj ∧ σ'.obj σ.nobj = [sc (.bool x.out), sc (.bool x.head.nt), str x.head.pred, sl ih x.head.terms.length (x.head.terms.map str), sl id x.body.length b] ∧ σ'.obj σ1.nobj = [sc (.bool w.nt), str w.pred, sl ia w.terms.length (w.terms.map str)] ∧ acc2.length ≤ i * 1100001 + 1001 + k * 1001 ∧ Abs.Hid (acc2 = (acc ++ [33] ++ w.pred) ++ (w.terms.take k).flatMap fun t => 44 :: t)) w.terms.length
     ⟨0, (acc ++ [33] ++ w.pred), by omega, by omega, by simp [upd, *], by simp [upd], by simp [upd, *], by simp [upd], by simp [upd], by exact Xs, by simp only [put_nobj, new_nobj]; omega, by simp (disch := omega) only [put_ne, new_lt, new_nobj, ob0, hw0], by simp only [put_same, hw0], by simp only [List.length_append, List.length_cons, List.length_nil]; omega, by simp [Abs.Hid]⟩ ?_
    have hno1 := hno
    clear h1 h3 h4 ob0 hno hK kno hal hgz hgz2
    rintro m s σ' ⟨k, acc2, rfl, hk, h1, h3, h4, h5, h6, hK, hno, ob0, ob1, hal, hA⟩
    have kno := hK.nobj
    by_cases hlt : k < w.terms.length
    ·have hget := List.getElem?_eq_getElem hlt
     have hd := map_str_get hlt
     have htl := (hw.2.1 _ (List.getElem_mem hlt)).2
     generalize w.terms[k] = t at hd hget htl
     have HN : Abs.Hid ((acc2 ++ [44]) ++ t = (acc ++ [33] ++ w.pred) ++ (w.terms.take (k + 1)).flatMap fun t => 44 :: t) := by
      rw [Abs.Hid, List.take_add_one, hget, List.flatMap_append, hA.out]; simp
     have HL : ((acc2 ++ [44]) ++ t).length ≤ i * 1100001 + 1001 + (k + 1) * 1001 := by simp only [List.length_append, List.length_cons, List.length_nil]; omega
     clear hget
     repeat' (first
 |with_reducible first|apply Xa|apply Xb|(refine Xc ?_;intro κ hκ)|(apply hκ.out;clear hκ κ)|apply Xd|apply Xe|apply Xf
 |((with_reducible first|refine Xl ?_ ?_|refine Xk ?_ ?_)<;> intro h hari<;> try exact Xp)
 |refine Xw ?_
 |exact True.intro
 |(apply hκ.out;clear hκ κ))
     refine ⟨w.terms.length - (k + 1), by omega, k + 1, (acc2 ++ [44]) ++ t, ?_⟩
     ((repeat' with_reducible refine And.intro ?_ ?_)<;> first|exact Xq|exact (HN)|exact (HL)|exact Xs)
    ·have hkl : k = w.terms.length := by omega
     subst hkl
     have HN : Abs.Hid (acc2 ++ [46] = keyI x (i + 1)) := by
      rw [Abs.Hid, HW.out, hA.out, List.take_length, ← HA.out]
      simp [segA, hw0]
     have hal2 : acc2.length ≤ i * 1100001 + 1100000 := Nat.le_trans hal (by rw [Nat.add_assoc]; exact Nat.add_le_add_left (Nat.le_trans (Nat.add_le_add_left (Nat.mul_le_mul_right 1001 hw2) 1001) (by decide)) _)
     have HL : (acc2 ++ [46]).length ≤ (i + 1) * 1100001 := by simp only [List.length_append, List.length_cons, List.length_nil]; omega
     repeat' (first
 |with_reducible first|apply Xa|apply Xb|(refine Xc ?_;intro κ hκ)|(apply hκ.out;clear hκ κ)|apply Xd|apply Xe|apply Xf
 |((with_reducible first|refine Xl ?_ ?_|refine Xk ?_ ?_)<;> intro h hari<;> try exact Xp)
 |refine Xw ?_
 |exact True.intro
 |(apply hκ.out;clear hκ κ))
     refine ⟨x.body.length + 1 - (i + 1), by omega, i + 1, n + 1, acc2 ++ [46], ?_⟩
     ((repeat' with_reducible refine And.intro ?_ ?_)<;> first|exact Xq|exact (HN)|exact (HL)|exact Xs)
   | false =>
    repeat' (first
 |with_reducible first|apply Xa|apply Xb|(refine Xc ?_;intro κ hκ)|(apply hκ.out;clear hκ κ)|apply Xd|apply Xe|apply Xf
 |((with_reducible first|refine Xl ?_ ?_|refine Xk ?_ ?_)<;> intro h hari<;> try exact Xp)
 |refine Xw ?_
 |exact True.intro
 |(apply hκ.out;clear hκ κ))
    refine awp_loop (fun m s σ' => ∃ (k : Nat) (acc2 : Tx), m = w.terms.length - k ∧ k ≤ w.terms.length ∧ s 1 = ptr σ.nobj 0 ∧ s 3 = str acc2 ∧ s 4 = sc (.int .i64 n) ∧ s 5 = ptr σ1.nobj 0 ∧ s 6 = sc (.int .i64 k) ∧ Keep σ σ' ∧ σ1.nobj < σ'.nobj ∧ σ'.obj σ.nobj = [sc (.bool x.out), sc (.bool x.head.nt), str x.head.pred, sl ih x.head.terms.length (x.head.terms.map str), sl id x.body.length b] ∧ σ'.obj σ1.nobj = [sc (.bool w.nt), str w.pred, sl ia w.terms.length (w.terms.map str)] ∧ acc2.length ≤ i * 1100001 + 1001 + k * 1001 ∧ Abs.Hid (acc2 = (acc ++ w.pred) ++ (w.terms.take k).flatMap fun t => 44 :: t)) w.terms.length
     ⟨0, (acc ++ w.pred), by omega, by omega, by simp [upd, *], by simp [upd], by simp [upd, *], by simp [upd], by simp [upd], by exact Xs, by simp only [put_nobj, new_nobj]; omega, by simp (disch := omega) only [put_ne, new_lt, new_nobj, ob0, hw0], by simp only [put_same, hw0], by simp only [List.length_append, List.length_cons, List.length_nil]; omega, by simp [Abs.Hid]⟩ ?_
    have hno1 := hno
    clear h1 h3 h4 ob0 hno hK kno hal hgz hgz2
    rintro m s σ' ⟨k, acc2, rfl, hk, h1, h3, h4, h5, h6, hK, hno, ob0, ob1, hal, hA⟩
    have kno := hK.nobj
    by_cases hlt : k < w.terms.length
    ·have hget := List.getElem?_eq_getElem hlt
     have hd := map_str_get hlt
     have htl := (hw.2.1 _ (List.getElem_mem hlt)).2
     generalize w.terms[k] = t at hd hget htl
     have HN : Abs.Hid ((acc2 ++ [44]) ++ t = (acc ++ w.pred) ++ (w.terms.take (k + 1)).flatMap fun t => 44 :: t) := by
      rw [Abs.Hid, List.take_add_one, hget, List.flatMap_append, hA.out]; simp
     have HL : ((acc2 ++ [44]) ++ t).length ≤ i * 1100001 + 1001 + (k + 1) * 1001 := by simp only [List.length_append, List.length_cons, List.length_nil]; omega
     clear hget
     repeat' (first
 |with_reducible first|apply Xa|apply Xb|(refine Xc ?_;intro κ hκ)|(apply hκ.out;clear hκ κ)|apply Xd|apply Xe|apply Xf
 |((with_reducible first|refine Xl ?_ ?_|refine Xk ?_ ?_)<;> intro h hari<;> try exact Xp)
 |refine Xw ?_
 |exact True.intro
 |(apply hκ.out;clear hκ κ))
     refine ⟨w.terms.length - (k + 1), by omega, k + 1, (acc2 ++ [44]) ++ t, ?_⟩
     ((repeat' with_reducible refine And.intro ?_ ?_)<;> first|exact Xq|exact (HN)|exact (HL)|exact Xs)
    ·have hkl : k = w.terms.length := by omega
     subst hkl
     have HN : Abs.Hid (acc2 ++ [46] = keyI x (i + 1)) := by
      rw [Abs.Hid, HW.out, hA.out, List.take_length, ← HA.out]
      simp [segA, hw0]
     have hal2 : acc2.length ≤ i * 1100001 + 1100000 := Nat.le_trans hal (by rw [Nat.add_assoc]; exact Nat.add_le_add_left (Nat.le_trans (Nat.add_le_add_left (Nat.mul_le_mul_right 1001 hw2) 1001) (by decide)) _)
     have HL : (acc2 ++ [46]).length ≤ (i + 1) * 1100001 := by simp only [List.length_append, List.length_cons, List.length_nil]; omega
     repeat' (first
 |with_reducible first|apply Xa|apply Xb|(refine Xc ?_;intro κ hκ)|(apply hκ.out;clear hκ κ)|apply Xd|apply Xe|apply Xf
 |((with_reducible first|refine Xl ?_ ?_|refine Xk ?_ ?_)<;> intro h hari<;> try exact Xp)
 |refine Xw ?_
 |exact True.intro
 |(apply hκ.out;clear hκ κ))
     refine ⟨x.body.length + 1 - (i + 1), by omega, i + 1, n + 1, acc2 ++ [46], ?_⟩
     ((repeat' with_reducible refine And.intro ?_ ?_)<;> first|exact Xq|exact (HN)|exact (HL)|exact Xs)
 ·have hil : i = x.body.length + 1 := by omega
  subst hil
  have hA := hA.out
  have : keyI x (x.body.length + 1) = keyL x := by unfold keyI keyL; rw [List.take_of_length_le (by simp)]
  rw [this] at hA
  subst hA
  repeat' (first
 |with_reducible first|apply Xa|apply Xb|(refine Xc ?_;intro κ hκ)|(apply hκ.out;clear hκ κ)|apply Xd|apply Xe|apply Xf
 |((with_reducible first|refine Xl ?_ ?_|refine Xk ?_ ?_)<;> intro h hari<;> try exact Xp)
 |refine Xw ?_
 |exact True.intro
 |(apply hκ.out;clear hκ κ))
  first | exact ⟨_, rfl, rfl, hK⟩ | exact ⟨_, rfl, rfl⟩ | exact ⟨rfl, hK⟩
end Go.Proofs.YtmoeoppbmhfbpaaGreatDoorY
