import Derived.Test.YtmoeoppbmhfbpaaGreatDoorYDocK
import Derived.Test.YtmoeoppbmhfbpaaGreatDoorYEngQ
import Derived.Test.YtmoeoppbmhfbpaaGreatDoorYCut
/- The document's own answer: a work, again. -/
namespace Go.Proofs.YtmoeoppbmhfbpaaGreatDoorY
open Go.Abs
set_option linter.unusedSimpArgs false
set_option linter.unusedVariables false
set_option maxRecDepth 100000
/- rows that grow, in one object -/
def Rws (σ : St) (R : List (Nat × Nat)) : Prop := (∀ x ∈ R, Live σ x.1 x.2) ∧ ∀ (i j : Nat) (x y : Nat × Nat), R[i]? = some x → R[j]? = some y → i ≠ j → x.1 = 1 ∨ x.1 ≠ y.1
theorem Rws.keep {σ σ' : St} {R : List (Nat × Nat)} (h : Rws σ R) (k : Keep σ σ') : Rws σ' R := ⟨fun x hx => (h.1 x hx).keep k, h.2⟩
structure KW (ow : Nat) (R R' : List (Nat × Nat)) (σ σ' : St) : Prop where
 nobj : σ.nobj ≤ σ'.nobj
 obj : ∀ o, o < σ.nobj → o ≠ ow → σ'.obj o = σ.obj o
 ver : ∀ o, o < σ.nobj → o ≠ ow → σ'.ver o = σ.ver o
 ntop : σ.ntop ≤ σ'.ntop
 top : ∀ k, k < σ.ntop → (∀ x ∈ R, x.1 ≠ k + 2) → σ'.top k = σ.top k
 mid : ∀ x ∈ R', (∃ y ∈ R, y.1 = x.1) ∨ x.1 = 1 ∨ σ.ntop + 2 ≤ x.1
theorem KW.ofKeep {ow : Nat} {R : List (Nat × Nat)} {σ σ' : St} (h : Keep σ σ') : KW ow R R σ σ' :=
 ⟨h.nobj, fun o ho _ => h.obj o ho, fun o ho _ => h.ver o ho, h.ntop, fun k hk _ => h.top k hk, fun x hx => .inl ⟨x, hx, rfl⟩⟩
theorem KW.trans {ow : Nat} {M M1 M2 : List (Nat × Nat)} {σ σ1 σ2 : St} (h : KW ow M M1 σ σ1) (g : KW ow M1 M2 σ1 σ2) : KW ow M M2 σ σ2 where
 nobj := Nat.le_trans h.nobj g.nobj
 obj := fun o ho h1 => (g.obj o (Nat.lt_of_lt_of_le ho h.nobj) h1).trans (h.obj o ho h1)
 ver := fun o ho h1 => (g.ver o (Nat.lt_of_lt_of_le ho h.nobj) h1).trans (h.ver o ho h1)
 ntop := Nat.le_trans h.ntop g.ntop
 top := fun k hk hx => (g.top k (Nat.lt_of_lt_of_le hk h.ntop) (fun x hxm e => by
  rcases h.mid x hxm with ⟨y, hy, e2⟩ | e2 | e2
  ·exact hx y hy (e2.trans e)
  ·omega
  ·omega)).trans (h.top k hk hx)
 mid := fun x hx => by
  rcases g.mid x hx with ⟨y, hy, e⟩ | e | e
  ·rcases h.mid y hy with ⟨z, hz, e2⟩ | e2 | e2
   ·exact .inl ⟨z, hz, e2.trans e⟩
   ·exact .inr (.inl (by omega))
   ·exact .inr (.inr (by omega))
  ·exact .inr (.inl e)
  ·exact .inr (.inr (by have := h.ntop; omega))
theorem Rws.grow {σ σ' : St} {ow : Nat} {R : List (Nat × Nat)} {k id' : Nat} {x : Nat × Nat} (hR : Rws σ R) (hx : R[k]? = some x) (hL : Live σ' id' (x.2 + 1)) (hid : id' = x.1 ∨ σ.ntop + 2 ≤ id') (hid1 : id' ≠ 1)
  (eob : ∀ o, o < σ.nobj → o ≠ ow → σ'.obj o = σ.obj o) (ever : ∀ o, o < σ.nobj → o ≠ ow → σ'.ver o = σ.ver o) (eno : σ.nobj ≤ σ'.nobj) (ento : σ.ntop ≤ σ'.ntop)
  (etop : ∀ j, j < σ.ntop → j + 2 ≠ x.1 → σ'.top j = σ.top j) : Rws σ' (R.set k (id', x.2 + 1)) ∧ KW ow R (R.set k (id', x.2 + 1)) σ σ' := by
 have hxm := List.mem_of_getElem? hx
 have hkl : k < R.length := (List.getElem?_eq_some_iff.1 hx).1
 have hlv : ∀ (i : Nat) (y : Nat × Nat), R[i]? = some y → i ≠ k → Live σ' y.1 y.2 ∧ (y.1 = 1 ∨ y.1 ≠ id') := fun i y hy hne => by
  have hym := List.mem_of_getElem? hy
  rcases hR.1 y hym with h | ⟨j, e1, e2, e3, e4⟩
  ·exact ⟨.inl h, .inl h.1⟩
  ·have hyx : y.1 ≠ x.1 := by
    rcases hR.2 i k y x hy hx hne with h | h
    ·omega
    ·exact h
   refine ⟨.inr ⟨j, e1, Nat.lt_of_lt_of_le e2 ento, (etop j e2 (by omega)).trans e3, e4⟩, .inr ?_⟩
   rcases hid with h | h <;> omega
 have hset : ∀ (i : Nat) (y : Nat × Nat), (R.set k (id', x.2 + 1))[i]? = some y → (i = k ∧ y = (id', x.2 + 1)) ∨ (i ≠ k ∧ R[i]? = some y) := fun i y hy => by
  rw [List.getElem?_set] at hy
  by_cases e : k = i
  ·subst e
   rw [if_pos rfl, if_pos hkl] at hy
   exact .inl ⟨rfl, (Option.some.inj hy).symm⟩
  ·rw [if_neg e] at hy
   exact .inr ⟨fun h => e h.symm, hy⟩
 refine ⟨⟨fun y hy => ?_, fun i j y z hy hz hij => ?_⟩, ⟨eno, eob, ever, ento, fun j hj h => etop j hj (fun e => h x hxm e.symm), fun y hy => ?_⟩⟩
 ·obtain ⟨i, hi⟩ := List.getElem?_of_mem hy
  rcases hset i y hi with ⟨-, rfl⟩ | ⟨h1, h2⟩
  ·exact hL
  ·exact (hlv i y h2 h1).1
 ·rcases hset i y hy with ⟨h1, rfl⟩ | ⟨h1, h2⟩
  ·rcases hset j z hz with ⟨h3, rfl⟩ | ⟨h3, h4⟩
   ·omega
   ·rcases (hlv j z h4 h3).2 with h | h
    ·exact .inr fun e => hid1 (Eq.trans e h)
    ·exact .inr (fun e => h e.symm)
  ·rcases hset j z hz with ⟨h3, rfl⟩ | ⟨h3, h4⟩
   ·exact (hlv i y h2 h1).2
   ·exact hR.2 i j y z h2 h4 hij
 ·obtain ⟨i, hi⟩ := List.getElem?_of_mem hy
  rcases hset i y hi with ⟨-, rfl⟩ | ⟨h1, h2⟩
  ·rcases hid with h | h
   ·exact .inl ⟨x, hxm, h.symm⟩
   ·exact .inr (.inr h)
  ·exact .inl ⟨y, List.mem_of_getElem? h2, rfl⟩
abbrev BK := List (Nat × List Tx)
def wbcells (B : BK) : List AV := B.map fun x => sl x.1 x.2.length (x.2.map str)
def wcells (ida nA : Nat) (cA : List AV) (fz : Bool) (mo : Int) (ido nO : Nat) (oc : List AV) (B : BK) : List AV := [sl ida nA cA, sc (.bool fz), sc (.int .i64 mo), sl ido nO oc] ++ wbcells B
def rowsB (ido nO : Nat) (B : BK) : List (Nat × Nat) := (ido, nO) :: B.map fun x => (x.1, x.2.length)
structure WOb (σ : St) (ow ida nA : Nat) (cA : List AV) (fz : Bool) (mo : Int) (ido : Nat) (O : List RAtom) (oc : List AV) (B : BK) (N : Nat) : Prop where
 ob : σ.obj ow = wcells ida nA cA fz mo ido O.length oc B
 lo : ow < σ.nobj
 bl : B.length = 4096
 oe : EL EAtom O oc
 rw' : Rws σ (rowsB ido O.length B)
 bn : ∀ x ∈ B, x.2.length ≤ N
theorem WOb.keep {σ σ' : St} {ow ida nA : Nat} {cA : List AV} {fz : Bool} {mo : Int} {ido : Nat} {O : List RAtom} {oc : List AV} {B : BK} {N : Nat} (h : WOb σ ow ida nA cA fz mo ido O oc B N) (k : Keep σ σ') : WOb σ' ow ida nA cA fz mo ido O oc B N :=
 ⟨(k.obj _ h.lo).trans h.ob, Nat.lt_of_lt_of_le h.lo k.nobj, h.bl, h.oe, h.rw'.keep k, h.bn⟩
def hashF (n : Nat) (c : UInt8) : Nat := (n * 31 + c.toNat) % 4096
def hashL (s : Tx) : Nat := s.foldl hashF 0
def InB (B : BK) (s : Tx) : Prop := ∃ x, B[hashL s]? = some x ∧ s ∈ x.2
theorem InB_set {B : BK} {s t : Tx} {id' : Nat} {y : Nat × List Tx} (hy : B[hashL t]? = some y) : InB (B.set (hashL t) (id', y.2 ++ [t])) s ↔ InB B s ∨ s = t := by
 have hl := (List.getElem?_eq_some_iff.1 hy).1
 unfold InB
 constructor
 ·rintro ⟨x, hx, hm⟩
  rw [List.getElem?_set] at hx
  by_cases e : hashL t = hashL s
  ·rw [if_pos e, if_pos (by omega)] at hx
   cases hx
   rcases List.mem_append.1 hm with h | h
   ·exact .inl ⟨y, by rw [← e]; exact hy, h⟩
   ·exact .inr (by simpa using h)
  ·rw [if_neg e] at hx
   exact .inl ⟨x, hx, hm⟩
 ·rintro (⟨x, hx, hm⟩ | rfl)
  ·by_cases e : hashL t = hashL s
   ·rw [← e, hy] at hx
    cases hx
    exact ⟨_, by rw [← e, List.getElem?_set, if_pos rfl, if_pos hl], List.mem_append_left _ hm⟩
   ·exact ⟨x, by rw [List.getElem?_set, if_neg e]; exact hx, hm⟩
  ·exact ⟨_, by rw [List.getElem?_set, if_pos rfl, if_pos hl], by simp⟩
theorem wcells_len {ida nA : Nat} {cA : List AV} {fz : Bool} {mo : Int} {ido nO : Nat} {oc : List AV} {B : BK} (hb : B.length = 4096) : (wcells ida nA cA fz mo ido nO oc B).length = 4100 := by simp [wcells, wbcells, hb]
theorem wcells_get {ida nA : Nat} {cA : List AV} {fz : Bool} {mo : Int} {ido nO : Nat} {oc : List AV} {B : BK} {k : Nat} {y : Nat × List Tx} (hy : B[k]? = some y) : (wcells ida nA cA fz mo ido nO oc B)[4 + k]? = some (sl y.1 y.2.length (y.2.map str)) := by
 unfold wcells
 rw [List.getElem?_append_right (by simp)]
 simp [wbcells, hy]
theorem wcells_setB {ida nA : Nat} {cA : List AV} {fz : Bool} {mo : Int} {ido nO : Nat} {oc : List AV} {B : BK} {k : Nat} {y : Nat × List Tx} : (wcells ida nA cA fz mo ido nO oc B).set (4 + k) (sl y.1 y.2.length (y.2.map str)) = wcells ida nA cA fz mo ido nO oc (B.set k y) := by
 unfold wcells
 rw [List.set_append_right _ _ (by simp)]
 simp [wbcells, List.map_set]
theorem rowsB_set {ido nO : Nat} {B : BK} {k : Nat} {y : Nat × List Tx} : rowsB ido nO (B.set k y) = (rowsB ido nO B).set (k + 1) (y.1, y.2.length) := by
 simp [rowsB, List.map_set]
theorem WOb.addB {σ σ' : St} {ow ida nA : Nat} {cA : List AV} {fz : Bool} {mo : Int} {ido : Nat} {O : List RAtom} {oc : List AV} {B : BK} {N k id' : Nat} {y : Nat × List Tx} {t : Tx} (h : WOb σ ow ida nA cA fz mo ido O oc B N) (hy : B[k]? = some y)
  (hL : Live σ' id' (y.2.length + 1)) (hid : id' = y.1 ∨ σ.ntop + 2 ≤ id') (hid1 : id' ≠ 1)
  (eob : ∀ o, o < σ.nobj → o ≠ ow → σ'.obj o = σ.obj o) (ever : ∀ o, o < σ.nobj → o ≠ ow → σ'.ver o = σ.ver o) (eno : σ.nobj ≤ σ'.nobj) (ento : σ.ntop ≤ σ'.ntop)
  (etop : ∀ j, j < σ.ntop → j + 2 ≠ y.1 → σ'.top j = σ.top j) (eow : σ'.obj ow = (wcells ida nA cA fz mo ido O.length oc B).set (4 + k) (sl id' (y.2.length + 1) (y.2.map str ++ [str t]))) :
  WOb σ' ow ida nA cA fz mo ido O oc (B.set k (id', y.2 ++ [t])) (N + 1) ∧ KW ow (rowsB ido O.length B) (rowsB ido O.length (B.set k (id', y.2 ++ [t]))) σ σ' := by
 have hx : (rowsB ido O.length B)[k + 1]? = some (y.1, y.2.length) := by simp [rowsB, hy]
 obtain ⟨g1, g2⟩ := Rws.grow (ow := ow) h.rw' hx hL hid hid1 eob ever eno ento etop
 have e : rowsB ido O.length (B.set k (id', y.2 ++ [t])) = (rowsB ido O.length B).set (k + 1) (id', y.2.length + 1) := by rw [rowsB_set]; simp
 rw [e]
 refine ⟨⟨?_, Nat.lt_of_lt_of_le h.lo eno, by simp [h.bl], h.oe, by rw [e]; exact g1, fun x hx => ?_⟩, g2⟩
 ·rw [eow, ← wcells_setB]; simp
 ·rcases List.mem_or_eq_of_mem_set hx with h' | rfl
  ·have := h.bn x h'; omega
  ·have := h.bn y (List.mem_of_getElem? hy); simp; omega
set_option maxHeartbeats 32000000 in
theorem again_spec (x : RItem) (c : List AV) (hc : EItem x c) (hx : clI x) (hb5 : x.body.length ≤ 1000) (ow ida nA : Nat) (cA : List AV) (fz : Bool) (mo : Int) (ido : Nat) (O : List RAtom) (oc : List AV) (B : BK) (N : Nat) (hN : N ≤ 1000000000000) (σ : St) (hW : WOb σ ow ida nA cA fz mo ido O oc B N) :
  ACalls Tryz.prog 254 [ptr ow 0, ag c] σ fun r σ' => (InB B (keyL x) ∧ r = sc (.bool true) ∧ Keep σ σ') ∨ (¬ InB B (keyL x) ∧ r = sc (.bool false) ∧ ∃ id' y, B[hashL (keyL x)]? = some y ∧ WOb σ' ow ida nA cA fz mo ido O oc (B.set (hashL (keyL x)) (id', y.2 ++ [keyL x])) (N + 1) ∧ KW ow (rowsB ido O.length B) (rowsB ido O.length (B.set (hashL (keyL x)) (id', y.2 ++ [keyL x]))) σ σ') := by
 have hKy := fun σ => rkey_spec x c hc hx hb5 σ
 obtain ⟨ih, id, b, hb, rfl⟩ := hc.cells
 unfold itemCells
 unfold itemCells at hKy
 have hkl : (keyL x).length ≤ 1200000000 := by
  have hseg : ∀ l : List RAtom, (∀ a ∈ l, clA a) → (l.flatMap fun a => segA a ++ [46]).length ≤ l.length * 1100001 := by
   intro l
   induction l with
   | nil => intro _; simp
   | cons a l ih =>
    intro hh
    have e1 := ih (fun u hu => hh u (by simp [hu]))
    have e2 := segA_len (hh a (by simp))
    simp only [List.flatMap_cons, List.length_append, List.length_cons, List.length_nil]
    omega
  have := hseg (x.head :: x.body) (fun a ha => by
   rcases List.mem_cons.1 ha with rfl | ha
   ·exact hx.2.1
   ·exact hx.2.2 a ha)
  unfold keyL
  simp only [List.length_cons] at this
  omega
 generalize keyL x = k0 at *
 have hlo := hW.lo
 have hob := hW.ob
 have hwl := wcells_len (ida := ida) (nA := nA) (cA := cA) (fz := fz) (mo := mo) (ido := ido) (nO := O.length) (oc := oc) hW.bl
 refine acalls 61 [.tmp 4] Tryz.func254 rfl (by decide) rfl rfl (Nat.le_of_ble_eq_true rfl) ?_
 repeat' (first
 |with_reducible first|apply Xa|apply Xb|(refine Xc ?_;intro κ hκ)|(apply hκ.out;clear hκ κ)|apply Xd|apply Xe|apply Xf
 |((with_reducible first|refine Xl ?_ ?_|refine Xm ?_ ?_|refine Xk ?_ ?_)<;> intro h hari<;> try exact Xp)
 |((with_reducible refine aapp_go ?_);refine Xt ?_;intro idn σn hOn hKn eobj enobj ever entop)
 |((with_reducible refine aappn_go ?_);refine Xu ?_)
 |((with_reducible refine Xh ?_);refine Xi (hKy _) ?_;rintro _ _ ⟨rfl,hK0⟩;(have kno0:=hK0.nobj;have kob0:=hK0.obj;simp only [new_nobj] at kno0 kob0))
 |refine Xw ?_
 |exact True.intro
 |((with_reducible refine Xg ?_);refine Xj ?_)
 |(apply hκ.out;clear hκ κ))
 rename_i σ1
 have hKx : Keep σ σ1 := ((Keep.refl σ).new _).trans hK0
 have hob1 : σ1.obj ow = wcells ida nA cA fz mo ido O.length oc B := by rw [hKx.obj _ hlo, hob]
 refine awp_loop (fun m s σ' => ∃ (i n : Nat), m = k0.length - i ∧ i ≤ k0.length ∧ s 0 = ptr ow 0 ∧ s 5 = str k0 ∧ s 6 = sc (.int .i64 n) ∧ s 7 = sc (.int .i64 i) ∧ σ' = σ1 ∧ n < 4096 ∧ Abs.Hid (n = (k0.take i).foldl hashF 0)) k0.length
  ⟨0, 0, by omega, by omega, by simp [upd, initS], by simp [upd], by simp [upd], by simp [upd], rfl, by decide, by simp [Abs.Hid]⟩ ?_
 rintro m s σ' ⟨i, n, rfl, hi, h0, h5, h6, h7, rfl, hn, hH⟩
 by_cases hlt : i < k0.length
 ·have hget := List.getElem?_eq_getElem hlt
  generalize k0[i] = ch at hget
  have hcb : ch.toNat < 256 := ch.toNat_lt
  have hmod : Int.tmod ((n : Int) * 31 + (ch.toNat : Int)) 4096 = ((hashF n ch : Nat) : Int) := rfl
  have HN : Abs.Hid (hashF n ch = (k0.take (i + 1)).foldl hashF 0) := by
   rw [Abs.Hid, List.take_add_one, hget, List.foldl_append, ← hH.out]; rfl
  have hl2 : hashF n ch < 4096 := Nat.mod_lt _ (by decide)
  repeat' (first
 |with_reducible first|apply Xa|apply Xb|(refine Xc ?_;intro κ hκ)|(apply hκ.out;clear hκ κ)|apply Xd|apply Xe|apply Xf
 |((with_reducible first|refine Xl ?_ ?_|refine Xm ?_ ?_|refine Xk ?_ ?_)<;> intro h hari<;> try exact Xp)
 |((with_reducible refine aapp_go ?_);refine Xt ?_;intro idn σn hOn hKn eobj enobj ever entop)
 |((with_reducible refine aappn_go ?_);refine Xu ?_)
 |refine Xw ?_
 |exact True.intro
 |((with_reducible refine Xg ?_);refine Xj ?_)
 |(apply hκ.out;clear hκ κ))
  refine ⟨k0.length - (i + 1), by omega, i + 1, hashF n ch, ?_⟩
  ((repeat' with_reducible refine And.intro ?_ ?_)<;> first|exact Xq|exact (HN)|exact Xs)
 ·have hil : i = k0.length := by omega
  subst hil
  have hHn : n = hashL k0 := by have h := hH.out; rw [List.take_length] at h; exact h
  obtain ⟨y, hy⟩ : ∃ y, B[n]? = some y := ⟨B[n]'(by rw [hW.bl]; exact hn), List.getElem?_eq_getElem _⟩
  have hgB := wcells_get (ida := ida) (nA := nA) (cA := cA) (fz := fz) (mo := mo) (ido := ido) (nO := O.length) (oc := oc) hy
  have hyN := hW.bn y (List.mem_of_getElem? hy)
  rw [← hHn]
  have HIN : Abs.Hid (InB B k0 ↔ k0 ∈ y.2) := by
   unfold InB
   rw [← hHn]
   exact ⟨fun ⟨x, h1, h2⟩ => by rw [hy] at h1; cases h1; exact h2, fun h => ⟨y, hy, h⟩⟩
  have HY : Abs.Hid (B[n]? = some y) := hy
  have HW : Abs.Hid _ := hW.keep hKx
  clear hH hHn hy hlt hi
  generalize hwc : wcells ida nA cA fz mo ido O.length oc B = wc at *
  have HWC : Abs.Hid _ := hwc
  clear hwc
  repeat' (first
 |with_reducible first|apply Xa|apply Xb|(refine Xc ?_;intro κ hκ)|(apply hκ.out;clear hκ κ)|apply Xd|apply Xe|apply Xf
 |((with_reducible first|refine Xl ?_ ?_|refine Xm ?_ ?_|refine Xk ?_ ?_)<;> intro h hari<;> try exact Xp)
 |((with_reducible refine aapp_go ?_);refine Xt ?_;intro idn σn hOn hKn eobj enobj ever entop)
 |((with_reducible refine aappn_go ?_);refine Xu ?_)
 |refine Xw ?_
 |exact True.intro
 |((with_reducible refine Xg ?_);refine Xj ?_)
 |(apply hκ.out;clear hκ κ))
  refine awp_loop (fun m s τ => ∃ (q : Nat), m = y.2.length - q ∧ q ≤ y.2.length ∧ s 0 = ptr ow 0 ∧ s 5 = str k0 ∧ s 6 = sc (.int .i64 n) ∧ s 8 = sc (.int .i64 q) ∧ τ = σ' ∧ Abs.Hid (∀ u ∈ y.2.take q, u ≠ k0)) y.2.length
   ⟨0, by omega, by omega, by simp [upd, *], by simp [upd, *], by simp [upd, *], by simp [upd], rfl, fun u hu => by simp at hu⟩ ?_
  clear h0 h5 h6 h7
  rintro m s σ2 ⟨q, rfl, hq, h0, h5, h6, h8, rfl, hH2⟩
  by_cases hlt : q < y.2.length
  ·have hget := List.getElem?_eq_getElem hlt
   have hd := map_str_get hlt
   have hmm := List.getElem_mem hlt
   generalize y.2[q] = u at hd hget hmm
   by_cases hu : u = k0
   ·have hu2 : (u == k0) = true := by simp [hu]
    have HR : Abs.Hid (InB B k0) := HIN.out.2 (hu ▸ hmm)
    clear hu
    repeat' (first
 |with_reducible first|apply Xa|apply Xb|(refine Xc ?_;intro κ hκ)|(apply hκ.out;clear hκ κ)|apply Xd|apply Xe|apply Xf
 |((with_reducible first|refine Xl ?_ ?_|refine Xm ?_ ?_|refine Xk ?_ ?_)<;> intro h hari<;> try exact Xp)
 |((with_reducible refine aapp_go ?_);refine Xt ?_;intro idn σn hOn hKn eobj enobj ever entop)
 |((with_reducible refine aappn_go ?_);refine Xu ?_)
 |refine Xw ?_
 |exact True.intro
 |((with_reducible refine Xg ?_);refine Xj ?_)
 |(apply hκ.out;clear hκ κ))
    first
    | exact ⟨_, rfl, .inl ⟨HR.out, rfl, hKx⟩⟩
    | exact ⟨_, rfl, .inl ⟨HR.out, rfl⟩⟩
   ·have hu2 : (u == k0) = false := by simpa using hu
    have HN : Abs.Hid (∀ u ∈ y.2.take (q + 1), u ≠ k0) := fun v hv => by
     rw [List.take_add_one, hget] at hv
     rcases List.mem_append.1 hv with h' | h'
     ·exact hH2.out v h'
     ·simp at h'; subst h'; exact hu
    clear hu
    repeat' (first
 |with_reducible first|apply Xa|apply Xb|(refine Xc ?_;intro κ hκ)|(apply hκ.out;clear hκ κ)|apply Xd|apply Xe|apply Xf
 |((with_reducible first|refine Xl ?_ ?_|refine Xm ?_ ?_|refine Xk ?_ ?_)<;> intro h hari<;> try exact Xp)
 |((with_reducible refine aapp_go ?_);refine Xt ?_;intro idn σn hOn hKn eobj enobj ever entop)
 |((with_reducible refine aappn_go ?_);refine Xu ?_)
 |refine Xw ?_
 |exact True.intro
 |((with_reducible refine Xg ?_);refine Xj ?_)
 |(apply hκ.out;clear hκ κ))
    refine ⟨y.2.length - (q + 1), by omega, q + 1, ?_⟩
    ((repeat' with_reducible refine And.intro ?_ ?_)<;> first|exact Xq|exact (HN)|exact Xs)
  ·have hql : q = y.2.length := by omega
   subst hql
   have HNI : Abs.Hid (¬ InB B k0) := fun h => hH2.out k0 (by rw [List.take_length]; exact HIN.out.1 h) rfl
   have hLy : Live σ2 y.1 y.2.length := HW.out.rw'.1 (y.1, y.2.length) (by
    refine List.mem_cons_of_mem _ (List.mem_map.2 ⟨y, List.mem_of_getElem? HY.out, rfl⟩))
   have hyl : (y.2.map str).length = y.2.length * 1 := by simp
   repeat' (first
 |with_reducible first|apply Xa|apply Xb|(refine Xc ?_;intro κ hκ)|(apply hκ.out;clear hκ κ)|apply Xd|apply Xe|apply Xf
 |((with_reducible first|refine Xl ?_ ?_|refine Xm ?_ ?_|refine Xk ?_ ?_)<;> intro h hari<;> try exact Xp)
 |((with_reducible refine aapp_go ?_);refine Xt ?_;intro idn σn hOn hKn eobj enobj ever entop)
 |((with_reducible refine aappn_go ?_);refine Xu ?_)
 |refine Xw ?_
 |exact True.intro
 |((with_reducible refine Xg ?_);refine Xj ?_)
 |(apply hκ.out;clear hκ κ))
   refine awp_mono (Q := fun e s' σ'' => e = .normal ∧ ∃ id', WOb σ'' ow ida nA cA fz mo ido O oc (B.set n (id', y.2 ++ [k0])) (N + 1) ∧ KW ow (rowsB ido O.length B) (rowsB ido O.length (B.set n (id', y.2 ++ [k0]))) σ2 σ'') ?_ ?_
   ·refine awp_draw_h follows_mixed (fun _ => True) [14] [0, 1, 2, 3, 4, 5, 6, 7, 8, 11, 12] 4 #[true, true, true, true, true, true, true, true, true, false, false, true, true, false, false] (by kernel_rfl) (fun _ _ _ h => by cases h.1) ?_; intro κ hκ; refine Xw ?_; refine hκ.out _ ?_; clear hκ κ
    refine uany_one (i := 9) (by kernel_rfl) ?_; refine aOne_k ?_; intro κ hκ; refine Xw ?_
    refine hκ.out _ _ ⟨kept_keep ((Keep.refl _).lay 1), ?_⟩; clear hκ κ
    refine uany_one (i := 10) (by kernel_rfl) ?_; refine aOne_k ?_; intro κ hκ; refine Xw ?_
    refine aApp_live (by first | exact tez_37) hLy (by decide) (by rfl) hyl (by rfl) (by rfl) (by decide) (by omega) (by omega) ?_
    intro idn σn hLn hidn hid1 eobj enobj ever entop etop
    refine Xw ?_
    refine hκ.out _ _ ⟨fun _ o ho _ => by rw [ever], ?_⟩; clear hκ κ
    have eow : σn.obj ow = wc := by rw [eobj, hob1]
    refine uany_one (i := 13) (by kernel_rfl) ?_; refine aOne_k ?_; intro κ hκ; refine Xw ?_
    refine hκ.out _ _ ⟨fun _ o ho _ => by rw [ever], ?_⟩; clear hκ κ
    refine uany_one (i := 14) (by kernel_rfl) ?_; refine aOne_k ?_; intro κ hκ; refine Xw ?_
    refine hκ.out _ _ ⟨kept_last rfl, ?_⟩; clear hκ κ
    refine uany_done (by kernel_rfl) ⟨rfl, idn, ?_⟩
    refine WOb.addB HW.out HY.out ?_ hidn hid1 ?_ ?_ ?_ ?_ ?_ ?_
    ·exact hLn
    ·intro o ho hne
     rw [show ∀ (S : St) c, (S.put ow c).obj o = S.obj o from fun S c => by simp [St.put, hne], eobj]
    ·intro o ho hne
     rw [show ∀ (S : St) c, (S.put ow c).ver o = S.ver o from fun S c => by simp [St.put, hne], ever]
    ·simp only [put_nobj]; omega
    ·simp only [put_ntop]; omega
    ·intro j hj hne
     rw [put_top]; exact etop j hj hne
    ·rw [put_same, HWC.out]
   ·rintro e s' σ'' ⟨rfl, id', g1, g2⟩
    repeat' (first
 |with_reducible first|apply Xa|apply Xb|(refine Xc ?_;intro κ hκ)|(apply hκ.out;clear hκ κ)|apply Xd|apply Xe|apply Xf
 |((with_reducible first|refine Xl ?_ ?_|refine Xm ?_ ?_|refine Xk ?_ ?_)<;> intro h hari<;> try exact Xp)
 |((with_reducible refine aapp_go ?_);refine Xt ?_;intro idn σn hOn hKn eobj enobj ever entop)
 |((with_reducible refine aappn_go ?_);refine Xu ?_)
 |refine Xw ?_
 |exact True.intro
 |((with_reducible refine Xg ?_);refine Xj ?_)
 |(apply hκ.out;clear hκ κ))
    exact ⟨_, rfl, .inr ⟨HNI.out, rfl, id', y, HY.out, g1, (KW.ofKeep hKx).trans g2⟩⟩
end Go.Proofs.YtmoeoppbmhfbpaaGreatDoorY
/- The document's own answer: into. -/
namespace Go.Abs
set_option linter.unusedVariables false
section
variable {P : Program} {n : Nat} {Q : Post} {F : Nat → Prop} {A : Nat → Bool} {σ0 : St} {all : List Oper}
theorem uany_more {listed : Array Bool} {s : Sl} {σ : St} (ts : List Nat) (m k : Nat) (L : Array Bool) (hk0 : k = ts.length + m) (hs : Region.noSelect all.toArray = true) (hB : tsT all A L ts listed = true) (hp : ∀ c s σ, ¬ Q (.panic c) s σ) (hno : σ0.nobj ≤ σ.nobj) (hk : ∀ o, o < σ0.nobj → F o → σ.ver o = σ0.ver o)
  (h : ∀ K : Sl → Prop, Hid (∀ s', UAny P n all Q F A σ m L s' σ → K s') → aT P n all F σ K ts s) : UAny P n all Q F A σ0 k listed s σ := by
 subst hk0
 exact uany_re hno hk (tsT_ok hs hp m L ts listed s hB (h _ fun _ h => h))
end
end Go.Abs
namespace Go.Proofs.YtmoeoppbmhfbpaaGreatDoorY
open Go.Abs
set_option linter.unusedSimpArgs false
set_option linter.unusedVariables false
set_option maxRecDepth 100000
set_option maxHeartbeats 16000000 in
theorem denied_spec (x : RItem) (c : List AV) (A : List RAtom) (cA : List AV) (ida : Nat) (hc : EItem x c) (hx : x.fits) (hA : EL EAtom A cA) (hAl : A.length ≤ 1000) (hAn : ∀ b ∈ A, b.terms.length ≤ 1000) (σ : St) : ACalls Tryz.prog 256 [ag c, sl ida A.length cA] σ fun r σ' => ∃ b, r = sc (.bool b) ∧ (b = true ↔ ∃ a ∈ x.body, a.nt = true ∧ unN a ∈ A) ∧ Keep σ σ' := by
 obtain ⟨ih, id, b, hb, rfl⟩ := hc.cells
 have hbl := EL.length EAtom_len hb
 have hb5 := hx.1
 unfold itemCells
 refine acalls 25 [.tmp 4] Tryz.func256 rfl (by decide) rfl rfl (Nat.le_of_ble_eq_true rfl) ?_
 repeat' (first
 |with_reducible first|apply Xa|apply Xb|(refine Xc ?_;intro κ hκ)|(apply hκ.out;clear hκ κ)|apply Xd|apply Xe|apply Xf
 |((with_reducible first|refine Xl ?_ ?_|refine Xk ?_ ?_)<;> intro h hari<;> try exact Xp)
 |refine Xr ?_
 |exact True.intro
 |(apply hκ.out;clear hκ κ))
 refine awp_loop (fun m s σ' => ∃ i : Nat, m = x.body.length - i ∧ i ≤ x.body.length ∧ s 1 = sl ida A.length cA ∧ s 2 = ptr σ.nobj 0 ∧ s 5 = sc (.int .i64 i) ∧ Keep σ σ' ∧ σ.nobj < σ'.nobj ∧ σ'.obj σ.nobj = [sc (.bool x.out), sc (.bool x.head.nt), str x.head.pred, sl ih x.head.terms.length (x.head.terms.map str), sl id x.body.length b] ∧ Abs.Hid (∀ a ∈ x.body.take i, ¬ (a.nt = true ∧ unN a ∈ A))) x.body.length
  ⟨0, by omega, by omega, by simp [upd, initS], by simp [upd], by simp [upd], by exact Xs, by simp only [new_nobj]; omega, new_same, fun a ha => by simp at ha⟩ ?_
 rintro m s σ' ⟨i, rfl, hi, h1, h2, h5, hK, hno, hob, hN⟩
 have kno := hK.nobj
 by_cases hlt : i < x.body.length
 ·have hget := List.getElem?_eq_getElem hlt
  obtain ⟨ia, r, hd⟩ := EL_atom hb hget
  generalize x.body[i] = w at hd hget
  have HS : Abs.Hid (¬ (w.nt = true ∧ unN w ∈ A) → ∀ a ∈ x.body.take (i + 1), ¬ (a.nt = true ∧ unN a ∈ A)) := fun hw a ha => by
   rw [List.take_add_one, hget] at ha
   rcases List.mem_append.1 ha with h' | h'
   ·exact hN.out a h'
   ·simp at h'; subst h'; exact hw
  have HM : Abs.Hid (w ∈ x.body) := List.mem_of_getElem? hget
  clear hget
  cases hnt : w.nt with
  | false =>
   have HN : Abs.Hid _ := HS.out (fun h => by rw [hnt] at h; cases h.1)
   clear HS
   repeat' (first
 |with_reducible first|apply Xa|apply Xb|(refine Xc ?_;intro κ hκ)|(apply hκ.out;clear hκ κ)|apply Xd|apply Xe|apply Xf
 |((with_reducible first|refine Xl ?_ ?_|refine Xk ?_ ?_)<;> intro h hari<;> try exact Xp)
 |refine Xr ?_
 |exact True.intro
 |(apply hκ.out;clear hκ κ))
   refine ⟨x.body.length - (i + 1), by omega, i + 1, ?_⟩
   ((repeat' with_reducible refine And.intro ?_ ?_)<;> first|exact Xq|exact (HN)|exact ((hK.new _).put hK.nobj _)|exact Xs)
  | true =>
   have hWi := fun σ => within_spec A cA ida (unN w) [sc (.bool false), str w.pred, sl ia w.terms.length (w.terms.map str)] hA ⟨ia, rfl⟩ hAl hAn σ
   repeat' (first
 |with_reducible first|apply Xa|apply Xb|(refine Xc ?_;intro κ hκ)|(apply hκ.out;clear hκ κ)|apply Xd|apply Xe|apply Xf
 |((with_reducible first|refine Xl ?_ ?_|refine Xk ?_ ?_)<;> intro h hari<;> try exact Xp)
 |((with_reducible refine Xh ?_);refine Xi (hWi _) ?_;rintro _ _ ⟨bo,rfl,hbo,hK2⟩;(have HBO : Abs.Hid _:=hbo;clear hbo;have kno2:=hK2.nobj;have kob2:=hK2.obj;simp only [put_nobj,new_nobj] at kno2 kob2))
 |refine Xr ?_
 |exact True.intro
 |(apply hκ.out;clear hκ κ))
   ·have hbt : (true = true ↔ ∃ a ∈ x.body, a.nt = true ∧ unN a ∈ A) := ⟨fun _ => ⟨w, HM.out, hnt, HBO.out.1 (by assumption)⟩, fun _ => rfl⟩
    exact ⟨_, rfl, true, rfl, hbt, (((hK.new _).put hK.nobj _).put hK.nobj _).trans hK2⟩
   ·have HN : Abs.Hid _ := HS.out (fun h => by
     have h1 := HBO.out.2 h.2
     have h2 : bo = false := by assumption
     rw [h2] at h1; cases h1)
    refine ⟨x.body.length - (i + 1), by omega, i + 1, ?_⟩
    ((repeat' with_reducible refine And.intro ?_ ?_)<;> first|exact Xq|exact (HN)|exact ((((hK.new _).put hK.nobj _).put hK.nobj _).trans hK2)|exact Xs)
 ·have hil : i = x.body.length := by omega
  subst hil
  have HB : (false = true ↔ ∃ a ∈ x.body, a.nt = true ∧ unN a ∈ A) := ⟨fun h => (by cases h), fun ⟨a, ha, h⟩ => absurd h (hN.out a (by rw [List.take_length]; exact ha))⟩
  repeat' (first
 |with_reducible first|apply Xa|apply Xb|(refine Xc ?_;intro κ hκ)|(apply hκ.out;clear hκ κ)|apply Xd|apply Xe|apply Xf
 |((with_reducible first|refine Xl ?_ ?_|refine Xk ?_ ?_)<;> intro h hari<;> try exact Xp)
 |refine Xr ?_
 |exact True.intro
 |(apply hκ.out;clear hκ κ))
  first | exact ⟨_, rfl, false, rfl, HB, hK⟩ | exact ⟨false, rfl, HB, hK⟩ | exact ⟨_, rfl, false, rfl, HB⟩
def costN (c0 a : Nat) : Nat → Nat
 | 0 => c0
 | p + 1 => 1 + a * costN c0 a p
structure TupsOk (A : List RAtom) (cA : List AV) : Prop where
 el : EL EAtom A cA
 len : A.length ≤ 1000
 gnd : ∀ a ∈ A, Gnd a
 cl : ∀ a ∈ A, clA a
structure HalfOk (fz : Bool) (c0 p : Nat) (x : RItem) : Prop where
 cl : clI x
 len : x.body.length ≤ 1000
 saf : SafD fz x
 cnt : x.body.countP (Pos fz) = p
 neg : c0 = 1 ∨ ∀ a ∈ x.body, Pos fz a = true
theorem HalfOk.fits {fz : Bool} {c0 p : Nat} {x : RItem} (h : HalfOk fz c0 p x) : x.fits := ⟨h.len, h.cl.2.1.2.2, fun a ha => (h.cl.2.2 a ha).2.2⟩
theorem countP_erase {α : Type} (p : α → Bool) {l : List α} {j : Nat} {a : α} (h : l[j]? = some a) (ha : p a = true) : (l.eraseIdx j).countP p + 1 = l.countP p := by
 have hj := (List.getElem?_eq_some_iff.1 h).1
 have he := (List.getElem?_eq_some_iff.1 h).2
 have e : l = l.take j ++ a :: l.drop (j + 1) := by
  rw [← he, List.getElem_cons_drop, List.take_append_drop]
 rw [List.eraseIdx_eq_take_drop_succ, List.countP_append]
 have e2 : l.countP p = (l.take j).countP p + ((l.drop (j + 1)).countP p + 1) := by
  conv => lhs; rw [e]
  rw [List.countP_append, List.countP_cons, if_pos ha]
 omega
theorem HalfOk.step {fz : Bool} {c0 p : Nat} {x y : RItem} {j : Nat} {t b : RAtom} (h : HalfOk fz c0 (p + 1) x) (hb : x.body[j]? = some b) (hp : Pos fz b = true) (hg : Gnd t) (hc : clA t) (hy : becL x j t = some y) : HalfOk fz c0 p (woL y j) ∧ (woL y j).body.length = x.body.length - 1 := by
 obtain ⟨b', hb', θ, hT, rfl, hyj, -⟩ := becL_ok hy h.cl.1 hg
 have hjl := (List.getElem?_eq_some_iff.1 hb).1
 have hl : (woL (itM θ x) j).body.length = x.body.length - 1 := by
  simp only [woL, itM]
  rw [List.length_eraseIdx_of_lt (by simpa using hjl), List.length_map]
 refine ⟨⟨cl_step h.cl hc hg hy, by have := h.len; omega, saf_step h.saf h.cl.1 hg hy, ?_, ?_⟩, hl⟩
 ·have hcm : (itM θ x).body.countP (Pos fz) = p + 1 := by
   rw [← h.cnt]
   simp only [itM]
   rw [List.countP_map]
   rfl
  have hyt : Pos fz t = true := by
   have : (itM θ x).body[j]? = some (atM θ b) := by simp [itM, hb]
   rw [this] at hyj
   cases hyj
   exact hp
  have := countP_erase (Pos fz) hyj hyt
  show ((itM θ x).body.eraseIdx j).countP (Pos fz) = p
  omega
 ·rcases h.neg with h' | h'
  ·exact .inl h'
  ·refine .inr fun a ha => ?_
   obtain ⟨a', ha', rfl⟩ := List.mem_map.1 (List.mem_of_mem_eraseIdx ha)
   exact h' a' ha'
def IntoQ (fz : Bool) (A : List RAtom) (cA : List AV) (ida : Nat) (mo : Int) (c0 p : Nat) (x : RItem) (ow ido : Nat) (O : List RAtom) (B : BK) (N : Nat) (σ σ' : St) : Prop :=
 ∃ ido' O' oc' B' N', WOb σ' ow ida A.length cA fz mo ido' O' oc' B' N' ∧ KW ow (rowsB ido O.length B) (rowsB ido' O'.length B') σ σ' ∧ IntoR fz A mo x O (InB B) O' (InB B') ∧ N' + O.length ≤ N + O'.length + costN c0 A.length p
end Go.Proofs.YtmoeoppbmhfbpaaGreatDoorY
