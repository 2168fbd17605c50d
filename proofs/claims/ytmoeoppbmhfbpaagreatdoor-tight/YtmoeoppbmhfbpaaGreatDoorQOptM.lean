import Derived.Test.YtmoeoppbmhfbpaaGreatDoorQAwk
import Derived.Test.YtmoeoppbmhfbpaaGreatDoorQProgR
/- Sliced: what the pass s leaves, by the texts alone; refused and awake, walked. -/
namespace Go.Proofs.YtmoeoppbmhfbpaaGreatDoorQ
open Go.Abs
set_option linter.unusedSimpArgs false
set_option linter.unusedVariables false
set_option maxRecDepth 100000
def pcT (x : RItem) : Tx := uItem x ++ [46]
theorem pc_out {x : RItem} (h : WItem x) : outB (pcT x) = x.out := by
 unfold outB pcT uItem
 cases ho : x.out with
 | true => simp
 | false =>
  obtain ⟨h1, h2, h3, h4⟩ := h.2.2 ho
  rw [if_neg (by simp)]
  unfold uRule uAtom
  obtain ⟨b, r, e⟩ := List.exists_cons_of_ne_nil h1.1.1
  rw [e]
  have hb := h1.1.2 b (by rw [e]; simp)
  have : b ≠ 63 := fun e => by subst e; revert hb; decide
  simp [this]
theorem pc_hd {x : RItem} (h : WItem x) : hdL (pcT x) = x.head.pred := by
 unfold hdL pcT
 rw [prs_item h]; rfl
theorem filter_map_of {l : List RItem} {f : RItem → Bool} {g : Tx → Bool} (h : ∀ x ∈ l, g (pcT x) = f x) : (l.map pcT).filter g = (l.filter f).map pcT := by
 induction l with
 | nil => rfl
 | cons x l ih =>
  have h1 := h x (by simp)
  have h2 := ih fun y hy => h y (by simp [hy])
  rw [List.map_cons, List.filter_cons, List.filter_cons, h1, h2]
  split <;> simp
theorem piece_le : ∀ l : List RItem, ∀ y ∈ l, (pcT y).length ≤ (uItems l).length
 | [], y, hy => by cases hy
 | z :: l, y, hy => by
  have e : uItems (z :: l) = pcT z ++ uItems l := by simp [uItems, pcT]
  simp only [e, List.length_append]
  rcases List.mem_cons.1 hy with rfl | hy
  ·omega
  ·have := piece_le l y hy
   omega
set_option maxHeartbeats 8000000 in
theorem krefused_spec (t : Tx) (σ : St) : ACalls Tryz.prog 30 [str t, str [], sc (.int .i64 0), sc (.int .i64 (refCheck t).1)] σ fun r σ' => r = sc (.bool true) ∧ Keep σ σ' := by
 have hC := fun σ => check_spec t σ
 generalize refCheck t = r at *
 obtain ⟨e, pl⟩ := r
 have he : (([] : Tx) == []) = true := rfl
 have hee : (e == e) = true := by simp
 have hc1 : ({ data := #[] } : ByteArray) = bs [] := rfl
 simp only at *
 refine acalls 27 [.tmp 8] Tryz.func30 rfl (by decide) rfl rfl (Nat.le_of_ble_eq_true rfl) ?_
 repeat' (first
 |with_reducible first|apply Xa|apply Xb|(refine Xc ?_;intro κ hκ)|(apply hκ.out;clear hκ κ)|apply Xd|apply Xe|apply Xf
 |((with_reducible first|refine Xl ?_ ?_|refine Xk ?_ ?_)<;> intro h hari<;> try exact Xp)
 |((with_reducible refine Xh ?_);refine Xi (hC _) ?_;rintro _ _ ⟨rfl,hK1⟩;(have kno1:=hK1.nobj))
 |refine Xr ?_
 |exact True.intro
 |(apply hκ.out;clear hκ κ))
 first | exact ⟨_, rfl, rfl, hK1⟩ | exact ⟨_, rfl, hK1⟩ | exact ⟨_, rfl, rfl⟩
set_option maxHeartbeats 8000000 in
theorem kawake_spec (σ : St) : ACalls Tryz.prog 28 [] σ fun r σ' => r = sc (.bool true) ∧ Keep σ σ' := by
 have hO := fun σ => pOptimise_spec tAw [97, 114] 9 (by omega) (by intro c hc; simp at hc; rcases hc with rfl | rfl <;> simp) σ
 have hc1 : ({ data := #[112, 40, 65, 41, 58, 45, 101, 40, 65, 44, 66, 41, 44, 102, 40, 66, 41, 46, 112, 40, 88, 41, 58, 45, 101, 40, 88, 44, 89, 41, 44, 101, 40, 88, 44, 90, 41, 46, 63, 112, 46] } : ByteArray) = bs tAw := rfl
 have hc2 : ({ data := #[97, 114] } : ByteArray) = bs [97, 114] := rfl
 have hc3 : ({ data := #[112, 40, 65, 41, 58, 45, 101, 40, 65, 44, 66, 41, 46, 63, 112, 46] } : ByteArray) = bs [112, 40, 65, 41, 58, 45, 101, 40, 65, 44, 66, 41, 46, 63, 112, 46] := rfl
 have hkn : (([112, 40, 65, 41, 58, 45, 101, 40, 65, 44, 66, 41, 46, 63, 112, 46] : Tx) == [112, 40, 65, 41, 58, 45, 101, 40, 65, 44, 66, 41, 46, 63, 112, 46]) = true := rfl
 refine acalls 19 [.tmp 0] Tryz.func28 rfl (by decide) rfl rfl (Nat.le_of_ble_eq_true rfl) ?_
 repeat' (first
 |with_reducible first|apply Xa|apply Xb|(refine Xc ?_;intro κ hκ)|(apply hκ.out;clear hκ κ)|apply Xd|apply Xe|apply Xf
 |((with_reducible first|refine Xl ?_ ?_|refine Xk ?_ ?_)<;> intro h hari<;> try exact Xp)
 |((with_reducible refine Xh ?_);refine Xi (hO _) ?_;rintro _ _ ⟨p0,rfl,hp0,hK1⟩;(have e0:=awake_known hp0;subst e0;clear hp0;have kno1:=hK1.nobj))
 |refine Xr ?_
 |exact True.intro
 |(apply hκ.out;clear hκ κ))
 first | exact ⟨_, rfl, rfl, hK1⟩ | exact ⟨_, rfl, hK1⟩ | exact ⟨_, rfl, rfl⟩
/- What is written is read again. Pure. -/
def GNm (p : Tx) : Prop := WName p ∧ p.length ≤ 6
def GTm (t : Tx) : Prop := (∃ b, t = [b] ∧ largeB b.toNat = true) ∨ t = [48] ∨ ∃ b r, t = b :: r ∧ nineB b.toNat = true ∧ (∀ c ∈ r, digitB c.toNat = true) ∧ r.length ≤ 2
structure GA' (a : RAtom) : Prop where
 nm : GNm a.pred
 ne : a.terms ≠ []
 few : a.terms.length ≤ 3
 tm : ∀ t ∈ a.terms, GTm t
structure GIt (x : RItem) : Prop where
 nm : GNm x.head.pred
 out : x.out = true → x.head.nt = false ∧ x.head.terms = [] ∧ x.body = []
 rule : x.out = false → GA' x.head ∧ x.head.nt = false ∧ x.body.length ≤ 5 ∧ ∀ a ∈ x.body, GA' a
theorem pWhile_of (p : Int → Bool) : ∀ (n : Nat) (t r : Tx), (∀ b ∈ t, p b.toNat = true) → t.length ≤ n → (∀ b q, r = b :: q → p b.toNat = false) → pWhile p n (t ++ r) = (t, r)
 | n, [], r, _, _, hr => by
  cases n with
  | zero => rfl
  | succ n =>
   cases r with
   | nil => rfl
   | cons b q =>
    show pWhile p (n + 1) (b :: q) = _
    unfold pWhile
    rw [if_neg (by simp [hr b q rfl])]
 | 0, b :: t, r, _, hl, _ => by simp at hl
 | n + 1, b :: t, r, ht, hl, hr => by
  show pWhile p (n + 1) (b :: (t ++ r)) = _
  unfold pWhile
  rw [if_pos (ht b (by simp)), pWhile_of p n t r (fun c hc => ht c (by simp [hc])) (by simpa using hl) hr]
theorem pWhile_len (p : Int → Bool) : ∀ (n : Nat) (s : Tx), (pWhile p n s).1.length ≤ n
 | 0, s => by simp [pWhile]
 | n + 1, [] => by simp [pWhile]
 | n + 1, b :: r => by
  unfold pWhile
  split
  ·have := pWhile_len p n r; simp; omega
  ·simp
theorem pName_of {p r : Tx} (h : GNm p) (hr : ∀ b q, r = b :: q → smallB b.toNat = false) : pName (p ++ r) = .got p r := by
 unfold pName
 rw [pWhile_of smallB 6 p r h.1.2 h.2 hr]
 rw [if_neg h.1.1]
theorem pName_gn {s r p : Tx} (h : pName s = .got p r) : GNm p := by
 refine ⟨(pName_took h).2, ?_⟩
 unfold pName at h
 split at h
 ·cases h
 ·cases h; exact pWhile_len _ _ _
theorem pTerm_of {t r : Tx} (h : GTm t) (hr : ∀ b q, r = b :: q → digitB b.toNat = false) : pTerm (t ++ r) = .got t r := by
 rcases h with ⟨b, rfl, hb⟩ | rfl | ⟨b, q, rfl, hb, hq, hl⟩
 ·show pTerm (b :: r) = _
  unfold pTerm; dsimp only
  rw [if_pos hb]
 ·show pTerm (48 :: r) = _
  unfold pTerm; dsimp only
  rw [if_neg (by decide), if_pos (by decide)]
 ·show pTerm (b :: (q ++ r)) = _
  unfold pTerm; dsimp only
  rw [if_neg, if_neg, if_pos hb, pWhile_of digitB 2 q r hq hl hr]
  ·intro e; simp only [nineB, Bool.and_eq_true, decide_eq_true_eq] at hb; simp at e; omega
  ·intro e; rw [large_not_nine e] at hb; cases hb
theorem pTerm_gt {s r t : Tx} (h : pTerm s = .got t r) : GTm t := by
 cases s with
 | nil => cases h
 | cons b q =>
  unfold pTerm at h; dsimp only at h
  split at h
  ·rename_i hl; cases h; exact .inl ⟨b, rfl, hl⟩
  split at h
  ·rename_i h0
   cases h
   have : b = 48 := byte_eq 48 h0
   rw [this]; exact .inr (.inl rfl)
  split at h
  ·rename_i h9; cases h
   exact .inr (.inr ⟨b, _, rfl, h9, (pWhile_took digitB 2 q).2, pWhile_len _ _ _⟩)
  ·cases h
theorem got_bnd {α β : Type} (x : α) (r : Tx) (f : α → Tx → Rd β) : (Rd.got x r).bnd f = f x r := rfl
theorem pByte_of {c : UInt8} {r : Tx} : pByte c.toNat (c :: r) = .got () r := by unfold pByte; dsimp only; rw [if_pos (by simp)]
theorem uMore_cons (t : Tx) (ts : List Tx) : uMore (t :: ts) = 44 :: (t ++ uMore ts) := by simp [uMore]
theorem pMore_of {α : Type} {f : Tx → Rd α} {u : α → Tx} {c : UInt8} (hc : c ≠ 44) {P : α → Prop} (hf : ∀ x r, P x → (∀ b q, r = b :: q → b = 44 ∨ b = c) → f (u x ++ r) = .got x r) : ∀ (n : Nat) (xs : List α) (r : Tx), (∀ x ∈ xs, P x) → xs.length ≤ n → pMore f n (uMore (xs.map u) ++ c :: r) = .got xs (c :: r)
 | 0, [], r, _, _ => rfl
 | n + 1, [], r, _, _ => by
  show pMore f (n + 1) (c :: r) = _
  unfold pMore
  rw [if_neg (by
   intro h
   exact hc (byte_eq 44 h))]
 | 0, x :: xs, r, _, hl => by simp at hl
 | n + 1, x :: xs, r, hP, hl => by
  rw [List.map_cons, uMore_cons]
  show pMore f (n + 1) (44 :: ((u x ++ uMore (xs.map u)) ++ c :: r)) = _
  unfold pMore
  rw [if_pos (by decide), List.append_assoc, hf x _ (hP x (by simp)) ?_]
  ·rw [got_bnd, pMore_of hc hf n xs r (fun y hy => hP y (by simp [hy])) (by simpa using hl)]
   rfl
  ·intro b q e
   cases xs with
   | nil => simp [uMore] at e; exact .inr e.1.symm
   | cons y ys => rw [List.map_cons, uMore_cons] at e; simp at e; exact .inl e.1.symm
theorem nd {b : UInt8} (h : b = 44 ∨ b = 41) : digitB b.toNat = false := by rcases h with rfl | rfl <;> decide
theorem pAtom_of {a : RAtom} (h : GA' a) (r : Tx) : pAtom a.nt (uAtom a ++ r) = .got a r := by
 unfold pAtom uAtom
 rw [List.append_assoc, pName_of h.nm (fun b q e => by simp at e; rw [← e.1]; decide)]
 rw [got_bnd, List.cons_append]
 rw [show (40 : Int) = ((40 : UInt8).toNat : Int) from rfl, pByte_of]
 rw [got_bnd]
 obtain ⟨t, ts, e⟩ := List.exists_cons_of_ne_nil h.ne
 have htm := h.tm
 have hfew := h.few
 rw [e] at htm hfew
 rw [e, uList]
 unfold pArgs
 have e2 : ((t ++ uMore ts ++ [41]) ++ r : Tx) = t ++ (uMore (ts.map id) ++ 41 :: r) := by simp
 rw [e2, pTerm_of (htm t (by simp)) ?_]
 ·rw [got_bnd, pMore_of (u := id) (c := 41) (by decide) (P := GTm) (fun x r hx hr => pTerm_of hx fun b q e => nd (hr b q e)) 2 ts r (fun y hy => htm y (by simp [hy])) (by simpa using hfew)]
  rw [got_bnd, show (41 : Int) = ((41 : UInt8).toNat : Int) from rfl, pByte_of]
  rw [got_bnd, ← e]
 ·intro b q eb
  cases ts with
  | nil => simp [uMore] at eb; exact nd (.inr eb.1.symm)
  | cons y ys => rw [List.map_cons, uMore_cons] at eb; simp at eb; exact nd (.inl eb.1.symm)
theorem pLit_of {a : RAtom} (h : GA' a) (r : Tx) : pLit (uLit a ++ r) = .got a r := by
 have hp := pAtom_of h r
 cases hn : a.nt with
 | true =>
  rw [hn] at hp
  rw [show uLit a ++ r = 33 :: (uAtom a ++ r) by simp [uLit, hn]]
  unfold pLit
  dsimp only
  rw [if_pos (by decide)]; exact hp
 | false =>
  rw [hn] at hp
  rw [show uLit a ++ r = uAtom a ++ r by simp [uLit, hn]]
  obtain ⟨b, q, e, h1, h2⟩ := head_small h.nm.1
  have e2 : uAtom a ++ r = b :: (q ++ 40 :: (uList a.terms ++ [41]) ++ r) := by unfold uAtom; rw [e]; simp
  rw [e2] at hp ⊢
  unfold pLit
  dsimp only
  rw [if_neg (by simp; omega)]; exact hp
theorem pItem_of {x : RItem} (h : GIt x) (r : Tx) : pItem (uItem x ++ 46 :: r) = .got x r := by
 cases ho : x.out with
 | true =>
  obtain ⟨h1, h2, h3⟩ := h.out ho
  rw [uItem, if_pos ho]
  show pItem (63 :: (x.head.pred ++ 46 :: r)) = _
  unfold pItem
  dsimp only
  rw [if_pos (by decide)]
  unfold pOut
  rw [pName_of h.nm (fun b q e => by simp at e; rw [← e.1]; decide)]
  rw [got_bnd, show (46 : Int) = ((46 : UInt8).toNat : Int) from rfl, pByte_of]
  rw [got_bnd]
  obtain ⟨o, ⟨n, p, ts⟩, bd⟩ := x
  simp only at h1 h2 h3 ho
  subst h1; subst h2; subst h3; subst ho
  rfl
 | false =>
  obtain ⟨h1, h2, h3, h4⟩ := h.rule ho
  have hR : pItem (uItem x ++ 46 :: r) = pRule (uItem x ++ 46 :: r) := by
   obtain ⟨b, q, e, g1, g2⟩ := head_small h.nm.1
   have e2 : uItem x ++ 46 :: r = b :: (q ++ 40 :: (uList x.head.terms ++ [41]) ++ (if x.body = [] then [] else 58 :: 45 :: uList (x.body.map uLit)) ++ 46 :: r) := by
    unfold uItem uRule uAtom; rw [if_neg (by simp [ho]), e]; simp
   rw [e2]
   unfold pItem
   dsimp only
   rw [if_neg (by simp; omega)]
  rw [hR, uItem, if_neg (by simp [ho]), uRule, List.append_assoc]
  unfold pRule
  have hp := pAtom_of h1 ((if x.body = [] then [] else 58 :: 45 :: uList (x.body.map uLit)) ++ 46 :: r)
  rw [h2] at hp
  rw [hp, got_bnd]
  by_cases hb : x.body = []
  ·rw [if_pos hb]
   show pTail x.head (46 :: r) = _
   unfold pTail
   dsimp only
   rw [if_pos (by decide)]
   rw [← hb, ← ho]
  ·rw [if_neg hb]
   obtain ⟨l, ls, e⟩ := List.exists_cons_of_ne_nil hb
   rw [e] at h3 h4
   rw [e, List.map_cons, uList]
   have e2 : (58 :: 45 :: (uLit l ++ uMore (ls.map uLit)) ++ 46 :: r : Tx) = 58 :: 45 :: (uLit l ++ (uMore (ls.map uLit) ++ 46 :: r)) := by simp
   rw [e2]
   unfold pTail
   dsimp only
   rw [if_neg (by decide)]
   rw [show (58 : Int) = ((58 : UInt8).toNat : Int) from rfl, pByte_of]
   rw [got_bnd, show (45 : Int) = ((45 : UInt8).toNat : Int) from rfl, pByte_of]
   rw [got_bnd]
   unfold pBody
   rw [pLit_of (h4 l (by simp)), got_bnd, pMore_of (u := uLit) (c := 46) (by decide) (P := GA') (fun y q hy _ => pLit_of hy q) 4 ls r (fun y hy => h4 y (by simp [hy])) (by simpa using h3)]
   rw [got_bnd, show (46 : Int) = ((46 : UInt8).toNat : Int) from rfl, pByte_of]
   rw [got_bnd, ← e, ← ho]
theorem pItems_of : ∀ (n : Nat) (l : List RItem), (∀ x ∈ l, GIt x) → l.length ≤ n → pItems n (uItems l) = .got l []
 | n, [], _, _ => by cases n <;> rfl
 | 0, x :: l, _, hl => by simp at hl
 | n + 1, x :: l, h, hl => by
  have e : uItems (x :: l) = uItem x ++ 46 :: uItems l := by simp [uItems]
  have hne : uItem x ++ 46 :: uItems l ≠ [] := by simp
  obtain ⟨b, q, e2⟩ := List.exists_cons_of_ne_nil hne
  rw [e]
  have hp := pItem_of (h x (by simp)) (uItems l)
  rw [e2] at hp ⊢
  show ((pItem (b :: q)).bnd fun x r => (pItems n r).bnd fun xs r => .got (x :: xs) r) = _
  rw [hp, got_bnd, pItems_of n l (fun y hy => h y (by simp [hy])) (by simpa using hl)]
  rfl
/-! ### What was read is so -/
theorem pMore_ga {α : Type} {f : Tx → Rd α} {P : α → Prop} (hf : ∀ s x r, f s = .got x r → P x) {n : Nat} {s : Tx} {xs : List α} {r : Tx} (h : pMore f n s = .got xs r) : ∀ x ∈ xs, P x := pMore_all hf n s xs r h
theorem pAtom_ga {nt : Bool} {s r : Tx} {a : RAtom} (h : pAtom nt s = .got a r) : GA' a := by
 have hw := (pAtom_took h).2.1
 have ht := pAtom_all (T := GTm) (fun _ _ _ h => pTerm_gt h) h
 refine ⟨?_, hw.2.1, hw.2.2.1, ht⟩
 unfold pAtom at h
 obtain ⟨p, q, h1, h⟩ := bnd_got h
 obtain ⟨u, q2, h2, h⟩ := bnd_got h
 unfold pArgs at h
 obtain ⟨t, q3, h3, h⟩ := bnd_got h
 obtain ⟨ts, q4, h4, h⟩ := bnd_got h
 obtain ⟨u2, q5, h5, h⟩ := bnd_got h
 cases h
 exact pName_gn h1
theorem pLit_ga {s r : Tx} {a : RAtom} (h : pLit s = .got a r) : GA' a := by
 cases s with
 | nil => cases h
 | cons b q =>
  unfold pLit at h
  dsimp only at h
  split at h
  ·exact pAtom_ga h
  ·exact pAtom_ga h
theorem pItem_gi {s r : Tx} {x : RItem} (h : pItem s = .got x r) : GIt x := by
 have hw := (pItem_took h).2
 cases s with
 | nil => cases h
 | cons b q =>
  unfold pItem at h
  dsimp only at h
  split at h
  ·unfold pOut at h
   obtain ⟨p, q, h1, h⟩ := bnd_got h
   obtain ⟨u, q2, h2, h⟩ := bnd_got h
   cases h
   exact ⟨pName_gn h1, hw.2.1, (fun e => by cases e)⟩
  ·unfold pRule at h
   obtain ⟨hd, q, h1, h⟩ := bnd_got h
   have hg := pAtom_ga h1
   have key : x.head = hd ∧ x.out = false ∧ ∀ a ∈ x.body, GA' a := by
    cases q with
    | nil => cases h
    | cons c q =>
     unfold pTail at h
     dsimp only at h
     split at h
     ·cases h; exact ⟨rfl, rfl, by simp⟩
     ·obtain ⟨_, q2, _, h⟩ := bnd_got h
      obtain ⟨_, q3, _, h⟩ := bnd_got h
      unfold pBody at h
      obtain ⟨l, q4, h4, h⟩ := bnd_got h
      obtain ⟨ls, q5, h5, h⟩ := bnd_got h
      obtain ⟨_, q6, _, h⟩ := bnd_got h
      cases h
      refine ⟨rfl, rfl, fun a ha => ?_⟩
      rcases List.mem_cons.1 ha with rfl | ha
      ·exact pLit_ga h4
      ·exact pMore_ga (fun _ _ _ h => pLit_ga h) h5 a ha
   obtain ⟨e1, e2, e3⟩ := key
   refine ⟨by rw [e1]; exact hg.nm, hw.2.1, fun ho => ⟨by rw [e1]; exact hg, (hw.2.2 ho).2.1, (hw.2.2 ho).2.2.1, e3⟩⟩
theorem pItems_gi : ∀ (n : Nat) (s : Tx) (l : List RItem) (r : Tx), pItems n s = .got l r → ∀ x ∈ l, GIt x
 | n, [], l, r, h => by
  cases n <;> (cases h; intro x hx; cases hx)
 | 0, b :: s, l, r, h => by cases h
 | n + 1, b :: s, l, r, h => by
  have h' : ((pItem (b :: s)).bnd fun x r => (pItems n r).bnd fun xs r => .got (x :: xs) r) = .got l r := h
  obtain ⟨x, q, h1, h2⟩ := bnd_got h'
  obtain ⟨xs, q2, h3, h4⟩ := bnd_got h2
  cases h4
  intro y hy
  rcases List.mem_cons.1 hy with rfl | hy
  ·exact pItem_gi h1
  ·exact pItems_gi n _ _ _ h3 y hy
/- What is left behind a pass: less of the same items; written, it is right again. Pure. -/
/-! ### One item in another's place, or none -/
theorem zip_rpl {α : Type} (n : Nat) (o : List α) : ∀ (l : List α) (k : Nat), n < k → ((l.zipIdx k).flatMap fun p => if p.2 = n then o else [p.1]) = l
 | [], k, _ => rfl
 | x :: l, k, h => by
  rw [List.zipIdx_cons, List.flatMap_cons, zip_rpl n o l (k + 1) (by omega)]
  simp only
  rw [if_neg (by omega)]; rfl
theorem zip_set {α : Type} (y : α) : ∀ (l : List α) (k i : Nat), ((l.zipIdx k).flatMap fun p => if p.2 = k + i then [y] else [p.1]) = l.set i y
 | [], k, i => rfl
 | x :: l, k, 0 => by
  rw [List.zipIdx_cons, List.flatMap_cons, zip_rpl (k + 0) [y] l (k + 1) (by omega)]
  simp
 | x :: l, k, i + 1 => by
  have := zip_set y l (k + 1) i
  rw [List.zipIdx_cons, List.flatMap_cons, show k + (i + 1) = k + 1 + i by omega, this]
  simp only
  rw [if_neg (by omega)]; rfl
theorem zip_erase {α : Type} : ∀ (l : List α) (k i : Nat), ((l.zipIdx k).flatMap fun p => if p.2 = k + i then [] else [p.1]) = l.eraseIdx i
 | [], k, i => by simp
 | x :: l, k, 0 => by
  rw [List.zipIdx_cons, List.flatMap_cons, zip_rpl (k + 0) [] l (k + 1) (by omega)]
  simp
 | x :: l, k, i + 1 => by
  have := zip_erase l (k + 1) i
  rw [List.zipIdx_cons, List.flatMap_cons, show k + (i + 1) = k + 1 + i by omega, this]
  simp only
  rw [if_neg (by omega)]; rfl
theorem rpl_set {α : Type} (i : Nat) (y : α) (l : List α) : rpl i [y] l = l.set i y := by
 have := zip_set y l 0 i
 unfold rpl
 rw [Nat.zero_add] at this; exact this
theorem rpl_erase {α : Type} (i : Nat) (l : List α) : rpl i [] l = l.eraseIdx i := by
 have := zip_erase l 0 i
 unfold rpl
 rw [Nat.zero_add] at this; exact this
theorem uItems_cons (x : RItem) (l : List RItem) : uItems (x :: l) = pcT x ++ uItems l := by simp [uItems, pcT]
theorem uItems_set : ∀ {l : List RItem} {i : Nat} {x y : RItem}, l[i]? = some x → (pcT y).length ≤ (pcT x).length → (uItems (l.set i y)).length ≤ (uItems l).length
 | [], i, x, y, h, _ => by simp at h
 | z :: l, 0, x, y, h, hl => by
  simp at h; subst h
  simp only [List.set_cons_zero, uItems_cons, List.length_append]; omega
 | z :: l, i + 1, x, y, h, hl => by
  have := uItems_set (l := l) (i := i) (by simpa using h) hl
  simp only [List.set_cons_succ, uItems_cons, List.length_append]; omega
theorem uItems_erase : ∀ (l : List RItem) (i : Nat), (uItems (l.eraseIdx i)).length ≤ (uItems l).length
 | [], i => by simp
 | z :: l, 0 => by simp only [List.eraseIdx_cons_zero, uItems_cons, List.length_append]; omega
 | z :: l, i + 1 => by
  have := uItems_erase l i
  simp only [List.eraseIdx_cons_succ, uItems_cons, List.length_append]; omega
/-! ### A literal less is no longer -/
theorem uMore_erase : ∀ (ts : List Tx) (k : Nat), (uMore (ts.eraseIdx k)).length ≤ (uMore ts).length
 | [], k => by simp
 | t :: ts, 0 => by simp only [List.eraseIdx_cons_zero, uMore_cons, List.length_cons, List.length_append]; omega
 | t :: ts, k + 1 => by
  have := uMore_erase ts k
  simp only [List.eraseIdx_cons_succ, uMore_cons, List.length_cons, List.length_append]; omega
theorem uList_erase : ∀ (ts : List Tx) (k : Nat), (uList (ts.eraseIdx k)).length ≤ (uList ts).length
 | [], k => by simp
 | t :: ts, 0 => by
  simp only [List.eraseIdx_cons_zero, uList, List.length_append]
  cases ts with
  | nil => simp [uList]
  | cons u ts => rw [uMore_cons]; simp only [uList, List.length_cons, List.length_append]; omega
 | t :: ts, k + 1 => by
  have := uMore_erase ts k
  simp only [List.eraseIdx_cons_succ, uList, List.length_append]; omega
theorem pc_wo {x : RItem} {k : Nat} (ho : x.out = false) : (pcT (woL x k)).length ≤ (pcT x).length := by
 have h1 := uList_erase (x.body.map uLit) k
 have h2 : (woL x k).body.map uLit = (x.body.map uLit).eraseIdx k := by
  show (x.body.eraseIdx k).map uLit = _
  rw [erase_map]
 have hh : (woL x k).head = x.head := rfl
 unfold pcT uItem
 rw [if_neg (by simp [woL]), if_neg (by simp [ho])]
 unfold uRule
 rw [hh, h2]
 simp only [List.length_append]
 by_cases hb : x.body = []
 ·have hb2 : (woL x k).body = [] := by simp [woL, hb]
  rw [if_pos hb2, if_pos hb]
  exact Nat.le_refl _
 ·rw [if_neg hb]
  by_cases hb2 : (woL x k).body = []
  ·rw [if_pos hb2]; simp only [List.length_nil, List.length_cons]; omega
  ·rw [if_neg hb2]; simp only [List.length_cons]; omega
/-! ### Less of the same items -/
structure Sd (l l' : List RItem) : Prop where
 dsc : ∀ x ∈ l', ∃ y ∈ l, y.out = x.out ∧ y.head = x.head ∧ ∀ a ∈ x.body, a ∈ y.body
 safe : ∀ x ∈ l', safeB x = true
 len : l'.length ≤ l.length
 ulen : (uItems l').length ≤ (uItems l).length
theorem Sd.refl {l : List RItem} (h : ∀ x ∈ l, safeB x = true) : Sd l l := ⟨fun x hx => ⟨x, hx, rfl, rfl, fun a ha => ha⟩, h, Nat.le_refl _, Nat.le_refl _⟩
theorem Sd.sub {l l1 l2 : List RItem} (h : Sd l l1) (hs : ∀ x ∈ l2, x ∈ l1) (hl : l2.length ≤ l1.length) (hu : (uItems l2).length ≤ (uItems l1).length) : Sd l l2 :=
 ⟨fun x hx => h.dsc x (hs x hx), fun x hx => h.safe x (hs x hx), Nat.le_trans hl h.len, Nat.le_trans hu h.ulen⟩
theorem Sd.wo {l l1 : List RItem} (h : Sd l l1) {i k : Nat} {x : RItem} (hx : l1[i]? = some x) (ho : x.out = false) (hs : safeB (woL x k) = true) : Sd l (rpl i [woL x k] l1) := by
 have hxm := List.mem_of_getElem? hx
 refine ⟨fun y hy => ?_, fun y hy => ?_, by rw [rpl_one]; exact h.len, ?_⟩
 ·rcases rpl_mem hy with hy | hy
  ·exact h.dsc y hy
  ·simp at hy; subst hy
   obtain ⟨z, hz, h1, h2, h3⟩ := h.dsc x hxm
   exact ⟨z, hz, h1.trans ho, h2, fun a ha => h3 a (List.mem_of_mem_eraseIdx ha)⟩
 ·rcases rpl_mem hy with hy | hy
  ·exact h.safe y hy
  ·simp at hy; subst hy; exact hs
 ·rw [rpl_set]
  exact Nat.le_trans (uItems_set hx (pc_wo ho)) h.ulen
theorem sp_safe {N : List Tx} {x : RItem} {k : Nat} (h : (spE N x k).isSome = true) : psafeB (woL x k) = true := by
 cases hp : psafeB (woL x k) with
 | true => rfl
 | false => rw [sp_unsafe hp] at h; cases h
theorem RtL.safe_wo {N : List Tx} {ar : Tx → Nat} {l : List RItem} (h : RtL N ar l) {x : RItem} (hx : x ∈ l) (ho : x.out = false) (k : Nat) : psafeB (woL x k) = safeB (woL x k) :=
 safe_eq fun a ha => h.gl.va x hx a (wo_atoms ho ha)
theorem Step.sd {N : List Tx} {ar : Tx → Nat} {c : UInt8} {l l1 l2 : List RItem} (h : Step N c l1 (some l2)) (hR : RtL N ar l1) (hS : Sd l l1) : Sd l l2 := by
 rcases h with ⟨-, M, -, h⟩ | ⟨-, h⟩ | ⟨-, h⟩
 ·rcases h with ⟨-, h⟩ | ⟨-, ⟨-, h⟩ | ⟨-, h⟩⟩
  ·cases h
  ·cases h
  ·cases h
   exact hS.sub (fun x hx => (List.mem_filter.1 hx).1) (List.length_filter_le _ _) (uItems_filter _ _)
 ·rcases h with ⟨h, -⟩ | ⟨i, k, y, e, h1, h2, h3, h4, -, -⟩
  ·cases h
  ·cases e
   refine hS.wo h1 h2 ?_
   rw [← hR.safe_wo (List.mem_of_getElem? h1) h2 k]
   unfold okA at h4
   rw [h1] at h4
   simp only [Bool.and_eq_true] at h4
   exact sp_safe h4.1
 ·rcases h with ⟨h, -⟩ | ⟨i, y, e, h1, h2, h3, h4, -⟩
  ·cases h
  ·cases e
   refine hS.sub (fun x hx => ?_) (rpl_none_len _) ?_
   ·rcases rpl_mem hx with h | h
    ·exact h
    ·cases h
   ·rw [rpl_erase]; exact uItems_erase _ _
theorem Chg.sd {N : List Tx} {ar : Tx → Nat} {c : UInt8} {b : Int} {l l1 l2 : List RItem} {m m' : Int} (h : Chg N c b l1 m l2 m') (hR : RtL N ar l1) (hS : Sd l l1) : RtL N ar l2 ∧ Sd l l2 := by
 induction h with
 | refl => exact ⟨hR, hS⟩
 | snoc _ _ hs ih => exact ⟨hs.rt ih.1, hs.sd ih.1 ih.2⟩
theorem Pss.sd {N : List Tx} {ar : Tx → Nat} {ps : Tx} {b : Int} {l l1 l2 : List RItem} {m m' : Int} (h : Pss N b l1 m ps l2 m') (hR : RtL N ar l1) (hS : Sd l l1) : RtL N ar l2 ∧ Sd l l2 := by
 induction h with
 | nil => exact ⟨hR, hS⟩
 | snoc _ hp ih => exact hp.1.sd ih.1 ih.2
/-! ### Right again -/
theorem wrong_sub2 {l l' : List RItem} {ar : Tx → Nat} (hA : ArOf l' ar) (hs : ∀ x ∈ l', safeB x = true) (hw : (wrongM l).1 = 0) (ho : ∀ x ∈ l, x.out = true → x.body = []) (ho' : ∀ x ∈ l', x.out = true → x.body = [])
  (hsub : ∀ x ∈ l', ∃ y ∈ l, y.out = x.out ∧ y.head.pred = x.head.pred ∧ ∀ a ∈ x.body, ∃ b ∈ y.body, b.pred = a.pred ∧ b.nt = a.nt) : wrongM l' = (0, 0) := by
 have hk : ∀ i, i < l.length → knotP l i = false := by
  unfold wrongM at hw
  split at hw
  ·cases hw
  ·split at hw
   ·cases hw
   ·split at hw
    ·cases hw
    ·rename_i h; exact firstM_neg h
 have hsubw : ∀ p q, atOnce l' p q → atOnce l p q := fun p q ⟨x, hx, h1, a, ha, h2⟩ => by
  obtain ⟨y, hy, -, e, hb⟩ := hsub x hx
  obtain ⟨b, hb, e1, -⟩ := hb a ha
  exact ⟨y, hy, e.trans h1, b, hb, e1.trans h2⟩
 have hk' : ∀ i, i < l'.length → knotP l' i = false := fun i hi => by
  unfold knotP
  rw [List.getElem?_eq_getElem hi]
  simp only
  have hx := List.getElem_mem hi
  generalize l'[i] = x at hx
  rw [List.any_eq_false]
  intro a ha hbad
  obtain ⟨y, hy, e1, e2, hb⟩ := hsub x hx
  obtain ⟨b, hb, e3, e4⟩ := hb a ha
  obtain ⟨j, hj⟩ := List.getElem?_of_mem hy
  have := hk j (List.getElem?_eq_some_iff.1 hj).1
  unfold knotP at this
  rw [hj] at this
  simp only at this
  refine List.any_eq_false.1 this b hb ?_
  unfold badK at hbad ⊢
  simp only [Bool.and_eq_true, Bool.or_eq_true, beq_iff_eq] at hbad ⊢
  rw [e4, e3, e2]
  refine ⟨hbad.1, ?_⟩
  have hxo : x.out = false := by
   cases h : x.out with
   | false => rfl
   | true => rw [ho' x hx h] at ha; cases ha
  rcases hbad.2 with h | h
  ·exact .inl h
  ·refine .inr ?_
   rw [usesB_iff ho' ⟨x, hx, hxo, rfl⟩] at h
   rw [usesB_iff ho ⟨y, hy, e1.trans hxo, e2⟩]
   exact h.map' hsubw
 unfold wrongM
 rw [if_neg (by rw [firstN_none fun i _ => odd_none hA i]; decide), if_neg (by
  rw [firstN_none fun i hi => ?_]
  ·decide
  ·unfold unsafeP
   rw [List.getElem?_eq_getElem hi]
   simp only
   rw [hs _ (List.getElem_mem hi)]; rfl), if_neg (by rw [firstN_none hk']; decide)]
theorem RtL.xr {N : List Tx} {ar : Tx → Nat} {l : List RItem} (h : RtL N ar l) {x : RItem} (hx : x ∈ l) (ho : x.out = false) : XR x :=
 ⟨fun a ha t ht => by
  have := ((h.gl.msr x hx).at_ a ha).2.2 t ht
  exact ⟨this.1, this.2.1, this.2.2.1⟩, ho, by have := ord18 (h.wit x hx); omega⟩
theorem wo_none {x : RItem} (ho : x.out = false) : woL x x.body.length = x := by
 unfold woL
 rw [List.eraseIdx_of_length_le (Nat.le_refl _), ← ho]
theorem ren_safe {N : List Tx} {ar : Tx → Nat} {l : List RItem} (h : RtL N ar l) {x : RItem} (hx : x ∈ l) (hs : safeB x = true) : safeB (ren x) = true := by
 cases ho : x.out with
 | true =>
  have hb := (h.gl.msr x hx).out ho
  unfold safeB
  simp [atomsL, ren, ho, hb]
 | false =>
  have hX := h.xr hx ho
  have h1 := hX.safe x.body.length
  have e : woL (ren x) x.body.length = ren x := by
   have := wo_none (x := ren x) ho
   simpa [ren] using this
  rw [e, wo_none ho, hs] at h1
  rw [← safe_eq (x := ren x) fun a ha w hw => ut_vt (hX.inO.ut a ha w hw)]
  exact h1
theorem Sd.gi {l l' : List RItem} (h : Sd l l') (hg : ∀ x ∈ l, GIt x) (h5 : ∀ x ∈ l', x.body.length ≤ 5) : ∀ x ∈ l', GIt x := fun x hx => by
 obtain ⟨y, hy, h1, h2, h3⟩ := h.dsc x hx
 have g := hg y hy
 refine ⟨by rw [← h2]; exact g.nm, fun ho => ?_, fun ho => ?_⟩
 ·obtain ⟨g1, g2, g3⟩ := g.out (h1.trans ho)
  rw [← h2]
  refine ⟨g1, g2, List.eq_nil_iff_forall_not_mem.2 fun a ha => ?_⟩
  have := h3 a ha
  rw [g3] at this; cases this
 ·obtain ⟨g1, g2, g3, g4⟩ := g.rule (h1.trans ho)
  rw [← h2]
  exact ⟨g1, g2, h5 x hx, fun a ha => g4 a (h3 a ha)⟩
theorem ren_gi {x : RItem} (h : GIt x) (hX : x.out = false → XR x) : GIt (ren x) := by
 refine ⟨h.nm, fun ho => ?_, fun ho => ?_⟩
 ·obtain ⟨h1, h2, h3⟩ := h.out ho
  exact ⟨h1, by simp [ren, renA, h2], by simp [ren, h3]⟩
 ·obtain ⟨h1, h2, h3, h4⟩ := h.rule ho
  have hX := hX ho
  have key : ∀ a ∈ atomsL x, GA' a → GA' (renA (ordL x) a) := fun a ha hg => by
   refine ⟨hg.nm, by simpa [renA] using hg.ne, by simpa [renA] using hg.few, fun t ht => ?_⟩
   simp only [renA, List.mem_map] at ht
   obtain ⟨u, hu, rfl⟩ := ht
   unfold wrT
   split
   ·rename_i hv
    have := hX.rng ha hu hv
    exact .inl ⟨_, rfl, let_large this.1 this.2⟩
   ·exact hg.tm u hu
  refine ⟨key _ (atoms_mem (.inl ⟨ho, rfl⟩)) h1, h2, by simpa [ren] using h3, fun a ha => ?_⟩
  simp only [ren, List.mem_map] at ha
  obtain ⟨b, hb, rfl⟩ := ha
  exact key b (atoms_mem (.inr hb)) (h4 b hb)
theorem right_wrong {t : Tx} {N : List Tx} {l : List RItem} {cs : List AV} (hR : Right t N l cs) : (wrongM l).1 = 0 := by
 have := hR.ok
 unfold refCheck at this
 split at this
 ·simp at this
 ·split at this
  ·simp at this
  ·rw [hR.items] at this; exact this
theorem again_right {t : Tx} {N : List Tx} {l l' : List RItem} {cs : List AV} {ar : Tx → Nat} (hR : Right t N l cs) (hA : ArOf l ar) (hS : Sd l l') (hRl : RtL N ar l') : refCheck (wholeL l') = (0, 0) ∧ itemsL (wholeL l') = l'.map ren := by
 have htook := pItems_took _ _ _ _ hR.parse
 have hi := items_whole hRl.wit hRl.wi
 refine ⟨?_, hi⟩
 have hlen : (wholeL l').length ≤ 600 := by
  rw [whole_u hRl.wit]
  have h1 := uItems_le l' hRl.wit
  have h2 := hS.ulen
  have h3 := hR.len
  rw [htook.1] at h3
  omega
 have hg := hS.gi (pItems_gi _ _ _ _ hR.parse) hRl.b5
 have hpl : placeL (wholeL l') = -1 := by
  rw [placeL_parse, whole_u hRl.wit, pItems_of 16 (l'.map ren) (fun y hy => ?_) (by rw [List.length_map]; exact hRl.gl.len)]
  obtain ⟨x, hx, rfl⟩ := List.mem_map.1 hy
  exact ren_gi (hg x hx) fun ho => hRl.xr hx ho
 unfold refCheck
 rw [if_neg (by omega), if_neg (by rw [hpl]; decide), hi]
 refine wrong_sub2 (l := l) (ar := ar) (fun y hy a ha => ?_) (fun y hy => ?_) (right_wrong hR) (fun x hx => ((hR.rt hA).gl.msr x hx).out) (fun y hy ho => ?_) (fun y hy => ?_)
 ·obtain ⟨x, hx, rfl⟩ := List.mem_map.1 hy
  obtain ⟨z, hz, h1, h2, h3⟩ := hS.dsc x hx
  have ha' : ∃ b ∈ atomsL x, a = renA (ordL x) b := by
   have ha2 : a ∈ (if x.out = true then [] else [renA (ordL x) x.head]) ++ x.body.map (renA (ordL x)) := ha
   cases ho : x.out with
   | true =>
    rw [ho] at ha2
    simp at ha2
    obtain ⟨b, hb, rfl⟩ := ha2
    exact ⟨b, atoms_mem (.inr hb), rfl⟩
   | false =>
    rw [ho] at ha2
    simp at ha2
    rcases ha2 with rfl | ⟨b, hb, rfl⟩
    ·exact ⟨x.head, atoms_mem (.inl ⟨ho, rfl⟩), rfl⟩
    ·exact ⟨b, atoms_mem (.inr hb), rfl⟩
  obtain ⟨b, hb, rfl⟩ := ha'
  show (b.terms.map _).length = ar b.pred
  rw [List.length_map]
  refine hA z hz b ?_
  unfold atomsL at hb ⊢
  rcases List.mem_append.1 hb with hb | hb
  ·rw [h1, h2]; exact List.mem_append_left _ hb
  ·exact List.mem_append_right _ (h3 b hb)
 ·obtain ⟨x, hx, rfl⟩ := List.mem_map.1 hy
  exact ren_safe hRl hx (hS.safe x hx)
 ·obtain ⟨x, hx, rfl⟩ := List.mem_map.1 hy
  have := (hRl.gl.msr x hx).out ho
  simp [ren, this]
 ·obtain ⟨x, hx, rfl⟩ := List.mem_map.1 hy
  obtain ⟨z, hz, h1, h2, h3⟩ := hS.dsc x hx
  refine ⟨z, hz, h1, by rw [h2]; rfl, fun a ha => ?_⟩
  simp only [ren, List.mem_map] at ha
  obtain ⟨b, hb, rfl⟩ := ha
  exact ⟨b, h3 b hb, rfl, rfl⟩
theorem beh_sd {N : List Tx} {ar : Tx → Nat} {l l1 l2 : List RItem} {t : Tx} {cs : List AV} (hR : Right t N l cs) (hA : ArOf l ar) (hR2 : RtL N ar l2) (hS2 : Sd l l2) (hl : lackB N l2 l1 = false) : behB N l1 l2 = true := by
 have hlen := hR.len
 rw [(pItems_took _ _ _ _ hR.parse).1] at hlen
 have h1 : limB l2 = true := by
  unfold limB
  simp only [Bool.and_eq_true, decide_eq_true_eq, List.all_eq_true]
  exact ⟨hR2.gl.len, fun x hx => hR2.b5 x hx, Nat.le_trans hS2.ulen hlen⟩
 have h3 : wrongM l2 = (0, 0) := wrong_sub2 (l := l) (ar := ar) (fun x hx a ha => ?_) hS2.safe (right_wrong hR) (fun x hx => ((hR.rt hA).gl.msr x hx).out) (fun x hx => (hR2.gl.msr x hx).out) fun x hx => ?_
 ·unfold behB
  rw [h1, hl, h3]
  rfl
 ·obtain ⟨z, hz, h1, h2, h3⟩ := hS2.dsc x hx
  refine hA z hz a ?_
  unfold atomsL at ha ⊢
  rcases List.mem_append.1 ha with ha | ha
  ·rw [h1, h2]; exact List.mem_append_left _ ha
  ·exact List.mem_append_right _ (h3 a ha)
 ·obtain ⟨z, hz, h1, h2, h3⟩ := hS2.dsc x hx
  exact ⟨z, hz, h1, by rw [h2], fun a ha => ⟨a, h3 a ha, rfl, rfl⟩⟩
end Go.Proofs.YtmoeoppbmhfbpaaGreatDoorQ
