import Derived.Test.YtmoeoppbmhfbpaaGreatDoorERoaB
import Derived.Test.YtmoeoppbmhfbpaaGreatDoorERerA
/- Roads: its own functions, walked: what is told of a map. -/
namespace Go.Proofs.YtmoeoppbmhfbpaaGreatDoorE
open Go.Abs
set_option linter.unusedSimpArgs false
set_option linter.unusedVariables false
set_option maxRecDepth 100000
def tolK (W : Nat → Nat → Bool) (p : Tx) (base : Int) (yes : Bool) (k : Nat) : Tx := ((List.range k).filter fun n => W (n / 8) (n % 8) == yes).flatMap fun n => pairT p base ((n / 8 : Nat) : Int) ((n % 8 : Nat) : Int)
theorem tolK_step (W : Nat → Nat → Bool) (p : Tx) (base : Int) (yes : Bool) {a b : Nat} (hb : b < 8) : tolK W p base yes (8 * a + b + 1) = tolK W p base yes (8 * a + b) ++ if (W a b == yes) = true then pairT p base (a : Int) (b : Int) else [] := by
 unfold tolK
 have h1 : (8 * a + b) / 8 = a := by omega
 have h2 : (8 * a + b) % 8 = b := by omega
 rw [List.range_succ, List.filter_append, List.flatMap_append]
 congr 1
 simp only [List.filter_cons, List.filter_nil, h1, h2]
 split
 ·simp only [List.flatMap_cons, List.flatMap_nil, List.append_nil, h1, h2]
 ·rfl
set_option maxHeartbeats 32000000 in
theorem ktold_spec (o : Nat) (E W : Nat → Nat → Bool) (p : Tx) (base : Int) (yes : Bool) (hp : p.length ≤ 100) (hb : R64 base) (σ : St) (ob : σ.obj o = encM E W) (ho : o < σ.nobj) : ACalls Tryz.prog 19 [ptr o 0, str p, ic base, sc (.bool yes)] σ fun r σ' => r = str (tolK W p base yes 64) ∧ σ' = σ := by
 have hml := encM_len E W
 have hPr := fun (a b : Int) h1 h2 h3 h4 σ => kpair_spec p base a b hp hb.1 hb.2 h1 h2 h3 h4 σ
 have hc0 : ({ data := #[] } : ByteArray) = bs [] := rfl
 refine acalls 38 [.tmp 8] Tryz.func19 rfl (by decide) rfl rfl (Nat.le_of_ble_eq_true rfl) ?_
 repeat' (first
 |with_reducible first|apply Xa|apply Xb|(refine Xc ?_;intro κ hκ)|(apply hκ.out;clear hκ κ)|apply Xd|apply Xe|apply Xf
 |((with_reducible first|refine Xl ?_ ?_|refine Xk ?_ ?_)<;> intro h hari<;> try exact Xp)
 |refine Xw ?_
 |exact True.intro
 |(apply hκ.out;clear hκ κ))
 refine awp_loop (fun m s σ' => ∃ (a : Nat) (T : Tx), m = 8 - a ∧ a ≤ 8 ∧ s 0 = ptr o 0 ∧ s 1 = str p ∧ s 2 = ic base ∧ s 3 = sc (.bool yes) ∧ s 9 = str T ∧ s 10 = ic a ∧ σ' = σ ∧ T.length ≤ a * 1600 ∧ Abs.Hid (T = tolK W p base yes (8 * a))) 8
  ⟨0, [], by omega, by omega, by simp [upd, initS], by simp [upd, initS], by simp [upd, initS], by simp [upd, initS], by simp [upd], by simp [upd], rfl, by simp, by simp [Abs.Hid, tolK]⟩ ?_
 rintro m s σ' ⟨a, T, rfl, ha, h0, h1, h2, h3, h9, h10, rfl, hTl, hT⟩
 by_cases hla : a < 8
 ·repeat' (first
 |with_reducible first|apply Xa|apply Xb|(refine Xc ?_;intro κ hκ)|(apply hκ.out;clear hκ κ)|apply Xd|apply Xe|apply Xf
 |((with_reducible first|refine Xl ?_ ?_|refine Xk ?_ ?_)<;> intro h hari<;> try exact Xp)
 |refine Xw ?_
 |exact True.intro
 |(apply hκ.out;clear hκ κ))
  refine awp_loop (fun m s σ2 => ∃ (b : Nat) (T : Tx), m = 8 - b ∧ b ≤ 8 ∧ s 0 = ptr o 0 ∧ s 1 = str p ∧ s 2 = ic base ∧ s 3 = sc (.bool yes) ∧ s 9 = str T ∧ s 10 = ic a ∧ s 11 = ic b ∧ σ2 = σ' ∧ T.length ≤ a * 1600 + b * 200 ∧ Abs.Hid (T = tolK W p base yes (8 * a + b))) 8
   ⟨0, T, by omega, by omega, by simp [upd, *], by simp [upd, *], by simp [upd, *], by simp [upd, *], by simp [upd, *], by simp [upd, *], by simp [upd], rfl, by omega, by simpa using hT⟩ ?_
  clear h0 h1 h2 h3 h9 h10 hTl hT
  rintro m s σ2 ⟨b, T, rfl, hb', h0, h1, h2, h3, h9, h10, h11, rfl, hTl, hT⟩
  by_cases hlb : b < 8
  ·have g1 := encM_getW E W (i := a) (k := b) hla hlb
   have hP := hPr (a : Int) (b : Int) (by omega) (by omega) (by omega) (by omega)
   have hpl := pairT_len hp base (a := (a : Int)) (b := (b : Int)) (by omega) (by omega) (by omega) (by omega)
   have HS : Abs.Hid _ := tolK_step W p base yes (a := a) hlb
   clear hPr
   generalize pairT p base (a : Int) (b : Int) = px at *
   generalize W a b = w at *
   repeat' (first
 |with_reducible first|apply Xa|apply Xb|(refine Xc ?_;intro κ hκ)|(apply hκ.out;clear hκ κ)|apply Xd|apply Xe|apply Xf
 |((with_reducible first|refine Xl ?_ ?_|refine Xk ?_ ?_)<;> intro h hari<;> try exact Xp)
 |((with_reducible refine Xh ?_);refine Xi (hP _) ?_;rintro _ _ ⟨rfl,rfl⟩)
 |refine Xw ?_
 |exact True.intro
 |(apply hκ.out;clear hκ κ))
   ·exact ⟨8 - (b + 1), by omega, b + 1, T ++ px, rfl, by omega, rfl, by simp, by simp; omega, by rw [Abs.Hid, ← Nat.add_assoc, HS.out, if_pos (by assumption), hT.out]⟩
   ·exact ⟨8 - (b + 1), by omega, b + 1, T, rfl, by omega, rfl, by simp, by omega, by rw [Abs.Hid, ← Nat.add_assoc, HS.out, if_neg (by rw [h]; simp), hT.out, List.append_nil]⟩
  ·have hbl : b = 8 := by omega
   subst hbl
   have HT2 : Abs.Hid (T = tolK W p base yes (8 * (a + 1))) := by rw [Abs.Hid, hT.out]; rfl
   repeat' (first
 |with_reducible first|apply Xa|apply Xb|(refine Xc ?_;intro κ hκ)|(apply hκ.out;clear hκ κ)|apply Xd|apply Xe|apply Xf
 |((with_reducible first|refine Xl ?_ ?_|refine Xk ?_ ?_)<;> intro h hari<;> try exact Xp)
 |refine Xw ?_
 |exact True.intro
 |(apply hκ.out;clear hκ κ))
   exact ⟨8 - (a + 1), by omega, a + 1, T, rfl, by omega, rfl, by simp, by omega, HT2⟩
 ·have hal : a = 8 := by omega
  subst hal
  repeat' (first
 |with_reducible first|apply Xa|apply Xb|(refine Xc ?_;intro κ hκ)|(apply hκ.out;clear hκ κ)|apply Xd|apply Xe|apply Xf
 |((with_reducible first|refine Xl ?_ ?_|refine Xk ?_ ?_)<;> intro h hari<;> try exact Xp)
 |refine Xw ?_
 |exact True.intro
 |(apply hκ.out;clear hκ κ))
  exact ⟨_, rfl, by rw [hT.out]⟩
/- Roads, in words: its programs. -/
set_option maxRecDepth 1000000
def tailT : Tx := [110, 40, 65, 44, 66, 41, 58, 45, 118, 40, 65, 41, 44, 118, 40, 66, 41, 44, 33, 112, 40, 65, 44, 66, 41, 46, 63, 112, 46, 63, 110, 46, 63, 112, 46]
def at2 (nt : Bool) (p a b : UInt8) : RAtom := ⟨nt, [p], [[a], [b]]⟩
def at1 (p a : UInt8) : RAtom := ⟨false, [p], [[a]]⟩
def oi (p : UInt8) : RItem := ⟨true, ⟨false, [p], []⟩, []⟩
def nR : RItem := ⟨false, at2 false 110 65 66, [at1 118 65, at1 118 66, at2 true 112 65 66]⟩
def tailI : List RItem := [nR, oi 112, oi 110, oi 112]
def itm0 : List RItem := [⟨false, at2 false 112 65 66, [at2 false 101 65 66]⟩, ⟨false, at2 false 112 65 66, [at2 false 101 65 67, at2 false 112 67 66]⟩]
def itm1 : List RItem := [⟨false, at2 false 112 88 89, [at2 false 112 88 90, at2 false 101 90 89]⟩, ⟨false, at2 false 112 88 89, [at2 false 101 88 89]⟩]
def itm2 : List RItem := [⟨false, at2 false 112 67 65, [at2 false 112 67 66, at2 false 112 66 65]⟩, ⟨false, at2 false 112 65 66, [at2 false 101 65 66]⟩]
def itm3 : List RItem := [⟨false, at2 false 112 65 66, [at2 false 101 65 66]⟩, ⟨false, at2 false 112 67 66, [at2 false 112 67 65, at2 false 112 65 66]⟩]
theorem par0 : pItems 16 (wayT0 ++ tailT) = .got (itm0 ++ tailI) [] := by kernel_rfl
theorem par1 : pItems 16 (wayT1 ++ tailT) = .got (itm1 ++ tailI) [] := by kernel_rfl
theorem par2 : pItems 16 (wayT2 ++ tailT) = .got (itm2 ++ tailI) [] := by kernel_rfl
theorem par3 : pItems 16 (wayT3 ++ tailT) = .got (itm3 ++ tailI) [] := by kernel_rfl
theorem chk0 : (refCheck (wayT0 ++ tailT)).1 = 0 := by kernel_rfl
theorem chk1 : (refCheck (wayT1 ++ tailT)).1 = 0 := by kernel_rfl
theorem chk2 : (refCheck (wayT2 ++ tailT)).1 = 0 := by kernel_rfl
theorem chk3 : (refCheck (wayT3 ++ tailT)).1 = 0 := by kernel_rfl
/- Roads, in words: its facts are read as they are written. -/
theorem dig_nat {d : Nat} (h : d ≤ 9) : (UInt8.ofNat (48 + d)).toNat = 48 + d := by
 rw [UInt8.toNat_ofNat']
 omega
theorem dig_digit {d : Nat} (h : d ≤ 9) : digitB (UInt8.ofNat (48 + d)).toNat = true := by
 rw [dig_nat h]; unfold digitB; simp; omega
theorem dig_large {d : Nat} (h : d ≤ 9) : largeB (UInt8.ofNat (48 + d)).toNat = false := by
 rw [dig_nat h]; unfold largeB; simp; omega
theorem dig_nine {d : Nat} (h : d ≤ 9) (h0 : 1 ≤ d) : nineB (UInt8.ofNat (48 + d)).toNat = true := by
 rw [dig_nat h]; unfold nineB; simp; omega
theorem itoa_gt (n : Int) (h0 : 0 ≤ n) (h1 : n ≤ 999) : GTm (Lib.itoa n) ∧ encT (Lib.itoa n) = (false, n) ∧ (Lib.itoa n).length ≤ 3 := by
 obtain ⟨m, rfl⟩ : ∃ m : Nat, n = (m : Int) := ⟨n.toNat, by omega⟩
 have hm : m ≤ 999 := by omega
 have e : Lib.itoa (m : Int) = Lib.decDigits m := by unfold Lib.itoa; rw [if_neg (by omega)]; rfl
 rw [e]
 by_cases a1 : m < 10
 ·have e1 : Lib.decDigits m = [UInt8.ofNat (48 + m)] := by rw [Lib.decDigits, dif_pos a1]
  rw [e1]
  refine ⟨?_, ?_, by simp⟩
  ·by_cases z : m = 0
   ·subst z; exact .inr (.inl rfl)
   ·exact .inr (.inr ⟨_, [], rfl, dig_nine (by omega) (by omega), by simp, by simp⟩)
  ·rw [encT_num (dig_large (by omega))]
   have := dig_nat (d := m) (by omega)
   simp [numV, this]; omega
 ·have e1 : Lib.decDigits m = Lib.decDigits (m / 10) ++ [UInt8.ofNat (48 + m % 10)] := by rw [Lib.decDigits, dif_neg a1]
  rw [e1]
  by_cases a2 : m / 10 < 10
  ·rw [Lib.decDigits, dif_pos a2]
   have d1 := dig_nat (d := m / 10) (by omega)
   have d2 := dig_nat (d := m % 10) (by omega)
   refine ⟨.inr (.inr ⟨_, _, rfl, dig_nine (by omega) (by omega), ?_, by simp⟩), ?_, by simp⟩
   ·intro c hc
    have hc' : c ∈ [UInt8.ofNat (48 + m % 10)] := hc
    rw [List.mem_singleton.1 hc']
    exact dig_digit (by omega)
   ·show encT (UInt8.ofNat (48 + m / 10) :: [UInt8.ofNat (48 + m % 10)]) = _
    rw [encT_num (dig_large (by omega))]
    simp [numV, d1, d2]; omega
  ·rw [Lib.decDigits, dif_neg a2, Lib.decDigits, dif_pos (by omega)]
   have d1 := dig_nat (d := m / 10 / 10) (by omega)
   have d2 := dig_nat (d := m / 10 % 10) (by omega)
   have d3 := dig_nat (d := m % 10) (by omega)
   refine ⟨.inr (.inr ⟨_, _, rfl, dig_nine (by omega) (by omega), ?_, by simp⟩), ?_, by simp⟩
   ·intro c hc
    have hc' : c ∈ [UInt8.ofNat (48 + m / 10 % 10), UInt8.ofNat (48 + m % 10)] := hc
    rcases List.mem_cons.1 hc' with hc | hc
    ·rw [hc]; exact dig_digit (by omega)
    ·rw [List.mem_singleton.1 hc]; exact dig_digit (by omega)
   ·show encT (UInt8.ofNat (48 + m / 10 / 10) :: [UInt8.ofNat (48 + m / 10 % 10), UInt8.ofNat (48 + m % 10)]) = _
    rw [encT_num (dig_large (by omega))]
    simp [numV, d1, d2, d3]; omega
def edA (base x : Int) : RAtom := ⟨false, [101], [numT base (pkI x 64 / 8), numT base (pkI x 64 % 8)]⟩
def vA (base a : Int) : RAtom := ⟨false, [118], [numT base a]⟩
def factsA (E : List Int) (base : Int) : List RAtom := (E.take 24).map (edA base) ++ ([7, 6, 5, 4, 3, 2, 1, 0] : List Int).map (vA base)
theorem numT_gt (base : Int) {a : Int} (h0 : 0 ≤ a) (h1 : a ≤ 7) : GTm (numT base a) ∧ encT (numT base a) = (false, plN base a) ∧ (numT base a).length ≤ 3 := by
 have := plN_rng base h0 h1
 exact itoa_gt _ this.1 (by omega)
theorem pk64 (x : Int) : 0 ≤ pkI x 64 / 8 ∧ pkI x 64 / 8 ≤ 7 ∧ 0 ≤ pkI x 64 % 8 ∧ pkI x 64 % 8 ≤ 7 := by
 have := pkI_rng x (n := 64) (by omega)
 omega
theorem gnm1 {c : UInt8} (h : smallB c.toNat = true) : GNm [c] := ⟨⟨by simp, fun b hb => by simp at hb; subst hb; exact h⟩, by simp⟩
theorem edA_ga (base x : Int) : GA' (edA base x) ∧ setA (edA base x) = true ∧ edT base x = uAtom (edA base x) ++ [46] := by
 obtain ⟨h1, h2, h3, h4⟩ := pk64 x
 obtain ⟨g1, e1, -⟩ := numT_gt base h1 h2
 obtain ⟨g2, e2, -⟩ := numT_gt base h3 h4
 refine ⟨⟨gnm1 (by decide), by simp [edA], by simp [edA], fun t ht => ?_⟩, ?_, ?_⟩
 ·simp [edA] at ht
  rcases ht with rfl | rfl
  ·exact g1
  ·exact g2
 ·simp [setA, edA, setl, e1, e2]
 ·simp [edT, pairT, uAtom, edA, uList, uMore]
theorem vA_ga (base : Int) {a : Int} (h0 : 0 ≤ a) (h1 : a ≤ 7) : GA' (vA base a) ∧ setA (vA base a) = true ∧ vT base a = uAtom (vA base a) ++ [46] := by
 obtain ⟨g1, e1, -⟩ := numT_gt base h0 h1
 refine ⟨⟨gnm1 (by decide), by simp [vA], by simp [vA], fun t ht => ?_⟩, ?_, ?_⟩
 ·simp [vA] at ht
  subst ht; exact g1
 ·simp [setA, vA, setl, e1]
 ·simp [vT, uAtom, vA, uList, uMore]
theorem pFact_of {a : RAtom} (h : GA' a) (hn : a.nt = false) (hs : setA a = true) (r : Tx) : pFact (uAtom a ++ 46 :: r) = .got a r := by
 unfold pFact
 have := pAtom_of h (46 :: r)
 rw [hn] at this
 rw [this, got_bnd, if_pos hs]
 rfl
theorem pFacts_of : ∀ (n : Nat) (F : List RAtom), (∀ a ∈ F, GA' a ∧ a.nt = false ∧ setA a = true) → F.length ≤ n → pFacts n (F.flatMap fun a => uAtom a ++ [46]) = .got F []
 | n, [], _, _ => by rw [List.flatMap_nil, pFacts_nil]
 | 0, a :: F, _, h => by simp at h
 | n + 1, a :: F, hF, h => by
  obtain ⟨g1, g2, g3⟩ := hF a (by simp)
  have ih := pFacts_of n F (fun b hb => hF b (by simp [hb])) (by simpa using h)
  rw [List.flatMap_cons]
  have e : (uAtom a ++ [46]) ++ F.flatMap (fun a => uAtom a ++ [46]) = uAtom a ++ 46 :: F.flatMap (fun a => uAtom a ++ [46]) := by simp
  rw [e]
  have hc : ∃ b r, uAtom a ++ 46 :: F.flatMap (fun a => uAtom a ++ [46]) = b :: r := by
   cases hh : uAtom a ++ 46 :: F.flatMap (fun a => uAtom a ++ [46]) with
   | nil => simp at hh
   | cons b r => exact ⟨b, r, rfl⟩
  have hp := pFact_of g1 g2 g3 (F.flatMap fun a => uAtom a ++ [46])
  obtain ⟨b, r, hbr⟩ := hc
  rw [hbr] at hp ⊢
  rw [pFacts_succ, hp, got_bnd, ih]
  rfl
theorem facts_parse (E : List Int) (base : Int) : pFacts 400 (factsT E base) = .got (factsA E base) [] ∧ (factsT E base).length ≤ 400 := by
 have e : factsT E base = (factsA E base).flatMap fun a => uAtom a ++ [46] := by
  unfold factsT factsA
  rw [List.flatMap_append, List.flatMap_map, List.flatMap_map]
  congr 1
  ·congr 1; funext x; exact (edA_ga base x).2.2
  ·have hv : ∀ a : Int, 0 ≤ a → a ≤ 7 → vT base a = uAtom (vA base a) ++ [46] := fun a h0 h1 => (vA_ga base h0 h1).2.2
   simp only [List.flatMap_cons, List.flatMap_nil]
   rw [hv 7 (by omega) (by omega), hv 6 (by omega) (by omega), hv 5 (by omega) (by omega), hv 4 (by omega) (by omega), hv 3 (by omega) (by omega), hv 2 (by omega) (by omega), hv 1 (by omega) (by omega), hv 0 (by omega) (by omega)]
 have hl : (factsA E base).length ≤ 32 := by simp [factsA]; omega
 refine ⟨?_, ?_⟩
 ·rw [e]
  refine pFacts_of 400 _ (fun a ha => ?_) (by omega)
  unfold factsA at ha
  rcases List.mem_append.1 ha with h | h
  ·obtain ⟨x, -, rfl⟩ := List.mem_map.1 h
   exact ⟨(edA_ga base x).1, rfl, (edA_ga base x).2.1⟩
  ·obtain ⟨b, hb, rfl⟩ := List.mem_map.1 h
   have hbr : 0 ≤ b ∧ b ≤ 7 := by simp at hb; omega
   exact ⟨(vA_ga base hbr.1 hbr.2).1, rfl, (vA_ga base hbr.1 hbr.2).2.1⟩
 ·unfold factsT
  rw [List.length_append]
  have h1 : ∀ l : List Int, (l.flatMap (edT base)).length ≤ l.length * 11 := fun l => by
   induction l with
   | nil => simp
   | cons x l ih =>
    obtain ⟨p1, p2, p3, p4⟩ := pk64 x
    have q1 := (numT_gt base p1 p2).2.2
    have q2 := (numT_gt base p3 p4).2.2
    rw [List.flatMap_cons, List.length_append, List.length_cons, Nat.succ_mul]
    have : (edT base x).length ≤ 11 := by simp [edT, pairT]; omega
    omega
  have h2 := h1 (E.take 24)
  have h3 : (E.take 24).length ≤ 24 := by simp; omega
  have v : ∀ a : Int, 0 ≤ a → a ≤ 7 → (vT base a).length ≤ 7 := fun a ha hb => by
   have := (numT_gt base ha hb).2.2
   simp [vT]; omega
  have v7 := v 7 (by omega) (by omega)
  have v6 := v 6 (by omega) (by omega)
  have v5 := v 5 (by omega) (by omega)
  have v4 := v 4 (by omega) (by omega)
  have v3 := v 3 (by omega) (by omega)
  have v2 := v 2 (by omega) (by omega)
  have v1 := v 1 (by omega) (by omega)
  have v0 := v 0 (by omega) (by omega)
  simp only [List.flatMap_cons, List.flatMap_nil, List.length_append, List.length_nil]
  omega
/- Roads, in words: what follows from its programs. -/
def t2 (x y : Int) : Tup := tupOf [x, y]
def t1 (x : Int) : Tup := tupOf [x]
theorem t2_inj {x y x' y' : Int} (h : t2 x y = t2 x' y') : x = x' ∧ y = y' := by
 simp only [t2, tupOf] at h
 simp at h
 exact h
theorem t1_inj {x x' : Int} (h : t1 x = t1 x') : x = x' := by
 simp only [t1, tupOf] at h
 simp at h
 exact h
section
variable {N : List Tx} {Ng B D : Dset}
theorem sub_at2 (nt : Bool) (p x y : UInt8) {i j : Int} (hx : encT [x] = (true, i)) (hy : encT [y] = (true, j)) (ν : Nu) : esub (atmP N (at2 nt p x y)) ν = t2 (ν i) (ν j) := by
 simp [esub, atmP, at2, hx, hy, valN, t2]
theorem sub_at1 (p x : UInt8) {i : Int} (hx : encT [x] = (true, i)) (ν : Nu) : esub (atmP N (at1 p x)) ν = t1 (ν i) := by
 simp [esub, atmP, at1, hx, valN, t1]
theorem lit_pos (p x y : UInt8) {i j : Int} (hx : encT [x] = (true, i)) (hy : encT [y] = (true, j)) (ν : Nu) : LitH Ng D ν (litP N (at2 false p x y)) ↔ D (N.idxOf [p]) (t2 (ν i) (ν j)) := by
 have h := sub_at2 (N := N) false p x y hx hy ν
 unfold LitH litP
 simp only [at2, Bool.false_eq_true, if_false] at h ⊢
 rw [h]; rfl
theorem lit_neg (p x y : UInt8) {i j : Int} (hx : encT [x] = (true, i)) (hy : encT [y] = (true, j)) (ν : Nu) : LitH Ng D ν (litP N (at2 true p x y)) ↔ ¬ Ng (N.idxOf [p]) (t2 (ν i) (ν j)) := by
 have h := sub_at2 (N := N) true p x y hx hy ν
 unfold LitH litP
 simp only [at2, if_true] at h ⊢
 rw [h]; rfl
theorem lit_one (p x : UInt8) {i : Int} (hx : encT [x] = (true, i)) (ν : Nu) : LitH Ng D ν (litP N (at1 p x)) ↔ D (N.idxOf [p]) (t1 (ν i)) := by
 have h := sub_at1 (N := N) p x hx ν
 unfold LitH litP
 simp only [at1, Bool.false_eq_true, if_false] at h ⊢
 rw [h]; rfl
theorem rule_one (hp hx hy bp bx b_ : UInt8) {i j k l : Int} (e1 : encT [hx] = (true, i)) (e2 : encT [hy] = (true, j)) (e3 : encT [bx] = (true, k)) (e4 : encT [b_] = (true, l)) :
  ClG ([⟨false, at2 false hp hx hy, [at2 false bp bx b_]⟩].map (rulP N)) B D ↔ ∀ ν : Nu, D (N.idxOf [bp]) (t2 (ν k) (ν l)) → D (N.idxOf [hp]) (t2 (ν i) (ν j)) := by
 unfold ClG
 simp only [List.map_cons, List.map_nil, List.mem_singleton, forall_eq]
 apply forall_congr'
 intro ν
 simp only [rulP, List.map_cons, List.map_nil, List.mem_singleton, forall_eq]
 rw [lit_pos bp bx b_ e3 e4 ν, sub_at2 false hp hx hy e1 e2 ν]
 rfl
theorem rule_two (hp hx hy bp bx b_ cp cx cy : UInt8) {i j k l m n : Int} (e1 : encT [hx] = (true, i)) (e2 : encT [hy] = (true, j)) (e3 : encT [bx] = (true, k)) (e4 : encT [b_] = (true, l)) (e5 : encT [cx] = (true, m)) (e6 : encT [cy] = (true, n)) :
  ClG ([⟨false, at2 false hp hx hy, [at2 false bp bx b_, at2 false cp cx cy]⟩].map (rulP N)) B D ↔ ∀ ν : Nu, D (N.idxOf [bp]) (t2 (ν k) (ν l)) → D (N.idxOf [cp]) (t2 (ν m) (ν n)) → D (N.idxOf [hp]) (t2 (ν i) (ν j)) := by
 unfold ClG
 simp only [List.map_cons, List.map_nil, List.mem_singleton, forall_eq]
 apply forall_congr'
 intro ν
 simp only [rulP, List.map_cons, List.map_nil, List.mem_cons, List.not_mem_nil, or_false, forall_eq_or_imp, forall_eq]
 rw [lit_pos bp bx b_ e3 e4 ν, lit_pos cp cx cy e5 e6 ν, sub_at2 false hp hx hy e1 e2 ν, and_imp]
 rfl
theorem clG_two {a b : RItem} : ClG ([a, b].map (rulP N)) B D ↔ ClG ([a].map (rulP N)) B D ∧ ClG ([b].map (rulP N)) B D := by
 unfold ClG
 simp only [List.map_cons, List.map_nil, List.mem_cons, List.not_mem_nil, or_false, forall_eq_or_imp, forall_eq]
def stepK (k : Int) (N : List Tx) (D : Dset) : Prop :=
 (∀ x y, D (N.idxOf [101]) (t2 x y) → D (N.idxOf [112]) (t2 x y)) ∧
 ∀ x y z, (if k = 1 then D (N.idxOf [112]) (t2 x z) else if k = 0 then D (N.idxOf [101]) (t2 x z) else D (N.idxOf [112]) (t2 x z)) → (if k = 1 then D (N.idxOf [101]) (t2 z y) else D (N.idxOf [112]) (t2 z y)) → D (N.idxOf [112]) (t2 x y)
def nu3 (a b c : Int) (x y z : Int) : Nu := fun v => if v = a then x else if v = b then y else z
theorem step0 : ClG (itm0.map (rulP N)) B D ↔ stepK 0 N D := by
 unfold itm0 stepK
 rw [clG_two, rule_one 112 65 66 101 65 66 (i := 0) (j := 1) (k := 0) (l := 1) rfl rfl rfl rfl, rule_two 112 65 66 101 65 67 112 67 66 (i := 0) (j := 1) (k := 0) (l := 2) (m := 2) (n := 1) rfl rfl rfl rfl rfl rfl]
 refine and_congr ⟨fun h x y => h (nu3 0 1 2 x y 0), fun h ν => h _ _⟩ ⟨fun h x y z => h (nu3 0 1 2 x y z), fun h ν => h _ _ _⟩
theorem step1 : ClG (itm1.map (rulP N)) B D ↔ stepK 1 N D := by
 unfold itm1 stepK
 rw [clG_two, and_comm, rule_one 112 88 89 101 88 89 (i := 23) (j := 24) (k := 23) (l := 24) rfl rfl rfl rfl, rule_two 112 88 89 112 88 90 101 90 89 (i := 23) (j := 24) (k := 23) (l := 25) (m := 25) (n := 24) rfl rfl rfl rfl rfl rfl]
 refine and_congr ⟨fun h x y => h (nu3 23 24 25 x y 0), fun h ν => h _ _⟩ ⟨fun h x y z => h (nu3 23 24 25 x y z), fun h ν => h _ _ _⟩
theorem step2 : ClG (itm2.map (rulP N)) B D ↔ stepK 2 N D := by
 unfold itm2 stepK
 rw [clG_two, and_comm, rule_one 112 65 66 101 65 66 (i := 0) (j := 1) (k := 0) (l := 1) rfl rfl rfl rfl, rule_two 112 67 65 112 67 66 112 66 65 (i := 2) (j := 0) (k := 2) (l := 1) (m := 1) (n := 0) rfl rfl rfl rfl rfl rfl]
 refine and_congr ⟨fun h x y => h (nu3 0 1 2 x y 0), fun h ν => h _ _⟩ ⟨fun h x y z => h (nu3 2 0 1 x y z), fun h ν => h _ _ _⟩
theorem step3 : ClG (itm3.map (rulP N)) B D ↔ stepK 3 N D := by
 unfold itm3 stepK
 rw [clG_two, rule_one 112 65 66 101 65 66 (i := 0) (j := 1) (k := 0) (l := 1) rfl rfl rfl rfl, rule_two 112 67 66 112 67 65 112 65 66 (i := 2) (j := 1) (k := 2) (l := 0) (m := 0) (n := 1) rfl rfl rfl rfl rfl rfl]
 refine and_congr ⟨fun h x y => h (nu3 0 1 2 x y 0), fun h ν => h _ _⟩ ⟨fun h x y z => h (nu3 2 1 0 x y z), fun h ν => h _ _ _⟩
theorem stepN : ClG ([nR].map (rulP N)) B D ↔ ∀ x y, D (N.idxOf [118]) (t1 x) → D (N.idxOf [118]) (t1 y) → ¬ B (N.idxOf [112]) (t2 x y) → D (N.idxOf [110]) (t2 x y) := by
 unfold ClG
 simp only [List.map_cons, List.map_nil, List.mem_singleton, forall_eq]
 simp only [rulP, nR, List.map_cons, List.map_nil, List.mem_cons, List.not_mem_nil, or_false, forall_eq_or_imp, forall_eq]
 constructor
 ·intro h x y h1 h2 h3
  have := h (nu3 0 1 2 x y 0)
  rw [lit_one 118 65 (i := 0) rfl, lit_one 118 66 (i := 1) rfl, lit_neg 112 65 66 (i := 0) (j := 1) rfl rfl, sub_at2 false 110 65 66 (i := 0) (j := 1) rfl rfl] at this
  exact this ⟨h1, h2, h3⟩
 ·intro h ν
  rw [lit_one 118 65 (i := 0) rfl, lit_one 118 66 (i := 1) rfl, lit_neg 112 65 66 (i := 0) (j := 1) rfl rfl, sub_at2 false 110 65 66 (i := 0) (j := 1) rfl rfl]
  rintro ⟨h1, h2, h3⟩
  exact h _ _ h1 h2 h3
end
structure PrgK (t : Tx) (R : List RItem) (k : Int) : Prop where
 par : pItems 16 t = .got (R ++ tailI) []
 chk : (refCheck t).1 = 0
 len : t.length ≤ 600
 rl0 : RulS (R ++ tailI) 0 = R
 rl1 : RulS (R ++ tailI) 1 = [nR]
 rl2 : RulS (R ++ tailI) 2 = [] ∧ RulS (R ++ tailI) 3 = [] ∧ RulS (R ++ tailI) 4 = [] ∧ RulS (R ++ tailI) 5 = [] ∧ RulS (R ++ tailI) 6 = []
 l6 : (R ++ tailI).length = 6
 two : R.length = 2 ∧ ∀ x ∈ R, x.out = false ∧ x.head.pred = [112]
 stp : ∀ (N : List Tx) (B D : Dset), ClG (R.map (rulP N)) B D ↔ stepK k N D
 ats : ∀ a ∈ (R ++ tailI).flatMap atomsL, a.terms.length = (if a.pred = [118] then 1 else 2)
 nms : ∀ y ∈ R ++ tailI, (y.head.pred = [112] ∨ y.head.pred = [110]) ∧ ∀ a ∈ y.body, a.pred = [112] ∨ a.pred = [101] ∨ a.pred = [118]
 edg : ∃ y ∈ R, ∃ a ∈ y.body, a.pred = [101]
theorem prg0 : PrgK (wayT0 ++ tailT) itm0 0 := ⟨par0, chk0, by decide, by kernel_rfl, by kernel_rfl, ⟨by kernel_rfl, by kernel_rfl, by kernel_rfl, by kernel_rfl, by kernel_rfl⟩, rfl, by decide, fun N B D => step0, by decide, by decide, by decide⟩
theorem prg1 : PrgK (wayT1 ++ tailT) itm1 1 := ⟨par1, chk1, by decide, by kernel_rfl, by kernel_rfl, ⟨by kernel_rfl, by kernel_rfl, by kernel_rfl, by kernel_rfl, by kernel_rfl⟩, rfl, by decide, fun N B D => step1, by decide, by decide, by decide⟩
theorem prg2 : PrgK (wayT2 ++ tailT) itm2 2 := ⟨par2, chk2, by decide, by kernel_rfl, by kernel_rfl, ⟨by kernel_rfl, by kernel_rfl, by kernel_rfl, by kernel_rfl, by kernel_rfl⟩, rfl, by decide, fun N B D => step2, by decide, by decide, by decide⟩
theorem prg3 : PrgK (wayT3 ++ tailT) itm3 3 := ⟨par3, chk3, by decide, by kernel_rfl, by kernel_rfl, ⟨by kernel_rfl, by kernel_rfl, by kernel_rfl, by kernel_rfl, by kernel_rfl⟩, rfl, by decide, fun N B D => step3, by decide, by decide, by decide⟩
end Go.Proofs.YtmoeoppbmhfbpaaGreatDoorE
