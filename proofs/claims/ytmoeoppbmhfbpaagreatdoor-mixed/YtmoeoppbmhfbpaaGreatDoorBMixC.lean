import Derived.Test.YtmoeoppbmhfbpaaGreatDoorBMixA
import Derived.Test.YtmoeoppbmhfbpaaGreatDoorBRunB
import Derived.Test.YtmoeoppbmhfbpaaGreatDoorBTxtB
/- Mixed, in words: what is right stays right. -/
namespace Go.Proofs.YtmoeoppbmhfbpaaGreatDoorB
open Go.Abs
set_option linter.unusedSimpArgs false
set_option linter.unusedVariables false
set_option maxRecDepth 100000
theorem refc_le (t : Tx) : (refCheck t).1 ≤ 5 := by
 unfold refCheck
 split
 ·simp
 split
 ·simp
 unfold wrongM
 split
 ·simp
 split
 ·simp
 split
 ·simp
 ·simp
theorem facE_in (l : List RItem) (f : Tx) : facE l f = 7 ∨ facE l f = 3 ∨ facE l f = 8 ∨ facE l f = 0 := by
 unfold facE
 split
 ·exact .inl rfl
 split
 ·exact .inr (.inl rfl)
 split
 ·exact .inr (.inr (.inl rfl))
 ·exact .inr (.inr (.inr rfl))
structure RunK (t f : Tx) (n : Int) (l : List RItem) (F : List RAtom) : Prop where
 tl : t.length ≤ 600
 fl : f.length ≤ 400
 ck : (refCheck t).1 = 0
 n0 : 0 ≤ n
 n1 : n ≤ 200
 par : pItems 16 t = .got l []
 fac : pFacts 400 f = .got F []
 fe : facE l f = 0
section
variable {t f x : Tx} {n k e : Int} {l : List RItem} {F : List RAtom}
theorem run_ok (h : RunP t f n x k e) : (e ≠ 0 ∧ e ≠ 9 ∧ x = [] ∧ k = 0) ∨ ∃ l F, RunK t f n l F ∧ RunM l F n x k e := by
 unfold RunP at h
 split at h
 ·obtain ⟨rfl, rfl, rfl⟩ := h
  exact .inl ⟨by decide, by decide, rfl, rfl⟩
 rename_i h1
 split at h
 ·rename_i h2
  obtain ⟨rfl, rfl, rfl⟩ := h
  have := refc_le t
  exact .inl ⟨h2, by omega, rfl, rfl⟩
 rename_i h2
 split at h
 ·obtain ⟨rfl, rfl, rfl⟩ := h
  exact .inl ⟨by decide, by decide, rfl, rfl⟩
 rename_i h3
 obtain ⟨l, hl, h⟩ := h
 split at h
 ·rename_i h4
  obtain ⟨rfl, rfl, rfl⟩ := h
  have := facE_in l f
  exact .inl ⟨h4, by omega, rfl, rfl⟩
 rename_i h4
 obtain ⟨F, hF, h⟩ := h
 exact .inr ⟨l, F, ⟨by omega, by omega, by omega, by omega, by omega, hl, hF, by omega⟩, h⟩
theorem run_in (hK : RunK t f n l F) (h : RunP t f n x k e) : RunM l F n x k e := by
 have h1 := hK.tl
 have h2 := hK.fl
 have h3 := hK.n0
 have h4 := hK.n1
 have h5 := hK.ck
 unfold RunP at h
 rw [if_neg (by omega), if_neg (by omega), if_neg (by omega)] at h
 obtain ⟨l', hl, h⟩ := h
 rw [hK.par] at hl
 cases hl
 rw [if_neg (by rw [hK.fe]; decide)] at h
 obtain ⟨F', hF, h⟩ := h
 rw [hK.fac] at hF
 cases hF
 exact h
theorem rk_rti (hK : RunK t f n l F) : RtI l := rti_of (wrong_of hK.ck hK.par).2
theorem rk_rgt (hK : RunK t f n l F) : Rgt l := by
 have ho : OutN l := fun x hx ho => (((pItems_gi _ _ _ _ hK.par) x hx).out ho).2.2
 exact ⟨ho, loose_of ho (rk_rti hK).kn, (pItems_took _ _ _ _ hK.par).2.2.1⟩
theorem consS_sub {S S' : List RAtom} (h : consS S) (hs : ∀ a ∈ S', a ∈ S) : consS S' :=
 consS_of (f := fun p => if cntL S p = 0 then 1 else cntL S p) (fun p => by split <;> omega) (fun a ha => by
  have := h a (hs a ha)
  rw [if_neg (by omega)]; exact this.2)
theorem rk_cons (hK : RunK t f n l F) : consS (l.flatMap atomsL ++ F) := by
 have hg := pItems_gi _ _ _ _ hK.par
 have h1 : consS (l.flatMap atomsL) := cons_right (rk_rti hK).odd (fun x hx a ha => by
  unfold atomsL at ha
  rcases List.mem_append.1 ha with h | h
  ·cases ho : x.out with
   | true => rw [ho] at h; simp at h
   | false =>
    rw [ho] at h
    simp at h
    rw [h]
    exact List.length_pos_iff.2 ((hg x hx).rule ho).1.ne
  ·cases ho : x.out with
   | true => rw [((hg x hx).out ho).2.2] at h; cases h
   | false => exact List.length_pos_iff.2 (((hg x hx).rule ho).2.2.2 a h).ne)
 have hfe := hK.fe
 unfold facE at hfe
 rw [hK.fac] at hfe
 simp only at hfe
 refine cons_facts h1 (fun a ha => List.length_pos_iff.2 ((pFacts_took _ _ _ _ hK.fac).2.2.2 a ha).1.2.1) ?_
 split at hfe
 ·cases hfe
 ·rename_i h; simpa using h
theorem rk_unruled (hK : RunK t f n l F) : ∀ a ∈ F, rulT l a.pred = false := by
 have hfe := hK.fe
 unfold facE at hfe
 rw [hK.fac] at hfe
 simp only at hfe
 split at hfe
 ·cases hfe
 split at hfe
 ·cases hfe
 rename_i h
 simp only [Bool.not_eq_true] at h
 intro a ha
 have := List.any_eq_false.1 h a ha
 simpa using this
theorem odd_cons {l : List RItem} (h : consS (l.flatMap atomsL)) (i : Nat) : oddP l i = false := by
 unfold oddP
 cases hx : l[i]? with
 | none => rfl
 | some x =>
  simp only
  rw [List.any_eq_false]
  intro j _
  unfold oddAt
  cases ha : (atomsL x)[j]? with
  | none => simp
  | some a =>
   simp only [Bool.not_eq_true]
   rw [List.any_eq_false]
   intro b hb
   have hxm := List.mem_of_getElem? hx
   have hbm : b ∈ l.flatMap atomsL := by
    rcases List.mem_append.1 hb with hb | hb
    ·obtain ⟨y, hy, hby⟩ := List.mem_flatMap.1 hb
     exact List.mem_flatMap.2 ⟨y, List.mem_of_mem_take hy, hby⟩
    ·exact List.mem_flatMap.2 ⟨x, hxm, List.mem_of_mem_take hb⟩
   rw [cons_clash h (List.mem_flatMap.2 ⟨x, hxm, List.mem_of_getElem? ha⟩) hbm]
   simp
theorem knot_of {l : List RItem} (ho : OutN l) (hL : Loose l) (i : Nat) : knotP l i = false := by
 unfold knotP
 cases hx : l[i]? with
 | none => rfl
 | some x =>
  simp only
  have hxm := List.mem_of_getElem? hx
  rw [List.any_eq_false]
  intro a ha hb
  unfold badK at hb
  simp only [Bool.and_eq_true, Bool.or_eq_true, beq_iff_eq] at hb
  refine hL x hxm a ha hb.1 ?_
  rcases hb.2 with h | h
  ·exact .inl h
  ·exact .inr ((usesB_iff ho ⟨x, hxm, bodR ho hxm ha, rfl⟩).1 h)
theorem rk_new {t' f' : Tx} {l' : List RItem} {F' : List RAtom} (hK : RunK t f n l F) (tl : t'.length ≤ 600) (fl : f'.length ≤ 400) (hp : pItems 16 t' = .got l' []) (hf : pFacts 400 f' = .got F' []) (hS : SmR l l') (hF : ∀ a ∈ F', a ∈ F) : RunK t' f' n l' F' := by
 have hr := rk_rgt hK
 have ho' : OutN l' := fun x hx ho => (((pItems_gi _ _ _ _ hp) x hx).out ho).2.2
 have hat : ∀ a ∈ l'.flatMap atomsL, a ∈ l.flatMap atomsL := fun a ha => by
  obtain ⟨x, hx, hax⟩ := List.mem_flatMap.1 ha
  cases ho : x.out with
  | false => exact List.mem_flatMap.2 ⟨x, (hS x ho).2 hx, hax⟩
  | true =>
   unfold atomsL at hax
   rw [ho, ho' x hx ho] at hax
   simp at hax
 have hc := rk_cons hK
 have hc' : consS (l'.flatMap atomsL ++ F') := consS_sub hc (fun a ha => by
  rcases List.mem_append.1 ha with h | h
  ·exact List.mem_append.2 (.inl (hat a h))
  ·exact List.mem_append.2 (.inr (hF a h)))
 have hw : wrongM l' = (0, 0) := by
  unfold wrongM
  rw [if_neg (by rw [firstN_none fun i _ => odd_cons (consS_sub hc' (fun a ha => List.mem_append.2 (.inl ha))) i]; decide), if_neg (by
   rw [firstN_none fun i hi => ?_]
   ·decide
   ·unfold unsafeP
    rw [List.getElem?_eq_getElem hi]
    simp only
    have hx := List.getElem_mem hi
    generalize l'[i] = x at hx
    cases ho : x.out with
    | false => rw [(rk_rti hK).saf x ((hS x ho).2 hx)]; rfl
    | true =>
     unfold safeB atomsL
     rw [ho, ho' x hx ho]; rfl), if_neg (by rw [firstN_none fun i _ => knot_of ho' (loose_sub ho' hS hr.loo) i]; decide)]
 refine ⟨tl, fl, ?_, hK.n0, hK.n1, hp, hf, ?_⟩
 ·have hpl : placeL t' = -1 := by rw [placeL_parse, hp]
  unfold refCheck
  rw [if_neg (by omega), if_neg (by rw [hpl]; decide), (parse_good (by omega) hp).2.1, hw]
 ·unfold facE
  rw [hf]
  have h1 := oth_of hc'
  have h2 : F'.any (fun a => rulT l' a.pred) = false := by
   rw [List.any_eq_false]
   intro a ha hr'
   have := rk_unruled hK a (hF a ha)
   unfold rulT at this hr'
   rw [List.any_eq_true] at hr'
   obtain ⟨y, hy, hyc⟩ := hr'
   simp only [Bool.and_eq_true, Bool.not_eq_true'] at hyc
   have := List.any_eq_false.1 this y ((hS y hyc.1).2 hy)
   simp only [Bool.and_eq_true, Bool.not_eq_true', not_and] at this
   exact this hyc.1 hyc.2
  simp only [h1, h2, Bool.false_eq_true, if_false]
end
/-! ### the texts -/
theorem outB_item {x : RItem} (h : WItem x) : outB (uItem x ++ [46]) = x.out := by
 unfold outB uItem
 cases ho : x.out with
 | true => simp
 | false =>
  have hn := (h.2.2 ho).1.1
  unfold uRule uAtom
  obtain ⟨hne, hs⟩ := hn
  cases hp : x.head.pred with
  | nil => exact absurd hp hne
  | cons c r =>
   have hc := hs c (by rw [hp]; simp)
   have : c ≠ 63 := by rintro rfl; revert hc; decide
   simp [this]
def turL (t : Tx) : Tx := match pcsL t with
 | [] => t
 | p :: P => if outB p = true then t else P.flatten ++ p
theorem uItems_app (l m : List RItem) : uItems (l ++ m) = uItems l ++ uItems m := List.flatMap_append
theorem tur_is {t : Tx} {l : List RItem} (hp : pItems 16 t = .got l []) : ∃ l', pItems 16 (turL t) = .got l' [] ∧ SmR l l' ∧ (l'.filter fun x => x.out) = (l.filter fun x => x.out) ∧ (turL t).length = t.length ∧ ∀ y ∈ l', y ∈ l := by
 obtain ⟨ht, -, hl, hw⟩ := pItems_took _ _ _ _ hp
 have hg := pItems_gi _ _ _ _ hp
 have hpc := pcs_items hw
 rw [← ht] at hpc
 cases l with
 | nil =>
  have e : turL t = t := by unfold turL; rw [hpc]; rfl
  rw [e]
  exact ⟨[], hp, fun x _ => Iff.rfl, rfl, rfl, fun y hy => hy⟩
 | cons x m =>
  rw [List.map_cons] at hpc
  by_cases ho : x.out = true
  ·have e : turL t = t := by unfold turL; rw [hpc]; simp only; rw [if_pos (by rw [outB_item (hw x (by simp))]; exact ho)]
   rw [e]
   exact ⟨_, hp, fun x _ => Iff.rfl, rfl, rfl, fun y hy => hy⟩
  ·have e : turL t = uItems (m ++ [x]) := by
    unfold turL
    rw [hpc]
    simp only
    rw [if_neg (by rw [outB_item (hw x (by simp))]; exact ho), uItems_app]
    simp [uItems, List.flatMap]
   have hm : ∀ y, y ∈ m ++ [x] ↔ y ∈ x :: m := fun y => by simp [or_comm]
   refine ⟨m ++ [x], ?_, fun y _ => (hm y).symm, ?_, ?_, fun y hy => (hm y).1 hy⟩
   ·rw [e]
    exact pItems_of 16 _ (fun y hy => hg y ((hm y).1 hy)) (by simp at hl ⊢; omega)
   ·have : x.out = false := by simpa using ho
    simp [this]
   ·rw [e, ht, uItems_app, List.length_append]
    simp [uItems]; omega
theorem pc_dots : ∀ (Q : List Tx) (d : List Tx), (∀ q ∈ Q, 46 ∉ q) → (Q.flatMap fun q => q ++ [46]).foldl pcF (d, []) = (d ++ Q.map (fun q => q ++ [46]), [])
 | [], d, _ => by simp
 | q :: Q, d, h => by
  rw [List.flatMap_cons, List.foldl_append, List.foldl_append, pc_run q d [] (h q (by simp))]
  have : ([46] : Tx).foldl pcF (d, [] ++ q) = (d ++ [q ++ [46]], []) := by simp [pcF]
  rw [this, pc_dots Q _ (fun r hr => h r (by simp [hr]))]
  simp
theorem pcs_dots {Q : List Tx} (h : ∀ q ∈ Q, 46 ∉ q) : pcsL (Q.flatMap fun q => q ++ [46]) = Q.map fun q => q ++ [46] := by
 unfold pcsL
 rw [pc_dots Q [] h]
 simp
theorem fact_dot {a : RAtom} (h : WAtom a) : 46 ∉ uAtom a := fun hb => by
 rcases uAtom_mem h hb with h | h | h | h
 ·exact wd_ne h (by simp)
 all_goals exact absurd h (by decide)
def fctT (F : List RAtom) : Tx := F.flatMap fun a => uAtom a ++ [46]
theorem fct_map (F : List RAtom) : fctT F = (F.map uAtom).flatMap fun q => q ++ [46] := by unfold fctT; rw [List.flatMap_map]
theorem fct_pcs {F : List RAtom} (h : ∀ a ∈ F, WAtom a) : pcsL (fctT F) = F.map fun a => uAtom a ++ [46] := by
 rw [fct_map, pcs_dots (fun q hq => by obtain ⟨a, ha, rfl⟩ := List.mem_map.1 hq; exact fact_dot (h a ha)), List.map_map]
 rfl
theorem pFacts_ga : ∀ (n : Nat) (s : Tx) (F : List RAtom) (r : Tx), pFacts n s = .got F r → ∀ a ∈ F, GA' a
 | n, [], F, r, h => by
  rw [pFacts_nil] at h
  cases h
  simp
 | 0, b :: s, F, r, h => by cases h
 | n + 1, b :: s, F, r, h => by
  rw [pFacts_succ] at h
  obtain ⟨x, r1, h1, h⟩ := bnd_got h
  obtain ⟨xs, r2, h2, h⟩ := bnd_got h
  cases h
  intro a ha
  rcases List.mem_cons.1 ha with rfl | ha
  ·unfold pFact at h1
   obtain ⟨a2, r3, h3, h1⟩ := bnd_got h1
   split at h1
   ·obtain ⟨u, r4, h4, h1⟩ := bnd_got h1
    cases h1
    exact pAtom_ga h3
   ·cases h1
  ·exact pFacts_ga n r1 xs r h2 a ha
def shuL (f : Tx) (k : Int) : Tx := match pcsL f with
 | [] => f
 | p :: P => if (((p :: P).drop (pkI k ((p :: P).length : Int)).toNat).flatten ++ ((p :: P).take (pkI k ((p :: P).length : Int)).toNat).flatten).length + p.length ≤ 400 then (((p :: P).drop (pkI k ((p :: P).length : Int)).toNat).flatten ++ ((p :: P).take (pkI k ((p :: P).length : Int)).toNat).flatten) ++ p else ((p :: P).drop (pkI k ((p :: P).length : Int)).toNat).flatten ++ ((p :: P).take (pkI k ((p :: P).length : Int)).toNat).flatten
theorem fct_len (F : List RAtom) : F.length ≤ (fctT F).length := by
 unfold fctT
 induction F with
 | nil => simp
 | cons a F ih => rw [List.flatMap_cons, List.length_append, List.length_cons, List.length_append, List.length_singleton]; omega
theorem shu_is {f : Tx} {F : List RAtom} (hf : pFacts 400 f = .got F []) (hl : f.length ≤ 400) (k : Int) : ∃ F', pFacts 400 (shuL f k) = .got F' [] ∧ (∀ a, a ∈ F ↔ a ∈ F') ∧ (shuL f k).length ≤ 400 := by
 obtain ⟨-, -, ht, hw⟩ := pFacts_took _ _ _ _ hf
 have hg := pFacts_ga _ _ _ _ hf
 have hpc := fct_pcs (fun a ha => (hw a ha).1)
 have ht' : f = fctT F := ht
 rw [← ht'] at hpc
 cases F with
 | nil =>
  have e : shuL f k = f := by unfold shuL; rw [hpc]; rfl
  rw [e]
  exact ⟨[], hf, fun a => Iff.rfl, hl⟩
 | cons a F =>
  have hread : ∀ F' : List RAtom, (∀ b ∈ F', b ∈ a :: F) → (fctT F').length ≤ 400 → pFacts 400 (fctT F') = .got F' [] := fun F' h1 h2 => by
   have := fct_len F'
   exact pFacts_of 400 F' (fun b hb => ⟨hg b (h1 b hb), (hw b (h1 b hb)).2.1, (hw b (h1 b hb)).2.2⟩) (by omega)
  generalize hat : (pkI k (((a :: F).map fun a => uAtom a ++ [46]).length : Int)).toNat = i
  have hrot : ((((a :: F).map fun a => uAtom a ++ [46]).drop i).flatten ++ (((a :: F).map fun a => uAtom a ++ [46]).take i).flatten) = fctT ((a :: F).drop i ++ (a :: F).take i) := by
   unfold fctT
   rw [List.flatMap_append, ← List.map_drop, ← List.map_take]
   simp only [List.flatMap]
  have hlen : (fctT ((a :: F).drop i ++ (a :: F).take i)).length = f.length := by
   rw [ht']
   have : fctT (a :: F) = fctT ((a :: F).take i) ++ fctT ((a :: F).drop i) := by
    unfold fctT
    rw [← List.flatMap_append, List.take_append_drop]
   rw [this]
   unfold fctT
   rw [List.flatMap_append, List.length_append, List.length_append]; omega
  have hmem : ∀ b, b ∈ a :: F ↔ b ∈ (a :: F).drop i ++ (a :: F).take i := fun b => by
   rw [List.mem_append, or_comm, ← List.mem_append, List.take_append_drop]
  have e : shuL f k = if (fctT ((a :: F).drop i ++ (a :: F).take i)).length + (uAtom a ++ [46]).length ≤ 400 then fctT ((a :: F).drop i ++ (a :: F).take i) ++ (uAtom a ++ [46]) else fctT ((a :: F).drop i ++ (a :: F).take i) := by
   unfold shuL
   rw [hpc]
   simp only [List.map_cons] at hat hrot ⊢
   rw [hat, hrot]
  rw [e]
  split
  ·rename_i hc
   have e2 : fctT ((a :: F).drop i ++ (a :: F).take i) ++ (uAtom a ++ [46]) = fctT (((a :: F).drop i ++ (a :: F).take i) ++ [a]) := by
    unfold fctT
    rw [List.flatMap_append (ys := [a])]
    simp
   have hlc : (fctT (((a :: F).drop i ++ (a :: F).take i) ++ [a])).length ≤ 400 := by rw [← e2, List.length_append]; exact hc
   rw [e2]
   refine ⟨_, hread _ (fun b hb => ?_) hlc, fun b => ?_, hlc⟩
   ·rcases List.mem_append.1 hb with h | h
    ·exact (hmem b).2 h
    ·rw [List.mem_singleton.1 h]; simp
   ·rw [List.mem_append, ← hmem b]
    constructor
    ·exact .inl
    ·rintro (h | h)
     ·exact h
     ·rw [List.mem_singleton.1 h]; simp
  ·exact ⟨_, hread _ (fun b hb => (hmem b).2 hb) (by omega), hmem, by omega⟩
/- Mixed, in words: one output more; a known run. -/
theorem dig_ne {d : Nat} (h : d ≤ 9) : UInt8.ofNat (48 + d) ≠ 46 := fun e => by
 have := congrArg UInt8.toNat e
 rw [dig_nat h] at this
 have h46 : (46 : UInt8).toNat = 46 := rfl
 omega
theorem dec_ne (n : Nat) : ∀ b ∈ Lib.decDigits n, b ≠ 46 := by
 induction n using Nat.strongRecOn with
 | _ n ih =>
  intro b hb
  rw [Lib.decDigits] at hb
  split at hb
  ·rw [List.mem_singleton.1 hb]
   exact dig_ne (by omega)
  ·rcases List.mem_append.1 hb with h | h
   ·exact ih (n / 10) (by omega) b h
   ·rw [List.mem_singleton.1 h]
    exact dig_ne (by omega)
theorem itoa_ne (x : Int) : 46 ∉ Lib.itoa x := fun h => by
 unfold Lib.itoa at h
 split at h
 ·rcases List.mem_cons.1 h with h | h
  ·exact absurd h (by decide)
  ·exact dec_ne _ _ h rfl
 ·exact dec_ne _ _ h rfl
theorem jn_ne (l : List Int) : 46 ∉ jn l := fun h => by
 cases l with
 | nil => cases h
 | cons x l =>
  unfold jn at h
  rcases List.mem_append.1 h with h | h
  ·exact itoa_ne x h
  ·obtain ⟨y, -, h⟩ := List.mem_flatMap.1 h
   rcases List.mem_cons.1 h with h | h
   ·exact absurd h (by decide)
   ·exact itoa_ne y h
def pcB (p : Tx) (t : Tup) : Tx := p ++ [40] ++ tupX t ++ [41]
theorem pcB_piece (p : Tx) (t : Tup) : pieceT p t = pcB p t ++ [46] := by unfold pieceT pcB; simp
theorem pcB_ne {p : Tx} (h : WName p) (t : Tup) : 46 ∉ pcB p t := fun hb => by
 unfold pcB at hb
 simp only [List.mem_append, List.mem_singleton] at hb
 rcases hb with ((hb | hb) | hb) | hb
 ·exact wd_ne (name_wd h hb) (by simp)
 ·exact absurd hb (by decide)
 ·exact jn_ne _ hb
 ·exact absurd hb (by decide)
theorem flat_pcs (p : Tx) (ts : List Tup) : ts.flatMap (pieceT p) = (ts.map (pcB p)).flatMap fun q => q ++ [46] := by
 rw [List.flatMap_map]
 congr 1
 funext t
 exact pcB_piece p t
theorem tel_pcs {T : Tx → List Tup} : ∀ (l : List RItem) (ps Q : List Tx), (∀ q ∈ Q, 46 ∉ q) → (∀ p ∈ ps, ∀ t ∈ T p, pcB p t ∈ Q) → (∀ x ∈ l, WName x.head.pred) →
  ∃ Q' : List Tx, (l.foldl (telF T) ((Q.flatMap fun q => q ++ [46]), ps)).1 = (Q'.flatMap fun q => q ++ [46]) ∧ (∀ q ∈ Q', 46 ∉ q) ∧ (∀ q ∈ Q, q ∈ Q') ∧ (∀ x ∈ l, x.out = true → ∀ t ∈ T x.head.pred, pcB x.head.pred t ∈ Q')
 | [], ps, Q, hQ, hp, _ => ⟨Q, rfl, hQ, fun q h => h, by simp⟩
 | x :: l, ps, Q, hQ, hp, hw => by
  rw [List.foldl_cons]
  by_cases c : x.out = true ∧ x.head.pred ∉ ps
  ·have e : telF T ((Q.flatMap fun q => q ++ [46]), ps) x = ((Q ++ (T x.head.pred).map (pcB x.head.pred)).flatMap (fun q => q ++ [46]), ps ++ [x.head.pred]) := by
    unfold telF
    rw [if_pos c, List.flatMap_append, flat_pcs]
   rw [e]
   obtain ⟨Q', h1, h2, h3, h4⟩ := tel_pcs l (ps ++ [x.head.pred]) (Q ++ (T x.head.pred).map (pcB x.head.pred)) (fun q hq => by
    rcases List.mem_append.1 hq with h | h
    ·exact hQ q h
    ·obtain ⟨t, -, rfl⟩ := List.mem_map.1 h
     exact pcB_ne (hw x (by simp)) t) (fun p hp' t ht => by
    rcases List.mem_append.1 hp' with h | h
    ·exact List.mem_append.2 (.inl (hp p h t ht))
    ·have := List.mem_singleton.1 h
     subst this
     exact List.mem_append.2 (.inr (List.mem_map.2 ⟨t, ht, rfl⟩))) (fun y hy => hw y (by simp [hy]))
   refine ⟨Q', h1, h2, fun q hq => h3 q (List.mem_append.2 (.inl hq)), fun y hy ho t ht => ?_⟩
   rcases List.mem_cons.1 hy with rfl | hy
   ·exact h3 _ (List.mem_append.2 (.inr (List.mem_map.2 ⟨t, ht, rfl⟩)))
   ·exact h4 y hy ho t ht
  ·have e : telF T ((Q.flatMap fun q => q ++ [46]), ps) x = ((Q.flatMap fun q => q ++ [46]), ps) := if_neg c
   rw [e]
   obtain ⟨Q', h1, h2, h3, h4⟩ := tel_pcs l ps Q hQ hp (fun y hy => hw y (by simp [hy]))
   refine ⟨Q', h1, h2, h3, fun y hy ho t ht => ?_⟩
   rcases List.mem_cons.1 hy with rfl | hy
   ·have hm : y.head.pred ∈ ps := Decidable.byContradiction fun h => c ⟨ho, h⟩
    exact h3 _ (hp _ hm t ht)
   ·exact h4 y hy ho t ht
theorem tell_pcs {T : Tx → List Tup} {l : List RItem} (hw : ∀ x ∈ l, WName x.head.pred) {x : RItem} (hx : x ∈ l) (ho : x.out = true) {t : Tup} (ht : t ∈ T x.head.pred) : pcB x.head.pred t ++ [46] ∈ pcsL (tellN T l) := by
 obtain ⟨Q, h1, h2, -, h4⟩ := tel_pcs (T := T) l [] [] (by simp) (by simp) hw
 have e : tellN T l = Q.flatMap fun q => q ++ [46] := h1
 rw [e, pcs_dots h2]
 exact List.mem_map.2 ⟨_, h4 x hx ho t ht, rfl⟩
theorem tell_more (T : Tx → List Tup) (l : List RItem) (x : RItem) : ∃ s, tellN T (l ++ [x]) = tellN T l ++ s := by
 unfold tellN
 rw [List.foldl_append, List.foldl_cons, List.foldl_nil]
 generalize l.foldl (telF T) ([], []) = acc
 unfold telF
 split
 ·exact ⟨_, rfl⟩
 ·exact ⟨[], by simp⟩
/-! ### a fact's text -/
theorem dig_of {b : UInt8} (h : digitB b.toNat = true) : ∃ d : Nat, d ≤ 9 ∧ b.toNat = 48 + d ∧ UInt8.ofNat (48 + d) = b := by
 unfold digitB at h
 simp at h
 refine ⟨b.toNat - 48, by omega, by omega, ?_⟩
 rw [show 48 + (b.toNat - 48) = b.toNat by omega]
 exact UInt8.ofNat_toNat
theorem nine_of {b : UInt8} (h : nineB b.toNat = true) : ∃ d : Nat, 1 ≤ d ∧ d ≤ 9 ∧ b.toNat = 48 + d ∧ UInt8.ofNat (48 + d) = b := by
 unfold nineB at h
 simp at h
 refine ⟨b.toNat - 48, by omega, by omega, by omega, ?_⟩
 rw [show 48 + (b.toNat - 48) = b.toNat by omega]
 exact UInt8.ofNat_toNat
theorem itoa_nat (m : Nat) : Lib.itoa (m : Int) = Lib.decDigits m := by unfold Lib.itoa; rw [if_neg (by omega)]; rfl
theorem dec1 {m : Nat} (h : m < 10) : Lib.decDigits m = [UInt8.ofNat (48 + m)] := by rw [Lib.decDigits, dif_pos h]
theorem decS {m : Nat} (h : ¬ m < 10) : Lib.decDigits m = Lib.decDigits (m / 10) ++ [UInt8.ofNat (48 + m % 10)] := by rw [Lib.decDigits, dif_neg h]
theorem num_itoa {w : Tx} (h : GTm w) (hv : (encT w).1 = false) : Lib.itoa (encT w).2 = w ∧ 0 ≤ (encT w).2 := by
 rcases h with ⟨b, rfl, hl⟩ | rfl | ⟨b, r, rfl, hn, hd, hr⟩
 ·rw [encT_large hl] at hv; cases hv
 ·have e : encT [48] = (false, ((0 : Nat) : Int)) := rfl
  rw [e]
  exact ⟨by rw [itoa_nat, dec1 (by omega)]; rfl, by simp⟩
 ·obtain ⟨x, x1, x9, xb, xe⟩ := nine_of hn
  have hlb : largeB b.toNat = false := by unfold largeB; simp; omega
  rw [encT_num hlb]
  match r, hd, hr with
  | [], _, _ =>
   have e : numV [b] = (x : Int) := by simp [numV, xb]; omega
   rw [e]
   exact ⟨by rw [itoa_nat, dec1 (by omega), xe], by omega⟩
  | [c], hd, _ =>
   obtain ⟨y, y9, yb, ye⟩ := dig_of (hd c (by simp))
   have e : numV [b, c] = ((10 * x + y : Nat) : Int) := by simp [numV, xb, yb]; omega
   show Lib.itoa (numV [b, c]) = _ ∧ 0 ≤ numV [b, c]
   rw [e]
   refine ⟨?_, by omega⟩
   rw [itoa_nat, decS (by omega), show (10 * x + y) / 10 = x by omega, show (10 * x + y) % 10 = y by omega, dec1 (by omega), xe, ye]; rfl
  | [c, d], hd, _ =>
   obtain ⟨y, y9, yb, ye⟩ := dig_of (hd c (by simp))
   obtain ⟨z, z9, zb, ze⟩ := dig_of (hd d (by simp))
   have e : numV [b, c, d] = ((100 * x + 10 * y + z : Nat) : Int) := by simp [numV, xb, yb, zb]; omega
   show Lib.itoa (numV [b, c, d]) = _ ∧ 0 ≤ numV [b, c, d]
   rw [e]
   refine ⟨?_, by omega⟩
   rw [itoa_nat, decS (by omega), show (100 * x + 10 * y + z) / 10 = 10 * x + y by omega, show (100 * x + 10 * y + z) % 10 = z by omega, decS (by omega), show (10 * x + y) / 10 = x by omega, show (10 * x + y) % 10 = y by omega, dec1 (by omega), xe, ye, ze]; rfl
theorem fact_text {a : RAtom} (h : GA' a) (hs : setA a = true) : uAtom a = pcB a.pred (tupA (atmP [] a)) := by
 have hv : ∀ w ∈ a.terms, (encT w).1 = false := fun w hw => by
  unfold setA setl at hs
  rw [List.all_eq_true] at hs
  have := hs (encT w) (List.mem_map.2 ⟨w, hw, rfl⟩)
  simpa using this
 have key : ∀ w ∈ a.terms, Lib.itoa (encT w).2 = w ∧ (encT w).2 ≠ -1 := fun w hw => by
  have := num_itoa (h.tm w hw) (hv w hw)
  exact ⟨this.1, by omega⟩
 have hu : tupX (tupA (atmP [] a)) = uList a.terms := by
  have hne := h.ne
  have hfew := h.few
  unfold tupX tupA atmP
  simp only [List.map_map]
  revert key hne hfew
  generalize a.terms = ts
  intro key hne hfew
  match ts, hne, hfew with
  | [u], _, _ =>
   obtain ⟨u1, u2⟩ := key u (by simp)
   simp [tupOf, tups, List.takeWhile, u2, jn, uList, uMore, u1]
  | [u, v], _, _ =>
   obtain ⟨u1, u2⟩ := key u (by simp)
   obtain ⟨v1, v2⟩ := key v (by simp)
   simp [tupOf, tups, List.takeWhile, u2, v2, jn, uList, uMore, u1, v1]
  | [u, v, w], _, _ =>
   obtain ⟨u1, u2⟩ := key u (by simp)
   obtain ⟨v1, v2⟩ := key v (by simp)
   obtain ⟨w1, w2⟩ := key w (by simp)
   simp [tupOf, tups, List.takeWhile, u2, v2, w2, jn, uList, uMore, u1, v1, w1]
 unfold uAtom pcB
 rw [hu]
 simp
theorem prs_fact {a : RAtom} (h : WAtom a) (hn : a.nt = false) : prsL (uAtom a ++ [46]) = [a.pred] := by
 have e : uLit a = uAtom a := by unfold uLit; rw [hn]; rfl
 have := pr_lit h []
 unfold prsL
 rw [List.foldl_append, ← e, this]
 rfl
def outI (p : Tx) : RItem := ⟨true, ⟨false, p, []⟩, []⟩
theorem more_text (l : List RItem) (p : Tx) : uItems l ++ [63] ++ p ++ [46] = uItems (l ++ [outI p]) := by
 rw [uItems_app]
 simp [uItems, outI, uItem]
theorem more_gi {p : Tx} (h : GNm p) : GIt (outI p) := ⟨h, fun _ => ⟨rfl, rfl, rfl⟩, fun h => by cases h⟩
theorem smr_more (l : List RItem) (p : Tx) : SmR l (l ++ [outI p]) := fun x hx => by
 rw [List.mem_append, List.mem_singleton]
 constructor
 ·exact .inl
 ·rintro (h | rfl)
  ·exact h
  ·cases hx
/-! ### a known run -/
def exT : Tx := [112, 40, 65, 41, 58, 45, 101, 40, 65, 41, 46, 63, 112, 46]
def exF : Tx := [101, 40, 55, 41, 46]
def exR : RItem := ⟨false, at1 112 65, [at1 101 65]⟩
def exL : List RItem := [exR, oi 112]
def exA : List RAtom := [⟨false, [101], [[55]]⟩]
def exN : List Tx := [[112], [101]]
def exM : MM := [(1, []), (1, [[7, -1, -1]])]
def exM1 : MM := [(1, [[7, -1, -1]]), (1, [[7, -1, -1]])]
theorem exK : RunK exT exF 1 exL exA := ⟨by decide, by decide, by kernel_rfl, by decide, by decide, by kernel_rfl, by kernel_rfl, by kernel_rfl⟩
theorem exCl {B D : Dset} : ClG ([exR].map (rulP exN)) B D ↔ ∀ x, D 1 (t1 x) → D 0 (t1 x) := by
 unfold ClG
 simp only [List.map_cons, List.map_nil, List.mem_singleton, forall_eq]
 simp only [rulP, exR, List.map_cons, List.map_nil, List.mem_singleton, forall_eq]
 constructor
 ·intro h x h1
  have := h (fun _ => x)
  rw [lit_one 101 65 (i := 0) rfl, sub_at1 112 65 (i := 0) rfl] at this
  exact this h1
 ·intro h ν
  rw [lit_one 101 65 (i := 0) rfl, sub_at1 112 65 (i := 0) rfl]
  exact h _
theorem exMD {k : Nat} {t : Tup} : MD exM k t ↔ k = 1 ∧ t = t1 7 := by
 match k with
 | 0 => simp [MD, tupsOf, exM]
 | 1 => simp [MD, tupsOf, exM, t1, tupOf]
 | k + 2 =>
  have : ((k + 2 : Nat) : Int).toNat = k + 2 := rfl
  simp only [MD, tupsOf, this, exM]
  simp
theorem exMD1 {k : Nat} {t : Tup} : MD exM1 k t ↔ (k = 0 ∨ k = 1) ∧ t = t1 7 := by
 match k with
 | 0 => simp [MD, tupsOf, exM1, t1, tupOf]
 | 1 => simp [MD, tupsOf, exM1, t1, tupOf]
 | k + 2 =>
  have : ((k + 2 : Nat) : Int).toNat = k + 2 := rfl
  simp only [MD, tupsOf, this, exM1]
  simp
theorem exRun : RunM exL exA 1 [112, 40, 55, 41, 46] 1 0 := by
 refine ⟨exN, exM, exM1, 1, by decide, by decide, ⟨rfl, by decide, fun k t => ?_, by decide⟩, ?_, ⟨rfl, by decide, .inl ⟨by decide, fun k t => ?_, by decide⟩⟩, ?_⟩
 ·rw [exMD]
  simp only [exA, List.map_cons, List.map_nil, List.mem_singleton, exists_eq_left]
  constructor
  ·rintro ⟨rfl, rfl⟩
   exact ⟨rfl, rfl⟩
  ·rintro ⟨e, rfl⟩
   refine ⟨?_, rfl⟩
   have : ((1 : Nat) : Int) = (k : Int) := e
   omega
 ·intro z hz u hu
  simp only [exM1, List.mem_cons, List.not_mem_nil, or_false] at hz
  rcases hz with rfl | rfl <;> (simp at hu; subst hu; rfl)
 ·have r0 : RulS exL 0 = [exR] := by kernel_rfl
  have r1 : RulS exL 1 = [] := by kernel_rfl
  have r2 : RulS exL 2 = [] := by kernel_rfl
  have e : PMi exN exL (MD exM) 3 k t ↔ LstG ([exR].map (rulP exN)) (MD exM) k t := by
   show LstG ((RulS exL 2).map (rulP exN)) (LstG ((RulS exL 1).map (rulP exN)) (LstG ((RulS exL 0).map (rulP exN)) (MD exM))) k t ↔ _
   rw [r0, r1, r2]
   exact lstN.trans lstN
  show MD exM1 k t ↔ PMi exN exL (MD exM) 3 k t
  rw [e, exMD1]
  constructor
  ·rintro ⟨h, rfl⟩
   have h1 : LstG ([exR].map (rulP exN)) (MD exM) 1 (t1 7) := LstG.base (exMD.2 ⟨rfl, rfl⟩)
   rcases h with rfl | rfl
   ·exact exCl.1 (LstG.cl ([exR].map (rulP exN)) (MD exM)) 7 h1
   ·exact h1
  ·intro g
   refine g.least (D := fun k t => (k = 0 ∨ k = 1) ∧ t = t1 7) (fun k t h => ?_) (exCl.2 fun x h => ⟨.inl rfl, h.2⟩)
   obtain ⟨rfl, rfl⟩ := exMD.1 h
   exact ⟨.inr rfl, rfl⟩
 ·rw [if_neg (by decide)]
  exact ⟨by kernel_rfl, rfl, rfl, by decide⟩
theorem ex_run {x : Tx} {k e : Int} (h : RunP exT exF 1 x k e) : x = [112, 40, 55, 41, 46] ∧ k = 1 ∧ e = 0 := by
 have hr := rk_rgt exK
 obtain ⟨h1, h2, h3⟩ := run_same (fun _ _ => Iff.rfl) hr hr (fun _ => Iff.rfl) (fun y hy => .inl ⟨y, hy, rfl⟩) exRun (run_in exK h)
 rcases h3 with ⟨h3, -⟩ | ⟨-, T, -, -, e1, e2⟩
 ·cases h3
 ·exact ⟨e2.trans e1.symm, h1.symm, h2.symm⟩
end Go.Proofs.YtmoeoppbmhfbpaaGreatDoorB
