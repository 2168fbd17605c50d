import Derived.Test.YtmoeoppbmhfbpaaDoorXTxtA
import Derived.Test.YtmoeoppbmhfbpaaDoorXSpaF
import Derived.KernelRfl
/- What Spare puts, read off the texts alone. Pure. -/
namespace Go.Proofs.YtmoeoppbmhfbpaaDoorX
open Go.Abs
set_option linter.unusedSimpArgs false
set_option linter.unusedVariables false

theorem dec_digit : ∀ (n : Nat), ∀ b ∈ Lib.decDigits n, digitB b.toNat = true := by
  intro n
  induction n using Nat.strongRecOn with
  | ind n ih =>
    intro b hb
    have key : ∀ d : Nat, d < 10 → ∀ b : UInt8, b = UInt8.ofNat (48 + d) → digitB b.toNat = true := fun d hd b e => by
      rw [e, UInt8.toNat_ofNat_of_lt' (by show 48 + d < 256; omega)]
      simp [digitB]; omega
    rw [Lib.decDigits] at hb
    split at hb
    · rename_i h
      exact key n h b (List.mem_singleton.1 hb)
    · rename_i h
      rcases List.mem_append.1 hb with hb | hb
      · exact ih (n / 10) (by omega) b hb
      · exact key (n % 10) (by omega) b (List.mem_singleton.1 hb)
theorem digit_large {c : UInt8} (h : digitB c.toNat = true) : largeB c.toNat = false := by
  simp only [digitB, largeB, Bool.and_eq_true, decide_eq_true_eq, Bool.and_eq_false_iff, decide_eq_false_iff_not] at h ⊢
  omega
theorem UT.num {t : Tx} (h : UT t) (hv : variableB t = false) {c : UInt8} (hc : c ∈ t) : largeB c.toNat = false := by
  rcases h.1 with h1 | ⟨-, h1, h2, -⟩
  · rw [hv] at h1; cases h1
  · rw [← h1] at hc
    unfold Lib.itoa at hc
    rw [if_neg (by omega)] at hc
    exact digit_large (dec_digit _ c hc)
theorem UT.byte {t : Tx} (h : UT t) {c : UInt8} (hc : c ∈ t) (hl : largeB c.toNat = true) : variableB t = true ∧ t = [c] := by
  cases hv : variableB t with
  | false => rw [h.num hv hc] at hl; cases hl
  | true =>
    obtain ⟨k, hk, rfl⟩ := h.2.2.2 hv
    simp at hc
    subst hc
    exact ⟨rfl, rfl⟩
theorem rule_byte {y : RItem} (hw : WItem y) (ho : y.out = false) {c : UInt8} (hc : c ∈ uItem y ++ [46]) (hl : largeB c.toNat = true) : ∃ a ∈ atomsL y, ∃ t ∈ a.terms, c ∈ t := by
  obtain ⟨h1, h2, h3, h4⟩ := hw.2.2 ho
  have big : ∀ l : List UInt8, (∀ b ∈ l, largeB b.toNat = false) → c ∉ l := fun l hb hm => by rw [hb c hm] at hl; cases hl
  have hat : ∀ a : RAtom, WName a.pred → c ∈ uAtom a → ∃ t ∈ a.terms, c ∈ t := fun a ha hm => by
    unfold uAtom at hm
    rcases List.mem_append.1 hm with hm | hm
    · exact absurd hm (big _ fun b hb => small_large (ha.2 b hb))
    · rcases List.mem_cons.1 hm with rfl | hm
      · exact absurd hl (by decide)
      · rcases List.mem_append.1 hm with hm | hm
        · rcases uList_byte hm with rfl | h
          · exact absurd hl (by decide)
          · exact h
        · simp at hm; subst hm; exact absurd hl (by decide)
  rcases List.mem_append.1 hc with hc | hc
  · unfold uItem at hc
    rw [if_neg (by simp [ho]), uRule] at hc
    rcases List.mem_append.1 hc with hc | hc
    · exact ⟨y.head, atoms_mem (.inl ⟨ho, rfl⟩), hat _ h1.1 hc⟩
    · split at hc
      · cases hc
      · rcases List.mem_cons.1 hc with rfl | hc
        · exact absurd hl (by decide)
        · rcases List.mem_cons.1 hc with rfl | hc
          · exact absurd hl (by decide)
          · rcases uList_byte hc with rfl | ⟨u, hu, hc⟩
            · exact absurd hl (by decide)
            · obtain ⟨a, ha, rfl⟩ := List.mem_map.1 hu
              unfold uLit at hc
              rcases List.mem_append.1 hc with hc | hc
              · split at hc
                · simp at hc; subst hc; exact absurd hl (by decide)
                · cases hc
              · exact ⟨a, atoms_mem (.inr ha), hat _ (h4 a ha).1 hc⟩
  · simp at hc; subst hc; exact absurd hl (by decide)
theorem atom_byte {a : RAtom} {t : Tx} {c : UInt8} (ht : t ∈ a.terms) (hc : c ∈ t) : c ∈ uLit a := by
  unfold uLit uAtom
  exact List.mem_append_right _ (List.mem_append_right _ (List.mem_cons_of_mem _ (List.mem_append_left _ (uList_of ht hc))))
theorem byte_rule {y : RItem} (hw : WItem y) (ho : y.out = false) {a : RAtom} (ha : a ∈ atomsL y) {t : Tx} (ht : t ∈ a.terms) {c : UInt8} (hc : c ∈ t) : c ∈ uItem y ++ [46] := by
  obtain ⟨h1, h2, h3, h4⟩ := hw.2.2 ho
  refine List.mem_append_left _ ?_
  unfold uItem
  rw [if_neg (by simp [ho]), uRule]
  have ha' : a = y.head ∨ a ∈ y.body := by simpa [atomsL, ho] using ha
  rcases ha' with rfl | ha'
  · refine List.mem_append_left _ ?_
    have := atom_byte ht hc
    rwa [uLit, if_neg (by simp [h2]), List.nil_append] at this
  · refine List.mem_append_right _ ?_
    rw [if_neg (fun e => by rw [e] at ha'; cases ha')]
    exact List.mem_cons_of_mem _ (List.mem_cons_of_mem _ (uList_of (List.mem_map.2 ⟨a, ha', rfl⟩) (atom_byte ht hc)))
def cvB (a : Tx) (l : List Tx) : Bool := (tmsL a).all fun t => !variableB t || l.any fun b => (b.head? != some 33) && decide (t ∈ tmsL b)
theorem lit_head {a : RAtom} (h : WName a.pred) : ((uLit a).head? != some 33) = !a.nt := by
  unfold uLit uAtom
  cases hn : a.nt with
  | true => rfl
  | false =>
    obtain ⟨b, p, e⟩ := List.exists_cons_of_ne_nil h.1
    have hb := small_ne (h.2 b (by rw [e]; simp))
    simp only [List.mem_cons, List.not_mem_nil, or_false, not_or] at hb
    rw [e]
    simp [hb.1]
structure ShP (y : RItem) (k : Nat) (ts : List Tx) : Prop where
  few : ts.length ≤ 26
  short : ∀ t ∈ ts, t.length ≤ 1000
  vr : vrsL (uItem y ++ [46]) = ts.length
  hd : rpL ts (uLit y.head) = uLit y.head
  chd : cvB (uLit y.head) ((y.body.eraseIdx k).map uLit) = true
  cov : ∀ a ∈ y.body.eraseIdx k, cvB (uLit a) ((y.body.eraseIdx k).map uLit) = true
  on : ∀ a ∈ y.body, rpL ts (uLit a) ∈ (y.body.eraseIdx k).map uLit
  put : (if uList ts = [] then [] else tmsL (40 :: (uList ts ++ [41]))) = ts
theorem shp_of {N : List Tx} {y : RItem} {k : Nat} {s0 s : Sw} (hw : WItem y) (hy : InO y) (hN : ∀ a ∈ y.body, a.pred ∈ N) (hlen : ∀ a ∈ y.body, ∀ b ∈ y.body, a.pred = b.pred → a.terms.length = b.terms.length)
    (h0 : withL sw0 (y.head.terms.map encT) (y.head.terms.map encT) = some s0) (h : spareE N y k s0 = some s) : ShP y k (putTs s (ordL y).length) := by
  obtain ⟨f1, f2, f3⟩ := found hy hN hlen h0 h
  obtain ⟨w1, w2, w3, w4⟩ := hw.2.2 hy.out
  have hsafe : psafeB (woL y k) = true := by
    unfold spareE at h
    split at h
    · assumption
    · cases h
  have hn26 := hy.len
  have hUh : ∀ t ∈ y.head.terms, UT t := hy.ut y.head (atoms_mem (.inl ⟨hy.out, rfl⟩))
  have hUb : ∀ a ∈ y.body, ∀ t ∈ a.terms, UT t := fun a ha => hy.ut a (atoms_mem (.inr ha))
  have hlen' : (putTs s (ordL y).length).length = (ordL y).length := by simp [putTs]
  -- a variable of the rule, and its number
  have hvar : ∀ a ∈ atomsL y, ∀ t ∈ a.terms, variableB t = true → ∃ i : Nat, i < (ordL y).length ∧ t = [letB (i : Int)] := fun a ha t ht hv => by
    have : t ∈ ordL y := mem_ordT _ _ _ (.inr ⟨List.mem_flatMap.2 ⟨a, ha, ht⟩, hv⟩)
    rw [hy.ord] at this
    obtain ⟨i, hi, rfl⟩ := List.mem_map.1 this
    exact ⟨i, by simpa using hi, rfl⟩
  have hlet : ∀ i : Nat, i < 26 → (letB (i : Int)).toNat - 65 = i := fun i hi => by
    have := let_toNat (k := (i : Int)) (by omega) (by omega)
    omega
  have hplc : ∀ i : Nat, i < 26 → plc encT [letB (i : Int)] = i := fun i hi => by
    unfold plc
    rw [encT_large (let_large (by omega) (by omega)), let_toNat (by omega) (by omega)]
    show ((65 + (i : Int)) - 65).toNat = i
    omega
  -- what a term becomes
  have hrp : ∀ a ∈ atomsL y, ∀ t ∈ a.terms, rpL (putTs s (ordL y).length) t = appT (fun t => decE (s.2 (plc encT t))) t := fun a ha t ht => by
    cases hv : variableB t with
    | false =>
      rw [rp_other fun c hc => (hy.ut a ha t ht).num hv hc, appT, if_neg (by simp [hv])]
    | true =>
      obtain ⟨i, hi, rfl⟩ := hvar a ha t ht hv
      rw [appT, if_pos hv, hplc i (by omega)]
      show List.flatMap _ [letB (i : Int)] = _
      rw [List.flatMap_singleton, rpF, hlet i (by omega), if_pos ⟨let_large (by omega) (by omega), by rw [hlen']; exact hi⟩]
      simp [putTs, hi]
  have hsub : ∀ b ∈ y.body.eraseIdx k, b ∈ y.body := fun b hb => List.mem_of_mem_eraseIdx hb
  -- what stands in a literal that is not negated
  have hcov : ∀ a ∈ atomsL (woL y k), ∀ t ∈ a.terms, UT t → variableB t = true → ∃ b ∈ y.body.eraseIdx k, b.nt = false ∧ t ∈ b.terms := fun a ha t ht hu hv => by
    unfold psafeB at hsafe
    have := List.any_eq_false.1 (by simpa using hsafe : (atomsL (woL y k)).any (fun a => a.terms.any fun w => (encT w).1 && !bindsB (woL y k) (encT w).2) = false) a ha
    have := List.any_eq_false.1 (by simpa using this : a.terms.any (fun w => (encT w).1 && !bindsB (woL y k) (encT w).2) = false) t ht
    rw [enc_fst, hv] at this
    have hb : bindsB (woL y k) (encT t).2 = true := by simpa using this
    unfold bindsB at hb
    obtain ⟨b, hbm, hb⟩ := List.any_eq_true.1 hb
    simp only [Bool.and_eq_true, Bool.not_eq_true', List.any_eq_true] at hb
    obtain ⟨hnt, u, hum, hu2⟩ := hb
    refine ⟨b, hbm, hnt, ?_⟩
    unfold hitT at hu2
    simp only [Bool.and_eq_true, beq_iff_eq] at hu2
    have hu' : UT u := hUb b (hsub b hbm) u hum
    have : t = u := tellU.inj _ _ hu hu' (Prod.ext (by rw [enc_fst, hv, hu2.1]) hu2.2.symm)
    rw [this]; exact hum
  have hcv : ∀ a ∈ atomsL (woL y k), WAtom a → (∀ t ∈ a.terms, UT t) → cvB (uLit a) ((y.body.eraseIdx k).map uLit) = true := fun a ha hwa hu => by
    unfold cvB
    rw [tms_lit hwa, List.all_eq_true]
    intro t ht
    cases hv : variableB t with
    | false => rfl
    | true =>
      obtain ⟨b, hb, h1, h2⟩ := hcov a ha t ht (hu t ht) hv
      simp only [Bool.not_true, Bool.false_or, List.any_eq_true]
      exact ⟨uLit b, List.mem_map.2 ⟨b, hb, rfl⟩, by rw [lit_head (w4 b (hsub b hb)).1, tms_lit (w4 b (hsub b hb)), h1]; simpa using h2⟩
  refine ⟨by rw [hlen']; exact hn26, fun t ht => ?_, ?_, ?_, ?_, fun a ha => ?_, fun a ha => ?_, ?_⟩
  · obtain ⟨i, hi, rfl⟩ := List.mem_map.1 ht
    obtain ⟨u, hu, e⟩ := f2 i (by simpa using hi)
    rw [e, hu.dec.1]
    exact hu.2.2.1
  · rw [hlen']
    refine vrs_eq (fun c hc hl => ?_) ?_
    · obtain ⟨a, ha, t, ht, hct⟩ := rule_byte hw hy.out hc hl
      obtain ⟨hv, e⟩ := (hy.ut a ha t ht).byte hct hl
      obtain ⟨i, hi, e2⟩ := hvar a ha t ht hv
      rw [e] at e2
      cases e2
      rw [hlet i (by omega)]
      exact hi
    · rcases Nat.eq_zero_or_pos (ordL y).length with h | h
      · exact .inl h
      · refine .inr ⟨letB (((ordL y).length - 1 : Nat) : Int), ?_, let_large (by omega) (by omega), by rw [hlet _ (by omega)]; omega⟩
        have hm : [letB (((ordL y).length - 1 : Nat) : Int)] ∈ ordL y := by
          rw [hy.ord]
          exact List.mem_map.2 ⟨(ordL y).length - 1, by simp; omega, by simp⟩
        have := (ordT_vars _ [] (by simp) List.nodup_nil).1 _ hm
        rcases this.2 with h' | h'
        · cases h'
        · obtain ⟨a, ha, ht⟩ := List.mem_flatMap.1 h'
          exact byte_rule hw hy.out ha ht (by simp)
  · rw [rp_lit w1.1]
    refine uLit_inj rfl rfl ?_
    show y.head.terms.map _ = y.head.terms
    conv => rhs; rw [← List.map_id y.head.terms]
    refine List.map_congr_left fun t ht => ?_
    rw [hrp y.head (atoms_mem (.inl ⟨hy.out, rfl⟩)) t ht, appT]
    split
    · rename_i hv
      show decE (s.2 (plc encT t)) = t
      rw [f1 t ht hv, (hUh t ht).dec.1]
    · rfl
  · exact hcv y.head (atoms_mem (.inl ⟨rfl, rfl⟩)) w1 hUh
  · exact hcv a (atoms_mem (.inr ha)) (w4 a (hsub a ha)) (hUb a (hsub a ha))
  · obtain ⟨b, hb, g1, g2, g3⟩ := f3 a ha
    refine List.mem_map.2 ⟨b, hb, ?_⟩
    rw [rp_lit (w4 a ha).1]
    refine uLit_inj g1.symm g2.symm ?_
    show b.terms = a.terms.map _
    rw [← g3]
    exact List.map_congr_left fun t ht => (hrp a (atoms_mem (.inr ha)) t ht).symm
  · generalize hts : putTs s (ordL y).length = ts
    have hw' : ∀ t ∈ ts, WTerm t := fun t ht => by
      rw [← hts] at ht
      obtain ⟨i, hi, rfl⟩ := List.mem_map.1 ht
      obtain ⟨u, hu, e⟩ := f2 i (by simpa using hi)
      rw [e, hu.dec.1]
      exact hu.2.1
    cases ts with
    | nil => simp [uList]
    | cons t ts =>
      rw [if_neg (fun e => by
        have := (hw' t (by simp)).1
        rw [uList] at e
        exact this (List.append_eq_nil_iff.1 e).1)]
      exact tms_list (p := []) (by simp) (by simp) fun u hu => ⟨(hw' u hu).free.not (by decide), (hw' u hu).free.not (by decide)⟩
/- The one answer of Spare that is known. -/
def tKn : Tx := [112, 40, 65, 41, 58, 45, 101, 40, 65, 44, 66, 41, 44, 101, 40, 65, 44, 67, 41, 46]
def xKn : RItem := ⟨false, ⟨false, [112], [[65]]⟩, [⟨false, [101], [[65], [66]]⟩, ⟨false, [101], [[65], [67]]⟩]⟩
theorem kn_check : (refCheck tKn).1 = 0 := by kernel_rfl
theorem kn_items : itemsL tKn = [xKn] := by kernel_rfl
theorem kn_ren : ren xKn = xKn := by kernel_rfl
theorem kn_safe : psafeB (woL xKn 0) = true := by kernel_rfl
theorem kn_ord : (ordL xKn).length = 3 := by kernel_rfl
theorem known_spare {r : Tx × Int} (h : pSpareR tKn 0 0 r) : r = ([65, 44, 67, 44, 67], 0) := by
  unfold pSpareR at h
  rw [if_neg (by simp [kn_check])] at h
  obtain ⟨N, l, cs, hR, h⟩ := h
  have hl := hR.items
  rw [kn_items] at hl
  subst hl
  rcases h with ⟨-, h⟩ | ⟨x, s0, -, -, hx, -, -, -, hs0, h⟩
  · exfalso
    rcases h with h | h | ⟨x, hx, hb⟩
    · revert h; decide
    · omega
    · cases hx; exact absurd hb (by decide)
  · cases hx
    rw [kn_ren] at hs0 h
    rw [kn_ord] at h
    unfold spareE at h
    rw [show (0 : Int).toNat = 0 from rfl, if_pos kn_safe] at h
    have e1 : encT [65] = (true, 0) := rfl
    have e2 : encT [66] = (true, 1) := rfl
    have e3 : encT [67] = (true, 2) := rfl
    have d1 : decE (true, 0) = [65] := rfl
    have d2 : decE (true, 2) = [67] := rfl
    simp only [xKn, List.map_cons, List.map_nil, e1, withL, wStep, sw0] at hs0
    simp at hs0
    subst hs0
    simp only [xKn, List.eraseIdx, List.map_cons, List.map_nil, ltA, e1, e2, e3] at h
    generalize N.idxOf [101] = n at h
    simp [ontoL, withL, wStep, putTs, List.range_succ, d1, d2, uList, uMore] at h
    exact h
end Go.Proofs.YtmoeoppbmhfbpaaDoorX
