import Derived.Test.YtmoeoppbmhfbpaaDoorXPrtF
import Derived.Test.YtmoeoppbmhfbpaaDoorXShelf
/- What can be written. -/
namespace Go.Proofs.YtmoeoppbmhfbpaaDoorX
open Go.Abs
set_option linter.unusedSimpArgs false
set_option linter.unusedVariables false
set_option maxRecDepth 100000

theorem letB_small {k : Int} (h0 : 0 ≤ k) (h1 : k < 26) : letB k = UInt8.ofNat (IntKind.u8.wrap (65 + k)).toNat := by
  unfold letB
  rw [Int.tmod_eq_of_lt h0 h1, i64w (by omega) (by omega)]
def WT (l : List Tx) (a : RAtom) : Prop := ∀ w ∈ a.terms, DT w ∧ w.length ≤ 1000 ∧ (variableB w = true → 0 ≤ whichL l w ∧ whichL l w < 26)
def WA (N l : List Tx) (a : RAtom) : Prop := a.pred ∈ N ∧ 0 < a.terms.length ∧ a.terms.length ≤ 1000 ∧ a.pred.length ≤ 1000 ∧ WT l a
structure WI (N : List Tx) (x : RItem) : Prop where
  fits : x.fits
  short : x.short
  va : ∀ a ∈ atomsL x, VA a
  vh : VA x.head
  vb : ∀ a ∈ x.body, VA a
  mem : x.head.pred ∈ N
  body : x.body.length ≤ 5
  out : x.out = true → x.body = []
  head : x.out = false → x.head.nt = false ∧ WA N (ordL x) x.head
  wa : ∀ a ∈ x.body, WA N (ordL x) a
theorem mem_ordF {acc : List Tx} {t u : Tx} (h : t ∈ acc ∨ (t = u ∧ variableB u = true)) : t ∈ ordF acc u := by
  unfold ordF
  split
  · rcases h with h | ⟨rfl, -⟩
    · exact List.mem_append.2 (.inl h)
    · exact List.mem_append.2 (.inr (by simp))
  · rename_i hn
    rcases h with h | ⟨rfl, hv⟩
    · exact h
    · exact Classical.byContradiction fun hm => hn ⟨hv, hm⟩
theorem mem_ordT : ∀ (ts acc : List Tx) (t : Tx), (t ∈ acc ∨ (t ∈ ts ∧ variableB t = true)) → t ∈ ordT acc ts
  | [], acc, t, h => by
    rcases h with h | ⟨h, -⟩
    · exact h
    · cases h
  | u :: ts, acc, t, h => by
    show t ∈ ordT (ordF acc u) ts
    apply mem_ordT ts
    rcases h with h | ⟨h, hv⟩
    · exact .inl (mem_ordF (.inl h))
    · rcases List.mem_cons.1 h with rfl | h
      · exact .inl (mem_ordF (.inr ⟨rfl, hv⟩))
      · exact .inr ⟨h, hv⟩
theorem flat_len {ls : List RAtom} (h : ∀ a ∈ ls, a.terms.length ≤ 3) : (ls.flatMap (·.terms)).length ≤ ls.length * 3 := by
  induction ls with
  | nil => simp
  | cons a ls ih =>
    have h2 := ih fun b hb => h b (by simp [hb])
    have h3 := h a (by simp)
    simp only [List.flatMap_cons, List.length_append, List.length_cons]
    omega
theorem atoms_mem {x : RItem} {a : RAtom} (h : (x.out = false ∧ a = x.head) ∨ a ∈ x.body) : a ∈ atomsL x := by
  unfold atomsL
  rcases h with ⟨h, rfl⟩ | h
  · exact List.mem_append.2 (.inl (by rw [h]; simp))
  · exact List.mem_append.2 (.inr h)
theorem ord_small {x : RItem} (hw : WItem x) {a : RAtom} (ha : a ∈ atomsL x) {w : Tx} (hm : w ∈ a.terms) (hv : variableB w = true) : 0 ≤ whichL (ordL x) w ∧ whichL (ordL x) w < 26 := by
  have h1 : w ∈ ordL x := mem_ordT _ _ _ (.inr ⟨List.mem_flatMap.2 ⟨a, ha, hm⟩, hv⟩)
  have h2 := List.idxOf_lt_length_of_mem h1
  have h3 := ordT_len ((atomsL x).flatMap (·.terms)) []
  obtain ⟨q1, q2, q3⟩ := hw
  have h4 : (atomsL x).length ≤ 6 ∧ ∀ b ∈ atomsL x, b.terms.length ≤ 3 := by
    cases ho : x.out with
    | true =>
      obtain ⟨-, -, e⟩ := q2 ho
      simp [atomsL, ho, e]
    | false =>
      obtain ⟨e1, -, e2, e3⟩ := q3 ho
      refine ⟨by simp [atomsL, ho]; omega, fun b hb => ?_⟩
      simp [atomsL, ho] at hb
      rcases hb with rfl | hb
      · exact e1.2.2.1
      · exact (e3 b hb).2.2.1
  have h5 := flat_len h4.2
  have h6 : (ordL x).length ≤ 18 := by
    unfold ordL
    rw [List.length_nil, Nat.zero_add] at h3
    omega
  unfold whichL
  rw [if_pos h1]
  omega
theorem wi_of {t : Tx} {N : List Tx} {l : List RItem} {cs : List AV} {r : Tx} (hl : t.length ≤ 1000) (hp : pItems 16 t = .got l r) (hB : Bk N l cs) (hWI : ∀ x ∈ l, WItem x) : ∀ x ∈ l, WI N x := by
  intro x hx
  have hva := pItems_va 16 t l r hp x hx
  have hdt := pItems_all (T := DT) pTerm_dt 16 t l r hp x hx
  have hsh := parse_short hl hp x hx
  have hm := EL_PI_mem hB.el x hx
  have hw := hWI x hx
  have hf := hB.fits x hx
  have hwa : ∀ a, a ∈ atomsL x → a.pred ∈ N → WAtom a → short a → a.terms.length ≤ 1000 → WA N (ordL x) a := fun a ha hN hW hs hn =>
    ⟨hN, List.length_pos_iff.2 hW.2.1, hn, hs.1, fun w hm => ⟨hdt a ha w hm, hs.2.2 w hm, fun hv => ord_small hw ha hm hv⟩⟩
  refine ⟨hf, hsh, hva, ?_, ?_, hm.1, ?_, hB.out x hx, ?_, ?_⟩
  · cases ho : x.out with
    | true => intro w hw'; rw [(hw.2.1 ho).2.1] at hw'; cases hw'
    | false => exact hva x.head (atoms_mem (.inl ⟨ho, rfl⟩))
  · exact fun a ha => hva a (atoms_mem (.inr ha))
  · cases ho : x.out with
    | true => rw [hB.out x hx ho]; simp
    | false => exact (hw.2.2 ho).2.2.1
  · intro ho
    obtain ⟨e1, e2, -⟩ := hw.2.2 ho
    exact ⟨e2, hwa x.head (atoms_mem (.inl ⟨ho, rfl⟩)) hm.1 e1 hsh.1 hf.2.1⟩
  · intro a ha
    have ho : x.out = false := by
      cases h : x.out with
      | false => rfl
      | true => rw [hB.out x hx h] at ha; cases ha
    exact hwa a (atoms_mem (.inr ha)) (hm.2 a ha) ((hw.2.2 ho).2.2.2 a ha) (hsh.2 a ha) (hf.2.2 a ha)
/- An item with its variables in order, as a text. -/

def renA (l : List Tx) (a : RAtom) : RAtom := { nt := a.nt, pred := a.pred, terms := a.terms.map (wrT l) }
def ren (x : RItem) : RItem := { out := x.out, head := renA (ordL x) x.head, body := x.body.map (renA (ordL x)) }
theorem let_toNat {k : Int} (h0 : 0 ≤ k) (h1 : k < 26) : ((letB k).toNat : Int) = 65 + k := by
  rw [letB_small h0 h1, u8w (by omega) (by omega)]
  rw [UInt8.toNat_ofNat_of_lt' (by show (65 + k).toNat < 256; omega)]
  omega
theorem let_large {k : Int} (h0 : 0 ≤ k) (h1 : k < 26) : largeB (letB k).toNat = true := by
  rw [let_toNat h0 h1]; simp [largeB]; omega
theorem var_wr {l : List Tx} {w : Tx} (hv : variableB w = true → 0 ≤ whichL l w ∧ whichL l w < 26) : variableB (wrT l w) = variableB w := by
  unfold wrT
  split
  · rename_i h
    obtain ⟨h0, h1⟩ := hv h
    rw [h]
    exact let_large h0 h1
  · rfl
theorem enc_wr {l : List Tx} {w : Tx} (hD : DT w) (hv : variableB w = true → 0 ≤ whichL l w ∧ whichL l w < 26) : encT (wrT l w) = (variableB w, if variableB w = true then whichL l w else (encT w).2) := by
  unfold wrT
  split
  · rename_i h
    obtain ⟨h0, h1⟩ := hv h
    rw [encT_large (let_large h0 h1), let_toNat h0 h1, h]
    congr 1; omega
  · rename_i h
    have h' : variableB w = false := by simpa using h
    rw [h']
    cases w with
    | nil => rfl
    | cons b r => rw [encT_num h']
theorem rcells_tcells {l ts : List Tx} (h : ∀ w ∈ ts, DT w ∧ (variableB w = true → 0 ≤ whichL l w ∧ whichL l w < 26)) : rcells l ts = tcells (ts.map (wrT l)) := by
  induction ts with
  | nil => rfl
  | cons w ts ih =>
    obtain ⟨h1, h2⟩ := h w (by simp)
    unfold rcells tcells at *
    rw [List.flatMap_cons, List.map_cons, List.flatMap_cons, ih fun w' hw' => h w' (by simp [hw'])]
    congr 1
    unfold rcell tcell
    rw [enc_wr h1 h2]
theorem WT_of {N l : List Tx} {a : RAtom} (h : WA N l a) : ∀ w ∈ a.terms, DT w ∧ (variableB w = true → 0 ≤ whichL l w ∧ whichL l w < 26) := fun w hw => ⟨(h.2.2.2.2 w hw).1, (h.2.2.2.2 w hw).2.2⟩
theorem RL_PL {N l : List Tx} : ∀ {ls : List RAtom} {b : List AV}, (∀ a ∈ ls, WA N l a) → EL (RL N l) ls b → EL (PL N) (ls.map (renA l)) b
  | [], b, _, h => h
  | a :: ls, b, hw, ⟨c, d, ⟨ids, hc⟩, hd, e⟩ => by
    have ha := hw a (by simp)
    refine ⟨c, d, ⟨ha.1, ids, ?_⟩, RL_PL (fun a' h => hw a' (by simp [h])) hd, e⟩
    rw [hc, rcells_tcells (WT_of ha)]
    simp [renA]
theorem RI_PI {N : List Tx} {x : RItem} {c : List AV} (hw : WI N x) (ho : x.out = false) (h : RI N (ordL x) x c) : PI N (ren x) c := by
  obtain ⟨ih, id, b, hb, rfl⟩ := h
  refine ⟨hw.mem, ih, id, b, RL_PL hw.wa hb, ?_⟩
  rw [rcells_tcells (WT_of (hw.head ho).2)]
  simp [ren, renA]

/-! ### Its text -/
theorem wrTs_u (l : List Tx) : ∀ (ts : List Tx) (k : Nat), 0 < k → wrTs l k ts = uMore (ts.map (wrT l))
  | [], k, _ => rfl
  | t :: ts, k, hk => by
    rw [wrTs, wrTs_u l ts (k + 1) (by omega), wrS, if_neg (by omega)]
    simp [uMore]
theorem wrTs_list {l ts : List Tx} (h : ts ≠ []) : wrTs l 0 ts = 40 :: uList (ts.map (wrT l)) := by
  cases ts with
  | nil => exact absurd rfl h
  | cons t ts => rw [wrTs, wrTs_u l ts 1 (by omega)]; simp [wrS, uList]
theorem writeL_u {l : List Tx} {a : RAtom} (h : a.terms ≠ []) : writeL l a = uLit (renA l a) := by
  unfold writeL uLit uAtom
  rw [wrTs_list h]
  cases ha : a.nt <;> simp [renA, ha]
theorem wrBs_u {l : List Tx} : ∀ (ls : List RAtom) (k : Nat), 0 < k → (∀ a ∈ ls, a.terms ≠ []) → wrBs l k ls = uMore ((ls.map (renA l)).map uLit)
  | [], k, _, _ => rfl
  | a :: ls, k, hk, h => by
    rw [wrBs, wrBs_u ls (k + 1) (by omega) (fun a' h' => h a' (by simp [h'])), wrB, if_neg (by omega), writeL_u (h a (by simp))]
    simp [uMore]
theorem wrBs_list {l : List Tx} {ls : List RAtom} (h : ∀ a ∈ ls, a.terms ≠ []) : wrBs l 0 ls = if ls = [] then [] else 58 :: 45 :: uList ((ls.map (renA l)).map uLit) := by
  cases ls with
  | nil => rfl
  | cons a ls =>
    rw [wrBs, wrBs_u ls 1 (by omega) (fun a' h' => h a' (by simp [h'])), writeL_u (h a (by simp)), if_neg (by simp)]
    simp [wrB, uList]
theorem written_u {x : RItem} (hw : WItem x) : writtenL x = uItem (ren x) ++ [46] := by
  obtain ⟨-, h2, h3⟩ := hw
  unfold writtenL uItem
  cases ho : x.out with
  | true => simp [ren, renA, ho]
  | false =>
    obtain ⟨q1, q2, -, q3⟩ := h3 ho
    rw [if_neg (by simp), if_neg (by simp [ren, ho]), writeL_u q1.2.1, wrBs_list (fun a ha => (q3 a ha).2.1), uLit_pos (by simpa [renA] using q2)]
    unfold uRule
    simp [ren]
theorem ren_WAtom {N l : List Tx} {a : RAtom} (h : WAtom a) (hw : ∀ w ∈ a.terms, variableB w = true → 0 ≤ whichL l w ∧ whichL l w < 26) : WAtom (renA l a) := by
  obtain ⟨h1, h2, h3, h4⟩ := h
  refine ⟨h1, by simpa [renA] using h2, by simpa [renA] using h3, fun t ht => ?_⟩
  simp only [renA, List.mem_map] at ht
  obtain ⟨w, hm, rfl⟩ := ht
  unfold wrT
  split
  · rename_i hv
    obtain ⟨q0, q1⟩ := hw w hm hv
    exact ⟨by simp, fun b hb => by simp at hb; subst hb; exact .inl (let_large q0 q1)⟩
  · exact h4 w hm
theorem ren_WItem {N : List Tx} {x : RItem} (hw : WItem x) (hi : WI N x) : WItem (ren x) := by
  obtain ⟨h1, h2, h3⟩ := hw
  refine ⟨h1, fun ho => ?_, fun ho => ?_⟩
  · obtain ⟨q1, q2, q3⟩ := h2 ho
    exact ⟨q1, by simp [ren, renA, q2], by simp [ren, q3]⟩
  · obtain ⟨q1, q2, q3, q4⟩ := h3 ho
    refine ⟨ren_WAtom (N := N) q1 (fun w hm => (WT_of (hi.head ho).2 w hm).2), q2, by simpa [ren] using q3, fun a ha => ?_⟩
    simp only [ren, List.mem_map] at ha
    obtain ⟨a', ha', rfl⟩ := ha
    exact ren_WAtom (N := N) (q4 a' ha') (fun w hm => (WT_of (hi.wa a' ha') w hm).2)
theorem whole_u {l : List RItem} (hw : ∀ x ∈ l, WItem x) : wholeL l = uItems (l.map ren) := by
  unfold wholeL uItems
  induction l with
  | nil => rfl
  | cons x l ih =>
    rw [List.flatMap_cons, List.map_cons, List.flatMap_cons, written_u (hw x (by simp)), ih fun y hy => hw y (by simp [hy])]
end Go.Proofs.YtmoeoppbmhfbpaaDoorX
