import Derived.Test.YtmoeoppbmhfbpaaGreatDoorYRspG
import Derived.Test.YtmoeoppbmhfbpaaGreatDoorYSpaF
import Derived.Test.YtmoeoppbmhfbpaaGreatDoorYLawA
/- Spare: what the program tells is what the document asks. -/
namespace Go.Proofs.YtmoeoppbmhfbpaaGreatDoorY
open Go.Abs
set_option linter.unusedSimpArgs false
set_option linter.unusedVariables false
set_option maxRecDepth 100000

theorem uMore_le {α : Type} (g h : α → Tx) : ∀ l : List α, (∀ a ∈ l, (g a).length ≤ (h a).length) → (uMore (l.map g)).length ≤ (uMore (l.map h)).length
  | [], _ => by simp [uMore]
  | a :: l, hl => by
    have h1 := uMore_le g h l fun b hb => hl b (by simp [hb])
    have h2 := hl a (by simp)
    unfold uMore at *
    simp only [List.map_cons, List.flatMap_cons, List.length_append, List.length_cons]
    omega
theorem uList_le {α : Type} (g h : α → Tx) : ∀ l : List α, (∀ a ∈ l, (g a).length ≤ (h a).length) → (uList (l.map g)).length ≤ (uList (l.map h)).length
  | [], _ => by simp [uList]
  | a :: l, hl => by
    have h1 := uMore_le g h l fun b hb => hl b (by simp [hb])
    have h2 := hl a (by simp)
    simp only [List.map_cons, uList, List.length_append]
    omega
theorem wrT_le {l : List Tx} {t : Tx} (h : WTerm t) : (wrT l t).length ≤ t.length := by
  unfold wrT
  split
  · have := List.length_pos_iff.2 h.1
    simp only [List.length_cons, List.length_nil]; omega
  · exact Nat.le_refl _
theorem uAtom_le {l : List Tx} {a : RAtom} (h : WAtom a) : (uAtom (renA l a)).length ≤ (uAtom a).length := by
  have h1 := uList_le (wrT l) id a.terms fun t ht => wrT_le (h.2.2.2 t ht)
  rw [List.map_id] at h1
  unfold uAtom renA
  simp only [List.length_append, List.length_cons, List.length_nil]
  omega
theorem uLit_le {l : List Tx} {a : RAtom} (h : WAtom a) : (uLit (renA l a)).length ≤ (uLit a).length := by
  have h1 := uAtom_le (l := l) h
  unfold uLit
  rw [List.length_append, List.length_append]
  show (if a.nt = true then [33] else ([] : Tx)).length + _ ≤ _
  omega
theorem uItem_le {x : RItem} (h : WItem x) : (uItem (ren x)).length ≤ (uItem x).length := by
  unfold uItem
  cases ho : x.out with
  | true =>
    rw [if_pos (by simp [ren, ho]), if_pos rfl]
    simp [ren, renA]
  | false =>
    obtain ⟨q1, -, -, q3⟩ := h.2.2 ho
    rw [if_neg (by simp [ren, ho]), if_neg (by simp)]
    have h1 := uAtom_le (l := ordL x) q1
    have h2 := uList_le (fun a => uLit (renA (ordL x) a)) uLit x.body fun a ha => uLit_le (q3 a ha)
    unfold uRule
    show (uAtom (renA (ordL x) x.head) ++ (if x.body.map (renA (ordL x)) = [] then [] else 58 :: 45 :: uList ((x.body.map (renA (ordL x))).map uLit))).length ≤ _
    rw [List.map_map, List.length_append, List.length_append]
    by_cases hb : x.body = []
    · rw [if_pos (by simp [hb]), if_pos hb]; simpa using h1
    · rw [if_neg (by simpa using hb), if_neg hb]
      simp only [List.length_cons]
      have h3 : (uList (x.body.map (uLit ∘ renA (ordL x)))).length ≤ (uList (x.body.map uLit)).length := h2
      omega
theorem uItems_le : ∀ l : List RItem, (∀ x ∈ l, WItem x) → (uItems (l.map ren)).length ≤ (uItems l).length
  | [], _ => by simp [uItems]
  | x :: l, h => by
    have h1 := uItems_le l fun y hy => h y (by simp [hy])
    have h2 := uItem_le (h x (by simp))
    unfold uItems at *
    simp only [List.map_cons, List.flatMap_cons, List.length_append, List.length_cons, List.length_nil]
    omega
/-- what Print writes of a right program is a text that is read again -/
theorem Right.whole {t : Tx} {N : List Tx} {l : List RItem} {cs : List AV} (h : Right t N l cs) : (wholeL l).length ≤ 600 ∧ goodText (wholeL l) := by
  obtain ⟨h1, -, h3, -⟩ := pItems_took _ _ _ _ h.parse
  have hu := whole_u h.wit
  have hle := uItems_le l h.wit
  have ht := h.len
  have hlen : (wholeL l).length ≤ 600 := by rw [hu]; rw [h1] at ht; omega
  have h2 : ∀ y ∈ l.map ren, WItem y := fun y hy => by
    obtain ⟨x, hx, rfl⟩ := List.mem_map.1 hy
    exact ren_WItem (h.wit x hx) (h.wi x hx)
  have hc := cut_items _ h2
  refine ⟨hlen, ?_, ?_⟩
  · rw [hu, hc]; simpa using h3
  · intro p hp
    have hl := cutL_piece hp
    rw [hu, hc, List.mem_map] at hp
    obtain ⟨x, hx, rfl⟩ := hp
    obtain ⟨-, g2, g3⟩ := itemL_of (h2 x hx)
    exact ⟨by omega, g2, g3⟩
theorem plc_let {i : Nat} (h : i < 26) : plc encT [letB (i : Int)] = i := by
  unfold plc
  rw [encT_large (let_large (by omega) (by omega)), let_toNat (by omega) (by omega)]
  show ((65 + (i : Int)) - 65).toNat = i
  omega
theorem zipped {y : RItem} {s : Sw} {n : Nat} (ho : ordL y = (List.range n).map fun i => [letB ((i : Nat) : Int)]) {p : Tx × Tx} (hp : p ∈ (ordL y).zip (putTs s n)) : ∃ i : Nat, i < n ∧ p.1 = [letB (i : Int)] ∧ p.2 = decE (s.2 i) := by
  rw [ho] at hp
  unfold putTs at hp
  rw [List.zip_map', List.mem_map] at hp
  obtain ⟨i, hi, rfl⟩ := hp
  exact ⟨i, by simpa using hi, rfl, rfl⟩
theorem last_of {t u : Tx} : ∀ (l : List (Tx × Tx)) (acc : Tx), (∀ p ∈ l, p.1 = t → p.2 = u) → l.foldl (lastF t) acc = u ∨ (l.foldl (lastF t) acc = acc ∧ ∀ p ∈ l, p.1 ≠ t)
  | [], acc, _ => .inr ⟨rfl, fun p hp => by cases hp⟩
  | q :: l, acc, h => by
    have h1 := last_of l (lastF t acc q) fun p hp => h p (by simp [hp])
    rw [List.foldl_cons]
    rcases h1 with h1 | ⟨h1, h2⟩
    · exact .inl h1
    · by_cases hq : q.1 = t
      · left
        rw [h1, lastF, if_pos hq]
        exact h q (by simp) hq
      · right
        refine ⟨by rw [h1, lastF, if_neg hq], fun p hp => ?_⟩
        rcases List.mem_cons.1 hp with rfl | hp
        · exact hq
        · exact h2 p hp
theorem put_of {N : List Tx} {y : RItem} {k : Nat} {s0 s : Sw} (hy : InO y) (hf : y.fits) (hN : ∀ a ∈ y.body, a.pred ∈ N) (hlen : ∀ a ∈ y.body, ∀ b ∈ y.body, a.pred = b.pred → a.terms.length = b.terms.length) (h0 : withL sw0 (y.head.terms.map encT) (y.head.terms.map encT) = some s0) (h : spareE N y k s0 = some s) : Put y k (putTs s (ordL y).length) := by
  obtain ⟨f1, f2, f3⟩ := found hy hN hlen h0 h
  have ho := hy.ord
  have hl := hy.len
  generalize hn : (ordL y).length = n at ho hl f2
  have hvar : ∀ i : Nat, i < n → variableB [letB (i : Int)] = true := fun i hi => let_large (by omega) (by omega)
  refine ⟨hf, by omega, by simp [putTs, hn], fun t ht => ?_, fun p hp hh => ?_, fun j a ha => ?_⟩
  · unfold putTs at ht
    rw [List.mem_map] at ht
    obtain ⟨i, hi, rfl⟩ := ht
    obtain ⟨u, hu, e⟩ := f2 i (by simpa using hi)
    rw [e, hu.dec.1]
    exact ⟨term_solid hu.2.1, hu.2.2.1⟩
  · obtain ⟨i, hi, e1, e2⟩ := zipped ho hp
    have hu := hy.ut y.head (atoms_mem (.inl ⟨hy.out, rfl⟩)) _ hh
    have h1 := f1 p.1 hh (by rw [e1]; exact hvar i hi)
    have h2 : plc encT p.1 = i := by rw [e1]; exact plc_let (by omega)
    rw [h2] at h1
    rw [e2, h1]
    exact hu.dec.1
  · have ham := List.mem_of_getElem? ha
    obtain ⟨b, hb, c1, c2, c3⟩ := f3 a ham
    refine ⟨b, hb, c1.symm, c2.symm, ?_⟩
    rw [← c3]
    apply List.map_congr_left
    intro t ht
    have hu := hy.ut a (atoms_mem (.inr ham)) t ht
    unfold appT lastT
    cases hv : variableB t with
    | true =>
      rw [if_pos rfl]
      rcases last_of (t := t) (u := decE (s.2 (plc encT t))) ((ordL y).zip (putTs s n)) t (fun p hp hpt => by
        obtain ⟨i, hi, e1, e2⟩ := zipped ho hp
        have h2 : plc encT p.1 = i := by rw [e1]; exact plc_let (by omega)
        rw [hpt] at h2
        rw [e2, h2]) with q | ⟨-, q⟩
      · exact q.symm
      · exfalso
        have hm : t ∈ ordL y := mem_ordT _ _ _ (.inr ⟨List.mem_flatMap.2 ⟨a, atoms_mem (.inr ham), ht⟩, hv⟩)
        obtain ⟨i, hi⟩ := List.getElem?_of_mem hm
        have hil := (List.getElem?_eq_some_iff.1 hi).1
        have hz : ((ordL y).zip (putTs s n))[i]? = some (t, (putTs s n)[i]'(by simp [putTs]; omega)) := by
          rw [List.getElem?_zip_eq_some]
          exact ⟨hi, List.getElem?_eq_getElem _⟩
        exact q _ (List.mem_of_getElem? hz) rfl
    | false =>
      rw [if_neg (by simp)]
      rcases last_of (t := t) (u := t) ((ordL y).zip (putTs s n)) t (fun p hp hpt => by
        obtain ⟨i, hi, e1, e2⟩ := zipped ho hp
        exfalso
        have := hvar i hi
        rw [← e1, hpt, hv] at this
        cases this) with q | ⟨q, -⟩
      · exact q.symm
      · exact q.symm
/-- what Spare tells, Spared lets through -/
theorem spared_spec (t : Tx) (n m : Int) (p : Tx × Int) (h : pSpareR t n m p) (σ : St) : ACalls Tryz.prog 55 [str t, sc (.int .i64 n), sc (.int .i64 m), str p.1, sc (.int .i64 p.2)] σ fun r σ' => r = sc (.bool true) ∧ Keep σ σ' := by
  unfold pSpareR at h
  by_cases he : (refCheck t).1 = 0
  · rw [if_neg (by simp [he])] at h
    obtain ⟨N, l, cs, hR, h⟩ := h
    have hI := hR.items
    rcases h with ⟨rfl, h6⟩ | ⟨x, s0, hhr, hn0, hx, hxo, hm0, hm1, h0, h⟩
    · refine spared_err t n m 6 ?_ (by decide) σ
      unfold rNeedsR
      rw [if_neg (by simp [he]), hI]
      by_cases hm : m < 0
      · rw [if_pos (.inr (.inr (.inl hm)))]
      · rcases h6 with h6 | h6 | ⟨x, hx, hxm⟩
        · by_cases hn : n < 0
          · rw [if_pos (.inl hn)]
          · rw [if_pos]
            right; right; right
            intro x hx
            unfold hasRuleB at h6
            rw [if_pos (by omega), hx] at h6
            have hxo : x.out = true := by simpa using h6
            rw [((hR.wit x (List.mem_of_getElem? hx)).2.1 hxo).2.2]
            simp; omega
        · exact absurd h6 hm
        · rw [if_pos]
          right; right; right
          intro y hy
          rw [hx] at hy
          cases hy
          exact hxm
    · have hxm := List.mem_of_getElem? hx
      have hnl := (List.getElem?_eq_some_iff.1 hx).1
      obtain ⟨s1, hA, hiff⟩ := hR.ask hxm hxo m.toNat
      have e0 := hA.e0
      rw [h0] at e0
      cases e0
      have hneed : ∀ e, ((safeB (woL x m.toNat) = true ∧ SpareP x m.toNat) ∧ e = 0 ∨ ¬ (safeB (woL x m.toNat) = true ∧ SpareP x m.toNat) ∧ e = 10) → rNeedsR t n m e := fun e h => by
        unfold rNeedsR
        rw [if_neg (by simp [he]), hI, if_neg]
        · exact ⟨x, hx, h⟩
        · rintro (q | q | q | q)
          · omega
          · omega
          · omega
          · have := q x hx; omega
      rw [← hiff] at hneed
      cases hs : spareE N (ren x) m.toNat s0 with
      | none =>
        rw [hs] at h
        subst h
        exact spared_err t n m 10 (hneed _ (.inr ⟨(fun ⟨s', h'⟩ => by rw [hs] at h'; cases h'), rfl⟩)) (by decide) σ
      | some s =>
        rw [hs] at h
        subst h
        have hN := (EL_PI_mem hR.bk.el x hxm).2
        have hP := put_of (N := N) (k := m.toNat) (s0 := s0) (s := s) hA.ino hA.fits (fun a ha => by
          simp only [ren, List.mem_map] at ha
          obtain ⟨a', ha', rfl⟩ := ha
          exact hN a' ha') (fun a ha b hb hab => by
          simp only [ren, List.mem_map] at ha hb
          obtain ⟨a', ha', rfl⟩ := ha
          obtain ⟨b', hb', rfl⟩ := hb
          simpa [renA] using right_len hR.ok x (by rw [hI]; exact hxm) a' (atoms_mem (.inr ha')) b' (atoms_mem (.inr hb')) hab) h0 hs
        obtain ⟨w1, w2⟩ := hR.whole
        refine spared_ok t n m (wholeL l) (l.map ren) (ren x) _ (hneed 0 (.inl ⟨⟨s, hs⟩, rfl⟩)) (by unfold refPrint; rw [if_pos he, hI]) (by omega) w2 (items_whole hR.wit hR.wi) hn0 (by rw [List.getElem?_map, hx]; rfl) (by rw [List.length_map]; have := hR.bk.len; omega) hm0 (by simpa [ren] using hm1) hP σ
  · rw [if_pos he] at h
    subst h
    exact spared_err t n m _ (by unfold rNeedsR; rw [if_pos he]) he σ
/- The law: Spares. -/

set_option maxHeartbeats 16000000 in
theorem plays_spare (o : OpD) (hk : o.kind = 5) (c : List AV) (hc : EO o c) (σ : St) : ACalls Tryz.prog 27 [ag c] σ fun r σ' => r = sc (.bool true) ∧ Keep σ σ' := by
  have hS := fun σ => pSpare_spec o.s o.n o.m σ
  unfold EO at hc
  subst hc
  rw [hk] at *
  refine acalls 154 [.tmp 2] Tryz.func27 rfl (by decide) rfl rfl (Nat.le_of_ble_eq_true rfl) ?_
  repeat' (first
 |with_reducible (first|apply awp_seq|apply awp_block|(refine awp_region_k ?_;intro κ hκ)|(refine hκ.out _ _ ?_;clear hκ κ)|apply awp_skip|apply awp_exit|apply awp_ret)
 |((first|with_reducible (first|apply gd_split|apply gt_split)|((with_reducible refine cond_go ?_);refine awp_cond_split rfl ?_ ?_))<;>intro h<;>(try simp only [upd, ↓reduceIte,Nat.reduceEqDiff,B2] at h)<;>(try simp only [*,reduceCtorEq,decide_true,decide_false] at h)<;>(try (have hari:=h;simp only [B3] at hari))<;>(try (first|contradiction|(exfalso;omega)|(exfalso;simp at h;done)))<;>(try simp only [B5]))
 |((with_reducible refine acalls_go ?_);refine ACalls.mono (hS _) ?_;rintro _ _ ⟨p,rfl,hp,hK1⟩;(have kob1:=hK1.obj;have kno1:=hK1.nobj;have hR:=fun σ => spared_spec o.s o.n o.m p hp σ;clear hp;(try simp only [new_nobj,put_nobj,lay_nobj] at kno1)))
 |(simp (maxSteps:=3000000) (disch:=(first|omega|(simp only [List.length_append,B1, *];omega))) only [↓mapA_nil, ↓mapA_cons,List.length_append,B0,B4,awant,undef,aq,al,cst,cst1,acells,flat,behind,abin,aconv,aint,thenQ,blkQ,retQ,rdo,objOf,Value.cells,Value.oneCell',Int.reduceToNat, ↓reduceIte,Nat.reduceLT,Nat.reduceEqDiff,reduceCtorEq,Nat.reduceAdd,Nat.reduceMul,Nat.reduceLeDiff,u_3,u_4,u_9,tfld_43_0,tfld_43_1,tfld_43_2,tfld_43_3,tfld_43_4,tsz_3,tsz_43,tsz_9, *])
 |((with_reducible refine and_go ?_);refine And.intro (by first|exact kept_refl|exact kept_last rfl|exact kept_keep (by assumption)) ?_)
 |(refine hκ.out _ _ ?_;clear hκ κ))
  rename_i σ1
  refine awp_mono (Q := fun e s' σ'' => e = .normal ∧ s' 2 = sc (.bool true) ∧ Keep σ σ'') ?_ ?_
  · refine awp_draw_h follows_mixed (fun _ => True) [] [0, 1, 2, 3, 4, 5, 6, 7] 3 #[true, true, true, true, true, true, true, true, false, false, false] (by kernel_rfl) (fun _ _ _ h => by cases h.1) ?_
    intro κ hκ
    simp (maxSteps:=3000000) (disch:=(first|omega|(simp only [List.length_append,B1, *];omega))) only [↓mapA_nil, ↓mapA_cons,List.length_append,B0,B4,awant,undef,aq,al,cst,cst1,acells,flat,behind,abin,aconv,aint,thenQ,blkQ,retQ,rdo,objOf,Value.cells,Value.oneCell',Int.reduceToNat, ↓reduceIte,Nat.reduceLT,Nat.reduceEqDiff,reduceCtorEq,Nat.reduceAdd,Nat.reduceMul,Nat.reduceLeDiff,u_3,u_4,u_9,tfld_43_0,tfld_43_1,tfld_43_2,tfld_43_3,tfld_43_4,tsz_3,tsz_43,tsz_9, *]
    refine hκ.out _ ?_
    clear hκ κ
    refine uany_one (i := 8) (by kernel_rfl) ?_
    refine aOne_k ?_
    intro κ hκ
    simp (maxSteps:=3000000) (disch:=(first|omega|(simp only [List.length_append,B1, *];omega))) only [↓mapA_nil, ↓mapA_cons,List.length_append,B0,B4,awant,undef,aq,al,cst,cst1,acells,flat,behind,abin,aconv,aint,thenQ,blkQ,retQ,rdo,objOf,Value.cells,Value.oneCell',Int.reduceToNat, ↓reduceIte,Nat.reduceLT,Nat.reduceEqDiff,reduceCtorEq,Nat.reduceAdd,Nat.reduceMul,Nat.reduceLeDiff,u_3,u_4,u_9,tfld_43_0,tfld_43_1,tfld_43_2,tfld_43_3,tfld_43_4,tsz_3,tsz_43,tsz_9, *]
    refine ACalls.mono (num_spec _ _) ?_
    rintro _ σ5 ⟨rfl, hσ⟩
    replace hσ := hσ.symm
    subst hσ
    have hK2 : Keep σ1 σ1 := Keep.refl _
    simp (maxSteps:=3000000) (disch:=(first|omega|(simp only [List.length_append,B1, *];omega))) only [↓mapA_nil, ↓mapA_cons,List.length_append,B0,B4,awant,undef,aq,al,cst,cst1,acells,flat,behind,abin,aconv,aint,thenQ,blkQ,retQ,rdo,objOf,Value.cells,Value.oneCell',Int.reduceToNat, ↓reduceIte,Nat.reduceLT,Nat.reduceEqDiff,reduceCtorEq,Nat.reduceAdd,Nat.reduceMul,Nat.reduceLeDiff,u_3,u_4,u_9,tfld_43_0,tfld_43_1,tfld_43_2,tfld_43_3,tfld_43_4,tsz_3,tsz_43,tsz_9, *]
    refine hκ.out _ _ ⟨kept_keep hK2, ?_⟩
    clear hκ κ
    refine uany_one (i := 9) (by kernel_rfl) ?_
    refine aOne_k ?_
    intro κ hκ
    simp (maxSteps:=3000000) (disch:=(first|omega|(simp only [List.length_append,B1, *];omega))) only [↓mapA_nil, ↓mapA_cons,List.length_append,B0,B4,awant,undef,aq,al,cst,cst1,acells,flat,behind,abin,aconv,aint,thenQ,blkQ,retQ,rdo,objOf,Value.cells,Value.oneCell',Int.reduceToNat, ↓reduceIte,Nat.reduceLT,Nat.reduceEqDiff,reduceCtorEq,Nat.reduceAdd,Nat.reduceMul,Nat.reduceLeDiff,u_3,u_4,u_9,tfld_43_0,tfld_43_1,tfld_43_2,tfld_43_3,tfld_43_4,tsz_3,tsz_43,tsz_9, *]
    refine ACalls.mono (hR _) ?_
    rintro _ σ6 ⟨rfl, hK3⟩
    simp (maxSteps:=3000000) (disch:=(first|omega|(simp only [List.length_append,B1, *];omega))) only [↓mapA_nil, ↓mapA_cons,List.length_append,B0,B4,awant,undef,aq,al,cst,cst1,acells,flat,behind,abin,aconv,aint,thenQ,blkQ,retQ,rdo,objOf,Value.cells,Value.oneCell',Int.reduceToNat, ↓reduceIte,Nat.reduceLT,Nat.reduceEqDiff,reduceCtorEq,Nat.reduceAdd,Nat.reduceMul,Nat.reduceLeDiff,u_3,u_4,u_9,tfld_43_0,tfld_43_1,tfld_43_2,tfld_43_3,tfld_43_4,tsz_3,tsz_43,tsz_9, *]
    refine hκ.out _ _ ⟨kept_keep (hK2.trans hK3), ?_⟩
    clear hκ κ
    refine uany_one (i := 10) (by kernel_rfl) ?_
    refine aOne_k ?_
    intro κ hκ
    simp (maxSteps:=3000000) (disch:=(first|omega|(simp only [List.length_append,B1, *];omega))) only [↓mapA_nil, ↓mapA_cons,List.length_append,B0,B4,awant,undef,aq,al,cst,cst1,acells,flat,behind,abin,aconv,aint,thenQ,blkQ,retQ,rdo,objOf,Value.cells,Value.oneCell',Int.reduceToNat, ↓reduceIte,Nat.reduceLT,Nat.reduceEqDiff,reduceCtorEq,Nat.reduceAdd,Nat.reduceMul,Nat.reduceLeDiff,u_3,u_4,u_9,tfld_43_0,tfld_43_1,tfld_43_2,tfld_43_3,tfld_43_4,tsz_3,tsz_43,tsz_9, *]
    refine hκ.out _ _ ⟨kept_keep (hK2.trans hK3), ?_⟩
    clear hκ κ
    refine uany_done (by kernel_rfl) ⟨rfl, ?_, ?_⟩
    · exact if_pos rfl
    · clear hK2
      repeat (first | exact Keep.refl _ | assumption | (refine Keep.put ?_ (by first | omega | (simp only [new_nobj, put_nobj, lay_nobj, *]; omega)) _) | (refine Keep.new ?_ _) | (refine Keep.lay ?_ _) | (refine Keep.trans ?_ (by assumption)))
  · rintro e s' σ6 ⟨rfl, h2, hKK⟩
    repeat' (first
 |with_reducible (first|apply awp_seq|apply awp_block|(refine awp_region_k ?_;intro κ hκ)|(refine hκ.out _ _ ?_;clear hκ κ)|apply awp_skip|apply awp_exit|apply awp_ret)
 |((first|with_reducible (first|apply gd_split|apply gt_split)|((with_reducible refine cond_go ?_);refine awp_cond_split rfl ?_ ?_))<;>intro h<;>(try simp only [upd, ↓reduceIte,Nat.reduceEqDiff,B2] at h)<;>(try simp only [*,reduceCtorEq,decide_true,decide_false] at h)<;>(try (have hari:=h;simp only [B3] at hari))<;>(try (first|contradiction|(exfalso;omega)|(exfalso;simp at h;done)))<;>(try simp only [B5]))
 |(simp (maxSteps:=3000000) (disch:=(first|omega|(simp only [List.length_append,B1, *];omega))) only [↓mapA_nil, ↓mapA_cons,List.length_append,B0,B4,awant,undef,aq,al,cst,cst1,acells,flat,behind,abin,aconv,aint,thenQ,blkQ,retQ,rdo,objOf,Value.cells,Value.oneCell',Int.reduceToNat, ↓reduceIte,Nat.reduceLT,Nat.reduceEqDiff,reduceCtorEq,Nat.reduceAdd,Nat.reduceMul,Nat.reduceLeDiff,u_3,u_4,u_9,tfld_43_0,tfld_43_1,tfld_43_2,tfld_43_3,tfld_43_4,tsz_3,tsz_43,tsz_9, *])
 |((with_reducible refine and_go ?_);refine And.intro (by first|exact kept_refl|exact kept_last rfl|exact kept_keep (by assumption)) ?_)
 |(refine hκ.out _ _ ?_;clear hκ κ))
    first | exact ⟨_, rfl, rfl, hKK⟩ | exact ⟨_, rfl, rfl⟩
set_option maxHeartbeats 16000000 in
theorem spares_spec (l : List OpD) (cs : List AV) (ids : Nat) (hE : EL EO l cs) (hl : l.length ≤ 9223372036854775807) (σ : St) : ACalls Tryz.prog 8 [sl ids l.length cs] σ fun r σ' => r = sc (.bool true) ∧ Keep σ σ' := by
  have hP : Plays 5 5 l := fun o _ h1 h2 c hc σ => plays_spare o (by omega) c hc σ
  refine acalls 6 [.tmp 2] Tryz.func8 rfl (by decide) rfl rfl (Nat.le_of_ble_eq_true rfl) ?_
  repeat' (first
 |with_reducible (first|apply awp_seq|apply awp_block|(refine awp_region_k ?_;intro κ hκ)|(refine hκ.out _ _ ?_;clear hκ κ)|apply awp_skip|apply awp_exit|apply awp_ret)
 |((first|with_reducible apply gd_split|((with_reducible refine cond_go ?_);refine awp_cond_split rfl ?_ ?_))<;>intro h<;>(try simp only [upd, ↓reduceIte,Nat.reduceEqDiff,B2] at h)<;>(try simp only [*,reduceCtorEq,decide_true,decide_false] at h)<;>(try (have hari:=h;simp only [B3] at hari))<;>(try (first|contradiction|(exfalso;omega)|(exfalso;simp at h;done)))<;>(try simp only [B5]))
 |((with_reducible refine acalls_go ?_);refine ACalls.mono (upto_spec l cs ids 5 5 hE hl hP _) ?_;rintro _ _ ⟨rfl,hK1⟩)
 |(simp (maxSteps:=3000000) (disch:=(first|omega|(simp only [List.length_append,B1, *];omega))) only [↓mapA_nil, ↓mapA_cons,List.length_append,B0,B4,awant,undef,aq,al,cst,cst1,acells,flat,behind,abin,aconv,aint,thenQ,blkQ,retQ,Value.cells,Value.oneCell',Int.reduceToNat, ↓reduceIte,Nat.reduceLT,Nat.reduceEqDiff,reduceCtorEq,Nat.reduceAdd,Nat.reduceMul,Nat.reduceLeDiff,u_3, *])
 |(refine hκ.out _ _ ?_;clear hκ κ))
  first | exact ⟨_, rfl, rfl, hK1⟩ | exact ⟨_, rfl, rfl⟩ | exact ⟨_, rfl⟩
end Go.Proofs.YtmoeoppbmhfbpaaGreatDoorY
