import Derived.Test.YtmoeoppbmhfbpaaGreatDoorBTelC
import Derived.Test.YtmoeoppbmhfbpaaGreatDoorBRefA
import Derived.Test.YtmoeoppbmhfbpaaGreatDoorBGramD
import Derived.Test.YtmoeoppbmhfbpaaGreatDoorBFacts
import Derived.Test.YtmoeoppbmhfbpaaGreatDoorBTxtB
/- The program's Run. -/
namespace Go.Proofs.YtmoeoppbmhfbpaaGreatDoorB
open Go.Abs
set_option linter.unusedSimpArgs false
set_option linter.unusedVariables false
set_option maxRecDepth 100000
theorem pFacts_all {T : Tx → Prop} (hT : ∀ s w r, pTerm s = .got w r → T w) : ∀ (n : Nat) (s : Tx) (F : List RAtom) (r : Tx), pFacts n s = .got F r → ∀ a ∈ F, ∀ w ∈ a.terms, T w
 | n, [], F, r, h => by
  rw [pFacts_nil] at h
  cases h
  simp
 | 0, b :: s, F, r, h => by cases h
 | n + 1, b :: s, F, r, h => by
  rw [pFacts_succ] at h
  cases h1 : pFact (b :: s) with
  | bad e => rw [h1] at h; cases h
  | got x r1 =>
   rw [h1] at h
   simp only [Rd.bnd] at h
   cases h2 : pFacts n r1 with
   | bad e => rw [h2] at h; cases h
   | got xs r2 =>
    rw [h2] at h
    cases h
    intro a ha
    rcases List.mem_cons.1 ha with rfl | ha
    ·unfold pFact at h1
     cases h3 : pAtom false (b :: s) with
     | bad e => rw [h3] at h1; cases h1
     | got a2 r3 =>
      rw [h3] at h1
      simp only [Rd.bnd] at h1
      split at h1
      ·cases h4 : pByte 46 r3 with
       | bad e => rw [h4] at h1; cases h1
       | got u r4 =>
        rw [h4] at h1
        cases h1
        exact pAtom_all hT h3
      ·cases h1
    ·exact pFacts_all hT n r1 xs r h2 a ha
theorem km_keep {σ0 σ σ' : St} {om ot : Nat} {M M' : MM} (hK : Keep σ0 σ) (h : KM om ot M M' σ σ') (hm : σ0.nobj ≤ om) (ht : σ0.nobj ≤ ot) (hM : ∀ x ∈ M, x.1 = 1 ∨ σ0.ntop + 2 ≤ x.1) : Keep σ0 σ' :=
 ⟨Nat.le_trans hK.nobj h.nobj, fun o ho => by rw [h.obj o (Nat.lt_of_lt_of_le ho hK.nobj) (by omega) (by omega)]; exact hK.obj o ho, fun o ho => by rw [h.ver o (Nat.lt_of_lt_of_le ho hK.nobj) (by omega) (by omega)]; exact hK.ver o ho, Nat.le_trans hK.ntop h.ntop, fun k hk => by
  rw [h.top k (Nat.lt_of_lt_of_le hk hK.ntop) (fun x hx => by rcases hM x hx with e | e <;> omega)]; exact hK.top k hk⟩
theorem RulS_pre {N N' : List Tx} (h : N <+: N') {l : List RItem} (hl : ∀ x ∈ l, x.head.pred ∈ N ∧ ∀ a ∈ x.body, a.pred ∈ N) (s : Nat) : (RulS l s).map (rulP N') = (RulS l s).map (rulP N) := by
 apply List.map_congr_left
 intro x hx
 exact rulP_pre h (hl x (List.mem_filter.1 hx).1)
theorem PMi_pre {N N' : List Tx} (h : N <+: N') {l : List RItem} (hl : ∀ x ∈ l, x.head.pred ∈ N ∧ ∀ a ∈ x.body, a.pred ∈ N) (B : Dset) : ∀ s, PMi N' l B s = PMi N l B s
 | 0 => rfl
 | s + 1 => by
  show LstG _ _ = LstG _ _
  rw [RulS_pre h hl, PMi_pre h hl B s]
theorem tellT_pre {N N' : List Tx} (h : N <+: N') (rk : Nat → List Tup) : ∀ {l : List RItem} (acc : Tx × List Int), (∀ x ∈ l, x.head.pred ∈ N) → l.foldl (tellF N' rk) acc = l.foldl (tellF N rk) acc
 | [], acc, _ => rfl
 | x :: l, acc, hl => by
  rw [List.foldl_cons, List.foldl_cons]
  have : tellF N' rk acc x = tellF N rk acc x := by
   unfold tellF
   rw [idx_pre h (hl x (by simp))]
  rw [this]
  exact tellT_pre h rk _ (fun y hy => hl y (by simp [hy]))
theorem bk_names {N : List Tx} {l : List RItem} {cs : List AV} (h : EL (PI N) l cs) : ∀ x ∈ l, x.head.pred ∈ N ∧ ∀ a ∈ x.body, a.pred ∈ N := fun x hx => by
 obtain ⟨i, hi⟩ := List.getElem?_of_mem hx
 obtain ⟨hm, ih, id, b, r, hb, -⟩ := EL_PI h hi
 refine ⟨hm, fun a ha => ?_⟩
 obtain ⟨j, hj⟩ := List.getElem?_of_mem ha
 obtain ⟨c, r2, ⟨hc, -⟩, -⟩ := EL.get PL_len hb hj
 exact hc
def RunM (l : List RItem) (F : List RAtom) (n : Int) (x : Tx) (k e : Int) : Prop :=
 ∃ (N : List Tx) (M M' : MM) (d : Int), (∀ y ∈ l, y.head.pred ∈ N ∧ ∀ a ∈ y.body, a.pred ∈ N) ∧ (∀ a ∈ F, a.pred ∈ N) ∧ MkM N.length (F.map (atmP N)) M ∧ (∀ z ∈ M', T3 z.2) ∧ FolI N l M n (l.length + 1) M' d ∧
  if n < d then x = [] ∧ k = 0 ∧ e = 9 else x = tellT N (fun j => rankL (tupsOf M' (j : Int))) l ∧ k = d ∧ e = 0 ∧ ∀ z ∈ M', ∀ u ∈ z.2, ∀ y ∈ u, -1 ≤ y ∧ y ≤ 9999
def RunP (t f : Tx) (n : Int) (x : Tx) (k e : Int) : Prop :=
 if 600 < t.length ∨ 400 < f.length then x = [] ∧ k = 0 ∧ e = 1
 else if (refCheck t).1 ≠ 0 then x = [] ∧ k = 0 ∧ e = (refCheck t).1
 else if n < 0 ∨ 200 < n then x = [] ∧ k = 0 ∧ e = 6
 else ∃ l, pItems 16 t = .got l [] ∧ if facE l f ≠ 0 then x = [] ∧ k = 0 ∧ e = facE l f else ∃ F, pFacts 400 f = .got F [] ∧ RunM l F n x k e
structure BkT (N : List Tx) (l : List RItem) (cs : List AV) : Prop where
 bk : Bk N l cs
 nl : N.length ≤ 600
 rt : RtI l
 va : ∀ x ∈ l, ∀ a ∈ atomsL x, VA a
 dt : ∀ x ∈ l, ∀ a ∈ atomsL x, ∀ w ∈ a.terms, DT w
 wi : ∀ x ∈ l, WItem x
 nn : ∀ x ∈ l, x.head.pred.length ≤ 600
theorem BkT.cons {N : List Tx} {l : List RItem} {cs : List AV} (h : BkT N l cs) : consS (l.flatMap atomsL) := cons_right h.rt.odd h.bk.pos
theorem BkT.bkr {N N' : List Tx} {l : List RItem} {cs : List AV} (h : BkT N l cs) (hN : N <+: N') {F : List RAtom} (hS : consS (l.flatMap atomsL ++ F)) : BkR N l N'.length (arA N' (l.flatMap atomsL ++ F)) := by
 have hn := bk_names h.bk.el
 refine ⟨hN.length_le, hn, h.rt.kn, fun x hx ho => ?_⟩
 rw [← rulP_pre hN (hn x hx)]
 refine rwR_of hS (fun a ha => List.mem_append.2 (.inl (List.mem_flatMap.2 ⟨x, hx, ha⟩))) ⟨hN.subset (hn x hx).1, fun a ha => hN.subset ((hn x hx).2 a ha)⟩ ho (h.wi x hx) (h.va x hx) (h.dt x hx) (h.rt.saf x hx) (fun a ha hnt e => ?_)
 have := neg_lower h.bk.out h.rt.kn h.bk.len hx ha hnt
 rw [e] at this
 exact Nat.lt_irrefl _ this
theorem fact_sh {N : List Tx} {S : List RAtom} (hS : consS S) {a : RAtom} (ha : a ∈ S) (hm : a.pred ∈ N) (hs : setA a = true) (hv : ∀ w ∈ a.terms, VT w ∧ DT w) : Sh (arA N S) (N.idxOf a.pred) (tupA (atmP N a)) := by
 refine ⟨(a.terms.map encT).map (·.2), rfl, ?_, fun x hx => ?_⟩
 ·rw [List.length_map, List.length_map]; exact arA_eq hS ha hm
 ·obtain ⟨p, hp, rfl⟩ := List.mem_map.1 hx
  obtain ⟨w, hw, rfl⟩ := List.mem_map.1 hp
  refine (enc_lim (hv w hw).1 (hv w hw).2).2 ?_
  unfold setA setl at hs
  rw [List.all_eq_true] at hs
  have := hs (encT w) (List.mem_map.2 ⟨w, hw, rfl⟩)
  simpa using this
theorem sh_num {ar : Nat → Nat} {k : Nat} {t : Tup} (h : Sh ar k t) : ∀ y ∈ t, -1 ≤ y ∧ y ≤ 9999 := fun y hy => by
 obtain ⟨l, rfl, -, hl⟩ := h
 have key : ∀ i : Nat, -1 ≤ (l[i]?).getD (-1) ∧ (l[i]?).getD (-1) ≤ 9999 := fun i => by
  cases hi : l[i]? with
  | none => simp
  | some z =>
   obtain ⟨n, rfl, hn⟩ := hl z (List.mem_of_getElem? hi)
   simp; omega
 unfold tupOf at hy
 simp only [List.mem_cons, List.not_mem_nil, or_false] at hy
 rcases hy with rfl | rfl | rfl
 ·exact key 0
 ·exact key 1
 ·exact key 2
/- The program's Run, walked. -/
theorem head_len {t : Tx} {l : List RItem} (ht : t.length ≤ 600) (h : pItems 16 t = .got l []) : ∀ x ∈ l, x.head.pred.length ≤ 600 := fun x hx => by
 obtain ⟨h1, -, -, -⟩ := pItems_took _ _ _ _ h
 have hl : (uItem x).length ≤ (uItems l).length := by
  unfold uItems
  obtain ⟨a, b, rfl⟩ := List.append_of_mem hx
  simp; omega
 have h2 : x.head.pred.length ≤ (uItem x).length := by
  unfold uItem
  split
  ·simp
  ·simp [uRule, uAtom]
 rw [← h1] at hl
 omega
set_option maxHeartbeats 64000000 in
theorem run_spec (t f : Tx) (n : Int) (σ : St) : ACalls Tryz.prog 18 [str t, str f, ic n] σ fun r σ' => ∃ x k e, r = tp [str x, ic k, ic e] ∧ RunP t f n x k e ∧ Keep σ σ' := by
 have hc0 : ({ data := #[] } : ByteArray) = bs [] := rfl
 by_cases hL : 600 < t.length
 ·have hLd : decide ((t.length : Int) > 600) = true := by rw [decide_eq_true_eq]; omega
  have HP : Abs.Hid (RunP t f n [] 0 1) := by rw [Abs.Hid, RunP, if_pos (.inl hL)]; exact ⟨rfl, rfl, rfl⟩
  clear hL
  refine acalls 59 [.tmp 6, .tmp 7, .tmp 8] Tryz.func18 rfl (by decide) rfl rfl (Nat.le_of_ble_eq_true rfl) ?_
  repeat' (first
 |with_reducible first|apply Xa|apply Xb|(refine Xc ?_;intro κ hκ)|(apply hκ.out;clear hκ κ)|apply Xd|apply Xe|apply Xf
 |((with_reducible first|refine Xl ?_ ?_|refine Xm ?_ ?_|refine Xk ?_ ?_)<;> intro h hari<;> try exact Xp)
 |refine Xw ?_
 |exact True.intro
 |((with_reducible refine Xg ?_);refine Xj ?_)
 |(apply hκ.out;clear hκ κ))
  exact ⟨_, rfl, [], 0, 1, rfl, HP.out, Keep.refl _⟩
 ·have hLd : decide ((t.length : Int) > 600) = false := by rw [decide_eq_false_iff_not]; omega
  by_cases hF : 400 < f.length
  ·have hFd : decide ((f.length : Int) > 400) = true := by rw [decide_eq_true_eq]; omega
   have HP : Abs.Hid (RunP t f n [] 0 1) := by rw [Abs.Hid, RunP, if_pos (.inr hF)]; exact ⟨rfl, rfl, rfl⟩
   clear hL hF
   refine acalls 59 [.tmp 6, .tmp 7, .tmp 8] Tryz.func18 rfl (by decide) rfl rfl (Nat.le_of_ble_eq_true rfl) ?_
   repeat' (first
 |with_reducible first|apply Xa|apply Xb|(refine Xc ?_;intro κ hκ)|(apply hκ.out;clear hκ κ)|apply Xd|apply Xe|apply Xf
 |((with_reducible first|refine Xl ?_ ?_|refine Xm ?_ ?_|refine Xk ?_ ?_)<;> intro h hari<;> try exact Xp)
 |refine Xw ?_
 |exact True.intro
 |((with_reducible refine Xg ?_);refine Xj ?_)
 |(apply hκ.out;clear hκ κ))
   exact ⟨_, rfl, [], 0, 1, rfl, HP.out, Keep.refl _⟩
  ·have hFd : decide ((f.length : Int) > 400) = false := by rw [decide_eq_false_iff_not]; omega
   have HP : Abs.Hid (∀ x k e, RunP t f n x k e ↔ if (refCheck t).1 ≠ 0 then x = [] ∧ k = 0 ∧ e = (refCheck t).1
 else if n < 0 ∨ 200 < n then x = [] ∧ k = 0 ∧ e = 6
 else ∃ l, pItems 16 t = .got l [] ∧ if facE l f ≠ 0 then x = [] ∧ k = 0 ∧ e = facE l f else ∃ F, pFacts 400 f = .got F [] ∧ RunM l F n x k e) := fun x k e => by rw [RunP, if_neg (by simp [hL, hF])]
   have hLo := fun σ => load_specN t σ
   have HCK : Abs.Hid ((refCheck t).1 = 0 → ∀ n1 c1 n2 c2, n1 ≤ 600 ∧ isBook t n1 c1 n2 c2 → ∃ N l, pItems 16 t = .got l [] ∧ BkT N l c2 ∧ n1 = N.length ∧ c1 = N.map str ∧ n2 = l.length) := fun h0 n1 c1 n2 c2 ⟨h6, N, l, hp, hB, e1, e2, e3, hva, hwi⟩ => by
    obtain ⟨ht6, hw⟩ := wrong_of h0 hp
    refine ⟨N, l, hp, ⟨hB, by omega, rti_of hw, hva, pItems_all (T := DT) pTerm_dt 16 t l [] hp, hwi, head_len ht6 hp⟩, e1, e2, e3⟩
   clear hL hF
   generalize refCheck t = rc at *
   obtain ⟨e0, p0⟩ := rc
   simp only at hLo HP HCK
   refine acalls 59 [.tmp 6, .tmp 7, .tmp 8] Tryz.func18 rfl (by decide) rfl rfl (Nat.le_of_ble_eq_true rfl) ?_
   repeat' (first
 |with_reducible first|apply Xa|apply Xb|(refine Xc ?_;intro κ hκ)|(apply hκ.out;clear hκ κ)|apply Xd|apply Xe|apply Xf
 |((with_reducible first|refine Xl ?_ ?_|refine Xm ?_ ?_|refine Xk ?_ ?_)<;> intro h hari<;> try exact Xp)
 |((with_reducible refine Xh ?_);refine Xi (hLo _) ?_;rintro _ _ ⟨idn,n1,c1,idi,n2,c2,rfl,hK1,hb⟩;(have HB : Abs.Hid _:=hb;clear hb;have kno1:=hK1.nobj))
 |refine Xw ?_
 |exact True.intro
 |((with_reducible refine Xg ?_);refine Xj ?_)
 |(apply hκ.out;clear hκ κ))
   ·have he : e0 ≠ 0 := by simpa using h
    exact ⟨_, rfl, [], 0, e0, rfl, (HP.out _ _ _).2 (by rw [if_pos he]; exact ⟨rfl, rfl, rfl⟩), (hK1.new _).put hK1.nobj _⟩
   ·skip
    have he : ¬ e0 ≠ 0 := by
     have : (e0 != 0) = false := by assumption
     simpa using this
    exact ⟨_, rfl, [], 0, 6, rfl, (HP.out _ _ _).2 (by rw [if_neg he, if_pos (.inr (by assumption))]; exact ⟨rfl, rfl, rfl⟩), (hK1.new _).put hK1.nobj _⟩
   ·rename St => σ1
    have he : e0 = 0 := by
     have : (e0 != 0) = false := by assumption
     simpa using this
    have hn0 : 0 ≤ n := by assumption
    have hn2 : n ≤ 200 := by assumption
    obtain ⟨N, l, hp, hT, rfl, rfl, rfl⟩ := HCK.out he _ _ _ _ (HB.out he)
    have HP2 : Abs.Hid (∀ x k e, (if facE l f ≠ 0 then x = [] ∧ k = 0 ∧ e = facE l f else ∃ F, pFacts 400 f = .got F [] ∧ RunM l F n x k e) → RunP t f n x k e) := fun x k e h => (HP.out x k e).2 (by rw [if_neg (by simp [he]), if_neg (by omega)]; exact ⟨l, hp, h⟩)
    have hLF := fun σ => loadFacts_spec N l c2 idn idi hT.bk hT.nl (cons_pre hT.cons) f (by have : decide ((f.length : Int) > 400) = false := hFd; rw [decide_eq_false_iff_not] at this; omega) σ
    unfold bookA at hLF
    have HT : Abs.Hid _ := hT
    clear hT hp HP HCK HB
    have hKa := (hK1.new [nilS, nilS]).put hK1.nobj [sl idn N.length (N.map str), sl idi l.length c2]
    repeat' (first
 |with_reducible first|apply Xa|apply Xb|(refine Xc ?_;intro κ hκ)|(apply hκ.out;clear hκ κ)|apply Xd|apply Xe|apply Xf
 |((with_reducible first|refine Xl ?_ ?_|refine Xm ?_ ?_|refine Xk ?_ ?_)<;> intro h hari<;> try exact Xp)
 |((with_reducible refine Xh ?_);refine Xi (hLF _) ?_;rintro _ _ ⟨idf,nf,np,fc,rfl,hK2,hbf⟩;(have HBF : Abs.Hid _:=hbf;clear hbf;have kno2:=hK2.nobj;have kob2:=hK2.obj;simp only [put_nobj,new_nobj] at kno2 kob2;have hKb:=hKa.trans hK2;have ob1:=kob2 σ1.nobj (by omega);rw [put_same] at ob1))
 |refine Xw ?_
 |exact True.intro
 |((with_reducible refine Xg ?_);refine Xj ?_)
 |(apply hκ.out;clear hκ κ))
    ·have hfe : facE l f ≠ 0 := by simpa using h
     exact ⟨_, rfl, [], 0, facE l f, rfl, HP2.out _ _ _ (by rw [if_pos hfe]; exact ⟨rfl, rfl, rfl⟩)⟩
    ·rename St => σ2
     have hfe : facE l f = 0 := by simpa using h
     obtain ⟨F, N', hpf, rfl, rfl, hNp, hN1, hE⟩ := HBF.out hfe
     have HP3 : Abs.Hid (∀ x k e, RunM l F n x k e → RunP t f n x k e) := fun x k e h => HP2.out x k e (by rw [if_neg (by simp [hfe])]; exact ⟨F, hpf, h⟩)
     obtain ⟨-, hF4, -, hFw⟩ := pFacts_took _ _ _ _ hpf
     have hFm : ∀ a ∈ F, a.pred ∈ N' := fun a ha => by
      obtain ⟨i, hi⟩ := List.getElem?_of_mem ha
      exact (PF_get hE hi).1
     have hoth : othF (l.flatMap atomsL) F = false := by
      unfold facE at hfe
      rw [hpf] at hfe
      simp only at hfe
      cases ho : othF (l.flatMap atomsL) F with
      | false => rfl
      | true => rw [ho] at hfe; simp at hfe
     have hpos : ∀ a ∈ F, 0 < a.terms.length := fun a ha => by
      have := (hFw a ha).1.2.1
      cases hh : a.terms with
      | nil => exact absurd hh this
      | cons y ys => simp
     have hS := cons_facts HT.out.cons hpos hoth
     have hBR := HT.out.bkr hNp hS
     have hVD : ∀ a ∈ F, ∀ w ∈ a.terms, VT w ∧ DT w := fun a ha w hw => ⟨pFacts_all (T := VT) (fun _ _ _ h => pTerm_vt h) _ _ _ _ hpf a ha w hw, pFacts_all (T := DT) pTerm_dt _ _ _ _ hpf a ha w hw⟩
     have hNm := fun σ => enewModel_spec N'.length (F.map (atmP N')) fc idf n (PF_at hE) (by omega) (by rw [List.length_map]; omega) (fun a ha => by
      obtain ⟨b, hb, rfl⟩ := List.mem_map.1 ha
      exact ⟨by simp [atmP]; exact (hFw b hb).1.2.2.1, _, rfl, List.idxOf_lt_length_of_mem (hFm b hb)⟩) σ
     rw [List.length_map] at hNm
     have HSH : Abs.Hid (∀ M, MkM N'.length (F.map (atmP N')) M → MSh (arA N' (l.flatMap atomsL ++ F)) M) := fun M hMk k u hu => by
      obtain ⟨a, ha, e1, e2⟩ := (hMk.mem k u).1 hu
      obtain ⟨b, hb, rfl⟩ := List.mem_map.1 ha
      have := fact_sh hS (List.mem_append.2 (.inr hb)) (hFm b hb) (hFw b hb).2.2 (hVD b hb)
      rw [e2]
      have e3 : k = N'.idxOf b.pred := by simp only [atmP] at e1; omega
      rw [e3]; exact this
     have HBR : Abs.Hid _ := hBR
     have HFM : Abs.Hid _ := hFm
     have hF40 : F.length ≤ 400 := hF4
     clear hpf hFw hFm hoth hpos hS hBR hVD HBF HP2 hfe hE hLF hF4
     repeat' (first
 |with_reducible first|apply Xa|apply Xb|(refine Xc ?_;intro κ hκ)|(apply hκ.out;clear hκ κ)|apply Xd|apply Xe|apply Xf
 |((with_reducible first|refine Xl ?_ ?_|refine Xm ?_ ?_|refine Xk ?_ ?_)<;> intro h hari<;> try exact Xp)
 |((with_reducible refine Xh ?_);refine Xi (hNm _) ?_;rintro _ _ ⟨ot,M,rfl,hMk,hK3,hot,hMP,hMid⟩;(have kno3:=hK3.nobj;have kob3:=hK3.obj))
 |refine Xw ?_
 |exact True.intro
 |((with_reducible refine Xg ?_);refine Xj ?_)
 |(apply hκ.out;clear hκ κ))
     rename St => σ3
     obtain ⟨σ4, hσ4⟩ : ∃ τ, τ = ((σ3.new [nilS, ic 0, ic 0]).put σ3.nobj [fx ot 0 N'.length, ic 0, ic n]) := ⟨_, rfl⟩
     rw [← hσ4]
     have hK34 : Keep σ3 σ4 := by rw [hσ4]; exact ((Keep.refl σ3).new _).put (Nat.le_refl _) _
     have hK4 : Keep σ σ4 := (hKb.trans hK3).trans hK34
     have n4 : σ4.nobj = σ3.nobj + 1 := by rw [hσ4]; rfl
     have ob4 : σ4.obj σ1.nobj = [sl idn N.length (N.map str), sl idi l.length c2] := by rw [hK34.obj _ (by omega), kob3 _ (by omega), ob1]
     have hotl := hMP.lt
     have hML := hMk.len
     have hM4 : MOb σ4 σ3.nobj ot M 0 n := (hMP.keep hK34).mob (by rw [hσ4, put_same, hML]) (by omega) (by omega)
     have hMd : ∀ y ∈ M, y.1 = 1 ∨ σ.ntop + 2 ≤ y.1 := fun y hy => by have := hKb.ntop; rcases hMid y hy with h | h <;> omega
     have htt : tot M ≤ 1000 := by have := hMk.tot; rw [List.length_map] at this; omega
     have hFo := efollow_spec N l c2 idn idi N'.length (arA N' (l.flatMap atomsL ++ F)) HT.out.bk HBR.out σ3.nobj ot n hn0 (by omega) M hML (HSH.out M hMk) hMk.nd htt σ4 hM4
     have hpm := pmi_sh HBR.out (B := MD M) (HSH.out M hMk)
     unfold bookA at hFo
     have HMK : Abs.Hid _ := hMk
     have HPM : Abs.Hid _ := hpm
     clear hσ4 hMP hMid hMk hM4 hpm HSH hNm hK3 hK2 hKa hKb kob2 kob3 ob1 hK1
     repeat' (first
 |with_reducible first|apply Xa|apply Xb|(refine Xc ?_;intro κ hκ)|(apply hκ.out;clear hκ κ)|apply Xd|apply Xe|apply Xf
 |((with_reducible first|refine Xl ?_ ?_|refine Xm ?_ ?_|refine Xk ?_ ?_)<;> intro h hari<;> try exact Xp)
 |((with_reducible refine Xh ?_);first|(refine Xi (hFo) ?_;rintro _ _ ⟨M',d',hM5,hKM5,hI5⟩;(have HI5 : Abs.Hid _:=hI5;clear hI5;have kno5:=hKM5.nobj;have hKe:=km_keep hK4 hKM5 (by omega) (by omega) hMd;have hOv:=eover_spec σ3.nobj ot M' d' n _ hM5;have ob5:=hKM5.obj σ1.nobj (by omega) (by omega) (by omega);rw [ob4] at ob5))|(refine Xi (hOv) ?_;rintro _ _ ⟨rfl,rfl⟩))
 |refine Xw ?_
 |exact True.intro
 |((with_reducible refine Xg ?_);refine Xj ?_)
 |(apply hκ.out;clear hκ κ))
     ·refine ⟨_, rfl, [], 0, 9, rfl, HP3.out _ _ _ ⟨N', M, M', d', fun y hy => ⟨hNp.subset ((bk_names HT.out.bk.el y hy).1), fun a ha => hNp.subset ((bk_names HT.out.bk.el y hy).2 a ha)⟩, HFM.out, HMK.out, hM5.t3, ?_, by rw [if_pos (by assumption)]; exact ⟨rfl, rfl, rfl⟩⟩⟩
      unfold FolI
      rw [PMi_pre hNp (bk_names HT.out.bk.el)]
      exact HI5.out
     ·rename St => σ5
      have hnd : ¬ n < d' := by omega
      have hFI : FolI N' l M n (l.length + 1) M' d' := by
       unfold FolI
       rw [PMi_pre hNp (bk_names HT.out.bk.el)]
       exact HI5.out
      have hMD : ∀ k u, MD M' k u → Sh (arA N' (l.flatMap atomsL ++ F)) k u := fun k u hu => by
       rcases HI5.out.2.2 with ⟨-, g, -⟩ | ⟨g, -⟩
       ·exact HPM.out _ _ _ ((g k u).1 hu)
       ·exact absurd g hnd
      have hnum : ∀ x ∈ M', ∀ u ∈ x.2, ∀ y ∈ u, -1 ≤ y ∧ y ≤ 9999 := fun x hx u hu => by
       obtain ⟨k, hk⟩ := List.getElem?_of_mem hx
       exact sh_num (hMD k u (by unfold MD; rw [tupsOf_get hk]; exact hu))
      have hle : N.length ≤ M'.length := by
       have := HI5.out.1
       have := hNp.length_le
       omega
      have hTx := emodelText_spec N l c2 idn idi HT.out.bk HT.out.nn σ3.nobj ot M' d' n hle hnum σ5 hM5
      have e1 : tellT N (fun j => rankL (tupsOf M' (j : Int))) l = tellT N' (fun j => rankL (tupsOf M' (j : Int))) l := by
       unfold tellT tellA
       rw [tellT_pre hNp _ _ (fun x hx => (bk_names HT.out.bk.el x hx).1)]
      rw [e1] at hTx
      have HR : Abs.Hid (RunP t f n (tellT N' (fun j => rankL (tupsOf M' (j : Int))) l) d' 0) := HP3.out _ _ _ ⟨N', M, M', d', fun y hy => ⟨hNp.subset ((bk_names HT.out.bk.el y hy).1), fun a ha => hNp.subset ((bk_names HT.out.bk.el y hy).2 a ha)⟩, HFM.out, HMK.out, hM5.t3, hFI, by rw [if_neg hnd]; exact ⟨rfl, rfl, rfl, hnum⟩⟩
      generalize tellT N' (fun j => rankL (tupsOf M' (j : Int))) l = tx at hTx HR
      unfold bookA at hTx
      have ob14 := hM5.ob
      have lo14 := hM5.lo
      clear e1 hFI hMD hnum hle HI5 HPM HMK hMd htt
      refine awp_mono (Q := fun e s' σ'' => e = .normal ∧ s' 6 = str tx ∧ s' 7 = ic d' ∧ s' 8 = ic 0 ∧ Keep σ5 σ'') ?_ ?_
      ·refine awp_draw_h follows_mixed (fun _ => True) [] [0, 2, 3] 4 #[true, false, true, true, false, false, false] (by kernel_rfl) (fun _ _ _ h => by cases h.1) ?_; intro κ hκ; refine Xw ?_; refine hκ.out _ ?_; clear hκ κ
       refine uany_one (i := 1) (by kernel_rfl) ?_; refine aOne_k ?_; intro κ hκ; refine Xw ?_
       refine ACalls.mono hTx ?_
       rintro _ σ6 ⟨rfl, hK6⟩
       refine Xw ?_
       refine hκ.out _ _ ⟨kept_keep hK6, ?_⟩; clear hκ κ
       refine uany_rest [4, 5, 6] (by kernel_rfl) (by kernel_rfl) (fun _ _ _ h => by cases h.1) hK6.nobj (fun o ho _ => hK6.ver o ho) ?_
       intro κ hκ
       refine Xw ?_
       refine hκ.out _ _ ⟨rfl, ?_⟩
       simp [upd, *]
      ·rintro e s' σ6 ⟨rfl, g6, g7, g8, hK6⟩
       repeat' (first
 |with_reducible first|apply Xa|apply Xb|(refine Xc ?_;intro κ hκ)|(apply hκ.out;clear hκ κ)|apply Xd|apply Xe|apply Xf
 |((with_reducible first|refine Xl ?_ ?_|refine Xm ?_ ?_|refine Xk ?_ ?_)<;> intro h hari<;> try exact Xp)
 |refine Xw ?_
 |exact True.intro
 |((with_reducible refine Xg ?_);refine Xj ?_)
 |(apply hκ.out;clear hκ κ))
       first | exact ⟨_, rfl, tx, d', 0, rfl, HR.out, hKe.trans hK6⟩ | exact ⟨_, rfl, tx, d', 0, rfl, HR.out⟩
   ·skip
    have he : ¬ e0 ≠ 0 := by
     have : (e0 != 0) = false := by assumption
     simpa using this
    exact ⟨_, rfl, [], 0, 6, rfl, (HP.out _ _ _).2 (by rw [if_neg he, if_pos (.inl (by assumption))]; exact ⟨rfl, rfl, rfl⟩), (hK1.new _).put hK1.nobj _⟩
/- Roads: its own functions, walked: numbers, pairs, programs, facts. -/
def pkI (c n : Int) : Int := (if c < 0 then -(c + 1) else c) % n
theorem pkI_rng (c : Int) {n : Int} (hn : 0 < n) : 0 ≤ pkI c n ∧ pkI c n < n := ⟨Int.emod_nonneg _ (by omega), Int.emod_lt_of_pos _ hn⟩
set_option maxHeartbeats 4000000 in
theorem kpickN_spec (c n : Int) (h0 : -9223372036854775808 ≤ c) (h1 : c ≤ 9223372036854775807) (hn : 0 < n) (hn2 : n ≤ 1000) (σ : St) : ACalls Tryz.prog 39 [ic c, ic n] σ fun r σ' => r = ic (pkI c n) ∧ σ' = σ := by
 have hne : ¬ n = 0 := by omega
 by_cases hc : c < 0
 ·have hcb : decide (c < 0) = true := by simpa using hc
  have hw : IntKind.i64.wrap (0 - (c + 1)) = -(c + 1) := by rw [i64w (by omega) (by omega)]; omega
  have hr1 : (-(c + 1)).tmod n = pkI c n := by rw [pkI, if_pos hc, Int.tmod_eq_emod_of_nonneg (by omega)]
  have hr2 := pkI_rng c hn
  refine acalls 13 [.tmp 4] Tryz.func39 rfl (by decide) rfl rfl (Nat.le_of_ble_eq_true rfl) ?_
  repeat' (first
 |with_reducible first|apply Xa|apply Xb|(refine Xc ?_;intro κ hκ)|(apply hκ.out;clear hκ κ)|apply Xd|apply Xe|apply Xf
 |((with_reducible first|refine Xl ?_ ?_|refine Xk ?_ ?_)<;> intro h hari<;> try exact Xp)
 |refine Xw ?_
 |exact True.intro
 |(apply hκ.out;clear hκ κ))
  exact ⟨_, rfl, rfl⟩
 ·have hcb : decide (c < 0) = false := by simpa using hc
  have hr1 : c.tmod n = pkI c n := by rw [pkI, if_neg hc, Int.tmod_eq_emod_of_nonneg (by omega)]
  have hr2 := pkI_rng c hn
  refine acalls 13 [.tmp 4] Tryz.func39 rfl (by decide) rfl rfl (Nat.le_of_ble_eq_true rfl) ?_
  repeat' (first
 |with_reducible first|apply Xa|apply Xb|(refine Xc ?_;intro κ hκ)|(apply hκ.out;clear hκ κ)|apply Xd|apply Xe|apply Xf
 |((with_reducible first|refine Xl ?_ ?_|refine Xk ?_ ?_)<;> intro h hari<;> try exact Xp)
 |refine Xw ?_
 |exact True.intro
 |(apply hκ.out;clear hκ κ))
  exact ⟨_, rfl, rfl⟩
/- Roads: its own functions, walked: facts, what is told. -/
/- Roads: its own functions, walked: the map. -/
/- Roads: its own functions, walked: what is told of a map. -/
/- Roads, in words: its programs. -/
set_option maxRecDepth 1000000
def at1 (p a : UInt8) : RAtom := ⟨false, [p], [[a]]⟩
def oi (p : UInt8) : RItem := ⟨true, ⟨false, [p], []⟩, []⟩
/- Roads, in words: its facts are read as they are written. -/
theorem dig_nat {d : Nat} (h : d ≤ 9) : (UInt8.ofNat (48 + d)).toNat = 48 + d := by
 rw [UInt8.toNat_ofNat']
 omega
theorem pFact_of {a : RAtom} (h : GA' a) (hn : a.nt = false) (hs : setA a = true) (r : Tx) : pFact (uAtom a ++ 46 :: r) = .got a r := by
 unfold pFact
 have := pAtom_of h (46 :: r)
 rw [hn] at this
 rw [this, got_bnd, if_pos hs]
 rfl
theorem pFacts_of : ∀ (n : Nat) (F : List RAtom), (∀ a ∈ F, GA' a ∧ a.nt = false ∧ setA a = true) → F.length ≤ n → pFacts n (F.flatMap fun a => uAtom a ++ [46]) = .got F []
 | n, [], _, _ => by rw [List.flatMap_nil, pFacts_nil]
 | 0, a :: F, _, h => by simp at h
 | n + 1, a :: F, hF, h => by
  obtain ⟨g1, g2, g3⟩ := hF a (by simp)
  have ih := pFacts_of n F (fun b hb => hF b (by simp [hb])) (by simpa using h)
  rw [List.flatMap_cons]
  have e : (uAtom a ++ [46]) ++ F.flatMap (fun a => uAtom a ++ [46]) = uAtom a ++ 46 :: F.flatMap (fun a => uAtom a ++ [46]) := by simp
  rw [e]
  have hc : ∃ b r, uAtom a ++ 46 :: F.flatMap (fun a => uAtom a ++ [46]) = b :: r := by
   cases hh : uAtom a ++ 46 :: F.flatMap (fun a => uAtom a ++ [46]) with
   | nil => simp at hh
   | cons b r => exact ⟨b, r, rfl⟩
  have hp := pFact_of g1 g2 g3 (F.flatMap fun a => uAtom a ++ [46])
  obtain ⟨b, r, hbr⟩ := hc
  rw [hbr] at hp ⊢
  rw [pFacts_succ, hp, got_bnd, ih]
  rfl
/- Roads, in words: what follows from its programs. -/
def t1 (x : Int) : Tup := tupOf [x]
section
variable {N : List Tx} {Ng B D : Dset}
theorem sub_at1 (p x : UInt8) {i : Int} (hx : encT [x] = (true, i)) (ν : Nu) : esub (atmP N (at1 p x)) ν = t1 (ν i) := by
 simp [esub, atmP, at1, hx, valN, t1]
theorem lit_one (p x : UInt8) {i : Int} (hx : encT [x] = (true, i)) (ν : Nu) : LitH Ng D ν (litP N (at1 p x)) ↔ D (N.idxOf [p]) (t1 (ν i)) := by
 have h := sub_at1 (N := N) p x hx ν
 unfold LitH litP
 simp only [at1, Bool.false_eq_true, if_false] at h ⊢
 rw [h]; rfl
end
/- Roads, in words: the ways, the pairs without one, and how many they are. -/
section
variable {E : List Int} {base : Int} {N : List Tx} {M : MM}
end
/- Roads, in words: what Run tells. -/
section
variable {E : List Int} {base : Int} {N : List Tx} {M : MM}
end
/- Roads, in words: what Run answers. -/
theorem consS_of {S : List RAtom} {f : Tx → Nat} (hf : ∀ p, 0 < f p) (h : ∀ a ∈ S, a.terms.length = f a.pred) : consS S := fun b hb => by
 refine ⟨by rw [h b hb]; exact hf _, ?_⟩
 rw [h b hb]
 unfold cntL
 cases hh : S.find? (fun a => a.pred == b.pred) with
 | none =>
  have := List.find?_eq_none.1 hh b hb
  simp at this
 | some a =>
  have h1 := List.find?_some hh
  have e : a.pred = b.pred := by simpa using h1
  show f b.pred = a.terms.length
  rw [h a (List.mem_of_find?_eq_some hh), e]
end Go.Proofs.YtmoeoppbmhfbpaaGreatDoorB
