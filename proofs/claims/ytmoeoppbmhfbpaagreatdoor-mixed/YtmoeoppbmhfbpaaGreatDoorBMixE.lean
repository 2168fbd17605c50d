import Derived.Test.YtmoeoppbmhfbpaaGreatDoorBMixC
/- Mixed, in words: what its runs tell. -/
namespace Go.Proofs.YtmoeoppbmhfbpaaGreatDoorB
open Go.Abs
set_option linter.unusedSimpArgs false
set_option linter.unusedVariables false
set_option maxRecDepth 100000
theorem pcf_len {p : Tx} (hp : p.length ≤ 6) : ∀ (ts : List Tup), (∀ t ∈ ts, (tupX t).length ≤ 60) → (ts.flatMap (pieceT p)).length ≤ ts.length * 70
 | [], _ => by simp
 | t :: ts, h => by
  have h1 := pcf_len hp ts (fun u hu => h u (by simp [hu]))
  have h2 := h t (by simp)
  rw [List.flatMap_cons, List.length_append, List.length_cons]
  have : (pieceT p t).length ≤ 70 := by unfold pieceT; simp; omega
  omega
theorem tel_len {T : Tx → List Tup} (hT : ∀ p, ((T p).length : Int) ≤ 600 ∧ ∀ t ∈ T p, (tupX t).length ≤ 60) : ∀ (l : List RItem) (acc : Tx × List Tx), (∀ x ∈ l, x.head.pred.length ≤ 6) → (l.foldl (telF T) acc).1.length ≤ acc.1.length + l.length * 42000
 | [], acc, _ => by simp
 | x :: l, acc, h => by
  rw [List.foldl_cons, List.length_cons]
  have ih := tel_len hT l (telF T acc x) (fun y hy => h y (by simp [hy]))
  have h1 : (telF T acc x).1.length ≤ acc.1.length + 42000 := by
   unfold telF
   split
   ·have h2 := pcf_len (h x (by simp)) (T x.head.pred) (hT _).2
    have h3 := (hT x.head.pred).1
    simp only [List.length_append]
    omega
   ·omega
  omega
theorem pc_len : ∀ (t : Tx) (d : List Tx) (u : Tx), (t.foldl pcF (d, u)).1.length + (t.foldl pcF (d, u)).2.length ≤ d.length + u.length + t.length
 | [], d, u => by simp
 | c :: t, d, u => by
  rw [List.foldl_cons, List.length_cons]
  unfold pcF
  split
  ·have := pc_len t (d ++ [u ++ [c]]) []
   simp only [List.length_append, List.length_singleton, List.length_nil] at this
   exact Nat.le_trans this (by omega)
  ·have := pc_len t d (u ++ [c])
   simp only [List.length_append, List.length_singleton] at this
   exact Nat.le_trans this (by omega)
theorem pcs_len (t : Tx) : (pcsL t).length ≤ t.length := by
 have := pc_len t [] []
 simp only [List.length_nil] at this
 unfold pcsL
 split
 ·omega
 ·rename_i h
  have : 0 < (t.foldl pcF ([], [])).2.length := List.length_pos_iff.2 h
  rw [List.length_append, List.length_singleton]
  omega
section
variable {t f s : Tx} {n c e : Int}
theorem mix_len (h : RunP t f n s c e) (he : ¬ (e ≠ 0 ∧ e ≠ 9)) : t.length ≤ 600 ∧ f.length ≤ 400 ∧ (pcsL t).length ≤ 16 ∧ (pcsL f).length ≤ 400 ∧ 0 ≤ n ∧ n ≤ 200 := by
 rcases run_ok h with ⟨h1, h2, -⟩ | ⟨l, F, hK, -⟩
 ·exact absurd ⟨h1, h2⟩ he
 ·obtain ⟨ht, -, hl, hw⟩ := pItems_took _ _ _ _ hK.par
  obtain ⟨-, -, hf, hfw⟩ := pFacts_took _ _ _ _ hK.fac
  refine ⟨hK.tl, hK.fl, ?_, ?_, hK.n0, hK.n1⟩
  ·rw [ht, pcs_items hw, List.length_map]; exact hl
  ·have h1 : f = fctT F := hf
   have h2 := fct_len F
   have h3 := hK.fl
   rw [h1] at h3
   rw [h1, fct_pcs (fun a ha => (hfw a ha).1), List.length_map]; omega
theorem mix_out (h : RunP t f n s c e) (he : e ≠ 0 ∧ e ≠ 9) : s = [] ∧ c = 0 := by
 rcases run_ok h with ⟨-, -, h⟩ | ⟨l, F, hK, hM⟩
 ·exact h
 ·have hr := rk_rgt hK
  obtain ⟨-, -, h3⟩ := run_same (fun _ _ => Iff.rfl) hr hr (fun _ => Iff.rfl) (fun y hy => .inl ⟨y, hy, rfl⟩) hM hM
  rcases h3 with ⟨h3, -⟩ | ⟨h3, -⟩
  ·exact absurd h3 he.2
  ·exact absurd h3 he.1
theorem mix_one (h : RunP t f n s c e) (he : ¬ (e ≠ 0 ∧ e ≠ 9)) {k : Int} {s' : Tx} {c' e' : Int} (h' : RunP (turL t) (shuL f k) n s' c' e') : s' = s ∧ c' = c ∧ e' = e := by
 rcases run_ok h with ⟨h1, h2, -⟩ | ⟨l, F, hK, hM⟩
 ·exact absurd ⟨h1, h2⟩ he
 ·obtain ⟨l', hp', hS, hfil, hlen, hsub⟩ := tur_is hK.par
  obtain ⟨F', hf', hFm, hfl'⟩ := shu_is hK.fac hK.fl k
  have hK' := rk_new hK (by rw [hlen]; exact hK.tl) hfl' hp' hf' hS (fun a ha => (hFm a).2 ha)
  obtain ⟨h1, h2, h3⟩ := run_same hS (rk_rgt hK) (rk_rgt hK') hFm (fun y hy => .inl ⟨y, hsub y hy, rfl⟩) hM (run_in hK' h')
  refine ⟨?_, h1.symm, h2.symm⟩
  rcases h3 with ⟨-, e1, e2, -⟩ | ⟨-, T, -, -, e1, e2⟩
  ·rw [e1, e2]
  ·rw [e1, e2]
   unfold tellN
   rw [tel_outs T l, tel_outs T l', hfil]
theorem mix_two (h : RunP t f n s c 0) {p : Tx} {P : List Tx} (hp : pcsL f = p :: P) : ∃ q : Tx, prsL p = [q] ∧ p.length ≤ 400 ∧ q.length ≤ 6 ∧ (pcsL (t ++ [63] ++ q ++ [46])).length ≤ 17 ∧
  ((t ++ [63] ++ q ++ [46]).length ≤ 600 → (pcsL (t ++ [63] ++ q ++ [46])).length ≤ 16 → ∀ u b e, RunP (t ++ [63] ++ q ++ [46]) f n u b e → e = 0 ∧ b = c ∧ s.length ≤ u.length ∧ u.take s.length = s ∧ p ∈ pcsL u ∧ u.length ≤ 1000000 ∧ (pcsL u).length ≤ 1000000) := by
 rcases run_ok h with ⟨h1, -⟩ | ⟨l, F, hK, hM⟩
 ·exact absurd rfl h1
 ·obtain ⟨ht, -, hl, hw⟩ := pItems_took _ _ _ _ hK.par
  obtain ⟨-, hF4, hf, hfw⟩ := pFacts_took _ _ _ _ hK.fac
  have hf' : f = fctT F := hf
  have hpc := fct_pcs (fun a ha => (hfw a ha).1)
  rw [← hf', hp] at hpc
  have hgi := pItems_gi _ _ _ _ hK.par
  have hga := pFacts_ga _ _ _ _ hK.fac
  cases F with
  | nil => cases hpc
  | cons a F =>
   rw [List.map_cons] at hpc
   obtain ⟨rfl, -⟩ := List.cons.inj hpc
   obtain ⟨hwa, hna, hsa⟩ := hfw a (by simp)
   have hg := hga a (by simp)
   have hpl : (uAtom a ++ [46]).length ≤ 400 := by
    have h1 := hK.fl
    rw [hf'] at h1
    unfold fctT at h1
    rw [List.flatMap_cons, List.length_append] at h1
    omega
   have hgi' : ∀ y ∈ l ++ [outI a.pred], GIt y := fun y hy => by
    rcases List.mem_append.1 hy with h | h
    ·exact hgi y h
    ·rw [List.mem_singleton.1 h]; exact more_gi hg.nm
   have hwi' : ∀ y ∈ l ++ [outI a.pred], WItem y := fun y hy => by
    rcases List.mem_append.1 hy with h | h
    ·exact hw y h
    ·rw [List.mem_singleton.1 h]; exact ⟨hg.nm.1, fun _ => ⟨rfl, rfl, rfl⟩, fun h => by cases h⟩
   have hmt : t ++ [63] ++ a.pred ++ [46] = uItems (l ++ [outI a.pred]) := by rw [ht]; exact more_text l a.pred
   have hcnt : (pcsL (t ++ [63] ++ a.pred ++ [46])).length = l.length + 1 := by rw [hmt, pcs_items hwi']; simp
   refine ⟨a.pred, prs_fact hwa hna, hpl, hg.nm.2, by omega, fun hlen hpcl u b e hu => ?_⟩
   have hl' : (l ++ [outI a.pred]).length ≤ 16 := by simp; omega
   have hp' : pItems 16 (t ++ [63] ++ a.pred ++ [46]) = .got (l ++ [outI a.pred]) [] := by rw [hmt]; exact pItems_of 16 _ hgi' hl'
   have hK' := rk_new hK hlen hK.fl hp' hK.fac (smr_more l a.pred) (fun b hb => hb)
   obtain ⟨h1, h2, h3⟩ := run_same (smr_more l a.pred) (rk_rgt hK) (rk_rgt hK') (fun _ => Iff.rfl) (fun y hy => by
    rcases List.mem_append.1 hy with h | h
    ·exact .inl ⟨y, h, rfl⟩
    ·rw [List.mem_singleton.1 h]; exact .inr ⟨a, by simp, rfl⟩) hM (run_in hK' hu)
   rcases h3 with ⟨h3, -⟩ | ⟨-, T, hTf, hTl, e1, e2⟩
   ·cases h3
   ·obtain ⟨r, hr⟩ := tell_more T l (outI a.pred)
    rw [← e1, ← e2] at hr
    have hT6 : ∀ p, ((T p).length : Int) ≤ 600 ∧ ∀ t ∈ T p, (tupX t).length ≤ 60 := fun p => by
     refine ⟨?_, (hTl p).2⟩
     have := (hTl p).1
     have := hK.n1
     omega
    have hul : u.length ≤ 672000 := by
     have := tel_len hT6 (l ++ [outI a.pred]) ([], []) (fun y hy => (hgi' y hy).nm.2)
     rw [e2]
     unfold tellN
     simp only [List.length_nil] at this
     omega
    refine ⟨h2.symm, h1.symm, by rw [hr]; simp, by rw [hr]; simp, ?_, by omega, ?_⟩
    ·have := tell_pcs (T := T) (fun y hy => (hgi' y hy).nm.1) (x := outI a.pred) (by simp) rfl (hTf a (by simp))
     rw [← e2] at this
     rw [fact_text hg hsa]
     exact this
    ·have := pcs_len u
     omega
end
/- Mixed: its own functions, walked. -/
theorem flat_take {l : List Tx} {i : Nat} {p : Tx} (h : l[i]? = some p) : (l.take (i + 1)).flatten = (l.take i).flatten ++ p := by
 rw [List.take_add_one, h, Option.toList_some]; simp
set_option maxHeartbeats 8000000 in
theorem kjoined_spec (l : List Tx) (ids : Nat) (hl : l.length ≤ 1000) (hb : ∀ p ∈ l, p.length ≤ 100000) (σ : St) : ACalls Tryz.prog 50 [sl ids l.length (l.map str)] σ fun r σ' => r = str l.flatten ∧ σ' = σ := by
 have hc0 : ({ data := #[] } : ByteArray) = bs [] := rfl
 refine acalls 18 [.tmp 2] Tryz.func50 rfl (by decide) rfl rfl (Nat.le_of_ble_eq_true rfl) ?_
 repeat' (first
 |with_reducible first|apply Xa|apply Xb|(refine Xc ?_;intro κ hκ)|(apply hκ.out;clear hκ κ)|apply Xd|apply Xe|apply Xf
 |((with_reducible first|refine Xl ?_ ?_|refine Xk ?_ ?_)<;> intro h hari<;> try exact Xp)
 |refine Xw ?_
 |exact True.intro
 |(apply hκ.out;clear hκ κ))
 refine awp_loop (fun m s σ' => ∃ (i : Nat) (T : Tx), m = l.length - i ∧ i ≤ l.length ∧ s 0 = sl ids l.length (l.map str) ∧ s 3 = str T ∧ s 4 = ic i ∧ σ' = σ ∧ T.length ≤ i * 100000 ∧ Abs.Hid (T = (l.take i).flatten)) l.length
  ⟨0, [], by omega, by omega, by simp [upd, initS], by simp [upd], by simp [upd], rfl, by simp, by simp [Abs.Hid]⟩ ?_
 rintro m s σ' ⟨i, T, rfl, hi, h0, h3, h4, rfl, hTl, hT⟩
 by_cases hlt : i < l.length
 ·have hget := List.getElem?_eq_getElem hlt
  have hdr := map_str_get hlt
  have hmem := List.getElem_mem hlt
  generalize l[i] = p at hget hdr hmem
  have hpl := hb p hmem
  have HT : Abs.Hid (T ++ p = (l.take (i + 1)).flatten) := by rw [Abs.Hid, flat_take hget, hT.out]
  clear hget hT hb hmem
  repeat' (first
 |with_reducible first|apply Xa|apply Xb|(refine Xc ?_;intro κ hκ)|(apply hκ.out;clear hκ κ)|apply Xd|apply Xe|apply Xf
 |((with_reducible first|refine Xl ?_ ?_|refine Xk ?_ ?_)<;> intro h hari<;> try exact Xp)
 |refine Xw ?_
 |exact True.intro
 |(apply hκ.out;clear hκ κ))
  exact ⟨l.length - (i + 1), by omega, i + 1, T ++ p, rfl, by omega, rfl, by simp, by simp; omega, HT⟩
 ·have hil : i = l.length := by omega
  subst hil
  rw [List.take_length] at hT
  repeat' (first
 |with_reducible first|apply Xa|apply Xb|(refine Xc ?_;intro κ hκ)|(apply hκ.out;clear hκ κ)|apply Xd|apply Xe|apply Xf
 |((with_reducible first|refine Xl ?_ ?_|refine Xk ?_ ?_)<;> intro h hari<;> try exact Xp)
 |refine Xw ?_
 |exact True.intro
 |(apply hκ.out;clear hκ κ))
  exact ⟨_, rfl, by rw [hT.out]⟩
set_option maxHeartbeats 8000000 in
theorem kbegins_spec (s t : Tx) (hl : t.length ≤ s.length) (he : s.take t.length = t) (σ : St) : ACalls Tryz.prog 24 [str s, str t] σ fun r σ' => r = sc (.bool true) ∧ σ' = σ := by
 have hge : decide ((s.length : Int) ≥ (t.length : Int)) = true := by rw [decide_eq_true_eq]; omega
 refine acalls 18 [.tmp 4] Tryz.func24 rfl (by decide) rfl rfl (Nat.le_of_ble_eq_true rfl) ?_
 repeat' (first
 |with_reducible first|apply Xa|apply Xb|(refine Xc ?_;intro κ hκ)|(apply hκ.out;clear hκ κ)|apply Xd|apply Xe|apply Xf
 |((with_reducible first|refine Xl ?_ ?_|refine Xk ?_ ?_)<;> intro h hari<;> try exact Xp)
 |refine Xw ?_
 |exact True.intro
 |(apply hκ.out;clear hκ κ))
 exact ⟨_, rfl, rfl⟩
theorem flat_bound : ∀ (l : List Tx), (∀ p ∈ l, p.length ≤ 100000) → l.flatten.length ≤ l.length * 100000
 | [], _ => by simp
 | p :: l, h => by
  have h1 := flat_bound l (fun q hq => h q (by simp [hq]))
  have h2 := h p (by simp)
  rw [List.flatten_cons, List.length_append, List.length_cons]
  omega
theorem drop_str (l : List Tx) (i : Nat) : (l.map str).drop i = (l.drop i).map str := (List.map_drop).symm
theorem take_str (l : List Tx) (i : Nat) : (l.map str).take i = (l.take i).map str := (List.map_take).symm
set_option maxHeartbeats 16000000 in
theorem kturned_spec (t : Tx) (ht : t.length ≤ 600) (hn : (pcsL t).length ≤ 1000) (hp : ∀ p ∈ pcsL t, p.length ≤ 100000) (σ : St) : ACalls Tryz.prog 20 [str t] σ fun r σ' => r = str (turL t) ∧ Keep σ σ' := by
 have hPc := fun σ => kpieces_spec t (by omega) σ
 have hc0 : ({ data := #[] } : ByteArray) = bs [] := rfl
 have HT : Abs.Hid (turL t = match pcsL t with | [] => t | p :: P => if outB p = true then t else P.flatten ++ p) := rfl
 generalize pcsL t = L at *
 generalize turL t = w at *
 cases L with
 | nil =>
  have hw : w = t := HT.out
  subst hw
  refine acalls 23 [.tmp 2] Tryz.func20 rfl (by decide) rfl rfl (Nat.le_of_ble_eq_true rfl) ?_
  repeat' (first
 |with_reducible first|apply Xa|apply Xb|(refine Xc ?_;intro κ hκ)|(apply hκ.out;clear hκ κ)|apply Xd|apply Xe|apply Xf
 |((with_reducible first|refine Xl ?_ ?_|refine Xm ?_ ?_|refine Xk ?_ ?_)<;> intro h hari<;> try exact Xp)
 |((with_reducible refine Xh ?_);refine Xi (hPc _) ?_;rintro _ _ ⟨⟨id,rfl⟩,hK1⟩)
 |refine Xw ?_
 |exact True.intro
 |((with_reducible refine Xg ?_);refine Xj ?_)
 |(apply hκ.out;clear hκ κ))
  first | exact ⟨_, rfl, rfl, hK1⟩ | exact ⟨_, rfl, rfl⟩
 | cons p P =>
  have hOu := fun σ => koutput_spec p σ
  cases ho : outB p with
  | true =>
   have hw : w = t := by rw [HT.out]; simp only; rw [if_pos ho]
   subst hw
   rw [ho] at hOu
   refine acalls 23 [.tmp 2] Tryz.func20 rfl (by decide) rfl rfl (Nat.le_of_ble_eq_true rfl) ?_
   repeat' (first
 |with_reducible first|apply Xa|apply Xb|(refine Xc ?_;intro κ hκ)|(apply hκ.out;clear hκ κ)|apply Xd|apply Xe|apply Xf
 |((with_reducible first|refine Xl ?_ ?_|refine Xm ?_ ?_|refine Xk ?_ ?_)<;> intro h hari<;> try exact Xp)
 |((with_reducible refine Xh ?_);first|(refine Xi (hPc _) ?_;rintro _ _ ⟨⟨id,rfl⟩,hK1⟩)|(refine Xi (hOu _) ?_;rintro _ _ ⟨rfl,rfl⟩))
 |refine Xw ?_
 |exact True.intro
 |((with_reducible refine Xg ?_);refine Xj ?_)
 |(apply hκ.out;clear hκ κ))
   first | exact ⟨_, rfl, rfl, hK1⟩ | exact ⟨_, rfl, rfl⟩
  | false =>
   have hw : w = P.flatten ++ p := by rw [HT.out]; simp only; rw [if_neg (by rw [ho]; simp)]
   subst hw
   rw [ho] at hOu
   have hJ := fun σ => kjoined_spec P 0 (by simp at hn; omega) (fun q hq => hp q (by simp [hq])) σ
   refine acalls 23 [.tmp 2] Tryz.func20 rfl (by decide) rfl rfl (Nat.le_of_ble_eq_true rfl) ?_
   have hfl := flat_bound P (fun q hq => hp q (by simp [hq]))
   have hpl := hp p (by simp)
   have hn' : P.length ≤ 1000 := by simp at hn; omega
   clear HT hp ho hn
   repeat' (first
 |with_reducible first|apply Xa|apply Xb|(refine Xc ?_;intro κ hκ)|(apply hκ.out;clear hκ κ)|apply Xd|apply Xe|apply Xf
 |((with_reducible first|refine Xl ?_ ?_|refine Xm ?_ ?_|refine Xk ?_ ?_)<;> intro h hari<;> try exact Xp)
 |((with_reducible refine Xh ?_);first|(refine Xi (hPc _) ?_;rintro _ _ ⟨⟨id,rfl⟩,hK1⟩)|(refine Xi (hOu _) ?_;rintro _ _ ⟨rfl,rfl⟩))
 |refine Xw ?_
 |exact True.intro
 |((with_reducible refine Xg ?_);refine Xj ?_)
 |(apply hκ.out;clear hκ κ))
   rename St => σ1
   generalize P.flatten = fl at *
   refine awp_mono (Q := fun e s' σ'' => e = .normal ∧ s' 2 = str (fl ++ p) ∧ σ'' = σ1) ?_ ?_
   ·refine awp_draw_h follows_mixed (fun _ => True) [] [0, 1, 3, 4, 5] 3 #[true, true, false, true, true, true, false, false] (by kernel_rfl) (fun _ _ _ h => by cases h.1) ?_; intro κ hκ; refine Xw ?_; refine hκ.out _ ?_; clear hκ κ
    refine uany_one (i := 2) (by kernel_rfl) ?_; refine aOne_k ?_; intro κ hκ; refine Xw ?_
    refine ACalls.mono (hJ _) ?_
    rintro _ _ ⟨rfl, rfl⟩
    refine Xw ?_
    refine hκ.out _ _ ⟨kept_refl, ?_⟩; clear hκ κ
    refine uany_rest [6, 7] (by kernel_rfl) (by kernel_rfl) (fun _ _ _ h => by cases h.1) (Nat.le_refl _) (fun o ho _ => rfl) ?_
    intro κ hκ
    refine Xw ?_
    refine hκ.out _ _ ⟨rfl, ?_⟩
    simp [upd]
   ·rintro e s' σ'' ⟨rfl, g2, rfl⟩
    repeat' (first
 |with_reducible first|apply Xa|apply Xb|(refine Xc ?_;intro κ hκ)|(apply hκ.out;clear hκ κ)|apply Xd|apply Xe|apply Xf
 |((with_reducible first|refine Xl ?_ ?_|refine Xm ?_ ?_|refine Xk ?_ ?_)<;> intro h hari<;> try exact Xp)
 |refine Xw ?_
 |exact True.intro
 |((with_reducible refine Xg ?_);refine Xj ?_)
 |(apply hκ.out;clear hκ κ))
    first | exact ⟨_, rfl, rfl, hK1⟩ | exact ⟨_, rfl, rfl⟩
set_option maxHeartbeats 16000000 in
theorem kshuffled_spec (f : Tx) (k : Int) (h0 : -9223372036854775808 ≤ k) (h1 : k ≤ 9223372036854775807) (ht : f.length ≤ 400) (hn : (pcsL f).length ≤ 400) (hp : ∀ p ∈ pcsL f, p.length ≤ 100000) (σ : St) : ACalls Tryz.prog 21 [str f, ic k] σ fun r σ' => r = str (shuL f k) ∧ Keep σ σ' := by
 have hPc := fun σ => kpieces_spec f (by omega) σ
 have hc0 : ({ data := #[] } : ByteArray) = bs [] := rfl
 have HT : Abs.Hid (shuL f k = match pcsL f with | [] => f | p :: P => if (((p :: P).drop (pkI k ((p :: P).length : Int)).toNat).flatten ++ ((p :: P).take (pkI k ((p :: P).length : Int)).toNat).flatten).length + p.length ≤ 400 then (((p :: P).drop (pkI k ((p :: P).length : Int)).toNat).flatten ++ ((p :: P).take (pkI k ((p :: P).length : Int)).toNat).flatten) ++ p else ((p :: P).drop (pkI k ((p :: P).length : Int)).toNat).flatten ++ ((p :: P).take (pkI k ((p :: P).length : Int)).toNat).flatten) := rfl
 generalize pcsL f = L at *
 generalize shuL f k = w at *
 cases L with
 | nil =>
  have hw : w = f := HT.out
  subst hw
  refine acalls 41 [.tmp 4] Tryz.func21 rfl (by decide) rfl rfl (Nat.le_of_ble_eq_true rfl) ?_
  repeat' (first
 |with_reducible first|apply Xa|apply Xb|(refine Xc ?_;intro κ hκ)|(apply hκ.out;clear hκ κ)|apply Xd|apply Xe|apply Xf
 |((with_reducible first|refine Xl ?_ ?_|refine Xm ?_ ?_|refine Xk ?_ ?_)<;> intro h hari<;> try exact Xp)
 |((with_reducible refine Xh ?_);refine Xi (hPc _) ?_;rintro _ _ ⟨⟨id,rfl⟩,hK1⟩)
 |refine Xw ?_
 |exact True.intro
 |((with_reducible refine Xg ?_);refine Xj ?_)
 |(apply hκ.out;clear hκ κ))
  first | exact ⟨_, rfl, rfl, hK1⟩ | exact ⟨_, rfl, rfl⟩
 | cons p P =>
  have hPk := fun σ => kpickN_spec k ((p :: P).length : Int) h0 h1 (by simp only [List.length_cons]; omega) (by omega) σ
  have hrng := pkI_rng k (n := ((p :: P).length : Int)) (by simp only [List.length_cons]; omega)
  have hwL := HT.out
  simp only at hwL
  clear HT
  generalize hL : p :: P = L at *
  have hL0 : 0 < L.length := by rw [← hL]; simp
  have hd0 : (L.map str).drop 0 = str p :: P.map str := by rw [← hL]; rfl
  have hpL : p.length ≤ 100000 := hp p (by rw [← hL]; simp)
  clear hL
  generalize pkI k (L.length : Int) = at' at *
  obtain ⟨i, rfl⟩ : ∃ i : Nat, at' = (i : Int) := ⟨at'.toNat, by omega⟩
  rw [Int.toNat_natCast] at hwL
  have hiL : i ≤ L.length := by omega
  have hJ1 := fun σ => kjoined_spec (L.drop i) 0 (by simp; omega) (fun q hq => hp q (List.mem_of_mem_drop hq)) σ
  have hJ2 := fun σ => kjoined_spec (L.take i) 0 (by simp; omega) (fun q hq => hp q (List.mem_of_mem_take hq)) σ
  rw [← drop_str, List.length_drop] at hJ1
  rw [← take_str, List.length_take, Nat.min_eq_left hiL] at hJ2
  have hb1 := flat_bound (L.drop i) (fun q hq => hp q (List.mem_of_mem_drop hq))
  have hb2 := flat_bound (L.take i) (fun q hq => hp q (List.mem_of_mem_take hq))
  rw [List.length_drop] at hb1
  rw [List.length_take] at hb2
  generalize (L.drop i).flatten = A at *
  generalize (L.take i).flatten = B at *
  have hml : (L.map str).length = L.length := by simp
  clear hp
  generalize L.map str = C at *
  generalize L.length = nl at *
  refine acalls 41 [.tmp 4] Tryz.func21 rfl (by decide) rfl rfl (Nat.le_of_ble_eq_true rfl) ?_
  have hnl : ((nl : Int) == 0) = false := by
   have : ¬ (nl : Int) = 0 := by omega
   simpa using this
  rw [List.length_append] at hwL
  have HW : Abs.Hid _ := hwL
  clear hwL
  repeat' (first
 |with_reducible first|apply Xa|apply Xb|(refine Xc ?_;intro κ hκ)|(apply hκ.out;clear hκ κ)|apply Xd|apply Xe|apply Xf
 |((with_reducible first|refine Xl ?_ ?_|refine Xm ?_ ?_|refine Xk ?_ ?_)<;> intro h hari<;> try exact Xp)
 |((with_reducible refine Xh ?_);first|(refine Xi (hPc _) ?_;rintro _ _ ⟨⟨id,rfl⟩,hK1⟩)|(refine Xi (hPk _) ?_;rintro _ _ ⟨rfl,rfl⟩))
 |refine Xw ?_
 |exact True.intro
 |((with_reducible refine Xg ?_);refine Xj ?_)
 |(apply hκ.out;clear hκ κ))
  rename St => σ1
  refine awp_mono (Q := fun e s' σ'' => e = .normal ∧ s' 7 = str (A ++ B) ∧ s' 5 = sl id nl C ∧ σ'' = σ1) ?_ ?_
  ·refine awp_draw_h follows_mixed (fun _ => True) [] [0, 1, 2, 4, 5, 6] 4 #[true, true, true, false, true, true, true, false, false, false] (by kernel_rfl) (fun _ _ _ h => by cases h.1) ?_; intro κ hκ; refine Xw ?_; refine hκ.out _ ?_; clear hκ κ
   refine uany_one (i := 3) (by kernel_rfl) ?_; refine aOne_k ?_; intro κ hκ; refine Xw ?_
   refine ACalls.mono (hJ1 _) ?_
   rintro _ _ ⟨rfl, rfl⟩
   refine Xw ?_
   refine hκ.out _ _ ⟨kept_refl, ?_⟩; clear hκ κ
   refine uany_one (i := 7) (by kernel_rfl) ?_; refine aOne_k ?_; intro κ hκ; refine Xw ?_
   refine ACalls.mono (hJ2 _) ?_
   rintro _ _ ⟨rfl, rfl⟩
   refine Xw ?_
   refine hκ.out _ _ ⟨kept_refl, ?_⟩; clear hκ κ
   refine uany_rest [8, 9] (by kernel_rfl) (by kernel_rfl) (fun _ _ _ h => by cases h.1) (Nat.le_refl _) (fun o ho _ => rfl) ?_
   intro κ hκ
   refine Xw ?_
   refine hκ.out _ _ ⟨rfl, ?_⟩
   simp [upd]
  ·rintro e s' σ'' ⟨rfl, g7, g5, rfl⟩
   have hw2 := HW.out
   clear HW
   by_cases hc : A.length + B.length + p.length ≤ 400
   ·rw [if_pos hc] at hw2
    subst hw2
    have hcd : decide ((((A.length + B.length : Nat) : Int) + (p.length : Int)) ≤ 400) = true := by rw [decide_eq_true_eq]; omega
    repeat' (first
 |with_reducible first|apply Xa|apply Xb|(refine Xc ?_;intro κ hκ)|(apply hκ.out;clear hκ κ)|apply Xd|apply Xe|apply Xf
 |((with_reducible first|refine Xl ?_ ?_|refine Xm ?_ ?_|refine Xk ?_ ?_)<;> intro h hari<;> try exact Xp)
 |refine Xw ?_
 |exact True.intro
 |((with_reducible refine Xg ?_);refine Xj ?_)
 |(apply hκ.out;clear hκ κ))
    first | exact ⟨_, rfl, rfl, hK1⟩ | exact ⟨_, rfl, rfl⟩
   ·rw [if_neg hc] at hw2
    subst hw2
    have hcd : decide ((((A.length + B.length : Nat) : Int) + (p.length : Int)) ≤ 400) = false := by rw [decide_eq_false_iff_not]; omega
    repeat' (first
 |with_reducible first|apply Xa|apply Xb|(refine Xc ?_;intro κ hκ)|(apply hκ.out;clear hκ κ)|apply Xd|apply Xe|apply Xf
 |((with_reducible first|refine Xl ?_ ?_|refine Xm ?_ ?_|refine Xk ?_ ?_)<;> intro h hari<;> try exact Xp)
 |refine Xw ?_
 |exact True.intro
 |((with_reducible refine Xg ?_);refine Xj ?_)
 |(apply hκ.out;clear hκ κ))
    first | exact ⟨_, rfl, rfl, hK1⟩ | exact ⟨_, rfl, rfl⟩
end Go.Proofs.YtmoeoppbmhfbpaaGreatDoorB
