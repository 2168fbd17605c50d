import Derived.Test.YtmoeoppbmhfbpaaGreatDoorUSpaE
import Derived.Test.YtmoeoppbmhfbpaaGreatDoorUProgR
import Derived.Test.YtmoeoppbmhfbpaaGreatDoorUSpaA
import Derived.Test.YtmoeoppbmhfbpaaGreatDoorUPrtF
import Derived.Test.YtmoeoppbmhfbpaaGreatDoorUSpaB
/- The program: Spare of a text. -/
namespace Go.Proofs.YtmoeoppbmhfbpaaGreatDoorU
open Go.Abs
set_option linter.unusedSimpArgs false
set_option linter.unusedVariables false
set_option maxRecDepth 100000
structure Right (t : Tx) (N : List Tx) (l : List RItem) (cs : List AV) : Prop where
 ok : (refCheck t).1 = 0
 len : t.length ≤ 600
 parse : pItems 16 t = .got l []
 bk : Bk N l cs
 wit : ∀ x ∈ l, WItem x
theorem Right.items {t : Tx} {N : List Tx} {l : List RItem} {cs : List AV} (h : Right t N l cs) : itemsL t = l := (parse_good (by have := h.len; omega) h.parse).2.1
theorem Right.wi {t : Tx} {N : List Tx} {l : List RItem} {cs : List AV} (h : Right t N l cs) : ∀ x ∈ l, WI N x := wi_of (by have := h.len; omega) h.parse h.bk h.wit
theorem ord18 {x : RItem} (hw : WItem x) : (ordL x).length ≤ 18 := by
 have h3 := ordT_len ((atomsL x).flatMap (·.terms)) []
 obtain ⟨q1, q2, q3⟩ := hw
 have h4 : (atomsL x).length ≤ 6 ∧ ∀ b ∈ atomsL x, b.terms.length ≤ 3 := by
  cases ho : x.out with
  | true =>
   obtain ⟨-, -, e⟩ := q2 ho
   simp [atomsL, ho, e]
  | false =>
   obtain ⟨e1, -, e2, e3⟩ := q3 ho
   refine ⟨by simp [atomsL, ho]; omega, fun b hb => ?_⟩
   simp [atomsL, ho] at hb
   rcases hb with rfl | hb
   ·exact e1.2.2.1
   ·exact (e3 b hb).2.2.1
 have h5 := flat_len h4.2
 unfold ordL
 rw [List.length_nil, Nat.zero_add] at h3
 omega
theorem Right.xr {t : Tx} {N : List Tx} {l : List RItem} {cs : List AV} (h : Right t N l cs) {x : RItem} (hx : x ∈ l) (ho : x.out = false) : XR x where
 dt := fun a ha w hw => by
  have h1 := pItems_all (T := DT) pTerm_dt 16 t l [] h.parse x hx a ha w hw
  have hs := parse_short (by have := h.len; omega) h.parse x hx
  have hwi := (h.wit x hx).2.2 ho
  simp [atomsL, ho] at ha
  rcases ha with rfl | ha
  ·exact ⟨h1, hwi.1.2.2.2 w hw, hs.1.2.2 w hw⟩
  ·exact ⟨h1, (hwi.2.2.2 a ha).2.2.2 w hw, (hs.2 a ha).2.2 w hw⟩
 out := ho
 few := by have := ord18 (h.wit x hx); omega
theorem firstM_neg {p : Nat → Bool} {n : Nat} (h : ¬ 0 ≤ firstN p n) : ∀ i, i < n → p i = false := by
 intro i hi
 unfold firstN at h
 split at h
 ·rename_i j hj; exact absurd (Int.natCast_nonneg j) h
 ·rename_i hn
  rw [List.find?_eq_none] at hn
  simpa using hn i (by simpa using hi)
theorem right_len {t : Tx} (h : (refCheck t).1 = 0) : ∀ x ∈ itemsL t, ∀ a ∈ atomsL x, ∀ b ∈ atomsL x, a.pred = b.pred → a.terms.length = b.terms.length := by
 have hodd : ∀ i, i < (itemsL t).length → oddP (itemsL t) i = false := by
  unfold refCheck at h
  split at h
  ·simp at h
  split at h
  ·simp at h
  unfold wrongM at h
  split at h
  ·simp at h
  ·rename_i hk; exact firstM_neg hk
 intro x hx a ha b hb he
 obtain ⟨i, hi⟩ := List.getElem?_of_mem hx
 have h1 := hodd i (List.getElem?_eq_some_iff.1 hi).1
 unfold oddP at h1
 rw [hi] at h1
 simp only [List.any_eq_false, List.mem_range] at h1
 obtain ⟨j, hj⟩ := List.getElem?_of_mem ha
 obtain ⟨k, hk⟩ := List.getElem?_of_mem hb
 have hjl := (List.getElem?_eq_some_iff.1 hj).1
 have hkl := (List.getElem?_eq_some_iff.1 hk).1
 have key : ∀ (j k : Nat) (a b : RAtom), (atomsL x)[j]? = some a → (atomsL x)[k]? = some b → k < j → a.pred = b.pred → a.terms.length = b.terms.length := by
  intro j k a b hj hk hlt he
  have h2 := h1 j (List.getElem?_eq_some_iff.1 hj).1
  unfold oddAt at h2
  rw [hj] at h2
  simp only [List.any_eq_true, not_exists, not_and] at h2
  have h3 := h2 b (by
   unfold seenL
   exact List.mem_append.2 (.inr (List.mem_of_getElem? (i := k) (by rw [List.getElem?_take, if_pos hlt]; exact hk))))
  unfold clash at h3
  simp [he] at h3
  exact h3.symm
 rcases Nat.lt_trichotomy j k with hlt | rfl | hgt
 ·exact (key k j b a hk hj hlt he.symm).symm
 ·rw [hj] at hk; cases hk; rfl
 ·exact key j k a b hj hk hgt he
def pSpareR (t : Tx) (n m : Int) (r : Tx × Int) : Prop :=
 if (refCheck t).1 ≠ 0 then r = ([], (refCheck t).1) else
 ∃ N l cs, Right t N l cs ∧
  ((r = ([], 6) ∧ (hasRuleB l n = false ∨ m < 0 ∨ ∃ x, l[n.toNat]? = some x ∧ (x.body.length : Int) ≤ m)) ∨
   ∃ x s0, hasRuleB l n = true ∧ 0 ≤ n ∧ l[n.toNat]? = some x ∧ x.out = false ∧ 0 ≤ m ∧ m < x.body.length ∧ withL sw0 ((ren x).head.terms.map encT) ((ren x).head.terms.map encT) = some s0 ∧
   match spareE N (ren x) m.toNat s0 with
   | none => r = ([], 10)
   | some s => r = (uList (putTs s (ordL (ren x)).length), 0))
abbrev twoS (p : Tx × Int) : AV := tp [str p.1, sc (.int .i64 p.2)]
theorem hasRule_some {l : List RItem} {n : Int} (h : hasRuleB l n = true) : 0 ≤ n ∧ ∃ x, l[n.toNat]? = some x ∧ x.out = false := by
 unfold hasRuleB at h
 split at h
 ·rename_i h0
  split at h
  ·rename_i x hx; exact ⟨h0, x, hx, by simpa using h⟩
  ·cases h
 ·cases h
theorem ren_fits {x : RItem} (h : x.fits) : (ren x).fits := by
 obtain ⟨h1, h2, h3⟩ := h
 refine ⟨by simpa [ren] using h1, by simpa [ren, renA] using h2, fun a ha => ?_⟩
 simp only [ren, List.mem_map] at ha
 obtain ⟨a', ha', rfl⟩ := ha
 simpa [renA] using h3 a' ha'
structure Ask (N : List Tx) (x : RItem) (k : Nat) (s0 : Sw) : Prop where
 ino : InO (ren x)
 fits : (ren x).fits
 e0 : withL sw0 ((ren x).head.terms.map encT) ((ren x).head.terms.map encT) = some s0
 hv : ∀ t ∈ (ren x).head.terms, varOk t
 ok : ∀ a ∈ (ren x).body, OkA ((ren x).body.eraseIdx k) a
 text : ∀ s, spareE N (ren x) k s0 = some s → ∀ i, i < (ordL (ren x)).length → okE (s.2 i)
 va : ∀ a ∈ atomsL (ren x), VA a
theorem ut_vt {t : Tx} (h : UT t) : VT t := by
 cases hv : variableB t with
 | true =>
  obtain ⟨k, hk, rfl, -⟩ := h.enc hv
  exact .inl ⟨_, rfl, let_large (by omega) (by omega)⟩
 | false =>
  refine .inr ⟨h.2.1.1, fun b hb => ?_⟩
  rcases h.2.1.2 b hb with q | q
  ·exfalso
   rcases h.1 with h1 | ⟨-, h1, h2, h3⟩
   ·rw [hv] at h1; cases h1
   ·have hd : ∀ (u : Nat), ∀ c ∈ Lib.decDigits u, c.toNat ≤ 57 := by
     intro u
     induction u using Nat.strongRecOn with
     | _ u ih =>
      intro c hc
      by_cases h10 : u < 10
      ·rw [Lib.decDigits_one h10] at hc
       simp only [List.mem_singleton] at hc
       subst hc
       rw [UInt8.toNat_ofNat_of_lt' (by show 48 + u < 256; omega)]; omega
      ·rw [Lib.decDigits, dif_neg h10] at hc
       rcases List.mem_append.1 hc with q | q
       ·exact ih (u / 10) (by omega) c q
       ·simp only [List.mem_singleton] at q
        subst q
        rw [UInt8.toNat_ofNat_of_lt' (by show 48 + u % 10 < 256; omega)]; omega
    have hb' : b ∈ Lib.itoa (encT t).2 := by rw [h1]; exact hb
    unfold Lib.itoa at hb'
    rw [if_neg (by omega)] at hb'
    have := hd _ b hb'
    simp [largeB] at q
    omega
  ·exact q
theorem Right.ask {t : Tx} {N : List Tx} {l : List RItem} {cs : List AV} (h : Right t N l cs) {x : RItem} (hx : x ∈ l) (ho : x.out = false) (k : Nat) : ∃ s0, Ask N x k s0 ∧ ((∃ s', spareE N (ren x) k s0 = some s') ↔ (safeB (woL x k) = true ∧ SpareP x k)) := by
 have hX := h.xr hx ho
 have hI := hX.inO
 have hN := (EL_PI_mem h.bk.el x hx).2
 have hlen : ∀ a ∈ x.body, ∀ b ∈ x.body, a.pred = b.pred → a.terms.length = b.terms.length := fun a ha b hb => right_len h.ok x (by rw [h.items]; exact hx) a (atoms_mem (.inr ha)) b (atoms_mem (.inr hb))
 have hlen' : ∀ a ∈ (ren x).body, ∀ b ∈ (ren x).body, a.pred = b.pred → a.terms.length = b.terms.length := fun a ha b hb he => by
  simp only [ren, List.mem_map] at ha hb
  obtain ⟨a', ha', rfl⟩ := ha
  obtain ⟨b', hb', rfl⟩ := hb
  simpa [renA] using hlen a' ha' b' hb' he
 have hN' : ∀ a ∈ (ren x).body, a.pred ∈ N := fun a ha => by
  simp only [ren, List.mem_map] at ha
  obtain ⟨a', ha', rfl⟩ := ha
  exact hN a' ha'
 obtain ⟨s0, h0, hiff⟩ := hX.spare_iff (N := N) (k := k) hN hlen
 have hf := ren_fits (h.bk.fits x hx)
 refine ⟨s0, ⟨hI, hf, h0, fun t ht => (hI.ut _ (atoms_mem (.inl ⟨hI.out, rfl⟩)) t ht).varOk, fun a ha => ⟨hf.2.2 a ha, fun t ht => (hI.ut a (atoms_mem (.inr ha)) t ht).varOk, fun b hb => hlen' a ha b (List.mem_of_mem_eraseIdx hb)⟩, fun s hs i hi => ?_, fun a ha w hw => ut_vt (hI.ut a ha w hw)⟩, hiff⟩
 obtain ⟨u, hu, e⟩ := (found hI hN' hlen' h0 hs).2.1 i hi
 rw [e]
 exact hu.dec.2
set_option maxHeartbeats 16000000 in
theorem pSpare_spec (t : Tx) (n m : Int) (σ : St) : ACalls Tryz.prog 32 [str t, sc (.int .i64 n), sc (.int .i64 m)] σ fun r σ' => ∃ p, r = twoS p ∧ pSpareR t n m p ∧ Keep σ σ' := by
 have hL := fun σ => load_spec t σ
 have hsl := swC_len
 have hsz := swC_zero
 have htk : ∀ s, List.take 78 (swC s) = swC s := fun s => List.take_of_length_le (by rw [swC_len]; exact Nat.le_refl _)
 have hls : ∀ s s', lsp (swC s) 0 (swC s') = swC s' := fun s s' => lsp_whole (by rw [swC_len, swC_len])
 have hfl : ∀ s, (swC s).all flat = true := fun s => by
  rw [List.all_eq_true]
  intro x hx
  obtain ⟨n, -, rfl⟩ := List.mem_map.1 hx
  unfold swF
  split
  ·rfl
  ·split <;> rfl
 by_cases he : (refCheck t).1 = 0
 ·have heb : ((refCheck t).1 != 0) = false := by simpa using he
  have HE : Abs.Hid ((refCheck t).1 = 0) := he
  have hlen : t.length ≤ 600 := by
   by_cases hl : 600 < t.length
   ·unfold refCheck at he; rw [if_pos hl] at he; simp at he
   ·omega
  clear he
  refine acalls 61 [.tmp 6, .tmp 7] Tryz.func32 rfl (by decide) rfl rfl (Nat.le_of_ble_eq_true rfl) ?_
  repeat' (first
 |with_reducible first|apply Xa|apply Xb|(refine Xc ?_;intro κ hκ)|(apply hκ.out;clear hκ κ)|apply Xd|apply Xe|apply Xf
 |((with_reducible first|refine Xl ?_ ?_|refine Xm ?_ ?_|refine Xk ?_ ?_)<;> intro h hari<;> try exact Xp)
 |((with_reducible refine Xh ?_);refine Xi (hL _) ?_;rintro _ _ ⟨idn,n1,c1,idi,n2,c2,rfl,hK1,hb⟩;(have kno1:=hK1.nobj;obtain ⟨N,l,hp,hBk,rfl,rfl,rfl,hva,hWI⟩:=hb HE.out;have hRt : Right t N l c2:=⟨HE.out,hlen,hp,hBk,hWI⟩;have HRt : Abs.Hid _:=hRt;have hHR:=fun σ => hasRule_spec N l c2 idn idi n hBk σ;have hcl:=EL.length PI_len hBk.el;have hl16:=hBk.len;clear hp hb hva hWI hRt))
 |refine Xw ?_
 |exact True.intro
 |((with_reducible refine Xg ?_);refine Xj ?_)
 |(apply hκ.out;clear hκ κ))
  rename_i σ1
  have kno1b := kno1
  have hpR : Abs.Hid (∀ r : Tx × Int, (∃ N l cs, Right t N l cs ∧ ((r = ([], 6) ∧ (hasRuleB l n = false ∨ m < 0 ∨ ∃ x, l[n.toNat]? = some x ∧ (x.body.length : Int) ≤ m)) ∨ ∃ x s0, hasRuleB l n = true ∧ 0 ≤ n ∧ l[n.toNat]? = some x ∧ x.out = false ∧ 0 ≤ m ∧ m < x.body.length ∧ withL sw0 ((ren x).head.terms.map encT) ((ren x).head.terms.map encT) = some s0 ∧ (match spareE N (ren x) m.toNat s0 with | none => r = ([], 10) | some s => r = (uList (putTs s (ordL (ren x)).length), 0)))) → pSpareR t n m r) := fun r h => by
   unfold pSpareR; rw [if_neg (by simp [HE.out])]; exact h
  cases hhr : hasRuleB l n with
  | false =>
   rw [hhr] at hHR
   have HP : Abs.Hid (pSpareR t n m ([], 6)) := hpR.out _ ⟨N, l, c2, HRt.out, .inl ⟨rfl, .inl hhr⟩⟩
   clear hpR hhr
   repeat' (first
 |with_reducible first|apply Xa|apply Xb|(refine Xc ?_;intro κ hκ)|(apply hκ.out;clear hκ κ)|apply Xd|apply Xe|apply Xf
 |((with_reducible first|refine Xl ?_ ?_|refine Xm ?_ ?_|refine Xk ?_ ?_)<;> intro h hari<;> try exact Xp)
 |((with_reducible refine Xh ?_);refine Xi (hHR _) ?_;rintro _ _ ⟨rfl,hK2⟩;(have kob2:=hK2.obj;have kno2:=hK2.nobj;simp only [new_nobj,put_nobj] at kno2))
 |refine Xw ?_
 |exact True.intro
 |((with_reducible refine Xg ?_);refine Xj ?_)
 |(apply hκ.out;clear hκ κ))
   exact ⟨_, rfl, _, rfl, HP.out, by exact Xs⟩
  | true =>
   obtain ⟨hn0, x, hx, hxo⟩ := hasRule_some hhr
   have hn1 := (List.getElem?_eq_some_iff.1 hx).1
   have hnn : ((n.toNat : Nat) : Int) = n := Int.toNat_of_nonneg hn0
   have hxm := List.mem_of_getElem? hx
   have hwi := HRt.out.wi x hxm
   obtain ⟨hm, ih, id, b, rr, hb, hd⟩ := EL_PI hBk.el hx
   have HX : Abs.Hid (l[n.toNat]? = some x) := hx
   have HHR : Abs.Hid (hasRuleB l n = true) := hhr
   rw [hhr] at hHR
   have hO := fun σ => inOrder_spec N x _ (PI.of (ih := ih) (id := id) hm hb) hwi.out hwi.fits hwi.va hwi.vh hwi.vb σ
   have hRP : ∀ c, RI N (ordL x) x c → PI N (ren x) c := fun c hc => RI_PI hwi hxo hc
   have hnl : n < (l.length : Int) := by omega
   simp only [hxo] at hO
   clear hx hhr hwi
   by_cases hm0 : m < 0
   ·have HP : Abs.Hid (pSpareR t n m ([], 6)) := hpR.out _ ⟨N, l, c2, HRt.out, .inl ⟨rfl, .inr (.inl hm0)⟩⟩
    clear hpR hO
    repeat' (first
 |with_reducible first|apply Xa|apply Xb|(refine Xc ?_;intro κ hκ)|(apply hκ.out;clear hκ κ)|apply Xd|apply Xe|apply Xf
 |((with_reducible first|refine Xl ?_ ?_|refine Xm ?_ ?_|refine Xk ?_ ?_)<;> intro h hari<;> try exact Xp)
 |((with_reducible refine Xh ?_);refine Xi (hHR _) ?_;rintro _ _ ⟨rfl,hK2⟩;(have kob2:=hK2.obj;have kno2:=hK2.nobj;simp only [new_nobj,put_nobj] at kno2))
 |refine Xw ?_
 |exact True.intro
 |((with_reducible refine Xg ?_);refine Xj ?_)
 |(apply hκ.out;clear hκ κ))
    exact ⟨_, rfl, _, rfl, HP.out, by exact Xs⟩
   ·by_cases hm1 : (x.body.length : Int) ≤ m
    ·have HP : Abs.Hid (pSpareR t n m ([], 6)) := hpR.out _ ⟨N, l, c2, HRt.out, .inl ⟨rfl, .inr (.inr ⟨x, HX.out, hm1⟩)⟩⟩
     clear hpR hO
     repeat' (first
 |with_reducible first|apply Xa|apply Xb|(refine Xc ?_;intro κ hκ)|(apply hκ.out;clear hκ κ)|apply Xd|apply Xe|apply Xf
 |((with_reducible first|refine Xl ?_ ?_|refine Xm ?_ ?_|refine Xk ?_ ?_)<;> intro h hari<;> try exact Xp)
 |((with_reducible refine Xh ?_);refine Xi (hHR _) ?_;rintro _ _ ⟨rfl,hK2⟩;(have kob2:=hK2.obj;have kno2:=hK2.nobj;simp only [new_nobj,put_nobj] at kno2))
 |refine Xw ?_
 |exact True.intro
 |((with_reducible refine Xg ?_);refine Xj ?_)
 |(apply hκ.out;clear hκ κ))
     exact ⟨_, rfl, _, rfl, HP.out, by exact Xs⟩
    ·have hmn : ((m.toNat : Nat) : Int) = m := Int.toNat_of_nonneg (by omega)
     obtain ⟨s0, hA, -⟩ := HRt.out.ask hxm hxo m.toNat
     have hP2 : Abs.Hid (∀ r : Tx × Int, (match spareE N (ren x) m.toNat s0 with | none => r = ([], 10) | some s => r = (uList (putTs s (ordL (ren x)).length), 0)) → pSpareR t n m r) := fun r h => hpR.out _ ⟨N, l, c2, HRt.out, .inr ⟨x, s0, HHR.out, hn0, HX.out, hxo, by omega, by omega, hA.e0, h⟩⟩
     have hSp := fun c hc σ => pspare_spec N (ren x) c m.toNat s0 hc hA.fits hA.e0 hA.hv hA.ok σ
     rw [hmn] at hSp
     have hVs := fun c hc σ => pvariables_spec N (ren x) c hc (fun h => by rw [hA.ino.out] at h; cases h) hA.fits hA.va σ
     have hol := hA.ino.len
     have hTx := fun s hs σ => stext_spec s (ordL (ren x)).length hol (hA.text s hs) σ
     clear hpR hA hxm
     generalize (ordL (ren x)) = oy at hVs hol hTx hP2
     cases hse : spareE N (ren x) m.toNat s0 with
     | none =>
      rw [hse] at hSp hP2
      simp only [wRes] at hSp
      have HP : Abs.Hid (pSpareR t n m ([], 10)) := hP2.out _ rfl
      clear hP2 hTx hVs hse
      repeat' (first
 |with_reducible first|apply Xa|apply Xb|(refine Xc ?_;intro κ hκ)|(apply hκ.out;clear hκ κ)|apply Xd|apply Xe|apply Xf
 |((with_reducible first|refine Xl ?_ ?_|refine Xm ?_ ?_|refine Xk ?_ ?_)<;> intro h hari<;> try exact Xp)
 |((with_reducible refine Xh ?_);first|(refine Xi (hHR _) ?_;rintro _ _ ⟨rfl,hK2⟩;(have kob2:=hK2.obj;have kno2:=hK2.nobj;simp only [new_nobj,put_nobj] at kno2))|(refine Xi (hO _) ?_;rintro _ _ ⟨c3,rfl,hRI,hVL,hK3⟩;(have kob3:=hK3.obj;have kno3:=hK3.nobj;have hS3:=hSp c3 (hRP c3 hRI);obtain ⟨ih3,id3,b3,hb3,rfl⟩:=hRI;simp only [hxo] at hS3))|(refine Xi (hS3 _) ?_;rintro _ _ ⟨rfl,hK4⟩;(have kob4:=hK4.obj;have kno4:=hK4.nobj;simp only [new_nobj,put_nobj] at kno4)))
 |refine Xw ?_
 |exact True.intro
 |((with_reducible refine Xg ?_);refine Xj ?_)
 |(apply hκ.out;clear hκ κ))
      exact ⟨_, rfl, _, rfl, HP.out, by exact Xs⟩
     | some s =>
      rw [hse] at hSp hP2
      simp only [wRes] at hSp
      have HP : Abs.Hid (pSpareR t n m (uList (putTs s oy.length), 0)) := hP2.out _ rfl
      have hTx := hTx s hse
      clear hP2 hse
      repeat' (first
 |with_reducible first|apply Xa|apply Xb|(refine Xc ?_;intro κ hκ)|(apply hκ.out;clear hκ κ)|apply Xd|apply Xe|apply Xf
 |((with_reducible first|refine Xl ?_ ?_|refine Xm ?_ ?_|refine Xk ?_ ?_)<;> intro h hari<;> try exact Xp)
 |((with_reducible refine Xh ?_);first|(refine Xi (hHR _) ?_;rintro _ _ ⟨rfl,hK2⟩;(have kob2:=hK2.obj;have kno2:=hK2.nobj;simp only [new_nobj,put_nobj] at kno2))|(refine Xi (hO _) ?_;rintro _ _ ⟨c3,rfl,hRI,hVL,hK3⟩;(have kob3:=hK3.obj;have kno3:=hK3.nobj;have hS3:=hSp c3 (hRP c3 hRI);have hV3:=hVs c3 (hRP c3 hRI);obtain ⟨ih3,id3,b3,hb3,rfl⟩:=hRI;simp only [hxo] at hS3 hV3))|(refine Xi (hS3 _) ?_;rintro _ _ ⟨rfl,hK4⟩;(have kob4:=hK4.obj;have kno4:=hK4.nobj;simp only [new_nobj,put_nobj] at kno4)))
 |refine Xw ?_
 |exact True.intro
 |((with_reducible refine Xg ?_);refine Xj ?_)
 |(apply hκ.out;clear hκ κ))
      refine awp_draw_k follows_mixed (fun _ => True) [4, 5, 6] [0, 1] [2, 3, 4, 5, 6] (by kernel_rfl) (fun _ _ _ h => h) ?_
      intro κ hκ
      repeat' (first
 |with_reducible first|apply Xa|apply Xb|(refine Xc ?_;intro κ hκ)|(apply hκ.out;clear hκ κ)|apply Xd|apply Xe|apply Xf
 |((with_reducible first|refine Xl ?_ ?_|refine Xm ?_ ?_|refine Xk ?_ ?_)<;> intro h hari<;> try exact Xp)
 |((with_reducible refine Xh ?_);first|(refine Xi (hV3 _) ?_;rintro _ _ ⟨idv,rfl,hVL2,hK5⟩;(have kno5:=hK5.nobj;simp only [new_nobj,put_nobj] at kno5))|(refine Xi (hTx _) ?_;rintro _ _ ⟨rfl,hK6⟩))
 |refine Xw ?_
 |exact True.intro
 |((with_reducible refine Xg ?_);refine Xj ?_)
 |(apply hκ.out;clear hκ κ))
      exact ⟨_, rfl, _, rfl, HP.out, by exact Xs⟩
 ·have heb : ((refCheck t).1 != 0) = true := by simpa using he
  have HE : Abs.Hid (¬ (refCheck t).1 = 0) := he
  clear he
  refine acalls 61 [.tmp 6, .tmp 7] Tryz.func32 rfl (by decide) rfl rfl (Nat.le_of_ble_eq_true rfl) ?_
  repeat' (first
 |with_reducible first|apply Xa|apply Xb|(refine Xc ?_;intro κ hκ)|(apply hκ.out;clear hκ κ)|apply Xd|apply Xe|apply Xf
 |((with_reducible first|refine Xl ?_ ?_|refine Xm ?_ ?_|refine Xk ?_ ?_)<;> intro h hari<;> try exact Xp)
 |((with_reducible refine Xh ?_);refine Xi (hL _) ?_;rintro _ _ ⟨idn,n1,c1,idi,n2,c2,rfl,hK1,hb⟩;(have kno1:=hK1.nobj;clear hb))
 |refine Xw ?_
 |exact True.intro
 |((with_reducible refine Xg ?_);refine Xj ?_)
 |(apply hκ.out;clear hκ κ))
  refine ⟨_, rfl, ([], (refCheck t).1), rfl, ?_, by exact Xs⟩
  unfold pSpareR
  rw [if_pos HE.out]
/- What Print writes of a right program is short, and is read again. -/
theorem uMore_le {α : Type} (g h : α → Tx) : ∀ l : List α, (∀ a ∈ l, (g a).length ≤ (h a).length) → (uMore (l.map g)).length ≤ (uMore (l.map h)).length
 | [], _ => by simp [uMore]
 | a :: l, hl => by
  have h1 := uMore_le g h l fun b hb => hl b (by simp [hb])
  have h2 := hl a (by simp)
  unfold uMore at *
  simp only [List.map_cons, List.flatMap_cons, List.length_append, List.length_cons]
  omega
theorem uList_le {α : Type} (g h : α → Tx) : ∀ l : List α, (∀ a ∈ l, (g a).length ≤ (h a).length) → (uList (l.map g)).length ≤ (uList (l.map h)).length
 | [], _ => by simp [uList]
 | a :: l, hl => by
  have h1 := uMore_le g h l fun b hb => hl b (by simp [hb])
  have h2 := hl a (by simp)
  simp only [List.map_cons, uList, List.length_append]
  omega
theorem wrT_le {l : List Tx} {t : Tx} (h : WTerm t) : (wrT l t).length ≤ t.length := by
 unfold wrT
 split
 ·have := List.length_pos_iff.2 h.1
  simp only [List.length_cons, List.length_nil]; omega
 ·exact Nat.le_refl _
theorem uAtom_le {l : List Tx} {a : RAtom} (h : WAtom a) : (uAtom (renA l a)).length ≤ (uAtom a).length := by
 have h1 := uList_le (wrT l) id a.terms fun t ht => wrT_le (h.2.2.2 t ht)
 rw [List.map_id] at h1
 unfold uAtom renA
 simp only [List.length_append, List.length_cons, List.length_nil]
 omega
theorem uLit_le {l : List Tx} {a : RAtom} (h : WAtom a) : (uLit (renA l a)).length ≤ (uLit a).length := by
 have h1 := uAtom_le (l := l) h
 unfold uLit
 rw [List.length_append, List.length_append]
 show (if a.nt = true then [33] else ([] : Tx)).length + _ ≤ _
 omega
theorem uItem_le {x : RItem} (h : WItem x) : (uItem (ren x)).length ≤ (uItem x).length := by
 unfold uItem
 cases ho : x.out with
 | true =>
  rw [if_pos (by simp [ren, ho]), if_pos rfl]
  simp [ren, renA]
 | false =>
  obtain ⟨q1, -, -, q3⟩ := h.2.2 ho
  rw [if_neg (by simp [ren, ho]), if_neg (by simp)]
  have h1 := uAtom_le (l := ordL x) q1
  have h2 := uList_le (fun a => uLit (renA (ordL x) a)) uLit x.body fun a ha => uLit_le (q3 a ha)
  unfold uRule
  show (uAtom (renA (ordL x) x.head) ++ (if x.body.map (renA (ordL x)) = [] then [] else 58 :: 45 :: uList ((x.body.map (renA (ordL x))).map uLit))).length ≤ _
  rw [List.map_map, List.length_append, List.length_append]
  by_cases hb : x.body = []
  ·rw [if_pos (by simp [hb]), if_pos hb]; simpa using h1
  ·rw [if_neg (by simpa using hb), if_neg hb]
   simp only [List.length_cons]
   have h3 : (uList (x.body.map (uLit ∘ renA (ordL x)))).length ≤ (uList (x.body.map uLit)).length := h2
   omega
theorem uItems_le : ∀ l : List RItem, (∀ x ∈ l, WItem x) → (uItems (l.map ren)).length ≤ (uItems l).length
 | [], _ => by simp [uItems]
 | x :: l, h => by
  have h1 := uItems_le l fun y hy => h y (by simp [hy])
  have h2 := uItem_le (h x (by simp))
  unfold uItems at *
  simp only [List.map_cons, List.flatMap_cons, List.length_append, List.length_cons, List.length_nil]
  omega
/- The document's own answer: pairs, agree, ways. -/
/- The document's own answer: agree, ways. -/
/- The document's own answer: shows; a rule without a literal. -/
/- The document's own answer: a rule without a literal; whether it is spare; Needs. -/
theorem right_items {t : Tx} (he : (refCheck t).1 = 0) : t.length ≤ 600 ∧ ∃ l r, pItems 16 t = .got l r := by
 have hlen : t.length ≤ 600 := by
  by_cases hl : 600 < t.length
  ·unfold refCheck at he; rw [if_pos hl] at he; simp at he
  ·omega
 refine ⟨hlen, ?_⟩
 have hp := placeL_parse t
 cases h : pItems 16 t with
 | got l r => exact ⟨l, r, rfl⟩
 | bad e =>
  rw [h] at hp
  have hp : placeL t = ((t.length - e.length : Nat) : Int) := hp
  unfold refCheck at he
  rw [if_neg (by omega), hp, if_pos (Int.natCast_nonneg _)] at he
  simp at he
/- The document's own answer: stands, same, within, lands. -/
/- The document's own answer: within, lands. -/
end Go.Proofs.YtmoeoppbmhfbpaaGreatDoorU
