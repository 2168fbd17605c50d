import Derived.Test.YtmoeoppbmhfbpaaGreatDoorQOptM
import Derived.Test.YtmoeoppbmhfbpaaGreatDoorQAgrB
import Derived.Test.YtmoeoppbmhfbpaaGreatDoorQSpaE
import Derived.Test.YtmoeoppbmhfbpaaGreatDoorQOptF
/- Core: what the pass a leaves has no spare literal. Pure. -/
namespace Go.Proofs.YtmoeoppbmhfbpaaGreatDoorQ
open Go.Abs
set_option linter.unusedSimpArgs false
set_option linter.unusedVariables false
/-! ### How many changes there can be -/
theorem pss_one {N : List Tx} {c : UInt8} {b : Int} {l l' : List RItem} {m : Int} (h : Pss N b l 0 [c] l' m) : Pass N c b l 0 l' m := by
 have key : ∀ {ps : Tx} {l' : List RItem} {m : Int}, Pss N b l 0 ps l' m → (ps = [] → l' = l ∧ m = 0) ∧ (ps = [c] → Pass N c b l 0 l' m) := fun h => by
  induction h with
  | nil => exact ⟨fun _ => ⟨rfl, rfl⟩, (fun e => by cases e)⟩
  | @snoc ps c' l1 l2 m1 m2 _ hP ih =>
   refine ⟨(fun e => by simp at e), fun e => ?_⟩
   have e' : ps = [] ∧ c' = c := by
    cases ps with
    | nil => simpa using e
    | cons a r => simp at e
   obtain ⟨rfl, rfl⟩ := e'
   obtain ⟨rfl, rfl⟩ := ih.1 rfl
   exact hP
 exact (key h).2 rfl
/-! ### A spare literal may be left out -/
/- An implied rule stays one under other letters and other places of names. Pure. -/
def ClS (R : List RItem) (gv : List RAtom) (S : RAtom → Prop) : Prop := (∀ a ∈ gv, S a) ∧ ∀ y ∈ R, ∀ μ, (∀ b ∈ y.body, S (atM μ b)) → S (atM μ y.head)
def LA (R : List RItem) (gv : List RAtom) (a : RAtom) : Prop := ∀ S, ClS R gv S → S a
theorem LA.cl (R : List RItem) (gv : List RAtom) : ClS R gv (LA R gv) := ⟨fun a ha S hS => hS.1 a ha, fun y hy μ hb S hS => hS.2 y hy μ fun b hbm => hb b hbm S hS⟩
theorem sat_cls {R : List RItem} {gv : List RAtom} {S : RAtom → Prop} (h : Sat true R gv S) : ClS R gv S :=
 ⟨h.1, fun y hy μ hb => h.2 (gv ++ y.body.map (atM μ)) (fun a ha => by
  rcases List.mem_append.1 ha with ha | ha
  ·exact h.1 a ha
  ·obtain ⟨b, hbm, rfl⟩ := List.mem_map.1 ha
   exact hb b hbm) (fun a ha => List.mem_append_left _ ha) y hy _ ⟨μ, fun a ha _ => List.mem_append_right _ (List.mem_map.2 ⟨a, ha, rfl⟩), fun a ha hp => (by cases hp), rfl⟩⟩
section
variable {N : List Tx} {ar : Tx → Nat} {Rd : List RItem} {x : RItem}
theorem la_ga (h : SysI N ar Rd x) {a : RAtom} (ha : LA Rd (x.body.map frzR) a) : GA N ar a ∧ LstF (Rd.map (afP N)) (fctP N x) (eA N a).1 (eA N a).2 := ha _ (sat_cls (sat_of h))
theorem la_cl (h : SysI N ar Rd x) {A : RAtom → Prop} (hA : ∀ a, A a → GA N ar a) (hc : ∀ y ∈ Rd, ∀ μ, (∀ b ∈ y.body, A (atM μ b)) → A (atM μ y.head)) : ClD (Rd.map (afP N)) (fun k t => ∃ a, A a ∧ eA N a = (k, t)) := by
 intro r hr ν hb
 obtain ⟨y, hy, rfl⟩ := List.mem_map.1 hr
 have hry := h.ru y hy
 have hb' : ∀ b ∈ y.body, ∃ a, A a ∧ a.nt = b.nt ∧ a.pred = b.pred ∧ a.terms.map encG = b.terms.map fun t => valN ν (encT t) := fun b hbm => by
  obtain ⟨a, ha, e⟩ := hb (affL N.length (litP N b)) (by rw [afP_body]; exact List.mem_map.2 ⟨b, hbm, rfl⟩)
  rw [aff_p, Int.toNat_natCast, esub_ts, aff_ts] at e
  unfold eA at e
  simp only [Prod.mk.injEq] at e
  obtain ⟨e1, e2⟩ := e
  obtain ⟨g1, g2⟩ := prdI_inj (hA a ha).mem (hry.body b hbm).mem e1
  refine ⟨a, ha, g1, g2, ?_⟩
  unfold esub at e2
  simp only [List.map_map] at e2
  exact tupOf_inj (by simp only [List.length_map]; rw [(hA a ha).len, (hry.body b hbm).len, g2]) (by rw [List.length_map]; exact (hA a ha).le3) e2
 let μ : Tx → Tx := fun v => Classical.epsilon fun u => GT u ∧ encG u = ν (encT v).2
 have hμ : ∀ v, (∃ u, GT u ∧ encG u = ν (encT v).2) → GT (μ v) ∧ encG (μ v) = ν (encT v).2 := fun v hv => Classical.epsilon_spec hv
 have hvar : ∀ b ∈ y.body, ∀ v ∈ b.terms, variableB v = true → GT (μ v) ∧ encG (μ v) = ν (encT v).2 := fun b hbm v hv hvv => by
  obtain ⟨a, ha, -, -, e⟩ := hb' b hbm
  obtain ⟨i, hi⟩ := List.getElem?_of_mem hv
  have h1 : (b.terms.map fun t => valN ν (encT t))[i]? = some (valN ν (encT v)) := by rw [List.getElem?_map, hi]; rfl
  rw [← e, List.getElem?_map] at h1
  cases hai : a.terms[i]? with
  | none => rw [hai] at h1; cases h1
  | some u =>
   rw [hai] at h1
   have h2 : encG u = valN ν (encT v) := Option.some.inj h1
   refine hμ v ⟨u, (hA a ha).gt u (List.mem_of_getElem? hai), ?_⟩
   rw [h2]
   unfold valN
   rw [enc_fst, hvv, if_pos rfl]
 have hval : ∀ t, VT t → DT t → (variableB t = true → GT (μ t) ∧ encG (μ t) = ν (encT t).2) → GT (tmM μ t) ∧ encG (tmM μ t) = valN ν (encT t) := fun t h1 h2 h3 => by
  unfold valN
  rw [enc_fst]
  cases hv : variableB t with
  | true => rw [if_pos rfl, tmM_var hv]; exact h3 hv
  | false => rw [if_neg (by simp), tmM_gnd hv]; exact ⟨.inl ⟨hv, h1, h2⟩, encG_num h1 hv⟩
 have hbody : ∀ b ∈ y.body, A (atM μ b) := fun b hbm => by
  obtain ⟨a, ha, e1, e2, e3⟩ := hb' b hbm
  have : atM μ b = a := by
   refine RAtom.ext' e1.symm e2.symm ?_
   have hg : ∀ t ∈ b.terms, GT (tmM μ t) ∧ encG (tmM μ t) = valN ν (encT t) := fun t ht => hval t (hry.vb b hbm t ht).1 (hry.vb b hbm t ht).2 (hvar b hbm t ht)
   refine map_inj_on (f := encG) (fun u hu w hw e => ?_) ?_
   ·obtain ⟨t, ht, rfl⟩ := List.mem_map.1 hu
    exact encG_inj (hg t ht).1 ((hA a ha).gt w hw) e
   ·show (b.terms.map (tmM μ)).map encG = a.terms.map encG
    rw [e3, List.map_map]
    exact List.map_congr_left fun t ht => (hg t ht).2
  rw [this]; exact ha
 refine ⟨atM μ y.head, hc y hy μ hbody, ?_⟩
 unfold eA
 refine Prod.ext ?_ ?_
 ·show prdI N (atM μ y.head) = (((N.idxOf y.head.pred : Nat) : Int)).toNat
  unfold prdI
  have : (atM μ y.head).nt = false := hry.hnt
  rw [this, Int.toNat_natCast]; rfl
 ·show tupOf ((y.head.terms.map (tmM μ)).map encG) = tupOf ((y.head.terms.map encT).map (valN ν))
  rw [List.map_map, List.map_map]
  congr 1
  refine List.map_congr_left fun t ht => ?_
  exact (hval t (hry.vt t ht).1 (hry.vt t ht).2 (fun hv => by
   obtain ⟨b, hbm, hub⟩ := hry.safe t ht hv
   exact hvar b hbm t hub hv)).2
theorem la_of (h : SysI N ar Rd x) {k : Nat} {t : Tup} (hl : LstF (Rd.map (afP N)) (fctP N x) k t) : ∃ a, LA Rd (x.body.map frzR) a ∧ eA N a = (k, t) :=
 hl _ (la_cl h (fun a ha => (la_ga h ha).1) (LA.cl Rd _).2) fun a ha => by
  unfold fctP at ha
  rw [afP_body, List.map_map] at ha
  obtain ⟨b, hb, rfl⟩ := List.mem_map.1 ha
  exact ⟨frzR b, (LA.cl Rd _).1 _ (List.mem_map.2 ⟨b, hb, rfl⟩), eA_frz fun t ht => (h.x.vb b hb t ht).1⟩
theorem eA_head (h : SysI N ar Rd x) : eA N (frzR x.head) = ((afP N x).head.p.toNat, tupA (frzA (afP N x).head)) := by
 rw [eA_frz (N := N) (b := x.head) fun t ht => (h.x.vt t ht).1]
 have e : (affL (N.length : Int) (litP N x.head)).a = atmP N x.head := by
  unfold affL
  rw [if_neg (by show ¬ x.head.nt = true; rw [h.x.hnt]; simp)]; rfl
 rw [e]; rfl
theorem la_head (h : SysI N ar Rd x) : LstF (Rd.map (afP N)) (fctP N x) (afP N x).head.p.toNat (tupA (frzA (afP N x).head)) ↔ LA Rd (x.body.map frzR) (frzR x.head) := by
 have he := eA_head h
 constructor
 ·intro hl
  obtain ⟨a, ha, e⟩ := la_of h hl
  rw [← he] at e
  rw [← eA_inj (la_ga h ha).1 (ga_frz h.x.head h.x.vt) e]; exact ha
 ·intro ha
  have := (la_ga h ha).2
  rw [he] at this
  exact this
end
theorem imp_two {N N2 : List Tx} {ar ar2 : Tx → Nat} {R R2 : List RItem} {x x2 : RItem} (h : SysI N ar R x) (h2 : SysI N2 ar2 R2 x2) {f g : RAtom → RAtom}
  (hf : ∀ a, LA R (x.body.map frzR) a → LA R2 (x2.body.map frzR) (f a) ∧ g (f a) = a) (hg : ∀ a, LA R2 (x2.body.map frzR) a → LA R (x.body.map frzR) (g a) ∧ f (g a) = a)
  (hh : f (frzR x.head) = frzR x2.head) (hh2 : g (frzR x2.head) = frzR x.head) {b b2 : Bool}
  (hp : PImp (R.map (afP N)) (fctP N x) (afP N x).head.p.toNat (tupA (frzA (afP N x).head)) b) (hp2 : PImp (R2.map (afP N2)) (fctP N2 x2) (afP N2 x2).head.p.toNat (tupA (frzA (afP N2 x2).head)) b2) : b = b2 := by
 obtain ⟨M, hn, hs, hi⟩ := hp
 obtain ⟨M2, hn2, hs2, hi2⟩ := hp2
 have key : ∀ {N N2 : List Tx} {ar ar2 : Tx → Nat} {R R2 : List RItem} {x x2 : RItem} (h : SysI N ar R x) (h2 : SysI N2 ar2 R2 x2) {f g : RAtom → RAtom} (hg : ∀ a, LA R2 (x2.body.map frzR) a → LA R (x.body.map frzR) (g a) ∧ f (g a) = a) {M M2 : MM} (hn2 : ∀ y ∈ M2, y.2.Nodup) (hs2 : ∀ j t, MD M2 j t → LstF (R2.map (afP N2)) (fctP N2 x2) j t) (ha : ∀ j t, LstF (R.map (afP N)) (fctP N x) j t → MD M j t), tot M2 ≤ tot M := by
  intro N N2 ar ar2 R R2 x x2 h h2 f g hg M M2 hn2 hs2 ha
  haveI : Nonempty RAtom := ⟨x.head⟩
  let dec : Nat × Tup → RAtom := fun p => Classical.epsilon fun a => LA R (x.body.map frzR) a ∧ eA N a = p
  have := tot_le (M := M2) (A := enumM 0 M) (e := fun p => eA N2 (f (dec p))) hn2 fun k t hm => by
   obtain ⟨a2, ha2, e2⟩ := la_of h2 (hs2 k t hm)
   obtain ⟨h3, h4⟩ := hg a2 ha2
   have hd : LA R (x.body.map frzR) (dec (eA N (g a2))) ∧ eA N (dec (eA N (g a2))) = eA N (g a2) := Classical.epsilon_spec (p := fun a => LA R (x.body.map frzR) a ∧ eA N a = eA N (g a2)) ⟨g a2, h3, rfl⟩
   have he : dec (eA N (g a2)) = g a2 := eA_inj (la_ga h hd.1).1 (la_ga h h3).1 hd.2
   refine ⟨eA N (g a2), ?_, by
    show eA N2 (f (dec (eA N (g a2)))) = (k, t)
    rw [he, h4, e2]⟩
   have := ha _ _ (la_ga h h3).2
   exact (enumM_mem M 0 _ _).2 ⟨by omega, this⟩
  rw [← enumM_len M 0]; exact this
 have hiff : LstF (R.map (afP N)) (fctP N x) (afP N x).head.p.toNat (tupA (frzA (afP N x).head)) ↔ LstF (R2.map (afP N2)) (fctP N2 x2) (afP N2 x2).head.p.toNat (tupA (frzA (afP N2 x2).head)) := by
  rw [la_head h, la_head h2]
  constructor
  ·intro ha; rw [← hh]; exact (hf _ ha).1
  ·intro ha; rw [← hh2]; exact (hg _ ha).1
 by_cases ht : tot M ≤ 200
 ·rw [if_pos ht] at hi
  have h3 : tot M2 ≤ tot M := key h h2 hg hn2 hs2 hi.1
  rw [if_pos (by omega)] at hi2
  have : b = true ↔ b2 = true := by
   rw [hi.2, hi2.2]
   exact ⟨fun hm => hi2.1 _ _ (hiff.1 (hs _ _ hm)), fun hm => hi.1 _ _ (hiff.2 (hs2 _ _ hm))⟩
  cases b <;> cases b2 <;> simp_all
 ·rw [if_neg ht] at hi
  by_cases ht2 : tot M2 ≤ 200
  ·rw [if_pos ht2] at hi2
   have h3 : tot M ≤ tot M2 := key h2 h hf hn hs hi2.1
   omega
  ·rw [if_neg ht2] at hi2
   rw [hi, hi2]
/-! ### Other letters -/
def rA (f : Tx → Tx) (a : RAtom) : RAtom := ⟨a.nt, a.pred, a.terms.map f⟩
def fzM (m : Tx → Tx) : Tx → Tx
 | [] => []
 | b :: r => if b = 35 then 35 :: m r else b :: r
theorem fzM_sharp (m : Tx → Tx) (v : Tx) : fzM m (35 :: v) = 35 :: m v := by unfold fzM; dsimp only; rw [if_pos rfl]
theorem fzM_num {m : Tx → Tx} {u : Tx} (h : VT u) (hv : variableB u = false) : fzM m u = u := by
 obtain ⟨h1, h2⟩ := vt_num h hv
 cases u with
 | nil => rfl
 | cons b r =>
  unfold fzM
  dsimp only
  rw [if_neg]
  rintro rfl
  have := h2 35 (by simp)
  revert this; decide
theorem rA_atM {m : Tx → Tx} {μ : Tx → Tx} {b : RAtom} (h : ∀ t ∈ b.terms, VT t) : rA (fzM m) (atM μ b) = atM (fun v => fzM m (μ v)) b := by
 refine RAtom.ext' rfl rfl ?_
 show (b.terms.map (tmM μ)).map (fzM m) = b.terms.map (tmM fun v => fzM m (μ v))
 rw [List.map_map]
 refine List.map_congr_left fun t ht => ?_
 show fzM m (tmM μ t) = _
 cases hv : variableB t with
 | true => rw [tmM_var hv, tmM_var hv]
 | false => rw [tmM_gnd hv, tmM_gnd hv, fzM_num (h t ht) hv]
def backL (L : List Tx) (w : Tx) : Tx := (L.find? fun v => wrT L v == w).getD w
section
variable {x : RItem} (hx : XR x)
include hx
theorem XR.back {a : RAtom} (ha : a ∈ atomsL x) {t : Tx} (ht : t ∈ a.terms) (hv : variableB t = true) : backL (ordL x) (wrT (ordL x) t) = t := by
 have hm := hx.mem ha ht hv
 have hvar : ∀ u ∈ ordL x, variableB u = true := fun u hu => by
  have := ordT_vars ((atomsL x).flatMap (·.terms)) [] (by simp) List.nodup_nil
  exact (this.1 u hu).1
 unfold backL
 cases hf : (ordL x).find? fun v => wrT (ordL x) v == wrT (ordL x) t with
 | none =>
  have := List.find?_eq_none.1 hf t hm
  simp at this
 | some u =>
  have h1 := List.mem_of_find?_eq_some hf
  have h2 := List.find?_some hf
  simp only [beq_iff_eq] at h2
  show u = t
  unfold wrT at h2
  rw [if_pos (hvar u h1), if_pos hv] at h2
  have w1 := hx.which h1
  have w2 := hx.which hm
  have h26 := hx.few
  rw [w1.1, w2.1] at h2
  have h3 := List.cons.inj h2
  have e1 := let_toNat (k := ((ordL x).idxOf u : Nat)) (by omega) (by omega)
  have e2 := let_toNat (k := ((ordL x).idxOf t : Nat)) (by omega) (by omega)
  rw [h3.1] at e1
  exact idx_inj h1 hm (by omega)
theorem XR.wvar {a : RAtom} (ha : a ∈ atomsL x) {t : Tx} (ht : t ∈ a.terms) : variableB (wrT (ordL x) t) = variableB t := var_wr fun hv => hx.rng ha ht hv
theorem XR.atM_ren {a : RAtom} (ha : a ∈ atomsL x) (μ : Tx → Tx) : atM μ (renA (ordL x) a) = atM (fun v => μ (wrT (ordL x) v)) a := by
 refine RAtom.ext' rfl rfl ?_
 show (a.terms.map (wrT (ordL x))).map (tmM μ) = _
 rw [List.map_map]
 refine List.map_congr_left fun t ht => ?_
 show tmM μ (wrT (ordL x) t) = _
 have hw := hx.wvar ha ht
 cases hv : variableB t with
 | true => rw [hv] at hw; rw [tmM_var hw, tmM_var hv]
 | false =>
  rw [hv] at hw
  rw [tmM_gnd hw, tmM_gnd hv]
  unfold wrT; rw [if_neg (by simp [hv])]
theorem XR.atM_back {a : RAtom} (ha : a ∈ atomsL x) (μ : Tx → Tx) : atM (fun v => μ (backL (ordL x) v)) (renA (ordL x) a) = atM μ a := by
 rw [hx.atM_ren ha]
 refine RAtom.ext' rfl rfl (List.map_congr_left fun t ht => ?_)
 cases hv : variableB t with
 | true => rw [tmM_var hv, tmM_var hv, hx.back ha ht hv]
 | false => rw [tmM_gnd hv, tmM_gnd hv]
theorem XR.frz {a : RAtom} (ha : a ∈ atomsL x) (hvt : ∀ t ∈ a.terms, VT t) : rA (fzM (wrT (ordL x))) (frzR a) = frzR (renA (ordL x) a) := by
 refine RAtom.ext' rfl rfl ?_
 show (a.terms.map frzD).map (fzM (wrT (ordL x))) = (a.terms.map (wrT (ordL x))).map frzD
 rw [List.map_map, List.map_map]
 refine List.map_congr_left fun t ht => ?_
 show fzM (wrT (ordL x)) (frzD t) = frzD (wrT (ordL x) t)
 have hw := hx.wvar ha ht
 unfold frzD
 rw [hw]
 cases hv : variableB t with
 | true => rw [if_pos rfl, if_pos rfl, fzM_sharp]
 | false =>
  rw [if_neg (by simp), if_neg (by simp), fzM_num (hvt t ht) hv]
  unfold wrT; rw [if_neg (by simp [hv])]
theorem XR.frz_back {a : RAtom} (ha : a ∈ atomsL x) (hvt : ∀ t ∈ a.terms, VT t) : rA (fzM (backL (ordL x))) (frzR (renA (ordL x) a)) = frzR a := by
 refine RAtom.ext' rfl rfl ?_
 show ((a.terms.map (wrT (ordL x))).map frzD).map (fzM (backL (ordL x))) = a.terms.map frzD
 rw [List.map_map, List.map_map]
 refine List.map_congr_left fun t ht => ?_
 show fzM (backL (ordL x)) (frzD (wrT (ordL x) t)) = frzD t
 have hw := hx.wvar ha ht
 unfold frzD
 rw [hw]
 cases hv : variableB t with
 | true => rw [if_pos rfl, if_pos rfl, fzM_sharp, hx.back ha ht hv]
 | false =>
  rw [if_neg (by simp), if_neg (by simp)]
  have e : wrT (ordL x) t = t := by unfold wrT; rw [if_neg (by simp [hv])]
  rw [e, fzM_num (hvt t ht) hv]
end
theorem cls_ren {R : List RItem} {gv : List RAtom} {S : RAtom → Prop} (hX : ∀ y ∈ R, XR y) : ClS R gv S ↔ ClS (R.map ren) gv S := by
 constructor
 ·rintro ⟨h1, h2⟩
  refine ⟨h1, fun z hz μ hb => ?_⟩
  obtain ⟨y, hy, rfl⟩ := List.mem_map.1 hz
  have hx := hX y hy
  have e := hx.atM_ren (atoms_mem (.inl ⟨hx.out, rfl⟩)) μ
  show S (atM μ (renA (ordL y) y.head))
  rw [e]
  refine h2 y hy _ fun b hbm => ?_
  rw [← hx.atM_ren (atoms_mem (.inr hbm)) μ]
  exact hb _ (List.mem_map.2 ⟨b, hbm, rfl⟩)
 ·rintro ⟨h1, h2⟩
  refine ⟨h1, fun y hy μ hb => ?_⟩
  have hx := hX y hy
  rw [← hx.atM_back (atoms_mem (.inl ⟨hx.out, rfl⟩)) μ]
  refine h2 (ren y) (List.mem_map.2 ⟨y, hy, rfl⟩) _ fun z hz => ?_
  obtain ⟨b, hbm, rfl⟩ := List.mem_map.1 hz
  rw [hx.atM_back (atoms_mem (.inr hbm)) μ]
  exact hb b hbm
theorem cls_map {R : List RItem} {gv gv2 : List RAtom} {S : RAtom → Prop} {m : Tx → Tx} (hv : ∀ y ∈ R, ∀ a, a = y.head ∨ a ∈ y.body → ∀ t ∈ a.terms, VT t) (hg : ∀ a ∈ gv, rA (fzM m) a ∈ gv2) (h : ClS R gv2 S) : ClS R gv fun a => S (rA (fzM m) a) :=
 ⟨fun a ha => h.1 _ (hg a ha), fun y hy μ hb => by
  show S (rA (fzM m) (atM μ y.head))
  rw [rA_atM (hv y hy _ (.inl rfl))]
  refine h.2 y hy _ fun b hbm => ?_
  rw [← rA_atM (hv y hy b (.inr hbm))]
  exact hb b hbm⟩
theorem cls_fix {R : List RItem} {gv : List RAtom} {m n : Tx → Tx} (hv : ∀ y ∈ R, ∀ t ∈ y.head.terms, VT t) (hs : ∀ y ∈ R, ∀ v ∈ y.head.terms, variableB v = true → ∃ b ∈ y.body, v ∈ b.terms) (hg : ∀ a ∈ gv, rA (fzM m) (rA (fzM n) a) = a) : ClS R gv fun a => rA (fzM m) (rA (fzM n) a) = a := by
 refine ⟨hg, fun y hy μ hb => ?_⟩
 refine RAtom.ext' rfl rfl ?_
 show ((((y.head.terms.map (tmM μ)).map (fzM n)).map (fzM m))) = y.head.terms.map (tmM μ)
 rw [List.map_map, List.map_map]
 refine List.map_congr_left fun t ht => ?_
 show fzM m (fzM n (tmM μ t)) = tmM μ t
 cases hvt : variableB t with
 | false => rw [tmM_gnd hvt, fzM_num (hv y hy t ht) hvt, fzM_num (hv y hy t ht) hvt]
 | true =>
  obtain ⟨b, hbm, htb⟩ := hs y hy t ht hvt
  have h1 : (((b.terms.map (tmM μ)).map (fzM n)).map (fzM m)) = b.terms.map (tmM μ) := congrArg RAtom.terms (hb b hbm)
  rw [List.map_map, List.map_map] at h1
  exact List.map_inj_left.1 h1 t htb
theorem imp_ren {N N2 : List Tx} {ar ar2 : Tx → Nat} {R : List RItem} {x : RItem} (h : SysI N ar R x) (h2 : SysI N2 ar2 (R.map ren) (ren x)) (hX : ∀ y ∈ R, XR y) (hx : XR x) {b b2 : Bool}
  (hp : PImp (R.map (afP N)) (fctP N x) (afP N x).head.p.toNat (tupA (frzA (afP N x).head)) b) (hp2 : PImp ((R.map ren).map (afP N2)) (fctP N2 (ren x)) (afP N2 (ren x)).head.p.toNat (tupA (frzA (afP N2 (ren x)).head)) b2) : b = b2 := by
 have hvR : ∀ y ∈ R, ∀ a, a = y.head ∨ a ∈ y.body → ∀ t ∈ a.terms, VT t := fun y hy a ha t ht => by
  rcases ha with rfl | ha
  ·exact ((h.ru y hy).vt t ht).1
  ·exact ((h.ru y hy).vb a ha t ht).1
 have hvx : ∀ a ∈ atomsL x, ∀ t ∈ a.terms, VT t := fun a ha t ht => by
  simp only [atomsL, hx.out, Bool.false_eq_true, if_false, List.singleton_append, List.mem_cons] at ha
  rcases ha with rfl | ha
  ·exact (h.x.vt t ht).1
  ·exact (h.x.vb a ha t ht).1
 have hb2 : (ren x).body = x.body.map (renA (ordL x)) := rfl
 have hG1 : ∀ a ∈ x.body.map frzR, rA (fzM (wrT (ordL x))) a ∈ (ren x).body.map frzR := fun a ha => by
  obtain ⟨b, hb, rfl⟩ := List.mem_map.1 ha
  rw [hx.frz (atoms_mem (.inr hb)) (hvx b (atoms_mem (.inr hb))), hb2]
  exact List.mem_map.2 ⟨_, List.mem_map.2 ⟨b, hb, rfl⟩, rfl⟩
 have hG2 : ∀ a ∈ (ren x).body.map frzR, rA (fzM (backL (ordL x))) a ∈ x.body.map frzR := fun a ha => by
  obtain ⟨c, hc, rfl⟩ := List.mem_map.1 ha
  obtain ⟨b, hb, rfl⟩ := List.mem_map.1 hc
  rw [hx.frz_back (atoms_mem (.inr hb)) (hvx b (atoms_mem (.inr hb)))]
  exact List.mem_map.2 ⟨b, hb, rfl⟩
 have hF1 : ∀ a ∈ x.body.map frzR, rA (fzM (backL (ordL x))) (rA (fzM (wrT (ordL x))) a) = a := fun a ha => by
  obtain ⟨b, hb, rfl⟩ := List.mem_map.1 ha
  rw [hx.frz (atoms_mem (.inr hb)) (hvx b (atoms_mem (.inr hb))), hx.frz_back (atoms_mem (.inr hb)) (hvx b (atoms_mem (.inr hb)))]
 have hF2 : ∀ a ∈ (ren x).body.map frzR, rA (fzM (wrT (ordL x))) (rA (fzM (backL (ordL x))) a) = a := fun a ha => by
  obtain ⟨c, hc, rfl⟩ := List.mem_map.1 ha
  obtain ⟨b, hb, rfl⟩ := List.mem_map.1 hc
  rw [hx.frz_back (atoms_mem (.inr hb)) (hvx b (atoms_mem (.inr hb))), hx.frz (atoms_mem (.inr hb)) (hvx b (atoms_mem (.inr hb)))]
 have hhm := atoms_mem (x := x) (.inl ⟨hx.out, rfl⟩)
 refine imp_two h h2 (f := rA (fzM (wrT (ordL x)))) (g := rA (fzM (backL (ordL x)))) (fun a ha => ⟨fun S hS => ?_, ?_⟩) (fun a ha => ⟨fun S hS => ?_, ?_⟩) (hx.frz hhm (hvx _ hhm)) (hx.frz_back hhm (hvx _ hhm)) hp hp2
 ·exact ha _ (cls_map hvR hG1 ((cls_ren hX).2 hS))
 ·exact ha (fun a => rA (fzM (backL (ordL x))) (rA (fzM (wrT (ordL x))) a) = a) (cls_fix (fun y hy => hvR y hy _ (.inl rfl)) (fun y hy => (h.ru y hy).safe) hF1)
 ·exact ha _ ((cls_ren hX).1 (cls_map hvR hG2 hS))
 ·exact ha (fun a => rA (fzM (wrT (ordL x))) (rA (fzM (backL (ordL x))) a) = a) ((cls_ren hX).1 (cls_fix (fun y hy => hvR y hy _ (.inl rfl)) (fun y hy => (h.ru y hy).safe) hF2))
/- The program's Implied, of a text: what it finds, by the book's least set. -/
set_option maxRecDepth 100000
def pImpQ (t : Tx) (n : Int) (b : Bool) (e : Int) : Prop :=
 if (refCheck t).1 ≠ 0 then b = false ∧ e = (refCheck t).1 else
 ∃ N l cs, Right t N l cs ∧ ((hasRuleB l n = false ∧ b = false ∧ e = 6) ∨ ∃ x, 0 ≤ n ∧ l[n.toNat]? = some x ∧ x.out = false ∧ impP N l n.toNat x b ∧ e = 0)
set_option maxHeartbeats 32000000 in
theorem pImpliedQ_spec (t : Tx) (n : Int) (σ : St) : ACalls Tryz.prog 36 [str t, sc (.int .i64 n)] σ fun r σ' => ∃ b e, r = tp [sc (.bool b), sc (.int .i64 e)] ∧ pImpQ t n b e ∧ Keep σ σ' := by
 have hL := fun σ => load_spec t σ
 by_cases he : (refCheck t).1 = 0
 ·have heb : ((refCheck t).1 != 0) = false := by simpa using he
  have HE : Abs.Hid ((refCheck t).1 = 0) := he
  have hlen : t.length ≤ 600 := by
   by_cases hl : 600 < t.length
   ·unfold refCheck at he; rw [if_pos hl] at he; simp at he
   ·omega
  clear he
  refine acalls 25 [.tmp 4, .tmp 5] Tryz.func36 rfl (by decide) rfl rfl (Nat.le_of_ble_eq_true rfl) ?_
  repeat' (first
 |with_reducible first|apply Xa|apply Xb|(refine Xc ?_;intro κ hκ)|(apply hκ.out;clear hκ κ)|apply Xd|apply Xe|apply Xf
 |((with_reducible first|refine Xl ?_ ?_|refine Xk ?_ ?_)<;> intro h hari<;> try exact Xp)
 |((with_reducible refine Xh ?_);refine Xi (hL _) ?_;rintro _ _ ⟨idn,n1,c1,idi,n2,c2,rfl,hK1,hb⟩;(have kno1:=hK1.nobj;obtain ⟨N,l,hp,hBk,rfl,rfl,rfl,hva,hWI⟩:=hb HE.out;have hRt : Right t N l c2:=⟨HE.out,hlen,hp,hBk,hWI⟩;have HRt : Abs.Hid _:=hRt;have hHR:=fun σ => hasRule_spec N l c2 idn idi n hBk σ;clear hb hp hva hWI hRt))
 |refine Xw ?_
 |exact True.intro
 |(apply hκ.out;clear hκ κ))
  rename_i σ1
  cases hhr : hasRuleB l n with
  | false =>
   rw [hhr] at hHR
   have HP : Abs.Hid (pImpQ t n false 6) := by unfold pImpQ; rw [if_neg (by simp [HE.out])]; exact ⟨N, l, c2, HRt.out, .inl ⟨hhr, rfl, rfl⟩⟩
   clear hhr
   repeat' (first
 |with_reducible first|apply Xa|apply Xb|(refine Xc ?_;intro κ hκ)|(apply hκ.out;clear hκ κ)|apply Xd|apply Xe|apply Xf
 |((with_reducible first|refine Xl ?_ ?_|refine Xk ?_ ?_)<;> intro h hari<;> try exact Xp)
 |((with_reducible refine Xh ?_);refine Xi (hHR _) ?_;rintro _ _ ⟨rfl,hK2⟩;(have kob2:=hK2.obj;have kno2:=hK2.nobj;simp only [new_nobj,put_nobj] at kno2))
 |refine Xw ?_
 |exact True.intro
 |(apply hκ.out;clear hκ κ))
   exact ⟨_, rfl, _, _, rfl, HP.out, by exact Xs⟩
  | true =>
   obtain ⟨hn0, x, hx, hxo⟩ := hasRule_some hhr
   have hnn : ((n.toNat : Nat) : Int) = n := Int.toNat_of_nonneg hn0
   rw [hhr] at hHR
   obtain ⟨ar, hA⟩ := ar_ex HE.out
   rw [HRt.out.items] at hA
   have hIm := fun σ => pimplied_spec N l c2 idn idi n.toNat _ x hBk (bki_of HRt.out hA) hx hxo σ
   rw [hnn] at hIm
   have HP : Abs.Hid (∀ b, PImp ((oth l n.toNat l.length).map (afP N)) (fctP N x) (afP N x).head.p.toNat (tupA (frzA (afP N x).head)) b → pImpQ t n b 0) := fun b hb => by unfold pImpQ; rw [if_neg (by simp [HE.out])]; exact ⟨N, l, c2, HRt.out, .inr ⟨x, hn0, hx, hxo, hb, rfl⟩⟩
   clear hhr hx hn0 hA
   repeat' (first
 |with_reducible first|apply Xa|apply Xb|(refine Xc ?_;intro κ hκ)|(apply hκ.out;clear hκ κ)|apply Xd|apply Xe|apply Xf
 |((with_reducible first|refine Xl ?_ ?_|refine Xk ?_ ?_)<;> intro h hari<;> try exact Xp)
 |((with_reducible refine Xh ?_);first|(refine Xi (hHR _) ?_;rintro _ _ ⟨rfl,hK2⟩;(have kob2:=hK2.obj;have kno2:=hK2.nobj;simp only [new_nobj,put_nobj] at kno2))|(refine Xi (hIm _) ?_;rintro _ _ ⟨b,rfl,hb,hK3⟩;(have HB : Abs.Hid _:=HP.out b hb;clear hb)))
 |refine Xw ?_
 |exact True.intro
 |(apply hκ.out;clear hκ κ))
   exact ⟨_, rfl, _, _, rfl, HB.out, by exact Xs⟩
 ·have heb : ((refCheck t).1 != 0) = true := by simpa using he
  have HE : Abs.Hid (pImpQ t n false (refCheck t).1) := by
   unfold pImpQ; rw [if_pos he]; exact ⟨rfl, rfl⟩
  clear he
  refine acalls 25 [.tmp 4, .tmp 5] Tryz.func36 rfl (by decide) rfl rfl (Nat.le_of_ble_eq_true rfl) ?_
  repeat' (first
 |with_reducible first|apply Xa|apply Xb|(refine Xc ?_;intro κ hκ)|(apply hκ.out;clear hκ κ)|apply Xd|apply Xe|apply Xf
 |((with_reducible first|refine Xl ?_ ?_|refine Xk ?_ ?_)<;> intro h hari<;> try exact Xp)
 |((with_reducible refine Xh ?_);refine Xi (hL _) ?_;rintro _ _ ⟨idn,n1,c1,idi,n2,c2,rfl,hK1,hb⟩;(have kno1:=hK1.nobj;clear hb))
 |refine Xw ?_
 |exact True.intro
 |(apply hκ.out;clear hκ κ))
  exact ⟨_, rfl, _, _, rfl, HE.out, by exact Xs⟩
end Go.Proofs.YtmoeoppbmhfbpaaGreatDoorQ
