import Derived.Test.YtmoeoppbmhfbpaaGreatDoorBRunB
/- Mixed, in words: the same rules and the same facts. -/
namespace Go.Proofs.YtmoeoppbmhfbpaaGreatDoorB
open Go.Abs
set_option linter.unusedSimpArgs false
set_option linter.unusedVariables false
set_option maxRecDepth 100000
def SmR (l l' : List RItem) : Prop := ∀ x : RItem, x.out = false → (x ∈ l ↔ x ∈ l')
def OutN (l : List RItem) : Prop := ∀ x ∈ l, x.out = true → x.body = []
structure Rgt (l : List RItem) : Prop where
 out : OutN l
 loo : Loose l
 len : l.length ≤ 16
section
variable {l l' : List RItem}
theorem SmR.symm (h : SmR l l') : SmR l' l := fun x hx => (h x hx).symm
theorem bodR (ho : OutN l) {x : RItem} (hx : x ∈ l) {a : RAtom} (ha : a ∈ x.body) : x.out = false := by
 cases h : x.out with
 | false => rfl
 | true => rw [ho x hx h] at ha; cases ha
theorem at_sub (ho : OutN l) (h : SmR l l') (p q : Tx) : atOnce l p q → atOnce l' p q := fun ⟨x, hx, e, a, ha, e2⟩ => ⟨x, (h x (bodR ho hx ha)).1 hx, e, a, ha, e2⟩
theorem rch_sub (ho : OutN l) (h : SmR l l') {p q : Tx} (g : Rch l p q) : Rch l' p q := g.imp id (fun w => w.map' (at_sub ho h))
theorem HH_sub (ho : OutN l) (h : SmR l l') : ∀ (k : Nat) (p : Tx), HH l k p → HH l' k p
 | 0, _, _ => trivial
 | k + 1, p, ⟨x, hx, hr, a, ha, hn, hh⟩ => ⟨x, (h x (bodR ho hx ha)).1 hx, rch_sub ho h hr, a, ha, hn, HH_sub ho h k _ hh⟩
theorem str_le (hr : Rgt l) (hr' : Rgt l') (h : SmR l l') (p : Tx) : stratumL l p ≤ stratumL l' p :=
 (stratum_iff hr'.out hr'.loo hr'.len p _).1 (HH_sub hr.out h _ p ((stratum_iff hr.out hr.loo hr.len p _).2 (Nat.le_refl _)))
theorem str_same (hr : Rgt l) (hr' : Rgt l') (h : SmR l l') (p : Tx) : stratumL l p = stratumL l' p := Nat.le_antisymm (str_le hr hr' h p) (str_le hr' hr h.symm p)
theorem str_bound (hr : Rgt l) (p : Tx) : stratumL l p ≤ l.length := HH_bound hr.loo ((stratum_iff hr.out hr.loo hr.len p _).2 (Nat.le_refl _))
theorem loose_sub (ho' : OutN l') (h : SmR l l') (hL : Loose l) : Loose l' := fun x hx a ha hn hr => hL x ((h x (bodR ho' hx ha)).2 hx) a ha hn (rch_sub ho' h.symm hr)
theorem rulS_mem {s : Nat} {x : RItem} (hx : x ∈ RulS l s) : x ∈ l ∧ x.out = false ∧ stratumL l x.head.pred = s := by
 obtain ⟨h1, h2⟩ := List.mem_filter.1 hx
 unfold inS at h2
 simp only [Bool.and_eq_true, Bool.not_eq_true', beq_iff_eq] at h2
 exact ⟨h1, h2.1, h2.2⟩
theorem rulS_sub (hr : Rgt l) (hr' : Rgt l') (h : SmR l l') {s : Nat} {x : RItem} (hx : x ∈ RulS l s) : x ∈ RulS l' s := by
 obtain ⟨h1, h2, h3⟩ := rulS_mem hx
 refine List.mem_filter.2 ⟨(h x h2).1 h1, ?_⟩
 unfold inS
 rw [h2, ← str_same hr hr' h, h3]; simp
theorem lstN {B : Dset} {j : Nat} {t : Tup} : LstG [] B j t ↔ B j t := ⟨fun g => g.nonhead (by simp), LstG.base⟩
theorem pm_more (hr : Rgt l) (N : List Tx) (B : Dset) : ∀ d, PMi N l B (l.length + 1 + d) = PMi N l B (l.length + 1)
 | 0 => rfl
 | d + 1 => by
  have hn : RulS l (l.length + 1 + d) = [] := by
   apply List.eq_nil_iff_forall_not_mem.2
   intro x hx
   have := (rulS_mem hx).2.2
   have := str_bound hr x.head.pred
   omega
  rw [← pm_more hr N B d]
  show LstG ((RulS l (l.length + 1 + d)).map (rulP N)) (PMi N l B (l.length + 1 + d)) = _
  rw [hn]
  funext j t
  exact propext lstN
theorem lst_sub {N N' : List Tx} {R R' : List RItem} {B B' : Dset} (hB : ∀ p, p ∈ N → p ∈ N' → ∀ t, B (N.idxOf p) t ↔ B' (N'.idxOf p) t) (hs : ∀ k t, B k t → ∃ p, p ∈ N ∧ p ∈ N' ∧ k = N.idxOf p)
  (hR : ∀ x ∈ R, x ∈ R' ∧ (x.head.pred ∈ N ∧ ∀ a ∈ x.body, a.pred ∈ N) ∧ x.head.pred ∈ N' ∧ ∀ a ∈ x.body, a.pred ∈ N') {k : Nat} {t : Tup} (g : LstG (R.map (rulP N)) B k t) :
  ∃ p, p ∈ N ∧ p ∈ N' ∧ k = N.idxOf p ∧ LstG (R'.map (rulP N')) B' (N'.idxOf p) t := by
 refine g.least (D := fun k t => ∃ p, p ∈ N ∧ p ∈ N' ∧ k = N.idxOf p ∧ LstG (R'.map (rulP N')) B' (N'.idxOf p) t) (fun k t hb => ?_) (fun r hr ν hl => ?_)
 ·obtain ⟨q, h1, h2, rfl⟩ := hs k t hb
  exact ⟨q, h1, h2, rfl, LstG.base ((hB q h1 h2 t).1 hb)⟩
 ·obtain ⟨x, hx, rfl⟩ := List.mem_map.1 hr
  obtain ⟨hx', ⟨n1, n2⟩, n3, n4⟩ := hR x hx
  refine ⟨x.head.pred, n1, n3, rfl, ?_⟩
  refine LstG.cl (R'.map (rulP N')) B' (rulP N' x) (List.mem_map.2 ⟨x, hx', rfl⟩) ν (fun y hy => ?_)
  obtain ⟨a, ha, rfl⟩ := List.mem_map.1 hy
  have hh := hl (litP N a) (List.mem_map.2 ⟨a, ha, rfl⟩)
  unfold LitH litP at hh ⊢
  dsimp only at hh ⊢
  by_cases e : a.nt = true
  ·rw [if_pos e] at hh ⊢
   exact fun hb => hh ((hB a.pred (n2 a ha) (n4 a ha) _).2 hb)
  ·rw [if_neg e] at hh ⊢
   obtain ⟨q, h1, h2, h3, h4⟩ := hh
   have : a.pred = q := idx_inj (n2 a ha) h1 h3
   subst this
   exact h4
structure Nms (N : List Tx) (l : List RItem) (F : List RAtom) : Prop where
 it : ∀ y ∈ l, y.head.pred ∈ N ∧ ∀ a ∈ y.body, a.pred ∈ N
 fa : ∀ a ∈ F, a.pred ∈ N
variable {N N' : List Tx} {F F' : List RAtom} {M M' : MM}
theorem md_sub (hN : Nms N l F) (hN' : Nms N' l' F') (hF : ∀ a, a ∈ F ↔ a ∈ F') (hM : MkM N.length (F.map (atmP N)) M) (hM' : MkM N'.length (F'.map (atmP N')) M') {k : Nat} {t : Tup} (h : MD M k t) : ∃ p, p ∈ N ∧ p ∈ N' ∧ k = N.idxOf p ∧ MD M' (N'.idxOf p) t := by
 obtain ⟨b, hb, e1, e2⟩ := (hM.mem k t).1 h
 obtain ⟨a, ha, rfl⟩ := List.mem_map.1 hb
 have e3 : k = N.idxOf a.pred := by simp only [atmP] at e1; omega
 exact ⟨a.pred, hN.fa a ha, hN'.fa a ((hF a).1 ha), e3, (hM'.mem _ t).2 ⟨atmP N' a, List.mem_map.2 ⟨a, (hF a).1 ha, rfl⟩, rfl, e2⟩⟩
theorem pm_sub (h : SmR l l') (hr : Rgt l) (hr' : Rgt l') (hN : Nms N l F) (hN' : Nms N' l' F') (hF : ∀ a, a ∈ F ↔ a ∈ F') (hM : MkM N.length (F.map (atmP N)) M) (hM' : MkM N'.length (F'.map (atmP N')) M') : ∀ s,
  (∀ p, p ∈ N → p ∈ N' → ∀ t, PMi N l (MD M) s (N.idxOf p) t ↔ PMi N' l' (MD M') s (N'.idxOf p) t) ∧ (∀ k t, PMi N l (MD M) s k t → ∃ p, p ∈ N ∧ p ∈ N' ∧ k = N.idxOf p) ∧ (∀ k t, PMi N' l' (MD M') s k t → ∃ p, p ∈ N' ∧ p ∈ N ∧ k = N'.idxOf p)
 | 0 => by
  refine ⟨fun p h1 h2 t => ⟨fun g => ?_, fun g => ?_⟩, fun k t g => ?_, fun k t g => ?_⟩
  ·obtain ⟨q, q1, q2, e, g⟩ := md_sub hN hN' hF hM hM' g
   rw [idx_inj h1 q1 e]; exact g
  ·obtain ⟨q, q1, q2, e, g⟩ := md_sub hN' hN (fun a => (hF a).symm) hM' hM g
   rw [idx_inj h2 q1 e]; exact g
  ·obtain ⟨q, q1, q2, e, g⟩ := md_sub hN hN' hF hM hM' g
   exact ⟨q, q1, q2, e⟩
  ·obtain ⟨q, q1, q2, e, g⟩ := md_sub hN' hN (fun a => (hF a).symm) hM' hM g
   exact ⟨q, q1, q2, e⟩
 | s + 1 => by
  obtain ⟨i1, i2, i3⟩ := pm_sub h hr hr' hN hN' hF hM hM' s
  have a1 : ∀ k t, PMi N l (MD M) (s + 1) k t → ∃ p, p ∈ N ∧ p ∈ N' ∧ k = N.idxOf p ∧ PMi N' l' (MD M') (s + 1) (N'.idxOf p) t := fun k t g =>
   lst_sub i1 i2 (fun x hx => ⟨rulS_sub hr hr' h hx, hN.it x (rulS_mem hx).1, hN'.it x ((h x (rulS_mem hx).2.1).1 (rulS_mem hx).1)⟩) g
  have a2 : ∀ k t, PMi N' l' (MD M') (s + 1) k t → ∃ p, p ∈ N' ∧ p ∈ N ∧ k = N'.idxOf p ∧ PMi N l (MD M) (s + 1) (N.idxOf p) t := fun k t g =>
   lst_sub (fun p h1 h2 t => (i1 p h2 h1 t).symm) i3 (fun x hx => ⟨rulS_sub hr' hr h.symm hx, hN'.it x (rulS_mem hx).1, hN.it x ((h x (rulS_mem hx).2.1).2 (rulS_mem hx).1)⟩) g
  refine ⟨fun p h1 h2 t => ⟨fun g => ?_, fun g => ?_⟩, fun k t g => ?_, fun k t g => ?_⟩
  ·obtain ⟨q, q1, q2, e, g⟩ := a1 _ _ g
   rw [idx_inj h1 q1 e]; exact g
  ·obtain ⟨q, q1, q2, e, g⟩ := a2 _ _ g
   rw [idx_inj h2 q1 e]; exact g
  ·obtain ⟨q, q1, q2, e, g⟩ := a1 _ _ g
   exact ⟨q, q1, q2, e⟩
  ·obtain ⟨q, q1, q2, e, g⟩ := a2 _ _ g
   exact ⟨q, q1, q2, e⟩
end
/-! ### how many -/
def prs : List Tx → MM → List (Tx × Tup)
 | _, [] => []
 | N, x :: M => x.2.map (fun t => (N.headD [], t)) ++ prs N.tail M
theorem prs_len : ∀ (N : List Tx) (M : MM), ((prs N M).length : Int) = tot M
 | _, [] => rfl
 | N, x :: M => by
  have := prs_len N.tail M
  rw [tot_cons]
  unfold prs
  rw [List.length_append, List.length_map]
  omega
theorem getD_tail (N : List Tx) (k : Nat) : N.tail.getD k [] = N.getD (k + 1) [] := by cases N <;> simp
theorem prs_mem {p : Tx} {t : Tup} : ∀ {N : List Tx} {M : MM}, (p, t) ∈ prs N M ↔ ∃ k : Nat, N.getD k [] = p ∧ MD M k t
 | N, [] => by
  constructor
  ·intro h; cases h
  ·rintro ⟨k, -, h⟩
   simp [MD, tupsOf] at h
 | N, x :: M => by
  unfold prs
  rw [List.mem_append, List.mem_map, prs_mem]
  constructor
  ·rintro (⟨u, hu, e⟩ | ⟨k, e, h⟩)
   ·cases e
    exact ⟨0, by cases N <;> rfl, hu⟩
   ·exact ⟨k + 1, by rw [← getD_tail]; exact e, by unfold MD tupsOf at *; simpa using h⟩
  ·rintro ⟨k, e, h⟩
   cases k with
   | zero => exact .inl ⟨t, h, by rw [← e]; cases N <;> rfl⟩
   | succ k => exact .inr ⟨k, by rw [getD_tail]; exact e, by unfold MD tupsOf at *; simpa using h⟩
theorem prs_nodup : ∀ {N : List Tx} {M : MM}, (∀ x ∈ M, x.2.Nodup) → (∀ k k' t t', MD M k t → MD M k' t' → N.getD k [] = N.getD k' [] → k = k') → (prs N M).Nodup
 | N, [], _, _ => List.nodup_nil
 | N, x :: M, h, hd => by
  unfold prs
  have shf : ∀ k t, MD M k t → MD (x :: M) (k + 1) t := fun k t g => by unfold MD tupsOf at *; simpa using g
  refine List.nodup_append.2 ⟨?_, prs_nodup (fun y hy => h y (by simp [hy])) (fun k k' t t' g g' e => ?_), ?_⟩
  ·have := h x (by simp)
   unfold List.Nodup at *
   rw [List.pairwise_map]
   exact this.imp (fun hne e => hne (by cases e; rfl))
  ·have := hd (k + 1) (k' + 1) t t' (shf k t g) (shf k' t' g') (by rw [← getD_tail, ← getD_tail]; exact e)
   omega
  ·rintro ⟨p, t⟩ h1 ⟨q, u⟩ h2 e
   cases e
   obtain ⟨v, hv, e⟩ := List.mem_map.1 h1
   cases e
   obtain ⟨k, e, g⟩ := prs_mem.1 h2
   have := hd 0 (k + 1) t t hv (shf k t g) (by rw [← getD_tail, e]; cases N <;> rfl)
   omega
theorem cnt_le {N N' : List Tx} {M M' : MM} (hnd : ∀ x ∈ M, x.2.Nodup) (hs : ∀ k t, MD M k t → ∃ p, p ∈ N ∧ p ∈ N' ∧ k = N.idxOf p ∧ MD M' (N'.idxOf p) t) : tot M ≤ tot M' := by
 rw [← prs_len N M, ← prs_len N' M']
 have := pigeon (prs N M) (prs N' M') (prs_nodup hnd (fun k k' t t' g g' e => ?_)) (fun ⟨p, t⟩ h => ?_)
 ·omega
 ·obtain ⟨p, h1, -, rfl, -⟩ := hs k t g
  obtain ⟨q, h2, -, rfl, -⟩ := hs k' t' g'
  rw [getD_idx h1, getD_idx h2] at e
  rw [e]
 ·obtain ⟨k, e, g⟩ := prs_mem.1 h
  obtain ⟨q, h1, h2, rfl, g'⟩ := hs k t g
  rw [getD_idx h1] at e
  subst e
  exact prs_mem.2 ⟨_, getD_idx h2, g'⟩
/- Mixed, in words: Run tells the same of them. -/
def telF (T : Tx → List Tup) (acc : Tx × List Tx) (x : RItem) : Tx × List Tx := if x.out = true ∧ x.head.pred ∉ acc.2 then (acc.1 ++ (T x.head.pred).flatMap (pieceT x.head.pred), acc.2 ++ [x.head.pred]) else acc
def tellN (T : Tx → List Tup) (l : List RItem) : Tx := (l.foldl (telF T) ([], [])).1
theorem tel_name {N : List Tx} {rk : Nat → List Tup} {T : Tx → List Tup} : ∀ {l : List RItem} (a : Tx) (ps : List Tx), (∀ x ∈ l, x.head.pred ∈ N ∧ rk (N.idxOf x.head.pred) = T x.head.pred) → (∀ p ∈ ps, p ∈ N) →
  (l.foldl (tellF N rk) (a, ps.map fun p => ((N.idxOf p : Nat) : Int))).1 = (l.foldl (telF T) (a, ps)).1
 | [], a, ps, _, _ => rfl
 | x :: l, a, ps, h, hp => by
  rw [List.foldl_cons, List.foldl_cons]
  obtain ⟨h1, h2⟩ := h x (by simp)
  have hm : (((N.idxOf x.head.pred : Nat) : Int) ∈ ps.map fun p => ((N.idxOf p : Nat) : Int)) ↔ x.head.pred ∈ ps := by
   rw [List.mem_map]
   constructor
   ·rintro ⟨q, hq, e⟩
    have : N.idxOf q = N.idxOf x.head.pred := by omega
    rw [← idx_inj (hp q hq) h1 this]; exact hq
   ·exact fun g => ⟨_, g, rfl⟩
  have hl := fun y hy => h y (List.mem_cons_of_mem x hy)
  by_cases c : x.out = true ∧ x.head.pred ∉ ps
  ·have e1 : tellF N rk (a, ps.map fun p => ((N.idxOf p : Nat) : Int)) x = (a ++ (T x.head.pred).flatMap (pieceT x.head.pred), (ps ++ [x.head.pred]).map fun p => ((N.idxOf p : Nat) : Int)) := by
    unfold tellF
    rw [if_pos ⟨c.1, by rw [hm]; exact c.2⟩, h2]; simp
   have e2 : telF T (a, ps) x = (a ++ (T x.head.pred).flatMap (pieceT x.head.pred), ps ++ [x.head.pred]) := if_pos c
   rw [e1, e2]
   refine tel_name _ _ hl (fun p hp' => ?_)
   rcases List.mem_append.1 hp' with g | g
   ·exact hp p g
   ·rw [List.mem_singleton.1 g]; exact h1
  ·have e1 : tellF N rk (a, ps.map fun p => ((N.idxOf p : Nat) : Int)) x = (a, ps.map fun p => ((N.idxOf p : Nat) : Int)) := by
    unfold tellF
    rw [if_neg (fun g => c ⟨g.1, by have := g.2; rw [hm] at this; exact this⟩)]
   have e2 : telF T (a, ps) x = (a, ps) := if_neg c
   rw [e1, e2]
   exact tel_name _ _ hl hp
theorem tel_outs (T : Tx → List Tup) : ∀ (l : List RItem) (acc : Tx × List Tx), l.foldl (telF T) acc = (l.filter fun x => x.out).foldl (telF T) acc
 | [], _ => rfl
 | x :: l, acc => by
  rw [List.foldl_cons, List.filter_cons, tel_outs T l]
  cases h : x.out with
  | true => simp
  | false =>
   have : telF T acc x = acc := if_neg (by simp [h])
   rw [this]; simp
section
variable {l l' : List RItem} {N N' : List Tx} {F F' : List RAtom} {M M' : MM}
theorem over_no (h : SmR l l') (hr : Rgt l) (hr' : Rgt l') (hN : Nms N l F) (hN' : Nms N' l' F') (hF : ∀ a, a ∈ F ↔ a ∈ F') (hM : MkM N.length (F.map (atmP N)) M) (hM' : MkM N'.length (F'.map (atmP N')) M')
  {M1 M2 : MM} (h1 : ∀ k t, MD M1 k t ↔ PMi N l (MD M) (l.length + 1) k t) (hn2 : ∀ x ∈ M2, x.2.Nodup) (h2 : ∀ k t, MD M2 k t → PMi N' l' (MD M') (l'.length + 1) k t) : tot M2 ≤ tot M1 := by
 refine cnt_le (N := N') (N' := N) hn2 (fun k t g => ?_)
 have g := h2 k t g
 rw [← pm_more hr' N' (MD M') (l.length + 1)] at g
 obtain ⟨i1, -, i3⟩ := pm_sub h hr hr' hN hN' hF hM hM' (l'.length + 1 + (l.length + 1))
 obtain ⟨p, p1, p2, rfl⟩ := i3 k t g
 refine ⟨p, p1, p2, rfl, (h1 _ _).2 ?_⟩
 have := (i1 p p2 p1 t).2 g
 rw [show l'.length + 1 + (l.length + 1) = l.length + 1 + (l'.length + 1) by omega, pm_more hr] at this
 exact this
theorem row_same (h : SmR l l') (hr : Rgt l) (hr' : Rgt l') (hN : Nms N l F) (hN' : Nms N' l' F') (hF : ∀ a, a ∈ F ↔ a ∈ F') (hM : MkM N.length (F.map (atmP N)) M) (hM' : MkM N'.length (F'.map (atmP N')) M')
  {M1 M2 : MM} (h1 : ∀ k t, MD M1 k t ↔ PMi N l (MD M) (l.length + 1) k t) (h2 : ∀ k t, MD M2 k t ↔ PMi N' l' (MD M') (l'.length + 1) k t) {p : Tx} (p1 : p ∈ N) (p2 : p ∈ N') (t : Tup) : MD M1 (N.idxOf p) t ↔ MD M2 (N'.idxOf p) t := by
 rw [h1, h2, ← pm_more hr' N' (MD M') (l.length + 1), ← pm_more hr N (MD M) (l'.length + 1), show l'.length + 1 + (l.length + 1) = l.length + 1 + (l'.length + 1) by omega]
 exact (pm_sub h hr hr' hN hN' hF hM hM' _).1 p p1 p2 t
theorem PMi.has {B : Dset} : ∀ {s : Nat} {k : Nat} {t : Tup}, B k t → PMi N l B s k t
 | 0, _, _, h => h
 | s + 1, _, _, h => LstG.base (PMi.has h)
theorem rowN {M : MM} (h : ∀ x ∈ M, x.2.Nodup) (k : Nat) : (tupsOf M (k : Int)).Nodup := by
 unfold tupsOf
 cases hk : M[(k : Int).toNat]? with
 | none => simp
 | some x => exact h x (List.mem_of_getElem? hk)
theorem rowT {M : MM} (h : ∀ x ∈ M, T3 x.2) (k : Nat) : T3 (tupsOf M (k : Int)) := by
 unfold tupsOf
 cases hk : M[(k : Int).toNat]? with
 | none => intro t ht; simp at ht
 | some x => exact h x (List.mem_of_getElem? hk)
theorem row_in {M : MM} {k : Nat} {t : Tup} (h : t ∈ tupsOf M (k : Int)) : ∃ z ∈ M, t ∈ z.2 := by
 unfold tupsOf at h
 cases hk : M[(k : Int).toNat]? with
 | none => rw [hk] at h; simp at h
 | some x => rw [hk] at h; exact ⟨x, List.mem_of_getElem? hk, h⟩
theorem tot_nn : ∀ M : MM, 0 ≤ tot M
 | [] => by simp [tot, cnts]
 | x :: M => by have := tot_nn M; rw [tot_cons]; omega
theorem row_tot : ∀ (M : MM) (k : Nat), ((tupsOf M (k : Int)).length : Int) ≤ tot M
 | [], k => by simp [tupsOf, tot, cnts]
 | x :: M, 0 => by
  have := tot_nn M
  rw [tot_cons]
  show (x.2.length : Int) ≤ _
  omega
 | x :: M, k + 1 => by
  have h1 := row_tot M k
  have h2 : tupsOf (x :: M) ((k + 1 : Nat) : Int) = tupsOf M (k : Int) := by unfold tupsOf; simp
  rw [tot_cons, h2]
  omega
theorem rank_same {a b : List Tup} (ha : a.Nodup) (hb : b.Nodup) (ta : T3 a) (tb : T3 b) (h : ∀ t, t ∈ a ↔ t ∈ b) : rankL a = rankL b :=
 rank_is tb ((rankL_perm a).trans ((List.perm_ext_iff_of_nodup ha hb).2 h)) (rankL_rank ta)
theorem run_same (h : SmR l l') (hr : Rgt l) (hr' : Rgt l') (hF : ∀ a, a ∈ F ↔ a ∈ F') (hx : ∀ y ∈ l', (∃ z ∈ l, z.head.pred = y.head.pred) ∨ ∃ a ∈ F, a.pred = y.head.pred) {n : Int} {x x' : Tx} {k k' e e' : Int} (hR : RunM l F n x k e) (hR' : RunM l' F' n x' k' e') :
  k = k' ∧ e = e' ∧ ((e = 9 ∧ x = [] ∧ x' = [] ∧ k = 0) ∨ (e = 0 ∧ ∃ T : Tx → List Tup, (∀ a ∈ F, tupA (atmP [] a) ∈ T a.pred) ∧ (∀ p, ((T p).length : Int) ≤ F.length + n ∧ ∀ t ∈ T p, (tupX t).length ≤ 60) ∧ x = tellN T l ∧ x' = tellN T l')) := by
 obtain ⟨N, M, M1, d, n1, n2, hM, t3, hI, hR⟩ := hR
 obtain ⟨N', M', M1', d', n1', n2', hM', t3', hI', hR'⟩ := hR'
 have hN : Nms N l F := ⟨n1, n2⟩
 have hN' : Nms N' l' F' := ⟨n1', n2'⟩
 have hF' : ∀ a, a ∈ F' ↔ a ∈ F := fun a => (hF a).symm
 have q1 : tot M ≤ tot M' := cnt_le hM.nd (fun k t g => md_sub hN hN' hF hM hM' g)
 have q2 : tot M' ≤ tot M := cnt_le hM'.nd (fun k t g => md_sub hN' hN hF' hM' hM g)
 obtain ⟨hl, hd, hI⟩ := hI
 obtain ⟨hl', hd', hI'⟩ := hI'
 rcases hI with ⟨hb, hm, hnd⟩ | ⟨hb, M2, -, hnd2, -, hm2, hb2⟩
 ·rcases hI' with ⟨hb', hm', hnd'⟩ | ⟨hb', M2', -, hnd2', -, hm2', hb2'⟩
  ·have r1 := over_no h hr hr' hN hN' hF hM hM' hm hnd' (fun k t => (hm' k t).1)
   have r2 := over_no h.symm hr' hr hN' hN hF' hM' hM hm' hnd (fun k t => (hm k t).1)
   rw [if_neg hb] at hR
   rw [if_neg hb'] at hR'
   obtain ⟨rfl, rfl, rfl, hnum⟩ := hR
   obtain ⟨rfl, rfl, rfl, -⟩ := hR'
   refine ⟨by omega, rfl, .inr ⟨rfl, fun p => rankL (tupsOf M1 ((N.idxOf p : Nat) : Int)), fun a ha => ?_, fun p => ⟨?_, fun t ht => ?_⟩, ?_, ?_⟩⟩
   ·refine (rankL_perm _).symm.subset ?_
    refine (hm _ _).2 (PMi.has ((hM.mem _ _).2 ⟨atmP N a, List.mem_map.2 ⟨a, ha, rfl⟩, rfl, rfl⟩))
   ·have h1 := (rankL_perm (tupsOf M1 ((N.idxOf p : Nat) : Int))).length_eq
    have h2 := row_tot M1 (N.idxOf p)
    have h3 := hM.tot
    rw [List.length_map] at h3
    show ((rankL (tupsOf M1 ((N.idxOf p : Nat) : Int))).length : Int) ≤ _
    omega
   ·have ht' := (rankL_perm _).subset ht
    refine tupX_len (rowT t3 _ t ht') ?_
    obtain ⟨z, hz, hzt⟩ := row_in ht'
    exact hnum z hz t hzt
   ·exact tel_name (N := N) [] [] (fun y hy => ⟨(n1 y hy).1, rfl⟩) (by simp)
   ·refine tel_name (N := N') [] [] (fun y hy => ⟨(n1' y hy).1, ?_⟩) (by simp)
    have hyN : y.head.pred ∈ N := by
     rcases hx y hy with ⟨z, hz, e⟩ | ⟨a, ha, e⟩
     ·rw [← e]; exact (n1 z hz).1
     ·rw [← e]; exact n2 a ha
    exact rank_same (rowN hnd' _) (rowN hnd _) (rowT t3' _) (rowT t3 _) (fun t => (row_same h hr hr' hN hN' hF hM hM' hm hm' hyN (n1' y hy).1 t).symm)
  ·have r1 := over_no h hr hr' hN hN' hF hM hM' hm hnd2' hm2'
   exact absurd hb2' (by omega)
 ·rcases hI' with ⟨hb', hm', hnd'⟩ | ⟨hb', M2', -, hnd2', -, hm2', hb2'⟩
  ·have r1 := over_no h.symm hr' hr hN' hN hF' hM' hM hm' hnd2 hm2
   exact absurd hb2 (by omega)
  ·rw [if_pos hb] at hR
   rw [if_pos hb'] at hR'
   obtain ⟨rfl, rfl, rfl⟩ := hR
   obtain ⟨rfl, rfl, rfl⟩ := hR'
   exact ⟨rfl, rfl, .inl ⟨rfl, rfl, rfl, rfl⟩⟩
end
end Go.Proofs.YtmoeoppbmhfbpaaGreatDoorB
