import Derived.Test.YtmoeoppbmhfbpaaGreatDoorERoaD
import Derived.Test.YtmoeoppbmhfbpaaGreatDoorERunB
/- Roads, in words: the ways, the pairs without one, and how many they are. -/
namespace Go.Proofs.YtmoeoppbmhfbpaaGreatDoorE
open Go.Abs
set_option linter.unusedSimpArgs false
set_option linter.unusedVariables false
set_option maxRecDepth 100000
def tpp (base : Int) (a b : Nat) : Tup := t2 (plN base (a : Int)) (plN base (b : Int))
theorem pl_inj {base : Int} {a b : Nat} (h : plN base (a : Int) = plN base (b : Int)) : a = b := by unfold plN at h; omega
theorem tpp_inj {base : Int} {a b c d : Nat} (h : tpp base a b = tpp base c d) : a = c ∧ b = d := by
 obtain ⟨h1, h2⟩ := t2_inj h
 exact ⟨pl_inj h1, pl_inj h2⟩
structure Env (E : List Int) (base : Int) (N : List Tx) (M : MM) : Prop where
 p : ([112] : Tx) ∈ N
 e : ([101] : Tx) ∈ N
 v : ([118] : Tx) ∈ N
 n : ([110] : Tx) ∈ N
 mm : MkM N.length ((factsA E base).map (atmP N)) M
theorem idx_ne {N : List Tx} {p q : Tx} (hp : p ∈ N) (hq : q ∈ N) (h : p ≠ q) : N.idxOf p ≠ N.idxOf q := fun e => h (idx_inj hp hq e)
section
variable {E : List Int} {base : Int} {N : List Tx} {M : MM}
theorem tup_ed (x : Int) : tupA (atmP N (edA base x)) = t2 (plN base (pkI x 64 / 8)) (plN base (pkI x 64 % 8)) := by
 obtain ⟨h1, h2, h3, h4⟩ := pk64 x
 simp [tupA, atmP, edA, (numT_gt base h1 h2).2.1, (numT_gt base h3 h4).2.1, t2]
theorem tup_v {a : Int} (h0 : 0 ≤ a) (h1 : a ≤ 7) : tupA (atmP N (vA base a)) = t1 (plN base a) := by
 simp [tupA, atmP, vA, (numT_gt base h0 h1).2.1, t1]
theorem fact_iff (h : Env E base N M) (k : Nat) (t : Tup) : MD M k t ↔ (k = N.idxOf [101] ∧ ∃ a b : Nat, edM (E.take 24) a b = true ∧ t = tpp base a b) ∨ (k = N.idxOf [118] ∧ ∃ a : Nat, a < 8 ∧ t = t1 (plN base (a : Int))) := by
 rw [h.mm.mem k t]
 constructor
 ·rintro ⟨a, ha, e1, e2⟩
  obtain ⟨f, hf, rfl⟩ := List.mem_map.1 ha
  unfold factsA at hf
  rcases List.mem_append.1 hf with hf | hf
  ·obtain ⟨x, hx, rfl⟩ := List.mem_map.1 hf
   left
   have e3 : k = N.idxOf [101] := by simp only [atmP, edA] at e1; omega
   obtain ⟨h1, h2, h3, h4⟩ := pk64 x
   refine ⟨e3, (pkI x 64 / 8).toNat, (pkI x 64 % 8).toNat, ?_, ?_⟩
   ·unfold edM
    rw [List.any_eq_true]
    exact ⟨x, hx, by simp only [Bool.and_eq_true, decide_eq_true_eq]; omega⟩
   ·rw [e2, tup_ed, tpp, Int.toNat_of_nonneg h1, Int.toNat_of_nonneg h3]
  ·obtain ⟨z, hz, rfl⟩ := List.mem_map.1 hf
   right
   have hzr : 0 ≤ z ∧ z ≤ 7 := by simp at hz; omega
   have e3 : k = N.idxOf [118] := by simp only [atmP, vA] at e1; omega
   exact ⟨e3, z.toNat, by omega, by rw [e2, tup_v hzr.1 hzr.2, Int.toNat_of_nonneg hzr.1]⟩
 ·rintro (⟨rfl, a, b, he, rfl⟩ | ⟨rfl, a, ha, rfl⟩)
  ·unfold edM at he
   rw [List.any_eq_true] at he
   obtain ⟨x, hx, hh⟩ := he
   simp only [Bool.and_eq_true, decide_eq_true_eq] at hh
   refine ⟨atmP N (edA base x), List.mem_map.2 ⟨_, List.mem_append.2 (.inl (List.mem_map.2 ⟨x, hx, rfl⟩)), rfl⟩, rfl, ?_⟩
   rw [tup_ed, tpp, hh.1, hh.2]
  ·refine ⟨atmP N (vA base (a : Int)), List.mem_map.2 ⟨_, List.mem_append.2 (.inr (List.mem_map.2 ⟨(a : Int), ?_, rfl⟩)), rfl⟩, rfl, (tup_v (by omega) (by omega)).symm⟩
   simp; omega
def P1 (E : List Int) (base : Int) (N : List Tx) (M : MM) : Dset := fun k t => (k = N.idxOf [112] ∧ ∃ a b, wyM E a b = true ∧ t = tpp base a b) ∨ (k ≠ N.idxOf [112] ∧ MD M k t)
def P2 (E : List Int) (base : Int) (N : List Tx) (M : MM) : Dset := fun k t => (k = N.idxOf [110] ∧ ∃ a b, a < 8 ∧ b < 8 ∧ wyM E a b = false ∧ t = tpp base a b) ∨ (k ≠ N.idxOf [110] ∧ P1 E base N M k t)
theorem pm_one (h : Env E base N M) {R : List RItem} {k : Int} (hk : ∀ (N : List Tx) (B D : Dset), ClG (R.map (rulP N)) B D ↔ stepK k N D) (j : Nat) (t : Tup) : LstG (R.map (rulP N)) (MD M) j t ↔ P1 E base N M j t := by
 have nep : N.idxOf [101] ≠ N.idxOf [112] := idx_ne h.e h.p (by decide)
 have nvp : N.idxOf [118] ≠ N.idxOf [112] := idx_ne h.v h.p (by decide)
 have nev : N.idxOf [101] ≠ N.idxOf [118] := idx_ne h.e h.v (by decide)
 have hfe : ∀ t, MD M (N.idxOf [101]) t ↔ ∃ a b : Nat, edM (E.take 24) a b = true ∧ t = tpp base a b := fun t => by
  rw [fact_iff h]
  constructor
  ·rintro (⟨-, g⟩ | ⟨g, -⟩)
   ·exact g
   ·exact absurd g nev
  ·exact fun g => .inl ⟨rfl, g⟩
 constructor
 ·intro g
  refine g.least (D := P1 E base N M) (fun k t hb => .inr ⟨?_, hb⟩) ((hk _ _ _).2 ?_)
  ·rcases (fact_iff h k t).1 hb with ⟨rfl, -⟩ | ⟨rfl, -⟩
   ·exact nep
   ·exact nvp
  ·have he : ∀ x y, P1 E base N M (N.idxOf [101]) (t2 x y) → ∃ a b, wyM E a b = true ∧ t2 x y = tpp base a b := fun x y g => by
    rcases g with ⟨g, -⟩ | ⟨-, g⟩
    ·exact absurd g nep
    ·obtain ⟨a, b, h1, h2⟩ := (hfe _).1 g
     exact ⟨a, b, (wyM_iff E a b).2 (.one h1), h2⟩
   have hp : ∀ x y, P1 E base N M (N.idxOf [112]) (t2 x y) → ∃ a b, wyM E a b = true ∧ t2 x y = tpp base a b := fun x y g => by
    rcases g with ⟨-, g⟩ | ⟨g, -⟩
    ·exact g
    ·exact absurd rfl g
   refine ⟨fun x y g => .inl ⟨rfl, he x y g⟩, fun x y z g1 g2 => .inl ⟨rfl, ?_⟩⟩
   have q1 : ∃ a b, wyM E a b = true ∧ t2 x z = tpp base a b := by
    split at g1
    ·exact hp _ _ g1
    ·split at g1
     ·exact he _ _ g1
     ·exact hp _ _ g1
   have q2 : ∃ a b, wyM E a b = true ∧ t2 z y = tpp base a b := by
    split at g2
    ·exact he _ _ g2
    ·exact hp _ _ g2
   obtain ⟨a, b, w1, e1⟩ := q1
   obtain ⟨c, d, w2, e2⟩ := q2
   obtain ⟨x1, x2⟩ := t2_inj e1
   obtain ⟨y1, y2⟩ := t2_inj e2
   have hbc : b = c := pl_inj (x2.symm.trans y1)
   subst hbc
   exact ⟨a, d, (wyM_iff E a d).2 (((wyM_iff E a b).1 w1).join ((wyM_iff E b d).1 w2)), by rw [x1, y2]; rfl⟩
 ·rintro (⟨rfl, a, b, hw, rfl⟩ | ⟨-, g⟩)
  ·have hs := (hk N (MD M) _).1 (LstG.cl (R.map (rulP N)) (MD M))
   have hone : ∀ a b, edM (E.take 24) a b = true → LstG (R.map (rulP N)) (MD M) (N.idxOf [101]) (tpp base a b) := fun a b g => LstG.base ((hfe _).2 ⟨a, b, g, rfl⟩)
   have hW := (wyM_iff E a b).1 hw
   by_cases k1 : k = 1
   ·subst k1
    have app : ∀ {b c : Nat}, Way (fun a b => edM (E.take 24) a b = true) b c → ∀ a, LstG (R.map (rulP N)) (MD M) (N.idxOf [112]) (tpp base a b) → LstG (R.map (rulP N)) (MD M) (N.idxOf [112]) (tpp base a c) := by
     intro b c w
     induction w with
     | one e => exact fun a g => hs.2 _ _ _ (by rw [if_pos rfl]; exact g) (by rw [if_pos rfl]; exact hone _ _ e)
     | more e _ ih => exact fun a g => ih a (hs.2 _ _ _ (by rw [if_pos rfl]; exact g) (by rw [if_pos rfl]; exact hone _ _ e))
    cases hW with
    | one e => exact hs.1 _ _ (hone _ _ e)
    | more e w => exact app w a (hs.1 _ _ (hone _ _ e))
   ·clear hw
    induction hW with
    | one e => exact hs.1 _ _ (hone _ _ e)
    | more e _ ih =>
     refine hs.2 _ _ _ ?_ (by rw [if_neg k1]; exact ih)
     rw [if_neg k1]
     split
     ·exact hone _ _ e
     ·exact hs.1 _ _ (hone _ _ e)
  ·exact LstG.base g
theorem pm_two (h : Env E base N M) (j : Nat) (t : Tup) : LstG ([nR].map (rulP N)) (P1 E base N M) j t ↔ P2 E base N M j t := by
 have nnp : N.idxOf [110] ≠ N.idxOf [112] := idx_ne h.n h.p (by decide)
 have nne : N.idxOf [110] ≠ N.idxOf [101] := idx_ne h.n h.e (by decide)
 have nnv : N.idxOf [110] ≠ N.idxOf [118] := idx_ne h.n h.v (by decide)
 have nvp : N.idxOf [118] ≠ N.idxOf [112] := idx_ne h.v h.p (by decide)
 have nve : N.idxOf [118] ≠ N.idxOf [101] := idx_ne h.v h.e (by decide)
 have hv : ∀ x, P1 E base N M (N.idxOf [118]) (t1 x) ↔ ∃ a : Nat, a < 8 ∧ x = plN base (a : Int) := fun x => by
  unfold P1
  rw [fact_iff h]
  constructor
  ·rintro (⟨g, -⟩ | ⟨-, ⟨g, -⟩ | ⟨-, a, ha, e⟩⟩)
   ·exact absurd g nvp
   ·exact absurd g nve
   ·exact ⟨a, ha, t1_inj e⟩
  ·rintro ⟨a, ha, rfl⟩
   exact .inr ⟨nvp, .inr ⟨rfl, a, ha, rfl⟩⟩
 constructor
 ·intro g
  refine g.least (D := P2 E base N M) (fun k t hb => .inr ⟨?_, hb⟩) (stepN.2 ?_)
  ·rintro rfl
   rcases hb with ⟨g, -⟩ | ⟨-, g⟩
   ·exact nnp g
   ·rcases (fact_iff h _ t).1 g with ⟨g, -⟩ | ⟨g, -⟩
    ·exact nne g
    ·exact nnv g
  ·intro x y g1 g2 g3
   have c1 : ∀ x, P2 E base N M (N.idxOf [118]) (t1 x) → ∃ a : Nat, a < 8 ∧ x = plN base (a : Int) := fun x g => by
    rcases g with ⟨g, -⟩ | ⟨-, g⟩
    ·exact absurd g.symm nnv
    ·exact (hv x).1 g
   obtain ⟨a, ha, rfl⟩ := c1 x g1
   obtain ⟨b, hb, rfl⟩ := c1 y g2
   refine .inl ⟨rfl, a, b, ha, hb, ?_, rfl⟩
   cases hw : wyM E a b with
   | false => rfl
   | true => exact absurd (.inl ⟨rfl, a, b, hw, rfl⟩) g3
 ·rintro (⟨rfl, a, b, ha, hb, hw, rfl⟩ | ⟨-, g⟩)
  ·have hs := stepN.1 (LstG.cl ([nR].map (rulP N)) (P1 E base N M))
   refine hs _ _ (LstG.base ((hv _).2 ⟨a, ha, rfl⟩)) (LstG.base ((hv _).2 ⟨b, hb, rfl⟩)) ?_
   rintro (⟨-, c, d, w, e⟩ | ⟨g, -⟩)
   ·obtain ⟨rfl, rfl⟩ := tpp_inj (base := base) (a := a) (b := b) e
    rw [hw] at w; cases w
   ·exact g rfl
  ·exact LstG.base g
theorem lst_nil {B : Dset} (j : Nat) (t : Tup) : LstG [] B j t ↔ B j t := ⟨fun g => g.nonhead (by simp), LstG.base⟩
theorem pm_all (h : Env E base N M) {x : Tx} {R : List RItem} {k : Int} (hK : PrgK x R k) (j : Nat) (t : Tup) : PMi N (R ++ tailI) (MD M) 7 j t ↔ P2 E base N M j t := by
 have e1 : PMi N (R ++ tailI) (MD M) 1 = P1 E base N M := by
  funext j t
  show LstG ((RulS (R ++ tailI) 0).map (rulP N)) (MD M) j t = _
  rw [hK.rl0]
  exact propext (pm_one h hK.stp j t)
 have e2 : PMi N (R ++ tailI) (MD M) 2 = P2 E base N M := by
  funext j t
  show LstG ((RulS (R ++ tailI) 1).map (rulP N)) (PMi N (R ++ tailI) (MD M) 1) j t = _
  rw [hK.rl1, e1]
  exact propext (pm_two h j t)
 have up : ∀ s, RulS (R ++ tailI) s = [] → PMi N (R ++ tailI) (MD M) s = P2 E base N M → PMi N (R ++ tailI) (MD M) (s + 1) = P2 E base N M := fun s hs g => by
  funext j t
  show LstG ((RulS (R ++ tailI) s).map (rulP N)) (PMi N (R ++ tailI) (MD M) s) j t = _
  rw [hs, g]
  exact propext (lst_nil j t)
 obtain ⟨r2, r3, r4, r5, r6⟩ := hK.rl2
 rw [up 6 r6 (up 5 r5 (up 4 r4 (up 3 r3 (up 2 r2 e2))))]
end
/- Roads, in words: what Run tells. -/
def wl (E : List Int) (y : Bool) : List Nat := (List.range 64).filter fun n => wyM E (n / 8) (n % 8) == y
def tpn (base : Int) (n : Nat) : Tup := tpp base (n / 8) (n % 8)
def Lw (E : List Int) (base : Int) (y : Bool) : List Tup := (wl E y).map (tpn base)
theorem filter_both {α : Type} (f : α → Bool) : ∀ l : List α, (l.filter fun x => f x == true).length + (l.filter fun x => f x == false).length = l.length
 | [] => rfl
 | x :: l => by
  have ih := filter_both f l
  rw [List.filter_cons, List.filter_cons]
  generalize (l.filter fun x => f x == true) = A at ih ⊢
  generalize (l.filter fun x => f x == false) = B at ih ⊢
  cases f x <;> simp <;> omega
theorem wl_len (E : List Int) : (wl E true).length + (wl E false).length = 64 := by
 have := filter_both (fun n => wyM E (n / 8) (n % 8)) (List.range 64)
 simpa [wl] using this
theorem wl_lt (E : List Int) (y : Bool) : (wl E y).Pairwise (· < ·) := (List.pairwise_lt_range (n := 64)).filter _
theorem Lw_nodup (E : List Int) (base : Int) (y : Bool) : (Lw E base y).Nodup := by
 unfold Lw List.Nodup
 rw [List.pairwise_map]
 refine (wl_lt E y).imp fun {a b} h e => ?_
 obtain ⟨h1, h2⟩ := tpp_inj e
 omega
theorem wy_lt {E : List Int} {a b : Nat} (h : wyM E a b = true) : a < 8 ∧ b < 8 := (fwR_at (edM_supp (E.take 24)) 8 (Nat.le_refl _)).1 a b h
theorem mem_Lw {E : List Int} {base : Int} {y : Bool} {t : Tup} : t ∈ Lw E base y ↔ ∃ a b, a < 8 ∧ b < 8 ∧ wyM E a b = y ∧ t = tpp base a b := by
 unfold Lw wl
 rw [List.mem_map]
 constructor
 ·rintro ⟨n, hn, rfl⟩
  obtain ⟨h1, h2⟩ := List.mem_filter.1 hn
  have hn64 : n < 64 := by simpa using h1
  exact ⟨n / 8, n % 8, by omega, by omega, by simpa using h2, rfl⟩
 ·rintro ⟨a, b, ha, hb, hw, rfl⟩
  have e1 : (8 * a + b) / 8 = a := by omega
  have e2 : (8 * a + b) % 8 = b := by omega
  refine ⟨8 * a + b, List.mem_filter.2 ⟨by simp; omega, by rw [e1, e2]; simpa using hw⟩, by rw [tpn, e1, e2]⟩
theorem Lw_rank (E : List Int) (base : Int) (y : Bool) : Rank (Lw E base y) := by
 unfold Lw Rank
 rw [List.pairwise_map]
 refine (wl_lt E y).imp fun {a b} h => ?_
 show lexL [plN base ((b / 8 : Nat) : Int), plN base ((b % 8 : Nat) : Int), -1] [plN base ((a / 8 : Nat) : Int), plN base ((a % 8 : Nat) : Int), -1] = false
 rw [lex3]
 unfold plN
 omega
def sumF : Nat → (Nat → Int) → Int
 | 0, _ => 0
 | n + 1, f => f 0 + sumF n (fun k => f (k + 1))
theorem sumF_add (f g : Nat → Int) : ∀ n, sumF n (fun k => f k + g k) = sumF n f + sumF n g := by
 intro n
 induction n generalizing f g with
 | zero => rfl
 | succ n ih =>
  show f 0 + g 0 + sumF n (fun k => f (k + 1) + g (k + 1)) = _
  rw [ih (fun k => f (k + 1)) (fun k => g (k + 1))]
  show _ = f 0 + sumF n (fun k => f (k + 1)) + (g 0 + sumF n (fun k => g (k + 1)))
  omega
theorem sumF_ind (c : Int) : ∀ (n i : Nat), sumF n (fun k => if k = i then c else 0) = if i < n then c else 0
 | 0, i => by simp [sumF]
 | n + 1, 0 => by
  show (if 0 = 0 then c else 0) + sumF n (fun k => if k + 1 = 0 then c else 0) = _
  have : ∀ m, sumF m (fun k => if k + 1 = 0 then c else 0) = 0 := by
   intro m
   have e : (fun k : Nat => if k + 1 = 0 then c else 0) = fun k => if k = k + 1 then c else 0 := by funext k; simp
   have z : ∀ m, sumF m (fun _ => (0 : Int)) = 0 := by
    intro m
    induction m with
    | zero => rfl
    | succ m ih => show 0 + sumF m (fun _ => 0) = 0; rw [ih]; rfl
   have e2 : (fun k : Nat => if k + 1 = 0 then c else (0 : Int)) = fun _ => 0 := by funext k; simp
   rw [e2]; exact z m
  rw [this]; simp
 | n + 1, i + 1 => by
  show (if 0 = i + 1 then c else 0) + sumF n (fun k => if k + 1 = i + 1 then c else 0) = _
  have e : (fun k : Nat => if k + 1 = i + 1 then c else (0 : Int)) = fun k => if k = i then c else 0 := by funext k; simp
  rw [e, sumF_ind c n i]
  simp
theorem tot_le : ∀ (M M' : MM) (f : Nat → Int), M'.length = M.length → (∀ k : Nat, k < M.length → ((tupsOf M' k).length : Int) ≤ (tupsOf M k).length + f k) → tot M' ≤ tot M + sumF M.length f
 | [], M', f, hl, h => by
  have : M' = [] := List.eq_nil_of_length_eq_zero (by simpa using hl)
  subst this
  simp [tot, cnts, sumF]
 | x :: M, [], f, hl, h => by simp at hl
 | x :: M, y :: M', f, hl, h => by
  have h0 := h 0 (by simp)
  simp [tupsOf] at h0
  have := tot_le M M' (fun k => f (k + 1)) (by simpa using hl) (fun k hk => by have := h (k + 1) (by simpa using hk); simpa [tupsOf] using this)
  rw [tot_cons, tot_cons]
  show _ ≤ _ + (f 0 + sumF M.length fun k => f (k + 1))
  omega
theorem tot_ge : ∀ (M M' : MM) (f : Nat → Int), M'.length = M.length → (∀ k : Nat, k < M.length → ((tupsOf M k).length : Int) + f k ≤ (tupsOf M' k).length) → tot M + sumF M.length f ≤ tot M'
 | [], M', f, hl, h => by
  have : M' = [] := List.eq_nil_of_length_eq_zero (by simpa using hl)
  subst this
  simp [tot, cnts, sumF]
 | x :: M, [], f, hl, h => by simp at hl
 | x :: M, y :: M', f, hl, h => by
  have h0 := h 0 (by simp)
  simp [tupsOf] at h0
  have := tot_ge M M' (fun k => f (k + 1)) (by simpa using hl) (fun k hk => by have := h (k + 1) (by simpa using hk); simpa [tupsOf] using this)
  rw [tot_cons, tot_cons]
  show _ + (f 0 + sumF M.length fun k => f (k + 1)) ≤ _
  omega
theorem row_nodup {M : MM} (h : ∀ x ∈ M, x.2.Nodup) (k : Nat) : (tupsOf M (k : Int)).Nodup := by
 unfold tupsOf
 cases hk : M[(k : Int).toNat]? with
 | none => simp
 | some x => exact h x (List.mem_of_getElem? hk)
theorem row_t3 {M : MM} (h : ∀ x ∈ M, T3 x.2) (k : Nat) : T3 (tupsOf M (k : Int)) := by
 unfold tupsOf
 cases hk : M[(k : Int).toNat]? with
 | none => intro t ht; simp at ht
 | some x => exact h x (List.mem_of_getElem? hk)
section
variable {E : List Int} {base : Int} {N : List Tx} {M : MM}
theorem p2_p (h : Env E base N M) (t : Tup) : P2 E base N M (N.idxOf [112]) t ↔ t ∈ Lw E base true := by
 have nnp : N.idxOf [112] ≠ N.idxOf [110] := idx_ne h.p h.n (by decide)
 rw [mem_Lw]
 constructor
 ·rintro (⟨g, -⟩ | ⟨-, ⟨-, a, b, hw, e⟩ | ⟨g, -⟩⟩)
  ·exact absurd g nnp
  ·exact ⟨a, b, (wy_lt hw).1, (wy_lt hw).2, hw, e⟩
  ·exact absurd rfl g
 ·rintro ⟨a, b, -, -, hw, e⟩
  exact .inr ⟨nnp, .inl ⟨rfl, a, b, hw, e⟩⟩
theorem p2_n (h : Env E base N M) (t : Tup) : P2 E base N M (N.idxOf [110]) t ↔ t ∈ Lw E base false := by
 rw [mem_Lw]
 constructor
 ·rintro (⟨-, g⟩ | ⟨g, -⟩)
  ·exact g
  ·exact absurd rfl g
 ·exact fun g => .inl ⟨rfl, g⟩
theorem p2_o {k : Nat} (hp : k ≠ N.idxOf [112]) (hn : k ≠ N.idxOf [110]) (t : Tup) : P2 E base N M k t ↔ MD M k t := by
 constructor
 ·rintro (⟨g, -⟩ | ⟨-, ⟨g, -⟩ | ⟨-, g⟩⟩)
  ·exact absurd g hn
  ·exact absurd g hp
  ·exact g
 ·exact fun g => .inr ⟨hn, .inr ⟨hp, g⟩⟩
def mor (E : List Int) (N : List Tx) (k : Nat) : Int := (if k = N.idxOf [112] then ((wl E true).length : Int) else 0) + (if k = N.idxOf [110] then ((wl E false).length : Int) else 0)
theorem mor_sum (h : Env E base N M) : sumF M.length (mor E N) = 64 := by
 have h1 := List.idxOf_lt_length_of_mem h.p
 have h2 := List.idxOf_lt_length_of_mem h.n
 have hl := h.mm.len
 unfold mor
 rw [sumF_add, sumF_ind, sumF_ind, if_pos (by omega), if_pos (by omega)]
 have := wl_len E
 omega
theorem few (h : Env E base N M) {M2 : MM} (hl : M2.length = M.length) (hnd : ∀ x ∈ M2, x.2.Nodup) (hs : ∀ k t, MD M2 k t → P2 E base N M k t) : tot M2 ≤ tot M + 64 := by
 rw [← mor_sum h]
 refine tot_le M M2 _ hl fun k hk => ?_
 have hn := row_nodup hnd k
 unfold mor
 by_cases e1 : k = N.idxOf [112]
 ·have := pigeon _ (Lw E base true) hn (fun t ht => (p2_p h t).1 (by rw [← e1]; exact hs k t ht))
  rw [if_pos e1]
  simp only [Lw, List.length_map] at this
  split <;> omega
 ·by_cases e2 : k = N.idxOf [110]
  ·have := pigeon _ (Lw E base false) hn (fun t ht => (p2_n h t).1 (by rw [← e2]; exact hs k t ht))
   rw [if_neg e1, if_pos e2]
   simp only [Lw, List.length_map] at this
   omega
  ·have := pigeon _ (tupsOf M (k : Int)) hn (fun t ht => (p2_o e1 e2 t).1 (hs k t ht))
   rw [if_neg e1, if_neg e2]
   omega
theorem many (h : Env E base N M) {M2 : MM} (hl : M2.length = M.length) (hs : ∀ k t, P2 E base N M k t → MD M2 k t) : tot M + 64 ≤ tot M2 := by
 rw [← mor_sum h]
 have nnp : N.idxOf [112] ≠ N.idxOf [110] := idx_ne h.p h.n (by decide)
 have npe : N.idxOf [112] ≠ N.idxOf [101] := idx_ne h.p h.e (by decide)
 have npv : N.idxOf [112] ≠ N.idxOf [118] := idx_ne h.p h.v (by decide)
 have nne : N.idxOf [110] ≠ N.idxOf [101] := idx_ne h.n h.e (by decide)
 have nnv : N.idxOf [110] ≠ N.idxOf [118] := idx_ne h.n h.v (by decide)
 have emp : ∀ k, k ≠ N.idxOf [101] → k ≠ N.idxOf [118] → tupsOf M (k : Int) = [] := fun k h1 h2 => by
  apply List.eq_nil_iff_forall_not_mem.2
  intro t ht
  rcases (fact_iff h k t).1 ht with ⟨g, -⟩ | ⟨g, -⟩
  ·exact h1 g
  ·exact h2 g
 refine tot_ge M M2 _ hl fun k hk => ?_
 unfold mor
 by_cases e1 : k = N.idxOf [112]
 ·have := pigeon (Lw E base true) (tupsOf M2 (k : Int)) (Lw_nodup _ _ _) (fun t ht => hs k t (by rw [e1]; exact (p2_p h t).2 ht))
  rw [if_pos e1, if_neg (by rw [e1]; exact nnp), emp k (by rw [e1]; exact npe) (by rw [e1]; exact npv)]
  simp only [Lw, List.length_map] at this
  simp; omega
 ·by_cases e2 : k = N.idxOf [110]
  ·have := pigeon (Lw E base false) (tupsOf M2 (k : Int)) (Lw_nodup _ _ _) (fun t ht => hs k t (by rw [e2]; exact (p2_n h t).2 ht))
   rw [if_neg e1, if_pos e2, emp k (by rw [e2]; exact nne) (by rw [e2]; exact nnv)]
   simp only [Lw, List.length_map] at this
   simp; omega
  ·have := pigeon (tupsOf M (k : Int)) (tupsOf M2 (k : Int)) (row_nodup h.mm.nd k) (fun t ht => hs k t ((p2_o e1 e2 t).2 ht))
   rw [if_neg e1, if_neg e2]
   omega
theorem perm_of {a b : List Tup} (ha : a.Nodup) (hb : b.Nodup) (h : ∀ t, t ∈ a ↔ t ∈ b) : a.Perm b := (List.perm_ext_iff_of_nodup ha hb).2 h
end
/- Roads, in words: what Run answers. -/
theorem consS_of {S : List RAtom} {f : Tx → Nat} (hf : ∀ p, 0 < f p) (h : ∀ a ∈ S, a.terms.length = f a.pred) : consS S := fun b hb => by
 refine ⟨by rw [h b hb]; exact hf _, ?_⟩
 rw [h b hb]
 unfold cntL
 cases hh : S.find? (fun a => a.pred == b.pred) with
 | none =>
  have := List.find?_eq_none.1 hh b hb
  simp at this
 | some a =>
  have h1 := List.find?_some hh
  have e : a.pred = b.pred := by simpa using h1
  show f b.pred = a.terms.length
  rw [h a (List.mem_of_find?_eq_some hh), e]
theorem fact_cases {E : List Int} {base : Int} {a : RAtom} (ha : a ∈ factsA E base) : (a.pred = [101] ∧ a.terms.length = 2) ∨ (a.pred = [118] ∧ a.terms.length = 1) := by
 unfold factsA at ha
 rcases List.mem_append.1 ha with h | h
 ·obtain ⟨x, -, rfl⟩ := List.mem_map.1 h
  exact .inl ⟨rfl, rfl⟩
 ·obtain ⟨x, -, rfl⟩ := List.mem_map.1 h
  exact .inr ⟨rfl, rfl⟩
theorem facE_zero {x : Tx} {R : List RItem} {k : Int} (hK : PrgK x R k) (E : List Int) (base : Int) : facE (R ++ tailI) (factsT E base) = 0 := by
 unfold facE
 rw [(facts_parse E base).1]
 have h1 : othF ((R ++ tailI).flatMap atomsL) (factsA E base) = false := by
  refine oth_of (consS_of (f := fun p => if p = [118] then 1 else 2) (fun p => by split <;> omega) (fun a ha => ?_))
  rcases List.mem_append.1 ha with h | h
  ·exact hK.ats a h
  ·rcases fact_cases h with ⟨e1, e2⟩ | ⟨e1, e2⟩
   ·rw [e1, e2]; rfl
   ·rw [e1, e2]; rfl
 have h2 : (factsA E base).any (fun a => rulT (R ++ tailI) a.pred) = false := by
  rw [List.any_eq_false]
  intro a ha
  unfold rulT
  rw [Bool.not_eq_true, List.any_eq_false]
  intro y hy
  simp only [Bool.and_eq_true, decide_eq_true_eq, not_and]
  intro _ e
  rcases fact_cases ha with ⟨e1, -⟩ | ⟨e1, -⟩ <;> rcases (hK.nms y hy).1 with e2 | e2 <;> rw [e1, e2] at e <;> exact absurd e (by decide)
 simp only [h1, h2, Bool.false_eq_true, if_false]
theorem tell_skip {N : List Tx} {rk : Nat → List Tup} : ∀ {l : List RItem} (acc : Tx × List Int), (∀ x ∈ l, x.out = false) → l.foldl (tellF N rk) acc = acc
 | [], acc, _ => rfl
 | x :: l, acc, h => by
  rw [List.foldl_cons]
  have : tellF N rk acc x = acc := by
   unfold tellF
   rw [if_neg (by rw [h x (by simp)]; simp)]
  rw [this]
  exact tell_skip acc (fun y hy => h y (by simp [hy]))
theorem tell_all {x : Tx} {R : List RItem} {k : Int} (hK : PrgK x R k) {N : List Tx} (rk : Nat → List Tup) (hne : N.idxOf [112] ≠ N.idxOf [110]) : tellT N rk (R ++ tailI) = (rk (N.idxOf [112])).flatMap (pieceT [112]) ++ (rk (N.idxOf [110])).flatMap (pieceT [110]) := by
 unfold tellT tellA
 rw [List.foldl_append, tell_skip _ (fun x hx => (hK.two.2 x hx).1)]
 have hne2 : ((N.idxOf [110] : Nat) : Int) ≠ ((N.idxOf [112] : Nat) : Int) := by omega
 have e1 : tellF N rk ([], []) nR = ([], []) := by unfold tellF; rw [if_neg (by simp [nR])]
 have e2 : tellF N rk ([], []) (oi 112) = ((rk (N.idxOf [112])).flatMap (pieceT [112]), [((N.idxOf [112] : Nat) : Int)]) := by
  unfold tellF
  rw [if_pos ⟨rfl, by simp⟩]
  rfl
 have e3 : ∀ X, tellF N rk (X, [((N.idxOf [112] : Nat) : Int)]) (oi 110) = (X ++ (rk (N.idxOf [110])).flatMap (pieceT [110]), [((N.idxOf [112] : Nat) : Int), ((N.idxOf [110] : Nat) : Int)]) := fun X => by
  unfold tellF
  rw [if_pos ⟨rfl, by simpa [oi] using hne2⟩]
  rfl
 have e4 : ∀ X, tellF N rk (X, [((N.idxOf [112] : Nat) : Int), ((N.idxOf [110] : Nat) : Int)]) (oi 112) = (X, [((N.idxOf [112] : Nat) : Int), ((N.idxOf [110] : Nat) : Int)]) := fun X => by
  unfold tellF
  rw [if_neg (by simp [oi])]
 unfold tailI
 rw [List.foldl_cons, List.foldl_cons, List.foldl_cons, List.foldl_cons, List.foldl_nil, e1, e2, e3, e4]
theorem piece_pair (p : Tx) (base : Int) {a b : Nat} (ha : a ≤ 7) (hb : b ≤ 7) : pieceT p (tpp base a b) = pairT p base (a : Int) (b : Int) := by
 have h1 := plN_rng base (a := (a : Int)) (by omega) (by omega)
 have h2 := plN_rng base (a := (b : Int)) (by omega) (by omega)
 unfold pieceT pairT tpp t2 tupX numT
 generalize plN base (a : Int) = x at *
 generalize plN base (b : Int) = y at *
 have e : tups (tupOf [x, y]) = [x, y] := by
  have n1 : x ≠ -1 := by omega
  have n2 : y ≠ -1 := by omega
  simp [tups, tupOf, List.takeWhile, n1, n2]
 rw [e]
 simp [jn]
theorem Lw_tell (E : List Int) (base : Int) (y : Bool) (p : Tx) : (Lw E base y).flatMap (pieceT p) = tolK (wyM E) p base y 64 := by
 unfold Lw tolK
 rw [List.flatMap_map]
 show (wl E y).flatMap _ = (wl E y).flatMap _
 have hb : ∀ n ∈ wl E y, n < 64 := fun n hn => by
  have := (List.mem_filter.1 hn).1
  simpa using this
 revert hb
 generalize wl E y = l
 intro hb
 induction l with
 | nil => rfl
 | cons n l ih =>
  rw [List.flatMap_cons, List.flatMap_cons, ih (fun m hm => hb m (by simp [hm]))]
  have := hb n (by simp)
  congr 1
  exact piece_pair p base (by omega) (by omega)
theorem roads_run {x : Tx} {R : List RItem} {k : Int} (hK : PrgK x R k) {E : List Int} {base n : Int} (hn : n = 64 ∨ n = 63) {t : Tx} {c e : Int} (h : RunP x (factsT E base) n t c e) :
  (n = 64 → t = tolK (wyM E) [112] base true 64 ++ tolK (wyM E) [110] base false 64 ∧ c = 64 ∧ e = 0) ∧ (n = 63 → t = [] ∧ c = 0 ∧ e = 9) := by
 unfold RunP at h
 have hf := facts_parse E base
 have hlen := hK.len
 rw [if_neg (by have := hf.2; omega), if_neg (by rw [hK.chk]; simp), if_neg (by omega)] at h
 obtain ⟨l, hl, h⟩ := h
 rw [hK.par] at hl
 cases hl
 rw [if_neg (by rw [facE_zero hK]; simp)] at h
 obtain ⟨F, hF, N, M, M', d, hN, hFN, hMk, h3, hI, h⟩ := h
 rw [hf.1] at hF
 cases hF
 rw [hK.l6] at hI
 have hmt : ∀ y ∈ tailI, y ∈ R ++ tailI := fun y hy => List.mem_append.2 (.inr hy)
 have hE : Env E base N M := by
  refine ⟨(hN (oi 112) (hmt _ (by simp [tailI]))).1, ?_, (hN nR (hmt _ (by simp [tailI]))).2 (at1 118 65) (by simp [nR]), (hN (oi 110) (hmt _ (by simp [tailI]))).1, hMk⟩
  obtain ⟨y, hy, a, ha, e⟩ := hK.edg
  rw [← e]
  exact (hN y (List.mem_append.2 (.inl hy))).2 a ha
 have hne := idx_ne hE.p hE.n (by decide)
 obtain ⟨hl, hd, hI⟩ := hI
 rcases hI with ⟨hb, hm, hnd⟩ | ⟨hb, M2, hl2, hnd2, -, hm2, hb2⟩
 ·have hm' : ∀ k t, MD M' k t ↔ P2 E base N M k t := fun k t => (hm k t).trans (pm_all hE hK k t)
  have h1 := few hE hl hnd (fun k t => (hm' k t).1)
  have h2 := many hE hl (fun k t => (hm' k t).2)
  rw [if_neg hb] at h
  obtain ⟨rfl, hc, rfl⟩ := h
  refine ⟨fun _ => ⟨?_, by omega, rfl⟩, fun g => absurd g (by omega)⟩
  rw [tell_all hK _ hne]
  have r1 : rankL (tupsOf M' ((N.idxOf [112] : Nat) : Int)) = Lw E base true := (rank_is (row_t3 h3 _) (perm_of (Lw_nodup _ _ _) (row_nodup hnd _) (fun t => ((hm' _ t).trans (p2_p hE t)).symm)) (Lw_rank _ _ _)).symm
  have r2 : rankL (tupsOf M' ((N.idxOf [110] : Nat) : Int)) = Lw E base false := (rank_is (row_t3 h3 _) (perm_of (Lw_nodup _ _ _) (row_nodup hnd _) (fun t => ((hm' _ t).trans (p2_n hE t)).symm)) (Lw_rank _ _ _)).symm
  rw [r1, r2, Lw_tell, Lw_tell]
 ·have h1 := few hE hl2 hnd2 (fun k t g => (pm_all hE hK k t).1 (hm2 k t g))
  rw [if_pos hb] at h
  exact ⟨fun g => absurd g (by omega), fun _ => h⟩
/- The law: Roads. -/
theorem prg_all (form : Int) : ∃ R k, PrgK (wayT (pkI form 4) ++ tailT) R k := by
 unfold wayT
 by_cases h0 : pkI form 4 = 0
 ·rw [if_pos h0]; exact ⟨_, _, prg0⟩
 rw [if_neg h0]
 by_cases h1 : pkI form 4 = 1
 ·rw [if_pos h1]; exact ⟨_, _, prg1⟩
 rw [if_neg h1]
 by_cases h2 : pkI form 4 = 2
 ·rw [if_pos h2]; exact ⟨_, _, prg2⟩
 rw [if_neg h2]
 exact ⟨_, _, prg3⟩
theorem tolK_len (W : Nat → Nat → Bool) {p : Tx} (hp : p.length ≤ 100) (base : Int) (y : Bool) : (tolK W p base y 64).length ≤ 10000 := by
 unfold tolK
 have hb : ∀ n ∈ (List.range 64).filter (fun n => W (n / 8) (n % 8) == y), n < 64 := fun n hn => by
  have := (List.mem_filter.1 hn).1
  simpa using this
 have hl : ((List.range 64).filter (fun n => W (n / 8) (n % 8) == y)).length ≤ 64 := by
  have := List.length_filter_le (fun n => W (n / 8) (n % 8) == y) (List.range 64)
  simpa using this
 revert hb hl
 generalize (List.range 64).filter (fun n => W (n / 8) (n % 8) == y) = l
 intro hb hl
 have : (l.flatMap fun n => pairT p base ((n / 8 : Nat) : Int) ((n % 8 : Nat) : Int)).length ≤ l.length * 130 := by
  clear hl
  induction l with
  | nil => simp
  | cons n l ih =>
   have ih := ih (fun m hm => hb m (by simp [hm]))
   have hn := hb n (by simp)
   have := pairT_len hp base (a := ((n / 8 : Nat) : Int)) (b := ((n % 8 : Nat) : Int)) (by omega) (by omega) (by omega) (by omega)
   rw [List.flatMap_cons, List.length_append, List.length_cons]
   omega
 omega
set_option maxHeartbeats 16000000 in
theorem roads_spec (form base : Int) (hf : R64 form) (hb : R64 base) (E : List Int) (ide : Nat) (hE : ∀ x ∈ E, R64 x) (σ : St) : ACalls Tryz.prog 6 [ic form, ic base, sl ide E.length (icells E)] σ fun r σ' => r = sc (.bool true) ∧ Keep σ σ' := by
 have hRd := fun σ => kread_spec E ide hE σ
 have hWy := fun σ => kways_spec form hf.1 hf.2 σ
 have hFa := fun σ => kfacts_spec E ide base hE hb σ
 have hRu := fun n σ => run_spec (wayT (pkI form 4) ++ tailT) (factsT E base) n σ
 obtain ⟨R, k, hK⟩ := prg_all form
 have HR : Abs.Hid _ := fun n hn t c e h => roads_run (E := E) (base := base) hK (n := n) hn (t := t) (c := c) (e := e) h
 have hlen := hK.len
 rw [List.length_append] at hlen
 have htl : tailT.length = 35 := rfl
 have hA := tolK_len (wyM E) (p := [112]) (by simp) base true
 have hB := tolK_len (wyM E) (p := [110]) (by simp) base false
 have hTo1 : ∀ (o : Nat) (σ : St), σ.obj o = encM (edM (E.take 24)) (wyM E) → o < σ.nobj → ACalls Tryz.prog 19 [ptr o 0, sc (.string (bs [112])), ic base, sc (.bool true)] σ fun r σ' => r = str (tolK (wyM E) [112] base true 64) ∧ σ' = σ := fun o σ h1 h2 => ktold_spec o _ _ [112] base true (by simp) hb σ h1 h2
 have hTo2 : ∀ (o : Nat) (σ : St), σ.obj o = encM (edM (E.take 24)) (wyM E) → o < σ.nobj → ACalls Tryz.prog 19 [ptr o 0, sc (.string (bs [110])), ic base, sc (.bool false)] σ fun r σ' => r = str (tolK (wyM E) [110] base false 64) ∧ σ' = σ := fun o σ h1 h2 => ktold_spec o _ _ [110] base false (by simp) hb σ h1 h2
 have hc0 : ({ data := #[] } : ByteArray) = bs [] := rfl
 have hc1 : ({ data := #[112] } : ByteArray) = bs [112] := rfl
 have hc2 : ({ data := #[110] } : ByteArray) = bs [110] := rfl
 have hc3 : ({ data := #[110, 40, 65, 44, 66, 41, 58, 45, 118, 40, 65, 41, 44, 118, 40, 66, 41, 44, 33, 112, 40, 65, 44, 66, 41, 46, 63, 112, 46, 63, 110, 46, 63, 112, 46] } : ByteArray) = bs tailT := rfl
 have hfl := (facts_parse E base).2
 clear hK
 generalize tolK (wyM E) [112] base true 64 = TA at *
 generalize tolK (wyM E) [110] base false 64 = TB at *
 generalize wayT (pkI form 4) = w at *
 generalize tailT = tt at *
 generalize factsT E base = fa at *
 generalize encM (edM (E.take 24)) (wyM E) = em at *
 clear hE hf hb
 refine acalls 65 [.tmp 6] Tryz.func6 rfl (by decide) rfl rfl (Nat.le_of_ble_eq_true rfl) ?_
 repeat' (first
 |with_reducible first|apply Xa|apply Xb|(refine Xc ?_;intro κ hκ)|(apply hκ.out;clear hκ κ)|apply Xd|apply Xe|apply Xf
 |((with_reducible first|refine Xl ?_ ?_|refine Xk ?_ ?_)<;> intro h hari<;> try exact Xp)
 |((with_reducible refine Xh ?_);first|(refine Xi (hRd _) ?_;rintro _ _ ⟨o,rfl,ho,ho2,hob,hK1⟩;(have kno1:=hK1.nobj))|(refine Xi (hWy _) ?_;rintro _ _ ⟨rfl,rfl⟩)|(refine Xi (hFa _) ?_;rintro _ _ ⟨rfl,rfl⟩)|(refine Xi (hRu 64 _) ?_;rintro _ _ ⟨x1,c1,e1,rfl,hx,hK2⟩;(obtain ⟨g1,g2,g3⟩:=(HR.out 64 (.inl rfl) _ _ _ hx).1 rfl;subst g1;subst g2;subst g3;clear hx;have hob2:=(hK2.obj o ho2).trans hob;have ho3:=Nat.lt_of_lt_of_le ho2 hK2.nobj;have kno2:=hK2.nobj;have hT1:=hTo1 o _ hob2 ho3;have hT2:=hTo2 o _ hob2 ho3))|(refine Xi (hT1) ?_;rintro _ _ ⟨rfl,rfl⟩)|(refine Xi (hT2) ?_;rintro _ _ ⟨rfl,rfl⟩)|(refine Xi (hRu 63 _) ?_;rintro _ _ ⟨x1,c1,e1,rfl,hx,hK3⟩;(obtain ⟨g1,g2,g3⟩:=(HR.out 63 (.inr rfl) _ _ _ hx).2 rfl;subst g1;subst g2;subst g3;clear hx)))
 |refine Xw ?_
 |exact True.intro
 |(apply hκ.out;clear hκ κ))
 exact ⟨_, rfl, rfl, (hK1.trans hK2).trans hK3⟩
end Go.Proofs.YtmoeoppbmhfbpaaGreatDoorE
