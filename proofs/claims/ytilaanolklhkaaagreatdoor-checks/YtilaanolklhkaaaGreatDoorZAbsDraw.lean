import Derived.Test.YtilaanolklhkaaaGreatDoorZAbsWp
import Derived.OrdersHeld
/- Regions that draw their order: what only reads is taken first, the rest comes as it must. -/
namespace Go.Abs
set_option linter.unusedSimpArgs false
set_option linter.unusedVariables false

section
variable {P : Program} {ops : Array Oper} {Q : Exit → Act → World → Prop} {S : World → Prop} {A : Nat → Bool}

/-- Whatever order is picked, and S holds behind the operations that A names. -/
def wpAnyG (P : Program) (ops : Array Oper) (Q : Exit → Act → World → Prop) (S : World → Prop) (A : Nat → Bool) : Nat → Array Bool → Act → World → Prop
  | 0, listed, a, w => Region.ready .any ops listed = [] ∧ Q .normal a w
  | fuel + 1, listed, a, w =>
    (Region.ready .any ops listed = [] → Q .normal a w) ∧
    ∀ i ∈ Region.ready .any ops listed, wpOp P ops Q i (fun a' w' => (A i = true → S w') ∧ wpAnyG P ops Q S A fuel (listed.setIfInBounds i true) a' w') a w

theorem wpAny_of_G : ∀ (fuel : Nat) (listed : Array Bool) (a : Act) (w : World), wpAnyG P ops Q S A fuel listed a w → wpAny P .any ops Q fuel listed a w
  | 0, _, _, _, h => h
  | fuel + 1, _, _, _, h => ⟨h.1, fun i hi => wpOp_mono (fun a' w' h' => wpAny_of_G fuel _ a' w' h'.2) (h.2 i hi)⟩

theorem wpAnyG_first {i : Nat} {oi : Oper} {v : Value} {D : Nat → Bool} (hi : ops[i]? = some oi) (hsel : ∀ (j : Nat) (o : Oper) cs b, ops[j]? = some o → o.op ≠ .select cs b)
    (hQ : ∀ c a w, Q (.panic c) (a.put oi.dst v) w → Q (.panic c) a w)
    (hD : ∀ k ok, ops[k]? = some ok → D k = true → ∃ e ∈ ok.after, Region.binds .any e = true ∧ (e.on = i ∨ D e.on = true)) :
    ∀ (fuel : Nat) (listed : Array Bool) (a : Act) (w : World),
      (∀ k, D k = true → listed.getD k false = false) → (∀ j, j ≠ i → listed.getD j true = false → D j = false → A j = true) →
      (∀ j oj, ops[j]? = some oj → j ≠ i → listed.getD j true = false → (∀ e ∈ oj.after, Region.binds .any e = true → e.on ≠ i) → oi.apart ops oj = true) →
      i ∈ Region.ready .any ops listed → YieldsIf P ops S oi v a → S w →
      wpAnyG P ops Q S A fuel (listed.setIfInBounds i true) (a.put oi.dst v) w → wpAnyG P ops Q S A (fuel + 1) listed a w := by
  intro fuel
  induction fuel with
  | zero =>
    intro listed a w _ _ _ hr hy hS H
    refine ⟨fun h => (by rw [h] at hr; cases hr), fun j hj => ?_⟩
    by_cases hji : j = i
    · subst hji; exact hy.wpOp hi hS ⟨fun _ => hS, H⟩
    · have := ready_mono hj hji
      rw [H.1] at this
      cases this
  | succ fuel ih =>
    intro listed a w hDl hA hfree hr hy hS H
    refine ⟨fun h => (by rw [h] at hr; cases hr), fun j hj => ?_⟩
    by_cases hji : j = i
    · subst hji; exact hy.wpOp hi hS ⟨fun _ => hS, H⟩
    · have h1 := H.2 j (ready_mono hj hji)
      obtain ⟨hjun, oj, hoj, hall⟩ := mem_ready.1 hj
      have hiun : listed.getD i false = false := by
        have h0 := (mem_ready.1 hr).1
        rcases Nat.lt_or_ge i listed.size with h' | h'
        · simp [h'] at h0 ⊢; exact h0
        · simp [Array.getElem?_eq_none h'] at h0
      have hnot : ∀ e ∈ oj.after, Region.binds .any e = true → e.on ≠ i := fun e he hb heq => by
        have h1 := hall e he hb
        rw [heq, hiun] at h1
        cases h1
      have hjD : D j = false := by
        cases hd : D j with
        | false => rfl
        | true =>
          obtain ⟨e, he, hb, h3⟩ := hD j oj hoj hd
          have h2 := hall e he hb
          rcases h3 with h3 | h3
          · rw [h3, hiun] at h2; cases h2
          · rw [hDl _ h3] at h2; cases h2
      have h2 := wpOp_putIf hoj (hfree j oj hoj hji hjun hnot) (fun cs b => hsel i oi cs b hi) (fun cs b => hsel j oj cs b hoj) hQ hy h1
      have hfree' : ∀ k ok, ops[k]? = some ok → k ≠ i → (listed.setIfInBounds j true).getD k true = false →
          (∀ e ∈ ok.after, Region.binds .any e = true → e.on ≠ i) → oi.apart ops ok = true := fun k ok hk hki hun hno => by
        refine hfree k ok hk hki ?_ hno
        by_cases hjk : j = k
        · subst hjk; exact hjun
        · rw [getD_set_ne true hjk] at hun; exact hun
      have hA' : ∀ k, k ≠ i → (listed.setIfInBounds j true).getD k true = false → D k = false → A k = true := fun k hki hun hd => by
        refine hA k hki ?_ hd
        by_cases hjk : j = k
        · subst hjk; exact hjun
        · rw [getD_set_ne true hjk] at hun; exact hun
      have hDl' : ∀ k, D k = true → (listed.setIfInBounds j true).getD k false = false := fun k hk => by
        have hjk : j ≠ k := fun e => by subst e; rw [hjD] at hk; cases hk
        rw [getD_set_ne false hjk]; exact hDl k hk
      have hSj : A j = true := hA j hji hjun hjD
      refine wpOp_mono (fun a' w' h3 => ⟨fun _ => h3.2.1 hSj, ih (listed.setIfInBounds j true) a' w' hDl' hA' hfree' (ready_mono hr (Ne.symm hji)) h3.1 (h3.2.1 hSj) ?_⟩) h2
      rw [Array.setIfInBounds_comm _ _ hji]
      exact h3.2.2
end

/-! ### The abstract machine's side -/
section
variable {P : Program} {n : Nat} {Q : Post} {F : Nat → Prop} {A : Nat → Bool} {σ0 : St} {all : List Oper}

/-- what is left may come in whatever order -/
def TAny (P : Program) (n : Nat) (all : List Oper) (Q : Post) (F : Nat → Prop) (A : Nat → Bool) (σ0 : St) (fuel : Nat) (listed : Array Bool) (s : Sl) : Prop :=
  ∀ G a w, Rel n G s σ0 a w → wpAnyG P all.toArray (conc n G σ0 w Q) (Same F G σ0 w) A fuel listed a w
def UAny (P : Program) (n : Nat) (all : List Oper) (Q : Post) (F : Nat → Prop) (A : Nat → Bool) (σ0 : St) (fuel : Nat) (listed : Array Bool) (s : Sl) (σ : St) : Prop :=
  ∀ G0 w0 G a w, Ext G0 σ0 w0 G σ w → Rel n G s σ a w → wpAnyG P all.toArray (conc n G0 σ0 w0 Q) (Same F G0 σ0 w0) A fuel listed a w

theorem tany_of_uany {fuel : Nat} {listed : Array Bool} {s : Sl} (h : UAny P n all Q F A σ0 fuel listed s σ0) : TAny P n all Q F A σ0 fuel listed s :=
  fun G a w R => h G w G a w (Ext.refl _ _ _) R

theorem uany_done {listed : Array Bool} {s : Sl} {σ : St} {fuel : Nat} (hr : Region.ready .any all.toArray listed = []) (h : Q .normal s σ) : UAny P n all Q F A σ0 fuel listed s σ := fun G0 w0 G a w E R => by
  have hq : conc n G0 σ0 w0 Q .normal a w := ⟨G, s, σ, E, R, h⟩
  cases fuel with
  | zero => exact ⟨hr, hq⟩
  | succ fuel => exact ⟨fun _ => hq, by rw [hr]; simp⟩

/-- one operation that comes up -/
def aOne (P : Program) (n : Nat) (all : List Oper) (i : Nat) (s : Sl) (σ : St) (K : Sl → St → Prop) : Prop :=
  match all[i]? with
  | none => False
  | some o => dstOk n o.dst = true ∧ gd P o s σ K (awant all o s)

def Kept (A : Nat → Bool) (F : Nat → Prop) (σ0 : St) (i : Nat) (σ' : St) : Prop := A i = true → ∀ o, o < σ0.nobj → F o → σ'.ver o = σ0.ver o

def kep (A : Nat → Bool) (F : Nat → Prop) (σ0 : St) (i : Nat) (k : Sl → St → Prop) (s : Sl) (σ : St) : Prop := Kept A F σ0 i σ ∧ k s σ

theorem uany_all {rs : List Nat} {fuel : Nat} {listed : Array Bool} {s : Sl} {σ : St} (hr : Region.ready .any all.toArray listed = rs) (hne : rs ≠ [])
    (h : ∀ i ∈ rs, aOne P n all i s σ fun s' σ' => Kept A F σ0 i σ' ∧ UAny P n all Q F A σ0 fuel (listed.setIfInBounds i true) s' σ') : UAny P n all Q F A σ0 (fuel + 1) listed s σ := fun G0 w0 G a w E R => by
  refine ⟨fun h0 => absurd (hr ▸ h0) hne, fun i hi => ?_⟩
  have h1 := h i (hr ▸ hi)
  unfold aOne at h1
  split at h1
  · exact h1.elim
  · rename_i o ho
    have ho' : all.toArray[i]? = some o := by simpa using ho
    obtain ⟨hd, h2⟩ := h1
    have same : ∀ G' σ' w', Ext G0 σ0 w0 G' σ' w' → Kept A F σ0 i σ' → A i = true → Same F G0 σ0 w0 w' := fun G' σ' w' E' hk hA =>
      ⟨fun b o p => (E'.per b o p).2, fun o ho hF => (E'.ver o ho).2 (hk hA o ho hF)⟩
    unfold wpOp
    simp only [ho']
    cases hw : awant all o s with
    | none => rw [hw] at h2; exact h2.elim
    | some b =>
      rw [hw] at h2
      cases b with
      | false =>
        rw [awant_ok R hw]
        simp only [Bool.false_eq_true, if_false]
        have h3 := h2.2 rfl
        exact ⟨fun hA => same G σ w E h3.1 hA, h3.2 G0 w0 G _ w E (R.put (Ext.refl _ _ _) R.inv (VR.sc _) hd)⟩
      | true =>
        rw [if_pos (awant_ok R hw)]
        refine .inl (aStep_ok R (h2.1 rfl) hd fun G' σ' x w' v E' R' hk => ?_)
        exact ⟨fun hA => same G' σ' w' (E.trans E') hk.1 hA, hk.2 G0 w0 G' _ w' (E.trans E') R'⟩

theorem uany_one {i : Nat} {fuel : Nat} {listed : Array Bool} {s : Sl} {σ : St} (hr : Region.ready .any all.toArray listed = [i])
    (h : aOne P n all i s σ fun s' σ' => Kept A F σ0 i σ' ∧ UAny P n all Q F A σ0 fuel (listed.setIfInBounds i true) s' σ') : UAny P n all Q F A σ0 (fuel + 1) listed s σ :=
  uany_all hr (by simp) fun j hj => by simp at hj; subst hj; exact h

def desc (ops : List Oper) (i : Nat) : Array Bool :=
  ops.foldl (fun acc o => acc.push (o.after.any fun e => Region.binds .any e && (e.on == i || acc.getD e.on false))) #[]
def descB (ops : List Oper) (D : Array Bool) (i : Nat) : Bool :=
  (List.range D.size).all fun k => !D.getD k false || match ops[k]? with
    | some o => o.after.any fun e => Region.binds .any e && (e.on == i || D.getD e.on false)
    | none => true
def tB (ops : List Oper) (A : Nat → Bool) (listed : Array Bool) (i : Nat) : Bool :=
  (Region.ready .any ops.toArray listed).contains i && Region.free .any ops.toArray listed i && descB ops (desc ops i) i &&
  (List.range (desc ops i).size).all (fun k => !(desc ops i).getD k false || !listed.getD k false) &&
  (List.range listed.size).all (fun j => j == i || listed.getD j true || (desc ops i).getD j false || A j)

/-- one that only reads, by its guard -/
def gt (P : Program) (o : Oper) (s : Sl) (F : Nat → Prop) (σ0 : St) (k : Sl → Prop) (g : Option Bool) : Prop :=
  match g with
  | none => False
  | some b => (b = true → match aq P s σ0 o.op with
      | some x => (∀ p, rdo s o.op = some p → F p) ∧ k (aput s o.dst x)
      | none => False) ∧ (b = false → k (aput s o.dst (sc undef)))
theorem gt_true {P : Program} {o : Oper} {s : Sl} {F : Nat → Prop} {σ0 : St} {k : Sl → Prop} : gt P o s F σ0 k (some true) = (match aq P s σ0 o.op with
      | some x => (∀ p, rdo s o.op = some p → F p) ∧ k (aput s o.dst x)
      | none => False) := by simp [gt]
theorem gt_false {P : Program} {o : Oper} {s : Sl} {F : Nat → Prop} {σ0 : St} {k : Sl → Prop} : gt P o s F σ0 k (some false) = k (aput s o.dst (sc undef)) := by simp [gt]
theorem gt_split {P : Program} {o : Oper} {s : Sl} {F : Nat → Prop} {σ0 : St} {k : Sl → Prop} {b : Bool} (h1 : b = true → gt P o s F σ0 k (some true)) (h2 : b = false → gt P o s F σ0 k (some false)) : gt P o s F σ0 k (some b) := by
  cases b
  · exact h2 rfl
  · exact h1 rfl

/-- one that only reads, taken first -/
def aTk (P : Program) (n : Nat) (all : List Oper) (F : Nat → Prop) (σ0 : St) (i : Nat) (s : Sl) (K : Sl → Prop) : Prop :=
  match all[i]? with
  | none => False
  | some o => dstOk n o.dst = true ∧ gt P o s F σ0 K (awant all o s)

theorem tany_take {i : Nat} {fuel : Nat} {listed : Array Bool} {s : Sl} (hs : Region.noSelect all.toArray = true) (hB : tB all A listed i = true) (hp : ∀ c s σ, ¬ Q (.panic c) s σ)
    (h : aTk P n all F σ0 i s fun s' => TAny P n all Q F A σ0 fuel (listed.setIfInBounds i true) s') : TAny P n all Q F A σ0 (fuel + 1) listed s := fun G a w R => by
  unfold aTk at h
  split at h
  · exact h.elim
  · rename_i o ho
    have ho' : all.toArray[i]? = some o := by simpa using ho
    obtain ⟨hd, h2⟩ := h
    simp only [tB, Bool.and_eq_true] at hB
    obtain ⟨⟨⟨⟨b1, b2⟩, b3⟩, b4⟩, b5⟩ := hB
    have hD : ∀ k ok, all.toArray[k]? = some ok → (desc all i).getD k false = true → ∃ e ∈ ok.after, Region.binds .any e = true ∧ (e.on = i ∨ (desc all i).getD e.on false = true) := fun k ok hk hd => by
      have hks : k < (desc all i).size := by
        rcases Nat.lt_or_ge k (desc all i).size with h' | h'
        · exact h'
        · simp [Array.getElem?_eq_none h'] at hd
      have := List.all_eq_true.1 b3 k (by simpa using hks)
      rw [hd] at this
      have hk' : all[k]? = some ok := by simpa using hk
      simp only [hk', Bool.not_true, Bool.false_or] at this
      obtain ⟨e, he, h3⟩ := Array.any_eq_true'.1 this
      simp at h3
      exact ⟨e, he, h3.1, h3.2.imp id (fun h => by simpa using h)⟩
    have hDl : ∀ k, (desc all i).getD k false = true → listed.getD k false = false := fun k hk => by
      have hks : k < (desc all i).size := by
        rcases Nat.lt_or_ge k (desc all i).size with h' | h'
        · exact h'
        · simp [Array.getElem?_eq_none h'] at hk
      have := List.all_eq_true.1 b4 k (by simpa using hks)
      rw [hk] at this
      simpa using this
    have hA : ∀ j, j ≠ i → listed.getD j true = false → (desc all i).getD j false = false → A j = true := fun j hj hl hd => by
      have hjs : j < listed.size := by
        rcases Nat.lt_or_ge j listed.size with h' | h'
        · exact h'
        · simp [Array.getElem?_eq_none h'] at hl
      have := List.all_eq_true.1 b5 j (by simpa using hjs)
      rw [hl, hd] at this
      simpa [hj] using this
    have hQ : ∀ v c a' w', conc n G σ0 w Q (.panic c) (Act.put a' o.dst v) w' → conc n G σ0 w Q (.panic c) a' w' := fun v c a' w' ⟨_, _, _, _, _, q⟩ => (hp _ _ _ q).elim
    have go : ∀ v x, YieldsIf P all.toArray (Same F G σ0 w) o v a → VR G σ0 w v x → TAny P n all Q F A σ0 fuel (listed.setIfInBounds i true) (aput s o.dst x) → wpAnyG P all.toArray (conc n G σ0 w Q) (Same F G σ0 w) A (fuel + 1) listed a w := fun v x hy hv hT =>
      wpAnyG_first (D := fun k => (desc all i).getD k false) ho' (Region.noSelect_spec hs) (hQ v) hD fuel listed a w hDl hA (Region.free_spec ho' b2) (by simpa using b1) hy (Same.refl _ _ _ _)
        (hT G _ w (R.put (Ext.refl _ _ _) R.inv hv hd))
    cases hw : awant all o s with
    | none => rw [hw] at h2; exact h2.elim
    | some b =>
      rw [hw] at h2
      cases b with
      | false => exact go undef (sc undef) (.inr ⟨awant_ok R hw, rfl⟩) (VR.sc _) (h2.2 rfl)
      | true =>
        have h3 := h2.1 rfl
        split at h3
        · rename_i x hx
          obtain ⟨v, hv, hr⟩ := aq_ok R.inv R.tmps hx h3.1
          exact go v x (.inl ⟨awant_ok R hw, hr⟩) hv h3.2
        · exact h3.elim

def aT (P : Program) (n : Nat) (all : List Oper) (F : Nat → Prop) (σ0 : St) (K : Sl → Prop) : List Nat → Sl → Prop
  | [], s => K s
  | i :: rest, s => aTk P n all F σ0 i s (aT P n all F σ0 K rest)
def aU (P : Program) (n : Nat) (all : List Oper) (A : Nat → Bool) (F : Nat → Prop) (σ0 : St) (K : Sl → St → Prop) : List Nat → Sl → St → Prop
  | [], s, σ => K s σ
  | i :: rest, s, σ => aOne P n all i s σ (kep A F σ0 i (aU P n all A F σ0 K rest))

def usB (ops : List Oper) : List Nat → Array Bool → Bool
  | [], listed => (Region.ready .any ops.toArray listed).isEmpty
  | i :: rest, listed => (match Region.ready .any ops.toArray listed with | [j] => j == i | _ => false) && usB ops rest (listed.setIfInBounds i true)
def tsB (ops : List Oper) (A : Nat → Bool) (us : List Nat) : List Nat → Array Bool → Bool
  | [], listed => usB ops us listed
  | i :: rest, listed => tB ops A listed i && tsB ops A us rest (listed.setIfInBounds i true)
/-- the order serves: first 'ts', then 'us'; of the last ones 'lasts' nothing is asked -/
def planB (ops : List Oper) (lasts ts us : List Nat) : Bool :=
  Region.noSelect ops.toArray && ts.length + us.length == ops.length && tsB ops (fun j => !lasts.contains j) us ts (Array.replicate ops.length false)

theorem usB_ok : ∀ (us : List Nat) (listed : Array Bool) (s : Sl) (σ : St), usB all us listed = true → aU P n all A F σ0 (Q .normal) us s σ → UAny P n all Q F A σ0 us.length listed s σ
  | [], listed, s, σ, hB, h => uany_done (by simpa [usB] using hB) h
  | i :: rest, listed, s, σ, hB, h => by
    simp only [usB, Bool.and_eq_true] at hB
    have hr : Region.ready .any all.toArray listed = [i] := by
      have := hB.1
      split at this
      · rename_i j hj; simp at this; rw [hj, this]
      · cases this
    refine uany_one hr ?_
    unfold aU at h
    unfold aOne at h ⊢
    split at h
    · exact h.elim
    · rename_i o ho
      refine ⟨h.1, ?_⟩
      have h2 := h.2
      cases hw : awant all o s with
      | none => rw [hw] at h2; exact h2.elim
      | some b =>
        rw [hw] at h2
        exact ⟨fun e => aStep_mono (h2.1 e) fun x σ' hk => ⟨hk.1, usB_ok rest _ _ _ hB.2 hk.2⟩, fun e => ⟨(h2.2 e).1, usB_ok rest _ _ _ hB.2 (h2.2 e).2⟩⟩
  where
  aStep_mono {P : Program} {o : Oper} {s : Sl} {σ : St} {K K' : AV → St → Prop} (h : aStep P o s σ K) (hk : ∀ x σ', K x σ' → K' x σ') : aStep P o s σ K' := by
    unfold aStep at *
    split at h
    · exact h.mono hk
    · split at h
      case h_2 => exact h.elim
      unfold aApp at *
      split at h
      · exact hk _ _ h
      · exact h.elim
    · split at h
      · exact hk _ _ h
      · split at h
        · exact hk _ _ h
        · exact h.elim

theorem tsB_ok (hs : Region.noSelect all.toArray = true) (hp : ∀ c s σ, ¬ Q (.panic c) s σ) (us : List Nat) : ∀ (ts : List Nat) (listed : Array Bool) (s : Sl), tsB all A us ts listed = true →
    aT P n all F σ0 (fun s' => aU P n all A F σ0 (Q .normal) us s' σ0) ts s → TAny P n all Q F A σ0 (ts.length + us.length) listed s
  | [], listed, s, hB, h => by
    simp only [List.length_nil, Nat.zero_add]
    exact tany_of_uany (usB_ok us listed s σ0 hB h)
  | i :: rest, listed, s, hB, h => by
    simp only [tsB, Bool.and_eq_true] at hB
    have : (i :: rest).length + us.length = (rest.length + us.length) + 1 := by simp; omega
    rw [this]
    refine tany_take hs hB.1 hp ?_
    unfold aT at h
    unfold aTk at h ⊢
    split at h
    · exact h.elim
    · rename_i o ho
      refine ⟨h.1, ?_⟩
      have h2 := h.2
      cases hw : awant all o s with
      | none => rw [hw] at h2; exact h2.elim
      | some b =>
        rw [hw] at h2
        refine ⟨fun e => ?_, fun e => tsB_ok hs hp us rest _ _ hB.2 (h2.2 e)⟩
        have h3 := h2.1 e
        split at h3
        · exact ⟨h3.1, tsB_ok hs hp us rest _ _ hB.2 h3.2⟩
        · exact h3.elim

theorem awp_draw {s : Sl} {σ : St} {id : Nat} {l : List Oper} (hm : P.follows .mixedOrders = true) (F : Nat → Prop) (lasts ts us : List Nat) (hB : planB l lasts ts us = true) (hp : ∀ c s σ, ¬ Q (.panic c) s σ)
    (h : aT P n l F σ (fun s' => aU P n l (fun j => !lasts.contains j) F σ (Q .normal) us s' σ) ts s) : AWp P n (.region id l.toArray true) Q s σ := fun G a w R => by
  simp only [planB, Bool.and_eq_true] at hB
  obtain ⟨⟨b1, b2⟩, b3⟩ := hB
  obtain ⟨I', E⟩ := R.inv.drawn (w.drawn + 1)
  have R' : Rel n G s σ a { w with drawn := w.drawn + 1 } := ⟨R.defers, R.size, fun t => (R.tmps t).ext E, I'⟩
  have := tsB_ok b1 hp us ts _ s b3 h G a _ R'
  have hl : ts.length + us.length = l.toArray.size := by simpa using b2
  rw [hl] at this
  refine wp_region_any hm (wpAny_of_G (S := Same F G σ { w with drawn := w.drawn + 1 }) (A := fun j => !lasts.contains j) _ _ _ _ ?_)
  simp only [List.size_toArray] at this ⊢
  exact wpAnyG_mono (fun e a w q => q.ext E) _ _ _ _ this
  where
  wpAnyG_mono {P : Program} {ops : Array Oper} {Q Q' : Exit → Act → World → Prop} {S : World → Prop} {A : Nat → Bool} (hq : ∀ e a w, Q e a w → Q' e a w) : ∀ (fuel : Nat) (listed : Array Bool) (a : Act) (w : World), wpAnyG P ops Q S A fuel listed a w → wpAnyG P ops Q' S A fuel listed a w
    | 0, _, _, _, h => ⟨h.1, hq _ _ _ h.2⟩
    | fuel + 1, listed, a, w, h => ⟨fun h0 => hq _ _ _ (h.1 h0), fun i hi => wpOp_mono_q (fun a' w' h' => ⟨h'.1, wpAnyG_mono hq fuel _ a' w' h'.2⟩) hq (h.2 i hi)⟩
  wpOp_mono_q {P : Program} {ops : Array Oper} {Q Q' : Exit → Act → World → Prop} {i : Nat} {a : Act} {w : World} {K K' : Act → World → Prop} (hk : ∀ a w, K a w → K' a w) (hq : ∀ e a w, Q e a w → Q' e a w) (h : wpOp P ops Q i K a w) : wpOp P ops Q' i K' a w := by
    unfold wpOp at *
    split
    · exact hk _ _ (by simpa [*] using h)
    · rename_i o ho
      simp only [ho] at h
      have hlets : LetsOut Q → LetsOut Q' := fun ⟨a, w, q⟩ => ⟨a, w, hq _ _ _ q⟩
      split
      · rename_i hw
        simp only [hw, if_true] at h
        rcases h with h | h
        · refine .inl ?_
          unfold Oper.wp at *
          generalize (execOp a.eval o).run P w = r at *
          cases r with
          | ok nx w' =>
            cases nx <;> simp only [Oper.upon] at h ⊢ <;>
              first
                | exact hk _ _ h
                | exact Calls.mono h (fun e w'' he => by cases e <;> first | exact hk _ _ he | exact hq _ _ _ he | exact hlets he)
                | exact Rows.mono h (fun _ _ he => hk _ _ he)
          | halt x w' => cases x <;> simp only [Oper.upon] at h ⊢ <;> exact hq _ _ _ h
        · exact .inr ⟨h.1, hlets h.2⟩
      · rename_i hw; simp only [hw] at h; exact hk _ _ h
end

theorem i64w {n : Int} (h1 : -9223372036854775808 ≤ n) (h2 : n ≤ 9223372036854775807) : IntKind.i64.wrap n = n := Go.IntWalk.i64_in n ⟨h1, h2⟩
theorem u8w {n : Int} (h1 : 0 ≤ n) (h2 : n ≤ 255) : IntKind.u8.wrap n = n := Go.IntWalk.u8_in n ⟨h1, h2⟩
theorem ifp {α : Sort _} {c : Prop} {_ : Decidable c} {a b : α} (h : c) : (if c then a else b) = a := if_pos h
end Go.Abs
