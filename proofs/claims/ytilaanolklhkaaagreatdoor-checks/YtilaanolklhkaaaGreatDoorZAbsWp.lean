import Derived.Test.YtilaanolklhkaaaGreatDoorZAbsLoud
import Derived.LoopN
/- Programs over the abstract machine: what holds behind a piece of code; calls by their contracts. -/
namespace Go.Abs
set_option linter.unusedSimpArgs false
set_option linter.unusedVariables false

abbrev Sl := Nat → AV
abbrev Post := Exit → Sl → St → Prop

structure Rel (n : Nat) (G : Gh) (s : Sl) (σ : St) (a : Act) (w : World) : Prop where
  defers : a.defers = []
  size : n ≤ a.tmps.size
  tmps : ∀ t, VR G σ w (a.tmps.getD t undef) (s t)
  inv : Inv G σ w

def upd (s : Sl) (d : Nat) (x : AV) : Sl := fun t => if t = d then x else s t
def aput (s : Sl) (dst : Option Tmp) (x : AV) : Sl :=
  match dst with
  | some d => upd s d x
  | none => s
def dstOk (n : Nat) : Option Tmp → Bool
  | some d => decide (d < n)
  | none => true

theorem Rel.put {n : Nat} {G G' : Gh} {s : Sl} {σ σ' : St} {a : Act} {w w' : World} (R : Rel n G s σ a w) (E : Ext G σ w G' σ' w') (I : Inv G' σ' w') {v : Value} {x : AV} (hv : VR G' σ' w' v x) {dst : Option Tmp} (hd : dstOk n dst = true) :
    Rel n G' (aput s dst x) σ' (a.put dst v) w' := by
  cases dst with
  | none => exact ⟨R.defers, R.size, fun t => (R.tmps t).ext E, I⟩
  | some d =>
    have hdn : d < n := by simpa [dstOk] using hd
    refine ⟨R.defers, by simp [Act.put]; exact R.size, fun t => ?_, I⟩
    have hds : d < a.tmps.size := Nat.lt_of_lt_of_le hdn R.size
    simp only [Act.put, aput, upd]
    by_cases ht : t = d
    · subst ht
      simp [Array.getD_eq_getD_getElem?, hds]
      exact hv
    · rw [if_neg ht]
      have : (a.tmps.setIfInBounds d v).getD t undef = a.tmps.getD t undef := by
        simp [Array.getD_eq_getD_getElem?, Array.getElem?_setIfInBounds_ne (Ne.symm ht)]
      rw [this]
      exact (R.tmps t).ext E

/-- the concrete post of an abstract one -/
def conc (n : Nat) (G : Gh) (σ : St) (w : World) (Q : Post) : Exit → Act → World → Prop :=
  fun e a' w' => ∃ G' s' σ', Ext G σ w G' σ' w' ∧ Rel n G' s' σ' a' w' ∧ Q e s' σ'

theorem conc.ext {n : Nat} {G G' : Gh} {σ σ' : St} {w w' : World} (E : Ext G σ w G' σ' w') {Q : Post} {e : Exit} {a : Act} {u : World} (h : conc n G' σ' w' Q e a u) : conc n G σ w Q e a u :=
  let ⟨G2, s2, σ2, E2, R2, q⟩ := h; ⟨G2, s2, σ2, E.trans E2, R2, q⟩

def AWp (P : Program) (n : Nat) (c : Code) (Q : Post) (s : Sl) (σ : St) : Prop :=
  ∀ G a w, Rel n G s σ a w → c.wp P (conc n G σ w Q) a w

def callable (P : Program) (f : FuncId) : Bool :=
  match P.funcs[f]? with
  | some fn => fn.name != "runtime.NumGoroutine" && fn.body.isSome
  | none => false

/-- A function's contract. -/
def ACalls (P : Program) (f : FuncId) (args : List AV) (σ : St) (R : AV → St → Prop) : Prop :=
  callable P f = true ∧ ∀ G w cargs, Inv G σ w → All2 (VR G σ w) cargs.toList args →
    Calls P f cargs w fun e w' => ∃ v G' x σ', e = .returned v ∧ Inv G' σ' w' ∧ Ext G σ w G' σ' w' ∧ VR G' σ' w' v x ∧ R x σ'

theorem ACalls.mono {P : Program} {f : FuncId} {args : List AV} {σ : St} {R R' : AV → St → Prop} (h : ACalls P f args σ R) (hr : ∀ x σ', R x σ' → R' x σ') : ACalls P f args σ R' :=
  ⟨h.1, fun G w c I A => (h.2 G w c I A).mono fun e w' ⟨v, G', x, σ', h1, h2, h3, h4, h5⟩ => ⟨v, G', x, σ', h1, h2, h3, h4, hr _ _ h5⟩⟩

section rules
variable {P : Program} {n : Nat} {Q : Post} {s : Sl} {σ : St}

theorem awp_mono {c : Code} {Q' : Post} (h : AWp P n c Q s σ) (hq : ∀ e s σ, Q e s σ → Q' e s σ) : AWp P n c Q' s σ :=
  fun G a w R => wp_mono (h G a w R) fun e a' w' ⟨G', s', σ', E, R', q⟩ => ⟨G', s', σ', E, R', hq _ _ _ q⟩

theorem awp_skip (h : Q .normal s σ) : AWp P n .skip Q s σ := fun G a w R => wp_skip ⟨G, s, σ, Ext.refl _ _ _, R, h⟩
theorem awp_ret (h : Q .ret s σ) : AWp P n .ret Q s σ := fun G a w R => wp_ret ⟨G, s, σ, Ext.refl _ _ _, R, h⟩
theorem awp_exit {id : Nat} (h : Q (.exit id) s σ) : AWp P n (.exit id) Q s σ := fun G a w R => wp_exit ⟨G, s, σ, Ext.refl _ _ _, R, h⟩

def thenQ (K : Sl → St → Prop) (Q : Post) : Post
  | .normal, s, σ => K s σ
  | e, s, σ => Q e s σ

theorem awp_seq {x y : Code} (h : AWp P n x (thenQ (AWp P n y Q) Q) s σ) : AWp P n (.seq x y) Q s σ := fun G a w R =>
  wp_seq (wp_mono (h G a w R) fun e a' w' ⟨G', s', σ', E, R', q⟩ => by
    cases e <;> first
      | exact wp_mono (q G' a' w' R') fun e a2 w2 h2 => h2.ext E
      | exact ⟨G', s', σ', E, R', q⟩)

theorem awp_cond {c : Operand} {x y : Code} {t : Bool} (hc : aev s c = sc (.bool t)) (h : AWp P n (if t then x else y) Q s σ) : AWp P n (.cond c x y) Q s σ := fun G a w R => by
  have := aev_ok R.tmps c
  rw [hc] at this
  exact wp_cond this.of_sc (h G a w R)

def blkQ (id : Nat) (Q : Post) : Post
  | .exit id', s, σ => if id' = id then Q .normal s σ else Q (.exit id') s σ
  | e, s, σ => Q e s σ

theorem awp_block {id : Nat} {c : Code} (h : AWp P n c (blkQ id Q) s σ) : AWp P n (.block id c) Q s σ := fun G a w R =>
  wp_block (wp_mono (h G a w R) fun e a' w' ⟨G', s', σ', E, R', q⟩ => by
    cases e <;> try exact ⟨G', s', σ', E, R', q⟩
    case exit id' =>
      simp only [blkQ, Exit.inBlock] at q ⊢
      split
      · rename_i hid; rw [if_pos hid] at q; exact ⟨G', s', σ', E, R', q⟩
      · rename_i hid; rw [if_neg hid] at q; exact ⟨G', s', σ', E, R', q⟩)

theorem awp_loop {c : Code} (I : Nat → Sl → St → Prop) (m : Nat) (h0 : I m s σ) (round : ∀ m s σ, I m s σ → AWp P n c (thenQ (fun s' σ' => ∃ m', m' < m ∧ I m' s' σ') Q) s σ) : AWp P n (.loop c) Q s σ := fun G a w R => by
  have key : ∀ k m, m < k → ∀ G s σ a w, Rel n G s σ a w → I m s σ → Code.rounds P c (conc n G σ w Q) k a w := by
    intro k
    induction k with
    | zero => intro m hm; omega
    | succ k ih =>
      intro m hm G s σ a w R hI
      refine wp_mono (round m s σ hI G a w R) fun e a' w' ⟨G', s', σ', E, R', q⟩ => ?_
      cases e <;> try exact ⟨G', s', σ', E, R', q⟩
      case normal =>
        obtain ⟨m', hlt, hI'⟩ := q
        have := ih m' (by omega) G' s' σ' a' w' R' hI'
        refine Code.rounds_mono ?_ this
        exact fun e a w h => h.ext E
  exact wp_loop_rounds (m + 1) (key (m + 1) m (by omega) G s σ a w R h0)
  where
  Code.rounds_mono {c : Code} {Q Q' : Exit → Act → World → Prop} (hq : ∀ e a w, Q e a w → Q' e a w) {k : Nat} {a : Act} {w : World} (h : Code.rounds P c Q k a w) : Code.rounds P c Q' k a w := by
    induction k generalizing a w with
    | zero => exact h
    | succ k ih => exact wp_mono h fun e a w q => by cases e <;> first | exact ih q | exact hq _ _ _ q
end rules

/-! ### Regions -/
/-- is an operation wanted? -/
def awant (all : List Oper) (o : Oper) (s : Sl) : Option Bool :=
  match o.guard with
  | none => some true
  | some (j, want) => match (all[j]?).bind (·.dst) with
    | some d => match s d with
      | .held (.inl (.bool b)) => some (b == want)
      | .held (.inl (.tuple _)) => some false
      | _ => none
    | none => none

theorem awant_ok {n : Nat} {G : Gh} {s : Sl} {σ : St} {a : Act} {w : World} (R : Rel n G s σ a w) {all : List Oper} {o : Oper} {b : Bool} (h : awant all o s = some b) : Region.wanted o (yielded all.toArray a.tmps) = b := by
  unfold awant at h
  unfold Region.wanted
  split at h
  · rename_i hg; rw [hg]; simp at h; subst h; rfl
  · rename_i j want hg
    rw [hg]
    split at h
    · rename_i d hd
      have hd' : ((all.toArray)[j]?).bind (·.dst) = some d := by simpa using hd
      have hr := R.tmps d
      split at h
      · rename_i t ht
        rw [ht] at hr
        have hv := hr.of_sc
        have hget : a.tmps[d]? = some (.bool t) := by
          rw [Array.getD_eq_getD_getElem?] at hv
          cases hx : a.tmps[d]? with
          | none => rw [hx] at hv; simp [undef] at hv
          | some u => rw [hx] at hv; simp at hv; rw [hv]
        simp only [yielded, hd', Option.bind_some, hget]
        simp at h
        rw [← h]
        cases t <;> cases want <;> rfl
      · rename_i u ht
        rw [ht] at hr
        have hv := hr.of_sc
        have hget : yielded all.toArray a.tmps j = none := by
          simp only [yielded, hd', Option.bind_some]
          rw [Array.getD_eq_getD_getElem?] at hv
          cases hx : a.tmps[d]? with
          | none => rfl
          | some u => rw [hx] at hv; simp at hv; rw [hv]
        show (yielded all.toArray a.tmps j == some want) = b
        rw [hget]
        simp at h
        subst h; rfl
      · cases h
    · cases h

def aApp (P : Program) (t t' : TypeId) (x y : AV) (σ : St) (K : AV → St → Prop) : Prop :=
  match aapp P t t' x y σ with
  | some (r, σ') => K r σ'
  | none => False

def aStep (P : Program) (o : Oper) (s : Sl) (σ : St) (K : AV → St → Prop) : Prop :=
  match o.op with
  | .call { callee := .value (.func f), args := args, argTypes := _ } => ACalls P f (args.toList.map (aev s)) σ K
  | .call { callee := .builtin .append, args := args, argTypes := ts } => (match args.toList, ts.toList with
    | [x, y], [t, t'] => aApp P t t' (aev s x) (aev s y) σ K
    | _, _ => False)
  | op => match aq P s σ op with
    | some x => K x σ
    | none => match al P s σ op with
      | some (x, σ') => K x σ'
      | none => False

theorem run_callFn {P : Program} {f : FuncId} (h : callable P f = true) (args : Array Value) (w : World) : (callFunc f args).run P w = .ok (.enter f args) w := by
  unfold callable at h
  split at h
  · rename_i fn hf
    simp at h
    have hn : ¬ (fn.name = "runtime.NumGoroutine") := h.1
    cases hb : fn.body with
    | none => simp [hb] at h
    | some c => simp [callFunc, hf, hn, hb]
  · cases h

theorem All2.map_eval {n : Nat} {G : Gh} {s : Sl} {σ : St} {a : Act} {w : World} (R : Rel n G s σ a w) : ∀ l : List Operand, All2 (VR G σ w) (l.map a.eval) (l.map (aev s))
  | [] => All2.nil _
  | x :: l => All2.cons (aev_ok R.tmps x) (All2.map_eval R l)

/-- One operation, by its step. -/
theorem aStep_ok {P : Program} {n : Nat} {G : Gh} {s : Sl} {σ : St} {a : Act} {w : World} (R : Rel n G s σ a w) {o : Oper} {K : AV → St → Prop} (h : aStep P o s σ K) (hd : dstOk n o.dst = true)
    {next : Act → World → Prop} {Q' : Exit → Act → World → Prop} (hn : ∀ G' σ' x w' v, Ext G σ w G' σ' w' → Rel n G' (aput s o.dst x) σ' (a.put o.dst v) w' → K x σ' → next (a.put o.dst v) w') : o.wp P a w next Q' := by
  unfold aStep at h
  split at h
  · rename_i f args ts hop
    obtain ⟨hc, hcall⟩ := h
    have hargs : All2 (VR G σ w) (args.map a.eval).toList (args.toList.map (aev s)) := by
      simp only [Array.toList_map]
      exact All2.map_eval R args.toList
    have hC := hcall G w (args.map a.eval) R.inv hargs
    have hrun : (execOp a.eval o).run P w = .ok (.enter f (args.map a.eval)) w := by
      simp only [execOp, hop, resolve, Act.eval, Deferred.ofValue, Sem.run_bind, Sem.run_pure, Result.andThen_ok, invoke, Array.append_empty, Array.empty_append, run_callFn hc]
    unfold Oper.wp
    rw [hrun, Oper.upon_enter]
    refine hC.mono fun e w' ⟨v, G', x, σ', he, I', E, hv, hk⟩ => ?_
    subst he
    exact hn G' σ' x w' v E (R.put E I' hv hd) hk
  · rename_i args ts hop
    split at h
    case h_2 => exact h.elim
    rename_i y1 y2 t t' ha hts
    unfold aApp at h
    split at h
    case h_2 => exact h.elim
    rename_i x σ' hl
    have hl' : al P s σ o.op = some (x, σ') := by
      rw [hop]
      simp only [al, ha, hts]
      exact hl
    obtain ⟨v, w', G', hr, I', E, hv⟩ := al_ok R.inv R.tmps hl'
    unfold Oper.wp
    rcases hr with hr | ⟨hr, hu⟩
    · rw [hr, Oper.upon_value]
      exact hn G' σ' x w' v E (R.put E I' hv hd) h
    · rw [hr, Oper.upon_skip]
      subst hu
      exact hn G' σ' x w' undef E (R.put E I' hv hd) h
  · split at h
    · rename_i x hq
      obtain ⟨v, hv, hr⟩ := aq_ok (F := fun _ => True) R.inv R.tmps hq (fun _ _ => trivial)
      unfold Oper.wp
      rw [hr w (Same.refl _ _ _ _), Oper.upon_value]
      exact hn G σ x w v (Ext.refl _ _ _) (R.put (Ext.refl _ _ _) R.inv hv hd) h
    · split at h
      · rename_i x σ' hl
        obtain ⟨v, w', G', hr, I', E, hv⟩ := al_ok R.inv R.tmps hl
        unfold Oper.wp
        rcases hr with hr | ⟨hr, hu⟩
        · rw [hr, Oper.upon_value]
          exact hn G' σ' x w' v E (R.put E I' hv hd) h
        · rw [hr, Oper.upon_skip]
          subst hu
          exact hn G' σ' x w' undef E (R.put E I' hv hd) h
      · exact h.elim

/-- what follows, once a value is there -/
def nxt (k : Sl → St → Prop) (s : Sl) (dst : Option Tmp) (x : AV) (σ' : St) : Prop := k (aput s dst x) σ'
/-- an operation by its guard; 'k' is what follows -/
def gd (P : Program) (o : Oper) (s : Sl) (σ : St) (k : Sl → St → Prop) (g : Option Bool) : Prop :=
  match g with
  | none => False
  | some b => (b = true → aStep P o s σ (nxt k s o.dst)) ∧ (b = false → k (aput s o.dst (sc undef)) σ)
theorem gd_true {P : Program} {o : Oper} {s : Sl} {σ : St} {k : Sl → St → Prop} : gd P o s σ k (some true) = aStep P o s σ (nxt k s o.dst) := by simp [gd]
theorem gd_false {P : Program} {o : Oper} {s : Sl} {σ : St} {k : Sl → St → Prop} : gd P o s σ k (some false) = k (aput s o.dst (sc undef)) σ := by simp [gd]
theorem gd_split {P : Program} {o : Oper} {s : Sl} {σ : St} {k : Sl → St → Prop} {b : Bool} (h1 : b = true → gd P o s σ k (some true)) (h2 : b = false → gd P o s σ k (some false)) : gd P o s σ k (some b) := by
  cases b
  · exact h2 rfl
  · exact h1 rfl

def aRun (P : Program) (n : Nat) (all : List Oper) (K : Sl → St → Prop) : List Oper → Sl → St → Prop
  | [], s, σ => K s σ
  | o :: rest, s, σ => dstOk n o.dst = true ∧ gd P o s σ (aRun P n all K rest) (awant all o s)

theorem aRun_ok {P : Program} {n : Nat} {all : List Oper} {K : Sl → St → Prop} : ∀ (l : List Oper) (G : Gh) (s : Sl) (σ : St) (a : Act) (w : World), Rel n G s σ a w → aRun P n all K l s σ →
    ∀ {Q' : Exit → Act → World → Prop}, (∀ G' s' σ' a' w', Ext G σ w G' σ' w' → Rel n G' s' σ' a' w' → K s' σ' → Q' .normal a' w') → wpList P all.toArray Q' l a w
  | [], G, s, σ, a, w, R, h, Q', hQ => hQ G s σ a w (Ext.refl _ _ _) R h
  | o :: rest, G, s, σ, a, w, R, h, Q', hQ => by
    unfold aRun at h
    obtain ⟨hd, hg⟩ := h
    cases hw : awant all o s with
    | none => rw [hw] at hg; exact hg.elim
    | some b =>
      have := awant_ok R hw
      rw [hw] at hg
      unfold wpList
      cases b with
      | false =>
        rw [this]
        exact aRun_ok rest G _ σ _ w (R.put (Ext.refl _ _ _) R.inv (VR.sc _) hd) (hg.2 rfl) hQ
      | true =>
        rw [if_pos this]
        refine .inl (aStep_ok R (hg.1 rfl) hd fun G' σ' x w' v E R' hk => ?_)
        exact aRun_ok rest G' _ σ' _ w' R' hk fun G2 s2 σ2 a2 w2 E2 => hQ G2 s2 σ2 a2 w2 (E.trans E2)

theorem awp_region {P : Program} {n : Nat} {Q : Post} {s : Sl} {σ : St} {id : Nat} {l : List Oper} (h : aRun P n l (Q .normal) l s σ) : AWp P n (.region id l.toArray false) Q s σ := fun G a w R =>
  wp_region_list (by simpa using aRun_ok l G s σ a w R h (Q' := conc n G σ w Q) fun G' s' σ' a' w' E R' k => ⟨G', s', σ', E, R', k⟩)

/-! ### Calls -/
def ares1 (P : Program) (s : Sl) (σ : St) : ResultVar → Option AV
  | .tmp t => some (s t)
  | .cell a t => match tsz P t, behind σ (s a) with
    | some (ga, n), some ys => aload ga n ys
    | _, _ => none
def aresL (P : Program) (s : Sl) (σ : St) : List ResultVar → Option (List AV)
  | [] => some []
  | r :: rest => match ares1 P s σ r, aresL P s σ rest with
    | some x, some xs => some (x :: xs)
    | _, _ => none
def ares (P : Program) (rs : List ResultVar) (s : Sl) (σ : St) : Option AV :=
  match aresL P s σ rs with
  | some [x] => some x
  | some xs => some (tp xs)
  | none => none

def resF (tmps : Array Value) : ResultVar → Sem Value
  | .tmp t => pure (tmps.getD t undef)
  | .cell a t => do loadVar t (← asAddr (tmps.getD a undef))
theorem results_eq (fn : Func) (tmps : Array Value) : results fn tmps = (do let vs ← fn.results.mapM (resF tmps); pure (if h : vs.size = 1 then vs[0] else .tuple vs)) := rfl

theorem aresL_ok {P : Program} {n : Nat} {G : Gh} {s : Sl} {σ : St} {a : Act} {w : World} (R : Rel n G s σ a w) : ∀ (rs : List ResultVar) (xs : List AV), aresL P s σ rs = some xs →
    ∃ vs : List Value, All2 (VR G σ w) vs xs ∧ (rs.mapM (resF a.tmps)).run P w = Result.ok vs w
  | [], xs, h => by
    simp [aresL] at h
    subst h
    exact ⟨[], All2.nil _, by simp⟩
  | r :: rest, xs, h => by
    simp only [aresL] at h
    split at h
    case h_2 => cases h
    rename_i x xs' h1 h2
    cases h
    obtain ⟨vs, ha, hr⟩ := aresL_ok R rest xs' h2
    cases r with
    | tmp t =>
      simp [ares1] at h1
      subst h1
      exact ⟨_ :: vs, All2.cons (R.tmps t) ha, by simp [List.mapM_cons, resF, hr]⟩
    | cell b t =>
      simp only [ares1] at h1
      split at h1
      case h_2 => cases h1
      rename_i ga m ys ht hb
      obtain ⟨bb, oo, cs, hv, hc, hl⟩ := behind_ok (F := fun _ => True) R.inv (R.tmps b) hb (fun _ _ => trivial)
      obtain ⟨v, g1, g2⟩ := aload_ok (P := P) hc h1 ht bb oo (C := Same (fun _ => True) G σ w) hl
      exact ⟨v :: vs, All2.cons g1 ha, by simp [List.mapM_cons, resF, hv, asAddr, g2 w (Same.refl _ _ _ _), hr]⟩

theorem ares_ok {P : Program} {n : Nat} {G : Gh} {s : Sl} {σ : St} {a : Act} {w : World} (R : Rel n G s σ a w) (fn : Func) {x : AV} (h : ares P fn.results.toList s σ = some x) :
    ∃ v, VR G σ w v x ∧ (results fn a.tmps).run P w = .ok v w := by
  unfold ares at h
  have key : ∀ vs : List Value, ∀ xs : List AV, aresL P s σ fn.results.toList = some xs → ∃ vs : List Value, All2 (VR G σ w) vs xs ∧ (results fn a.tmps).run P w = .ok (if h : vs.toArray.size = 1 then vs.toArray[0] else .tuple vs.toArray) w := by
    intro _ xs hx
    obtain ⟨vs, ha, hr⟩ := aresL_ok R _ xs hx
    refine ⟨vs, ha, ?_⟩
    rw [results_eq, Sem.run_bind, Array.mapM_eq_mapM_toList]
    simp only [Sem.run_map, hr, Result.andThen_ok, Sem.run_pure]
  split at h
  · rename_i y hy
    cases h
    obtain ⟨vs, ha, hr⟩ := key [] _ hy
    match vs, ha with
    | [v], ha => exact ⟨v, ha.2 0 v x rfl rfl, by rw [hr]; simp⟩
    | [], ha => have := ha.1; simp at this
    | _ :: _ :: _, ha => have := ha.1; simp at this
  · rename_i xs hne hy
    cases h
    obtain ⟨vs, ha, hr⟩ := key [] _ hy
    have hl : vs.toArray.size ≠ 1 := fun e => by
      have e' : xs.length = 1 := by rw [← ha.1]; simpa using e
      match xs, e' with
      | [y], _ => exact hne y rfl
    exact ⟨.tuple vs.toArray, VR.fold ⟨_, rfl, by simpa using ha⟩, by rw [hr, dif_neg hl]⟩
  · cases h

def initS (args : List AV) : Sl := fun t => args.getD t (sc undef)

def retQ (P : Program) (rs : List ResultVar) (R : AV → St → Prop) : Post
  | .normal, s, σ => ∃ x, ares P rs s σ = some x ∧ R x σ
  | .ret, s, σ => ∃ x, ares P rs s σ = some x ∧ R x σ
  | _, _, _ => False

theorem acalls_of {P : Program} {f : FuncId} {fn : Func} {c : Code} {args : List AV} {σ : St} {R : AV → St → Prop} (hf : P.funcs[f]? = some fn) (hb : fn.body = some c) (hn : fn.name ≠ "runtime.NumGoroutine")
    (hl : args.length ≤ fn.ntmps) (h : AWp P fn.ntmps c (retQ P fn.results.toList R) (initS args) σ) : ACalls P f args σ R := by
  refine ⟨by simp [callable, hf, hb, hn], fun G w cargs I A => calls_of_wp hf hb ?_⟩
  have hsz : cargs.size = args.length := by have := A.1; simpa using this
  have R0 : Rel fn.ntmps G (initS args) σ { tmps := cargs ++ Array.replicate (fn.ntmps - cargs.size) undef, defers := [] } w := by
    refine ⟨rfl, by simp; omega, fun t => ?_, I⟩
    simp only [initS]
    by_cases ht : t < cargs.size
    · have h1 : (cargs ++ Array.replicate (fn.ntmps - cargs.size) undef).getD t undef = cargs[t] := by
        simp [Array.getD_eq_getD_getElem?, Array.getElem?_append_left ht, ht]
      have hta : t < args.length := by omega
      rw [h1, List.getD_eq_getElem?_getD, List.getElem?_eq_getElem hta]
      exact A.2 t _ _ (by simp [ht]) (List.getElem?_eq_getElem hta)
    · have h1 : (cargs ++ Array.replicate (fn.ntmps - cargs.size) undef).getD t undef = undef := by
        rw [Array.getD_eq_getD_getElem?, Array.getElem?_append_right (by omega)]
        by_cases h2 : t - cargs.size < fn.ntmps - cargs.size
        · simp [h2]
        · simp [h2]
      rw [h1, List.getD_eq_getElem?_getD, List.getElem?_eq_none (by omega)]
      exact VR.sc _
  refine wp_mono (h G _ w R0) fun e a' w' ⟨G', s', σ', E, R', q⟩ => ?_
  have fin : (∃ x, ares P fn.results.toList s' σ' = some x ∧ R x σ') → a'.defers = [] ∧ ∃ v, (results fn a'.tmps).run P w' = .ok v w' ∧ ∃ v2 G' x σ', Ending.returned v = .returned v2 ∧ Inv G' σ' w' ∧ Ext G σ w G' σ' w' ∧ VR G' σ' w' v2 x ∧ R x σ' := fun ⟨x, hx, hr⟩ => by
    obtain ⟨v, hv, hrun⟩ := ares_ok R' fn hx
    exact ⟨R'.defers, v, hrun, v, G', x, σ', rfl, R'.inv, E, hv, hr⟩
  cases e <;> first | exact fin q | exact q.elim

/-- 'acalls_of' with the counts written out. -/
theorem acalls {P : Program} {f : FuncId} {fn : Func} {c : Code} {args : List AV} {σ : St} {R : AV → St → Prop} (n : Nat) (rs : List ResultVar) (hf : P.funcs[f]? = some fn) (hb : fn.body = some c) (hn : fn.name ≠ "runtime.NumGoroutine")
    (hnt : fn.ntmps = n) (hrs : fn.results.toList = rs) (hl : args.length ≤ n) (h : AWp P n c (retQ P rs R) (initS args) σ) : ACalls P f args σ R := by
  subst hnt; subst hrs
  exact acalls_of hf hb hn hl h

theorem awp_cond_split {P : Program} {n : Nat} {Q : Post} {s : Sl} {σ : St} {c : Operand} {x y : Code} {t : Bool} (hc : aev s c = sc (.bool t)) (h1 : t = true → AWp P n x Q s σ) (h2 : t = false → AWp P n y Q s σ) : AWp P n (.cond c x y) Q s σ := by
  cases t with
  | true => exact awp_cond hc (h1 rfl)
  | false => exact awp_cond hc (h2 rfl)
end Go.Abs
