import Derived.Test.YtmoeoppbmhfbpaaGreatDoorBFacts
import Derived.Test.YtmoeoppbmhfbpaaGreatDoorBAbsWp
/- The program's engine: terms, atoms, tuples. -/
namespace Go.Proofs.YtmoeoppbmhfbpaaGreatDoorB
open Go.Abs
set_option linter.unusedSimpArgs false
set_option linter.unusedVariables false
set_option maxRecDepth 100000
abbrev Tm := Bool × Int
structure Atm where
 p : Int
 ts : List Tm
abbrev Tup := List Int
abbrev ic (n : Int) : AV := sc (.int .i64 n)
def ecell (t : Tm) : List AV := [sc (.bool t.1), ic t.2]
def ecells (ts : List Tm) : List AV := ts.flatMap ecell
theorem ecells_len (ts : List Tm) : (ecells ts).length = ts.length * 2 := by
 induction ts with
 | nil => rfl
 | cons a l ih => unfold ecells at *; rw [List.flatMap_cons, List.length_append, ih]; simp [ecell]; omega
theorem ecells_get {ts : List Tm} {k : Nat} {w : Tm} (h : ts[k]? = some w) : ∃ r, (ecells ts).drop (k * 2) = sc (.bool w.1) :: ic w.2 :: r := by
 have hE : ∀ ts : List Tm, EL (fun w c => c = ecell w) ts (ecells ts) := by
  intro ts
  induction ts with
  | nil => rfl
  | cons a l ih => exact ⟨ecell a, ecells l, rfl, ih, by simp [ecells]⟩
 obtain ⟨c, r, rfl, e⟩ := EL.get (z := 2) (fun a c h => by rw [h]; rfl) (hE ts) h
 exact ⟨r, e⟩
def eplc (ts : List Tm) (v : Int) : Int := if (true, v) ∈ ts then (ts.idxOf (true, v) : Nat) else -1
theorem eidx_first {α : Type} [BEq α] [LawfulBEq α] {l : List α} {i : Nat} {x : α} (h : l[i]? = some x) (hn : x ∉ l.take i) : l.idxOf x = i := by
 have hi := (List.getElem?_eq_some_iff.1 h).1
 have : l = l.take i ++ l.drop i := (List.take_append_drop i l).symm
 rw [this, List.idxOf_append, if_neg hn, List.length_take, Nat.min_eq_left (by omega), List.drop_eq_getElem_cons hi]
 have := (List.getElem?_eq_some_iff.1 h).2
 simp [this]
theorem plc_hit {ts : List Tm} {v : Int} {i : Nat} (h : ts[i]? = some (true, v)) (hn : (true, v) ∉ ts.take i) : eplc ts v = i := by
 unfold eplc
 rw [if_pos (List.mem_of_getElem? h), eidx_first h hn]
theorem plc_none {ts : List Tm} {v : Int} (hn : (true, v) ∉ ts) : eplc ts v = -1 := if_neg hn
theorem not_take {α : Type} {l : List α} {i : Nat} {x y : α} (h : x ∉ l.take i) (hi : l[i]? = some y) (hy : y ≠ x) : x ∉ l.take (i + 1) := by
 rw [List.take_add_one, hi]
 simp only [Option.toList_some, List.mem_append, List.mem_singleton, not_or]
 exact ⟨h, fun e => hy e.symm⟩
set_option maxHeartbeats 4000000 in
theorem eplace_spec (p : Int) (ids : Nat) (ts : List Tm) (v : Int) (hn : ts.length ≤ 1000) (σ : St) : ACalls Tryz.prog 210 [ag [ic p, sl ids ts.length (ecells ts)], ic v] σ fun r σ' => r = ic (eplc ts v) ∧ Keep σ σ' := by
 have htl := ecells_len ts
 refine acalls 25 [.tmp 4] Tryz.func210 rfl (by decide) rfl rfl (Nat.le_of_ble_eq_true rfl) ?_
 repeat' (first
 |with_reducible first|apply Xa|apply Xb|(refine Xc ?_;intro κ hκ)|(apply hκ.out;clear hκ κ)|apply Xd|apply Xe|apply Xf
 |((with_reducible first|refine Xl ?_ ?_|refine Xk ?_ ?_)<;> intro h hari<;> try exact Xp)
 |refine Xr ?_
 |exact True.intro
 |(apply hκ.out;clear hκ κ))
 refine awp_loop (fun m s σ' => ∃ i : Nat, m = ts.length - i ∧ i ≤ ts.length ∧ s 1 = ic v ∧ s 8 = sl ids ts.length (ecells ts) ∧ s 9 = ic ts.length ∧ s 10 = ic i ∧ Keep σ σ' ∧ Abs.Hid ((true, v) ∉ ts.take i)) ts.length
  ⟨0, by omega, by omega, rfl, rfl, rfl, rfl, by exact Xs, by simp [Abs.Hid]⟩ ?_
 rintro m s σ' ⟨i, rfl, hi, h1, h8, h9, h10, hK, hno⟩
 by_cases hlt : i < ts.length
 ·have hget := List.getElem?_eq_getElem hlt
  obtain ⟨r, hd⟩ := ecells_get hget
  generalize ts[i] = w at hd hget
  obtain ⟨w1, w2⟩ := w
  have HG : Abs.Hid (ts[i]? = some (w1, w2)) := hget
  clear hget
  have kno := hK.nobj
  repeat' (first
 |with_reducible first|apply Xa|apply Xb|(refine Xc ?_;intro κ hκ)|(apply hκ.out;clear hκ κ)|apply Xd|apply Xe|apply Xf
 |((with_reducible first|refine Xl ?_ ?_|refine Xk ?_ ?_)<;> intro h hari<;> try exact Xp)
 |refine Xr ?_
 |exact True.intro
 |(apply hκ.out;clear hκ κ))
  ·have e : w1 = true ∧ w2 = v := by simp_all
   obtain ⟨rfl, rfl⟩ := e
   exact ⟨_, rfl, by rw [plc_hit HG.out hno.out], by exact Xs⟩
  all_goals exact ⟨ts.length - (i + 1), by omega, i + 1, rfl, by omega, by simp, by exact Xs, not_take hno.out HG.out (by simp_all)⟩
 ·have hil : i = ts.length := by omega
  subst hil
  rw [List.take_length] at hno
  repeat' (first
 |with_reducible first|apply Xa|apply Xb|(refine Xc ?_;intro κ hκ)|(apply hκ.out;clear hκ κ)|apply Xd|apply Xe|apply Xf
 |((with_reducible first|refine Xl ?_ ?_|refine Xk ?_ ?_)<;> intro h hari<;> try exact Xp)
 |refine Xr ?_
 |exact True.intro
 |(apply hκ.out;clear hκ κ))
  first | exact ⟨_, rfl, by rw [plc_none hno.out], hK⟩ | exact ⟨_, rfl, by rw [plc_none hno.out]⟩
def hasV (ts : List Tm) (v : Int) : Bool := decide ((true, v) ∈ ts)
theorem plc_has (ts : List Tm) (v : Int) : (eplc ts v != -1) = hasV ts v := by
 unfold eplc hasV
 split <;> rename_i h <;> simp [h]
set_option maxHeartbeats 4000000 in
theorem ehas_spec (p : Int) (ids : Nat) (ts : List Tm) (v : Int) (hn : ts.length ≤ 1000) (σ : St) : ACalls Tryz.prog 199 [ag [ic p, sl ids ts.length (ecells ts)], ic v] σ fun r σ' => r = sc (.bool (hasV ts v)) ∧ Keep σ σ' := by
 have hp := plc_has ts v
 refine acalls 9 [.tmp 4] Tryz.func199 rfl (by decide) rfl rfl (Nat.le_of_ble_eq_true rfl) ?_
 repeat' (first
 |with_reducible first|apply Xa|apply Xb|(refine Xc ?_;intro κ hκ)|(apply hκ.out;clear hκ κ)|apply Xd|apply Xe|apply Xf
 |((with_reducible first|refine Xl ?_ ?_|refine Xk ?_ ?_)<;> intro h hari<;> try exact Xp)
 |((with_reducible refine Xh ?_);refine Xi (eplace_spec _ _ _ _ hn _) ?_;rintro _ _ ⟨rfl,hK⟩)
 |refine Xr ?_
 |exact True.intro
 |(apply hκ.out;clear hκ κ))
 exact ⟨_, rfl, rfl, by exact Xs⟩
def setl (ts : List Tm) : Bool := ts.all fun t => !t.1
set_option maxHeartbeats 4000000 in
theorem esettled_spec (p : Int) (ids : Nat) (ts : List Tm) (hn : ts.length ≤ 1000) (σ : St) : ACalls Tryz.prog 125 [ag [ic p, sl ids ts.length (ecells ts)]] σ fun r σ' => r = sc (.bool (setl ts)) ∧ Keep σ σ' := by
 have htl := ecells_len ts
 refine acalls 15 [.tmp 2] Tryz.func125 rfl (by decide) rfl rfl (Nat.le_of_ble_eq_true rfl) ?_
 repeat' (first
 |with_reducible first|apply Xa|apply Xb|(refine Xc ?_;intro κ hκ)|(apply hκ.out;clear hκ κ)|apply Xd|apply Xe|apply Xf
 |((with_reducible first|refine Xl ?_ ?_|refine Xk ?_ ?_)<;> intro h hari<;> try exact Xp)
 |refine Xr ?_
 |exact True.intro
 |(apply hκ.out;clear hκ κ))
 refine awp_loop (fun m s σ' => ∃ i : Nat, m = ts.length - i ∧ i ≤ ts.length ∧ s 6 = sl ids ts.length (ecells ts) ∧ s 7 = ic ts.length ∧ s 8 = ic i ∧ Keep σ σ' ∧ Abs.Hid (setl (ts.take i) = true)) ts.length
  ⟨0, by omega, by omega, rfl, rfl, rfl, by exact Xs, by simp [Abs.Hid, setl]⟩ ?_
 rintro m s σ' ⟨i, rfl, hi, h6, h7, h8, hK, hno⟩
 by_cases hlt : i < ts.length
 ·have hget := List.getElem?_eq_getElem hlt
  obtain ⟨r, hd⟩ := ecells_get hget
  have hmem := List.getElem_mem hlt
  generalize ts[i] = w at hd hget hmem
  obtain ⟨w1, w2⟩ := w
  have HG : Abs.Hid (ts[i]? = some (w1, w2) ∧ (w1, w2) ∈ ts) := ⟨hget, hmem⟩
  clear hget hmem
  have kno := hK.nobj
  repeat' (first
 |with_reducible first|apply Xa|apply Xb|(refine Xc ?_;intro κ hκ)|(apply hκ.out;clear hκ κ)|apply Xd|apply Xe|apply Xf
 |((with_reducible first|refine Xl ?_ ?_|refine Xk ?_ ?_)<;> intro h hari<;> try exact Xp)
 |refine Xr ?_
 |exact True.intro
 |(apply hκ.out;clear hκ κ))
  ·exact ⟨_, rfl, by
    have : setl ts = false := by
     unfold setl
     rw [List.all_eq_false]
     exact ⟨_, HG.out.2, by simp_all⟩
    rw [this], by exact Xs⟩
  ·exact ⟨ts.length - (i + 1), by omega, i + 1, rfl, by omega, by simp, by exact Xs, by
    have hno := hno.out
    unfold setl at hno
    rw [Abs.Hid, setl, List.take_add_one, HG.out.1, List.all_append, hno]
    simp_all⟩
 ·have hil : i = ts.length := by omega
  subst hil
  rw [List.take_length] at hno
  have hno := hno.out
  repeat' (first
 |with_reducible first|apply Xa|apply Xb|(refine Xc ?_;intro κ hκ)|(apply hκ.out;clear hκ κ)|apply Xd|apply Xe|apply Xf
 |((with_reducible first|refine Xl ?_ ?_|refine Xk ?_ ?_)<;> intro h hari<;> try exact Xp)
 |refine Xr ?_
 |exact True.intro
 |(apply hκ.out;clear hκ κ))
  first | exact ⟨_, rfl, rfl, hK⟩ | exact ⟨_, rfl, rfl⟩
def tupOf (l : List Int) : Tup := [(l[0]?).getD (-1), (l[1]?).getD (-1), (l[2]?).getD (-1)]
def icells (t : List Int) : List AV := t.map ic
set_option maxHeartbeats 4000000 in
theorem etuple_spec (p : Int) (ids : Nat) (ts : List Tm) (hn : ts.length ≤ 1000) (σ : St) : ACalls Tryz.prog 128 [ag [ic p, sl ids ts.length (ecells ts)]] σ fun r σ' => r = ag (icells (tupOf (ts.map (·.2)))) ∧ Keep σ σ' := by
 have htl := ecells_len ts
 have hL0 : ∃ L : Nat → Int, (∀ i, L i = ((ts[i]?).map (·.2)).getD (-1)) ∧ icells (tupOf (ts.map (·.2))) = [ic (L 0), ic (L 1), ic (L 2)] := ⟨fun i => ((ts[i]?).map (·.2)).getD (-1), fun _ => rfl, by simp [icells, tupOf]⟩
 obtain ⟨L, hL, hT⟩ := hL0
 refine acalls 26 [.cell 2 125] Tryz.func128 rfl (by decide) rfl rfl (Nat.le_of_ble_eq_true rfl) ?_
 repeat' (first
 |with_reducible first|apply Xa|apply Xb|(refine Xc ?_;intro κ hκ)|(apply hκ.out;clear hκ κ)|apply Xd|apply Xe|apply Xf
 |((with_reducible first|refine Xl ?_ ?_|refine Xk ?_ ?_)<;> intro h hari<;> try exact Xp)
 |refine Xr ?_
 |exact True.intro
 |(apply hκ.out;clear hκ κ))
 refine awp_loop (fun m s σ' => ∃ (i : Nat), m = 3 - i ∧ i ≤ 3 ∧ s 1 = ptr σ.nobj 0 ∧ s 2 = ptr (σ.nobj + 1) 0 ∧ s 3 = ptr (σ.nobj + 2) 0 ∧ s 6 = ic i ∧ Keep σ σ' ∧ σ.nobj + 2 < σ'.nobj ∧ σ'.obj σ.nobj = [ic p, sl ids ts.length (ecells ts)] ∧ σ'.obj (σ.nobj + 1) = [ic 0, ic 0, ic 0] ∧ σ'.obj (σ.nobj + 2) = [ic (if 0 < i then L 0 else 0), ic (if 1 < i then L 1 else 0), ic (if 2 < i then L 2 else 0)]) 3
  ⟨0, by omega, by omega, by simp [upd], by simp [upd], by simp [upd], rfl, by exact Xs, by simp only [new_nobj, put_nobj]; omega, ?_, ?_, ?_⟩ ?_
 ·rw [put_ne (by omega), new_lt (by simp only [new_nobj]; omega), new_lt (by simp only [new_nobj]; omega), new_same]
 ·rw [put_ne (by omega), new_lt (by simp only [new_nobj]; omega), new_at (by simp only [new_nobj]; omega) (by simp only [new_nobj]; omega)]
 ·rw [show σ.nobj + 2 = σ.nobj + 1 + 1 from rfl, put_same]
  rfl
 rintro m s σ' ⟨i, rfl, hi, h1, h2, h3, h6, hK, hno, ob0, ob1, ob2⟩
 have kno := hK.nobj
 by_cases hlt : i < 3
 ·by_cases hl : i < ts.length
  ·have hget := List.getElem?_eq_getElem hl
   obtain ⟨r, hd⟩ := ecells_get hget
   have hLi := hL i
   rw [hget] at hLi
   generalize ts[i] = w at hd hget hLi
   obtain ⟨w1, w2⟩ := w
   clear hget hL
   simp only [Option.map_some, Option.getD_some] at hLi
   rcases (show i = 0 ∨ i = 1 ∨ i = 2 by omega) with rfl | rfl | rfl
   all_goals
    simp only [↓reduceIte, Nat.lt_irrefl, Nat.reduceLT, Nat.reduceMul, Nat.zero_mul, List.drop_zero] at ob2 hd hLi
    repeat' (first
 |with_reducible first|apply Xa|apply Xb|(refine Xc ?_;intro κ hκ)|(apply hκ.out;clear hκ κ)|apply Xd|apply Xe|apply Xf
 |((with_reducible first|refine Xl ?_ ?_|refine Xk ?_ ?_)<;> intro h hari<;> try exact Xp)
 |refine Xr ?_
 |exact True.intro
 |(apply hκ.out;clear hκ κ))
    first | exact ⟨2, by omega, 1, rfl, by omega, rfl, by exact Xs, by simp [*]⟩ | exact ⟨1, by omega, 2, rfl, by omega, rfl, by exact Xs, by simp [*]⟩ | exact ⟨0, by omega, 3, rfl, by omega, rfl, by exact Xs, by simp [*]⟩
  ·have hLi := hL i
   rw [List.getElem?_eq_none (by omega)] at hLi
   simp only [Option.map_none, Option.getD_none] at hLi
   clear hL
   rcases (show i = 0 ∨ i = 1 ∨ i = 2 by omega) with rfl | rfl | rfl
   all_goals
    simp only [↓reduceIte, Nat.lt_irrefl, Nat.reduceLT, Nat.reduceMul, Nat.zero_mul, List.drop_zero] at ob2 hLi
    repeat' (first
 |with_reducible first|apply Xa|apply Xb|(refine Xc ?_;intro κ hκ)|(apply hκ.out;clear hκ κ)|apply Xd|apply Xe|apply Xf
 |((with_reducible first|refine Xl ?_ ?_|refine Xk ?_ ?_)<;> intro h hari<;> try exact Xp)
 |refine Xr ?_
 |exact True.intro
 |(apply hκ.out;clear hκ κ))
    first | exact ⟨2, by omega, 1, rfl, by omega, rfl, by exact Xs, by simp [*]⟩ | exact ⟨1, by omega, 2, rfl, by omega, rfl, by exact Xs, by simp [*]⟩ | exact ⟨0, by omega, 3, rfl, by omega, rfl, by exact Xs, by simp [*]⟩
 ·have hi3 : i = 3 := by omega
  subst hi3
  simp only [↓reduceIte, Nat.reduceLT] at ob2
  repeat' (first
 |with_reducible first|apply Xa|apply Xb|(refine Xc ?_;intro κ hκ)|(apply hκ.out;clear hκ κ)|apply Xd|apply Xe|apply Xf
 |((with_reducible first|refine Xl ?_ ?_|refine Xk ?_ ?_)<;> intro h hari<;> try exact Xp)
 |refine Xr ?_
 |exact True.intro
 |(apply hκ.out;clear hκ κ))
  first | exact ⟨_, rfl, by rw [hT], by exact Xs⟩ | exact ⟨_, rfl, rfl, by exact Xs⟩
/- The program's engine: variables of atoms; numbers put. -/
theorem icells_len (l : List Int) : (icells l).length = l.length := by simp [icells]
theorem icells_get {l : List Int} {k : Nat} {n : Int} (h : l[k]? = some n) : ∃ r, (icells l).drop k = ic n :: r := by
 have hk := (List.getElem?_eq_some_iff.1 h)
 obtain ⟨h1, h2⟩ := hk
 refine ⟨(icells l).drop (k + 1), ?_⟩
 rw [List.drop_eq_getElem_cons (by rw [icells_len]; exact h1)]
 simp [icells, h2]
theorem icells_flat (l : List Int) : (icells l).all flat = true := by
 rw [List.all_eq_true]
 intro x hx
 obtain ⟨n, -, rfl⟩ := List.mem_map.1 hx
 rfl
theorem icells_snoc (l : List Int) (n : Int) : icells (l ++ [n]) = icells l ++ [ic n] := by simp [icells]
set_option maxHeartbeats 4000000 in
theorem eplaceOf_spec (v : Int) (l : List Int) (id : Nat) (hn : l.length ≤ 100000) (σ : St) : ACalls Tryz.prog 79 [ic v, sl id l.length (icells l)] σ fun r σ' => r = ic (if v ∈ l then (l.idxOf v : Nat) else -1) ∧ Keep σ σ' := by
 have htl := icells_len l
 refine acalls 19 [.tmp 4] Tryz.func79 rfl (by decide) rfl rfl (Nat.le_of_ble_eq_true rfl) ?_
 repeat' (first
 |with_reducible first|apply Xa|apply Xb|(refine Xc ?_;intro κ hκ)|(apply hκ.out;clear hκ κ)|apply Xd|apply Xe|apply Xf
 |((with_reducible first|refine Xl ?_ ?_|refine Xk ?_ ?_)<;> intro h hari<;> try exact Xp)
 |refine Xr ?_
 |exact True.intro
 |(apply hκ.out;clear hκ κ))
 refine awp_loop (fun m s σ' => ∃ i : Nat, m = l.length - i ∧ i ≤ l.length ∧ s 0 = ic v ∧ s 7 = sl id l.length (icells l) ∧ s 8 = ic l.length ∧ s 9 = ic i ∧ Keep σ σ' ∧ Abs.Hid (v ∉ l.take i)) l.length
  ⟨0, by omega, by omega, rfl, rfl, rfl, rfl, by exact Xs, by simp [Abs.Hid]⟩ ?_
 rintro m s σ' ⟨i, rfl, hi, h0, h7, h8, h9, hK, hno⟩
 by_cases hlt : i < l.length
 ·have hget := List.getElem?_eq_getElem hlt
  obtain ⟨r, hd⟩ := icells_get hget
  generalize l[i] = w at hd hget
  have HG : Abs.Hid (l[i]? = some w) := hget
  clear hget
  have kno := hK.nobj
  repeat' (first
 |with_reducible first|apply Xa|apply Xb|(refine Xc ?_;intro κ hκ)|(apply hκ.out;clear hκ κ)|apply Xd|apply Xe|apply Xf
 |((with_reducible first|refine Xl ?_ ?_|refine Xk ?_ ?_)<;> intro h hari<;> try exact Xp)
 |refine Xr ?_
 |exact True.intro
 |(apply hκ.out;clear hκ κ))
  ·have e : w = v := by simp_all
   subst e
   exact ⟨_, rfl, by rw [if_pos (List.mem_of_getElem? HG.out), eidx_first HG.out hno.out]⟩
  all_goals exact ⟨l.length - (i + 1), by omega, i + 1, rfl, by omega, by simp, not_take hno.out HG.out (by simp_all)⟩
 ·have hil : i = l.length := by omega
  subst hil
  rw [List.take_length] at hno
  repeat' (first
 |with_reducible first|apply Xa|apply Xb|(refine Xc ?_;intro κ hκ)|(apply hκ.out;clear hκ κ)|apply Xd|apply Xe|apply Xf
 |((with_reducible first|refine Xl ?_ ?_|refine Xk ?_ ?_)<;> intro h hari<;> try exact Xp)
 |refine Xr ?_
 |exact True.intro
 |(apply hκ.out;clear hκ κ))
  first | exact ⟨_, rfl, by rw [if_neg hno.out], hK⟩ | exact ⟨_, rfl, by rw [if_neg hno.out]⟩
theorem placeOf_neg (v : Int) (l : List Int) : ((if v ∈ l then ((l.idxOf v : Nat) : Int) else -1) == -1) = decide (v ∉ l) := by
 split <;> rename_i h <;> simp [h]
set_option maxHeartbeats 4000000 in
theorem ehasAny_spec (p : Int) (ids : Nat) (ts : List Tm) (l : List Int) (id : Nat) (hn : ts.length ≤ 1000) (hl : l.length ≤ 100000) (σ : St) : ACalls Tryz.prog 218 [ag [ic p, sl ids ts.length (ecells ts)], sl id l.length (icells l)] σ fun r σ' => r = sc (.bool (l.any (hasV ts))) ∧ Keep σ σ' := by
 have htl := icells_len l
 refine acalls 17 [.tmp 4] Tryz.func218 rfl (by decide) rfl rfl (Nat.le_of_ble_eq_true rfl) ?_
 repeat' (first
 |with_reducible first|apply Xa|apply Xb|(refine Xc ?_;intro κ hκ)|(apply hκ.out;clear hκ κ)|apply Xd|apply Xe|apply Xf
 |((with_reducible first|refine Xl ?_ ?_|refine Xk ?_ ?_)<;> intro h hari<;> try exact Xp)
 |refine Xr ?_
 |exact True.intro
 |(apply hκ.out;clear hκ κ))
 refine awp_loop (fun m s σ' => ∃ i : Nat, m = l.length - i ∧ i ≤ l.length ∧ s 2 = ptr σ.nobj 0 ∧ s 7 = sl id l.length (icells l) ∧ s 8 = ic l.length ∧ s 9 = ic i ∧ Keep σ σ' ∧ σ.nobj < σ'.nobj ∧ σ'.obj σ.nobj = [ic p, sl ids ts.length (ecells ts)] ∧ Abs.Hid ((l.take i).any (hasV ts) = false)) l.length
  ⟨0, by omega, by omega, by simp [upd], by simp [upd], by simp [upd], rfl, by exact Xs, by simp only [new_nobj]; omega, by rw [new_same], by simp [Abs.Hid]⟩ ?_
 rintro m s σ' ⟨i, rfl, hi, h2, h7, h8, h9, hK, hno, ob, hA⟩
 have kno := hK.nobj
 by_cases hlt : i < l.length
 ·have hget := List.getElem?_eq_getElem hlt
  obtain ⟨r, hd⟩ := icells_get hget
  have hmem := List.getElem_mem hlt
  generalize l[i] = w at hd hget hmem
  have HG : Abs.Hid (l[i]? = some w ∧ w ∈ l) := ⟨hget, hmem⟩
  clear hget hmem
  repeat' (first
 |with_reducible first|apply Xa|apply Xb|(refine Xc ?_;intro κ hκ)|(apply hκ.out;clear hκ κ)|apply Xd|apply Xe|apply Xf
 |((with_reducible first|refine Xl ?_ ?_|refine Xk ?_ ?_)<;> intro h hari<;> try exact Xp)
 |((with_reducible refine Xh ?_);refine Xi (ehas_spec _ _ _ _ hn _) ?_;rintro _ _ ⟨rfl,hK2⟩;(have kno2:=hK2.nobj;have kob2:=hK2.obj))
 |refine Xr ?_
 |exact True.intro
 |(apply hκ.out;clear hκ κ))
  ·first | exact ⟨_, rfl, by rw [List.any_eq_true.2 ⟨w, HG.out.2, by assumption⟩], hK.trans hK2⟩ | exact ⟨_, rfl, by rw [List.any_eq_true.2 ⟨w, HG.out.2, by assumption⟩]⟩
  ·exact ⟨l.length - (i + 1), by omega, i + 1, rfl, by omega, by simp, hK.trans hK2, by omega, by
    rw [Abs.Hid, List.take_add_one, HG.out.1, List.any_append, hA.out]
    simp_all⟩
 ·have hil : i = l.length := by omega
  subst hil
  rw [List.take_length] at hA
  have hA := hA.out
  repeat' (first
 |with_reducible first|apply Xa|apply Xb|(refine Xc ?_;intro κ hκ)|(apply hκ.out;clear hκ κ)|apply Xd|apply Xe|apply Xf
 |((with_reducible first|refine Xl ?_ ?_|refine Xk ?_ ?_)<;> intro h hari<;> try exact Xp)
 |refine Xr ?_
 |exact True.intro
 |(apply hκ.out;clear hκ κ))
  first | exact ⟨_, rfl, rfl, hK⟩ | exact ⟨_, rfl, rfl⟩ | exact ⟨_, rfl, hK⟩ | exact hK | exact ⟨_, rfl, by rw [hA], hK⟩ | exact ⟨_, rfl, by rw [hA]⟩
set_option maxHeartbeats 4000000 in
theorem ehasAll_spec (p : Int) (ids : Nat) (ts : List Tm) (l : List Int) (id : Nat) (hn : ts.length ≤ 1000) (hl : l.length ≤ 100000) (σ : St) : ACalls Tryz.prog 246 [ag [ic p, sl ids ts.length (ecells ts)], sl id l.length (icells l)] σ fun r σ' => r = sc (.bool (l.all (hasV ts))) ∧ Keep σ σ' := by
 have htl := icells_len l
 refine acalls 18 [.tmp 4] Tryz.func246 rfl (by decide) rfl rfl (Nat.le_of_ble_eq_true rfl) ?_
 repeat' (first
 |with_reducible first|apply Xa|apply Xb|(refine Xc ?_;intro κ hκ)|(apply hκ.out;clear hκ κ)|apply Xd|apply Xe|apply Xf
 |((with_reducible first|refine Xl ?_ ?_|refine Xk ?_ ?_)<;> intro h hari<;> try exact Xp)
 |refine Xr ?_
 |exact True.intro
 |(apply hκ.out;clear hκ κ))
 refine awp_loop (fun m s σ' => ∃ i : Nat, m = l.length - i ∧ i ≤ l.length ∧ s 2 = ptr σ.nobj 0 ∧ s 7 = sl id l.length (icells l) ∧ s 8 = ic l.length ∧ s 9 = ic i ∧ Keep σ σ' ∧ σ.nobj < σ'.nobj ∧ σ'.obj σ.nobj = [ic p, sl ids ts.length (ecells ts)] ∧ Abs.Hid ((l.take i).all (hasV ts) = true)) l.length
  ⟨0, by omega, by omega, by simp [upd], by simp [upd], by simp [upd], rfl, by exact Xs, by simp only [new_nobj]; omega, by rw [new_same], by simp [Abs.Hid]⟩ ?_
 rintro m s σ' ⟨i, rfl, hi, h2, h7, h8, h9, hK, hno, ob, hA⟩
 have kno := hK.nobj
 by_cases hlt : i < l.length
 ·have hget := List.getElem?_eq_getElem hlt
  obtain ⟨r, hd⟩ := icells_get hget
  have hmem := List.getElem_mem hlt
  generalize l[i] = w at hd hget hmem
  have HG : Abs.Hid (l[i]? = some w ∧ w ∈ l) := ⟨hget, hmem⟩
  clear hget hmem
  repeat' (first
 |with_reducible first|apply Xa|apply Xb|(refine Xc ?_;intro κ hκ)|(apply hκ.out;clear hκ κ)|apply Xd|apply Xe|apply Xf
 |((with_reducible first|refine Xl ?_ ?_|refine Xk ?_ ?_)<;> intro h hari<;> try exact Xp)
 |((with_reducible refine Xh ?_);refine Xi (ehas_spec _ _ _ _ hn _) ?_;rintro _ _ ⟨rfl,hK2⟩;(have kno2:=hK2.nobj;have kob2:=hK2.obj))
 |refine Xr ?_
 |exact True.intro
 |(apply hκ.out;clear hκ κ))
  ·first | exact ⟨_, rfl, by rw [List.all_eq_false.2 ⟨w, HG.out.2, by simp_all⟩], hK.trans hK2⟩ | exact ⟨_, rfl, by rw [List.all_eq_false.2 ⟨w, HG.out.2, by simp_all⟩]⟩
  ·exact ⟨l.length - (i + 1), by omega, i + 1, rfl, by omega, by simp, hK.trans hK2, by omega, by
    rw [Abs.Hid, List.take_add_one, HG.out.1, List.all_append, hA.out]
    simp_all⟩
 ·have hil : i = l.length := by omega
  subst hil
  rw [List.take_length] at hA
  have hA := hA.out
  repeat' (first
 |with_reducible first|apply Xa|apply Xb|(refine Xc ?_;intro κ hκ)|(apply hκ.out;clear hκ κ)|apply Xd|apply Xe|apply Xf
 |((with_reducible first|refine Xl ?_ ?_|refine Xk ?_ ?_)<;> intro h hari<;> try exact Xp)
 |refine Xr ?_
 |exact True.intro
 |(apply hκ.out;clear hκ κ))
  first | exact ⟨_, rfl, rfl, hK⟩ | exact ⟨_, rfl, rfl⟩ | exact ⟨_, rfl, hK⟩ | exact hK | exact ⟨_, rfl, by rw [hA], hK⟩ | exact ⟨_, rfl, by rw [hA]⟩
set_option maxHeartbeats 4000000 in
theorem etotal_spec (l : List Int) (id : Nat) (hn : l.length ≤ 100000) (h0 : ∀ n ∈ l, 0 ≤ n ∧ n ≤ 1000000) (σ : St) : ACalls Tryz.prog 115 [sl id l.length (icells l)] σ fun r σ' => r = ic l.sum ∧ Keep σ σ' := by
 have htl := icells_len l
 refine acalls 17 [.tmp 2] Tryz.func115 rfl (by decide) rfl rfl (Nat.le_of_ble_eq_true rfl) ?_
 repeat' (first
 |with_reducible first|apply Xa|apply Xb|(refine Xc ?_;intro κ hκ)|(apply hκ.out;clear hκ κ)|apply Xd|apply Xe|apply Xf
 |((with_reducible first|refine Xl ?_ ?_|refine Xk ?_ ?_)<;> intro h hari<;> try exact Xp)
 |refine Xr ?_
 |exact True.intro
 |(apply hκ.out;clear hκ κ))
 refine awp_loop (fun m s σ' => ∃ i : Nat, m = l.length - i ∧ i ≤ l.length ∧ s 3 = ic (l.take i).sum ∧ s 6 = sl id l.length (icells l) ∧ s 7 = ic l.length ∧ s 8 = ic i ∧ Keep σ σ' ∧ 0 ≤ (l.take i).sum ∧ (l.take i).sum ≤ i * 1000000) l.length
  ⟨0, by omega, by omega, rfl, rfl, rfl, rfl, by exact Xs, by simp, by simp⟩ ?_
 rintro m s σ' ⟨i, rfl, hi, h3, h6, h7, h8, hK, b0, b1⟩
 by_cases hlt : i < l.length
 ·have hget := List.getElem?_eq_getElem hlt
  obtain ⟨r, hd⟩ := icells_get hget
  have hb := h0 l[i] (List.getElem_mem hlt)
  have hs : Abs.Hid ((l.take (i + 1)).sum = (l.take i).sum + l[i]) := by
   rw [Abs.Hid, List.take_add_one, hget]
   simp only [Option.toList_some, List.sum_append, List.sum_cons, List.sum_nil]
   omega
  generalize l[i] = w at hd hget hb hs
  clear hget
  generalize (l.take i).sum = acc at h3 b0 b1 hs
  have kno := hK.nobj
  repeat' (first
 |with_reducible first|apply Xa|apply Xb|(refine Xc ?_;intro κ hκ)|(apply hκ.out;clear hκ κ)|apply Xd|apply Xe|apply Xf
 |((with_reducible first|refine Xl ?_ ?_|refine Xk ?_ ?_)<;> intro h hari<;> try exact Xp)
 |refine Xr ?_
 |exact True.intro
 |(apply hκ.out;clear hκ κ))
  exact ⟨l.length - (i + 1), by omega, i + 1, rfl, by omega, by rw [hs.out], by simp, by rw [hs.out]; omega, by rw [hs.out]; omega⟩
 ·have hil : i = l.length := by omega
  subst hil
  rw [List.take_length] at h3
  repeat' (first
 |with_reducible first|apply Xa|apply Xb|(refine Xc ?_;intro κ hκ)|(apply hκ.out;clear hκ κ)|apply Xd|apply Xe|apply Xf
 |((with_reducible first|refine Xl ?_ ?_|refine Xk ?_ ?_)<;> intro h hari<;> try exact Xp)
 |refine Xr ?_
 |exact True.intro
 |(apply hκ.out;clear hκ κ))
  first | exact ⟨_, rfl, rfl, hK⟩ | exact ⟨_, rfl, rfl⟩ | exact ⟨_, rfl, hK⟩
/-! ### A number in place of a variable -/
def putT (v n : Int) (t : Tm) : Tm := if t = (true, v) then (false, n) else t
def eputTs (v n : Int) (ts : List Tm) : List Tm := ts.map (putT v n)
theorem putTs_none {v n : Int} {ts : List Tm} (h : hasV ts v = false) : eputTs v n ts = ts := by
 unfold eputTs
 conv => rhs; rw [← List.map_id ts]
 apply List.map_congr_left
 intro t ht
 unfold putT
 rw [if_neg]
 ·rfl
 ·rintro rfl
  simp [hasV] at h
  exact h ht
set_option maxHeartbeats 16000000 in
theorem eput_spec (p : Int) (ids : Nat) (ts : List Tm) (v n : Int) (hn : ts.length ≤ 1000) (σ : St) : ACalls Tryz.prog 219 [ag [ic p, sl ids ts.length (ecells ts)], ic v, ic n] σ fun r σ' => (∃ id, r = ag [ic p, sl id (eputTs v n ts).length (ecells (eputTs v n ts))]) ∧ Keep σ σ' := by
 have htl := ecells_len ts
 refine acalls 43 [.cell 6 94] Tryz.func219 rfl (by decide) rfl rfl (Nat.le_of_ble_eq_true rfl) ?_
 repeat' (first
 |with_reducible first|apply Xa|apply Xb|(refine Xc ?_;intro κ hκ)|(apply hκ.out;clear hκ κ)|apply Xd|apply Xe|apply Xf
 |((with_reducible first|refine Xl ?_ ?_|refine Xk ?_ ?_)<;> intro h hari<;> try exact Xp)
 |((with_reducible refine aapp_go ?_);refine Xt ?_;intro idn σn hOn hKn eobj enobj ever entop)
 |((with_reducible refine aappn_go ?_);refine Xu ?_)
 |((with_reducible refine Xh ?_);refine Xi (ehas_spec _ _ _ _ hn _) ?_;rintro _ _ ⟨rfl,hK2⟩;(have kno2:=hK2.nobj;have kob2:=hK2.obj;(try simp only [new_nobj] at kno2 kob2)))
 |refine Xr ?_
 |exact True.intro
 |(apply hκ.out;clear hκ κ))
 ·have e := putTs_none (n := n) h
  rw [e]
  exact ⟨_, rfl, ⟨_, rfl⟩, (((Keep.refl _).new _).new _).trans hK2 |>.put (by omega) _⟩
 ·rename_i σ1
  have hKa : Keep σ σ1 := (((Keep.refl _).new _).new _).trans hK2
  have kn1 := hKa.nobj
  have ob0 := kob2 σ.nobj (by omega)
  have ob1 := kob2 (σ.nobj + 1) (by omega)
  rw [new_lt (by simp only [new_nobj]; omega), new_same] at ob0
  rw [new_at (by simp only [new_nobj]; omega) (by simp only [new_nobj]; omega)] at ob1
  clear kob2 hK2
  repeat' (first
 |with_reducible first|apply Xa|apply Xb|(refine Xc ?_;intro κ hκ)|(apply hκ.out;clear hκ κ)|apply Xd|apply Xe|apply Xf
 |((with_reducible first|refine Xl ?_ ?_|refine Xk ?_ ?_)<;> intro h hari<;> try exact Xp)
 |((with_reducible refine aapp_go ?_);refine Xt ?_;intro idn σn hOn hKn eobj enobj ever entop)
 |((with_reducible refine aappn_go ?_);refine Xu ?_)
 |refine Xr ?_
 |exact True.intro
 |(apply hκ.out;clear hκ κ))
  refine awp_loop (fun m s σ' => ∃ (i i3 : Nat) (xs : List AV), m = ts.length - i ∧ i ≤ ts.length ∧ s 1 = ic v ∧ s 2 = ic n ∧ s 6 = ptr (σ.nobj + 1) 0 ∧ s 7 = ptr σ1.nobj 0 ∧ s 19 = sl ids ts.length (ecells ts) ∧ s 20 = ic ts.length ∧ s 21 = ic i ∧ Keep σ σ' ∧ σ1.nobj < σ'.nobj ∧ σ'.obj (σ.nobj + 1) = [ic 0, nilS] ∧ σ'.obj σ1.nobj = [ic p, sl i3 i xs] ∧ Own σ σ' i3 i ∧ xs.length = i * 2 ∧ Abs.Hid (xs = ecells (eputTs v n (ts.take i)))) ts.length
   ⟨0, 1, [], by omega, by omega, by simp [upd, initS], by simp [upd, initS], by simp [upd], by simp [upd], by simp [upd], by simp [upd], rfl, by exact Xs, by simp only [put_nobj, new_nobj]; omega, ?_, ?_, Own.nil _ _, by simp, by simp [Abs.Hid, eputTs, ecells]⟩ ?_
  ·rw [put_ne (by omega), new_lt (by omega)]; simp [ob1, cst1]
  ·rw [put_same]
  rintro m s σ' ⟨i, i3, xs, rfl, hi, h1, h2, h6, h7, h19, h20, h21, hK, hno, oc1, oc2, hO, hxl, hX⟩
  have kno := hK.nobj
  by_cases hlt : i < ts.length
  ·have hget := List.getElem?_eq_getElem hlt
   obtain ⟨r, hd⟩ := ecells_get hget
   generalize ts[i] = w at hd hget
   obtain ⟨w1, w2⟩ := w
   have HG : Abs.Hid (ecells (eputTs v n (ts.take (i + 1))) = ecells (eputTs v n (ts.take i)) ++ ecell (putT v n (w1, w2))) := by
    rw [Abs.Hid, List.take_add_one, hget]; simp [eputTs, ecells]
   clear hget
   by_cases hc : w1 = true ∧ w2 = v
   ·obtain ⟨rfl, rfl⟩ := hc
    repeat' (first
 |with_reducible first|apply Xa|apply Xb|(refine Xc ?_;intro κ hκ)|(apply hκ.out;clear hκ κ)|apply Xd|apply Xe|apply Xf
 |((with_reducible first|refine Xl ?_ ?_|refine Xk ?_ ?_)<;> intro h hari<;> try exact Xp)
 |((with_reducible refine aapp_go ?_);refine Xt ?_;intro idn σn hOn hKn eobj enobj ever entop)
 |((with_reducible refine aappn_go ?_);refine Xu ?_)
 |refine Xr ?_
 |exact True.intro
 |(apply hκ.out;clear hκ κ))
    refine aApp_own (by first | exact tez_92) (((hK.new _).put hK.nobj _).put hK.nobj _) (Own.put (Own.put (Own.new hO _) _ _) _ _) (by decide) (by rfl) (hxl) (by rfl) (by rfl) (by decide) (by omega) (by omega) ?_
    intro idn σn hOn hKn eobj enobj ever entop
    simp only [put_nobj, new_nobj] at enobj
    refine Xr ?_
    repeat' (first
 |with_reducible first|apply Xa|apply Xb|(refine Xc ?_;intro κ hκ)|(apply hκ.out;clear hκ κ)|apply Xd|apply Xe|apply Xf
 |((with_reducible first|refine Xl ?_ ?_|refine Xk ?_ ?_)<;> intro h hari<;> try exact Xp)
 |((with_reducible refine aapp_go ?_);refine Xt ?_;intro idn σn hOn hKn eobj enobj ever entop)
 |((with_reducible refine aappn_go ?_);refine Xu ?_)
 |refine Xr ?_
 |exact True.intro
 |(apply hκ.out;clear hκ κ))
    exact ⟨ts.length - (i + 1), by omega, i + 1, idn, xs ++ [sc (.bool false), ic n], rfl, by omega, by simp, hKn.put (by omega) _, by omega, rfl, Own.put hOn _ _, by simp; omega, by rw [Abs.Hid, HG.out, hX.out]; simp [putT, ecell]⟩
   ·have hcb : (w1 && w2 == v) = false := by
     cases w1 with
     | false => rfl
     | true => simp at hc ⊢; exact hc
    have hP : Abs.Hid (putT v n (w1, w2) = (w1, w2)) := if_neg (by simpa using hc)
    clear hc
    cases w1 with
    | false =>
     repeat' (first
 |with_reducible first|apply Xa|apply Xb|(refine Xc ?_;intro κ hκ)|(apply hκ.out;clear hκ κ)|apply Xd|apply Xe|apply Xf
 |((with_reducible first|refine Xl ?_ ?_|refine Xk ?_ ?_)<;> intro h hari<;> try exact Xp)
 |((with_reducible refine aapp_go ?_);refine Xt ?_;intro idn σn hOn hKn eobj enobj ever entop)
 |((with_reducible refine aappn_go ?_);refine Xu ?_)
 |refine Xr ?_
 |exact True.intro
 |(apply hκ.out;clear hκ κ))
     refine aApp_own (by first | exact tez_92) ((hK.new _).put hK.nobj _) (Own.put (Own.new hO _) _ _) (by decide) (by rfl) (hxl) (by rfl) (by rfl) (by decide) (by omega) (by omega) ?_
     intro idn σn hOn hKn eobj enobj ever entop
     simp only [put_nobj, new_nobj] at enobj
     refine Xr ?_
     repeat' (first
 |with_reducible first|apply Xa|apply Xb|(refine Xc ?_;intro κ hκ)|(apply hκ.out;clear hκ κ)|apply Xd|apply Xe|apply Xf
 |((with_reducible first|refine Xl ?_ ?_|refine Xk ?_ ?_)<;> intro h hari<;> try exact Xp)
 |((with_reducible refine aapp_go ?_);refine Xt ?_;intro idn σn hOn hKn eobj enobj ever entop)
 |((with_reducible refine aappn_go ?_);refine Xu ?_)
 |refine Xr ?_
 |exact True.intro
 |(apply hκ.out;clear hκ κ))
     exact ⟨ts.length - (i + 1), by omega, i + 1, idn, xs ++ [_, ic w2], rfl, by omega, by simp, hKn.put (by omega) _, by omega, rfl, Own.put hOn _ _, by simp; omega, by rw [Abs.Hid, HG.out, hX.out, hP.out]; rfl⟩
    | true =>
     have hcb : (w2 == v) = false := by simpa using hcb
     repeat' (first
 |with_reducible first|apply Xa|apply Xb|(refine Xc ?_;intro κ hκ)|(apply hκ.out;clear hκ κ)|apply Xd|apply Xe|apply Xf
 |((with_reducible first|refine Xl ?_ ?_|refine Xk ?_ ?_)<;> intro h hari<;> try exact Xp)
 |((with_reducible refine aapp_go ?_);refine Xt ?_;intro idn σn hOn hKn eobj enobj ever entop)
 |((with_reducible refine aappn_go ?_);refine Xu ?_)
 |refine Xr ?_
 |exact True.intro
 |(apply hκ.out;clear hκ κ))
     refine aApp_own (by first | exact tez_92) ((hK.new _).put hK.nobj _) (Own.put (Own.new hO _) _ _) (by decide) (by rfl) (hxl) (by rfl) (by rfl) (by decide) (by omega) (by omega) ?_
     intro idn σn hOn hKn eobj enobj ever entop
     simp only [put_nobj, new_nobj] at enobj
     refine Xr ?_
     repeat' (first
 |with_reducible first|apply Xa|apply Xb|(refine Xc ?_;intro κ hκ)|(apply hκ.out;clear hκ κ)|apply Xd|apply Xe|apply Xf
 |((with_reducible first|refine Xl ?_ ?_|refine Xk ?_ ?_)<;> intro h hari<;> try exact Xp)
 |((with_reducible refine aapp_go ?_);refine Xt ?_;intro idn σn hOn hKn eobj enobj ever entop)
 |((with_reducible refine aappn_go ?_);refine Xu ?_)
 |refine Xr ?_
 |exact True.intro
 |(apply hκ.out;clear hκ κ))
     exact ⟨ts.length - (i + 1), by omega, i + 1, idn, xs ++ [_, ic w2], rfl, by omega, by simp, hKn.put (by omega) _, by omega, rfl, Own.put hOn _ _, by simp; omega, by rw [Abs.Hid, HG.out, hX.out, hP.out]; rfl⟩
  ·have hil : i = ts.length := by omega
   subst hil
   have hX := hX.out
   rw [List.take_length] at hX
   have hpl : (eputTs v n ts).length = ts.length := by simp [eputTs]
   repeat' (first
 |with_reducible first|apply Xa|apply Xb|(refine Xc ?_;intro κ hκ)|(apply hκ.out;clear hκ κ)|apply Xd|apply Xe|apply Xf
 |((with_reducible first|refine Xl ?_ ?_|refine Xk ?_ ?_)<;> intro h hari<;> try exact Xp)
 |((with_reducible refine aapp_go ?_);refine Xt ?_;intro idn σn hOn hKn eobj enobj ever entop)
 |((with_reducible refine aappn_go ?_);refine Xu ?_)
 |refine Xr ?_
 |exact True.intro
 |(apply hκ.out;clear hκ κ))
   exact ⟨_, rfl, ⟨i3, by first | rfl | rw [hpl, hX]⟩, hK.put (by omega) _⟩
/- The program's engine: queries, their sizes and variables. -/
structure Part where
 a : Atm
 tups : List Tup
structure Qry where
 head : Atm
 parts : List Part
 nots : List Atm
def tcs (l : List Tup) : List AV := l.flatMap icells
def T3 (l : List Tup) : Prop := ∀ t ∈ l, t.length = 3
theorem tcs_len {l : List Tup} (h : T3 l) : (tcs l).length = l.length * 3 := by
 induction l with
 | nil => rfl
 | cons a l ih =>
  have h1 := h a (by simp)
  have h2 := ih (fun t ht => h t (by simp [ht]))
  unfold tcs at *
  rw [List.flatMap_cons, List.length_append, h2, icells_len, h1]; simp; omega
theorem tcs_snoc (l : List Tup) (t : Tup) : tcs (l ++ [t]) = tcs l ++ icells t := by simp [tcs]
theorem tcs_get {l : List Tup} {k : Nat} {t : Tup} (h3 : T3 l) (h : l[k]? = some t) : ∃ a b c r, t = [a, b, c] ∧ (tcs l).drop (k * 3) = ic a :: ic b :: ic c :: r := by
 have hE : ∀ l : List Tup, EL (fun t c => c = icells t ∧ t ∈ l) l (tcs l) := by
  intro l
  induction l with
  | nil => rfl
  | cons a l ih => exact ⟨icells a, tcs l, ⟨rfl, by simp⟩, EL.mono (fun t c h => ⟨h.1, by simp [h.2]⟩) ih, by simp [tcs]⟩
 obtain ⟨c, r, ⟨rfl, -⟩, e⟩ := EL.get (z := 3) (fun a c h => by rw [h.1, icells_len]; exact h3 a h.2) (hE l) h
 have ht := h3 t (List.mem_of_getElem? h)
 match t, ht with
 | [a, b, c], _ => exact ⟨a, b, c, r, rfl, by rw [e]; rfl⟩
def EAt (a : Atm) (c : List AV) : Prop := ∃ id, c = [ic a.p, sl id a.ts.length (ecells a.ts)]
def EPt (p : Part) (c : List AV) : Prop := ∃ id idt, c = [ic p.a.p, sl id p.a.ts.length (ecells p.a.ts), sl idt p.tups.length (tcs p.tups)]
theorem EAt_len (a : Atm) (c : List AV) (h : EAt a c) : c.length = 2 := by obtain ⟨id, rfl⟩ := h; rfl
theorem EPt_len (a : Part) (c : List AV) (h : EPt a c) : c.length = 3 := by obtain ⟨id, idt, rfl⟩ := h; rfl
theorem EAt_get {l : List Atm} {cs : List AV} {i : Nat} {a : Atm} (h : EL EAt l cs) (hi : l[i]? = some a) : ∃ id r, cs.drop (i * 2) = ic a.p :: sl id a.ts.length (ecells a.ts) :: r := by
 obtain ⟨c, r, ⟨id, rfl⟩, e⟩ := EL.get EAt_len h hi
 exact ⟨id, r, e⟩
theorem EPt_get {l : List Part} {cs : List AV} {i : Nat} {p : Part} (h : EL EPt l cs) (hi : l[i]? = some p) : ∃ id idt r, cs.drop (i * 3) = ic p.a.p :: sl id p.a.ts.length (ecells p.a.ts) :: sl idt p.tups.length (tcs p.tups) :: r := by
 obtain ⟨c, r, ⟨id, idt, rfl⟩, e⟩ := EL.get EPt_len h hi
 exact ⟨id, idt, r, e⟩
def EQ (q : Qry) (c : List AV) : Prop := ∃ ih ip inn pc nc, c = [ic q.head.p, sl ih q.head.ts.length (ecells q.head.ts), sl ip q.parts.length pc, sl inn q.nots.length nc] ∧ EL EPt q.parts pc ∧ EL EAt q.nots nc
structure QOk (q : Qry) : Prop where
 hd : q.head.ts.length ≤ 3
 pl : q.parts.length ≤ 64
 nl : q.nots.length ≤ 64
 pa : ∀ p ∈ q.parts, p.a.ts.length ≤ 3
 pt : ∀ p ∈ q.parts, p.tups.length ≤ 5000
 p3 : ∀ p ∈ q.parts, T3 p.tups
 na : ∀ a ∈ q.nots, a.ts.length ≤ 3
def sizeQ (l : List Part) : Nat := (l.map fun p => p.tups.length).sum
theorem sizeQ_snoc (l : List Part) (p : Part) : sizeQ (l ++ [p]) = sizeQ l + p.tups.length := by simp [sizeQ, List.sum_append]
set_option maxHeartbeats 4000000 in
theorem esize_spec (q : Qry) (c : List AV) (hc : EQ q c) (hq : QOk q) (σ : St) : ACalls Tryz.prog 247 [ag c] σ fun r σ' => r = ic (sizeQ q.parts : Nat) ∧ Keep σ σ' := by
 obtain ⟨ih, ip, inn, pc, nc, rfl, hP, hN⟩ := hc
 have hpl := EL.length EPt_len hP
 have hl := hq.pl
 refine acalls 20 [.tmp 2] Tryz.func247 rfl (by decide) rfl rfl (Nat.le_of_ble_eq_true rfl) ?_
 repeat' (first
 |with_reducible first|apply Xa|apply Xb|(refine Xc ?_;intro κ hκ)|(apply hκ.out;clear hκ κ)|apply Xd|apply Xe|apply Xf
 |((with_reducible first|refine Xl ?_ ?_|refine Xk ?_ ?_)<;> intro h hari<;> try exact Xp)
 |refine Xr ?_
 |exact True.intro
 |(apply hκ.out;clear hκ κ))
 refine awp_loop (fun m s σ' => ∃ i a : Nat, m = q.parts.length - i ∧ i ≤ q.parts.length ∧ s 3 = ic a ∧ s 7 = sl ip q.parts.length pc ∧ s 8 = ic q.parts.length ∧ s 9 = ic i ∧ Keep σ σ' ∧ a ≤ i * 5000 ∧ Abs.Hid (a = sizeQ (q.parts.take i))) q.parts.length
  ⟨0, 0, by omega, by omega, rfl, rfl, rfl, rfl, by exact Xs, by simp, by simp [Abs.Hid, sizeQ]⟩ ?_
 rintro m s σ' ⟨i, a, rfl, hi, h3, h7, h8, h9, hK, b1, hA⟩
 have kno := hK.nobj
 by_cases hlt : i < q.parts.length
 ·have hget := List.getElem?_eq_getElem hlt
  obtain ⟨id, idt, r, hd⟩ := EPt_get hP hget
  have hb := hq.pt _ (List.getElem_mem hlt)
  generalize q.parts[i] = w at hd hget hb
  have HG : Abs.Hid (sizeQ (q.parts.take (i + 1)) = sizeQ (q.parts.take i) + w.tups.length) := by
   rw [Abs.Hid, List.take_add_one, hget, Option.toList_some, sizeQ_snoc]
  clear hget
  repeat' (first
 |with_reducible first|apply Xa|apply Xb|(refine Xc ?_;intro κ hκ)|(apply hκ.out;clear hκ κ)|apply Xd|apply Xe|apply Xf
 |((with_reducible first|refine Xl ?_ ?_|refine Xk ?_ ?_)<;> intro h hari<;> try exact Xp)
 |refine Xr ?_
 |exact True.intro
 |(apply hκ.out;clear hκ κ))
  exact ⟨q.parts.length - (i + 1), by omega, i + 1, a + w.tups.length, rfl, by omega, by simp, by simp, by exact Xs, by omega, by rw [Abs.Hid, HG.out, hA.out]⟩
 ·have hil : i = q.parts.length := by omega
  subst hil
  have hA := hA.out
  rw [List.take_length] at hA
  subst hA
  repeat' (first
 |with_reducible first|apply Xa|apply Xb|(refine Xc ?_;intro κ hκ)|(apply hκ.out;clear hκ κ)|apply Xd|apply Xe|apply Xf
 |((with_reducible first|refine Xl ?_ ?_|refine Xk ?_ ?_)<;> intro h hari<;> try exact Xp)
 |refine Xr ?_
 |exact True.intro
 |(apply hκ.out;clear hκ κ))
  first | exact ⟨_, rfl, rfl, hK⟩ | exact ⟨_, rfl, rfl⟩ | exact ⟨_, rfl, hK⟩ | exact hK
def cntV (l : List Atm) (v : Int) : Nat := l.countP fun a => hasV a.ts v
set_option maxHeartbeats 4000000 in
theorem epartsWith_spec (q : Qry) (c : List AV) (v : Int) (hc : EQ q c) (hq : QOk q) (σ : St) : ACalls Tryz.prog 249 [ag c, ic v] σ fun r σ' => r = ic (cntV (q.parts.map (·.a)) v : Nat) ∧ Keep σ σ' := by
 obtain ⟨ih, ip, inn, pc, nc, rfl, hP, hN⟩ := hc
 have hpl := EL.length EPt_len hP
 have hl := hq.pl
 refine acalls 23 [.tmp 4] Tryz.func249 rfl (by decide) rfl rfl (Nat.le_of_ble_eq_true rfl) ?_
 repeat' (first
 |with_reducible first|apply Xa|apply Xb|(refine Xc ?_;intro κ hκ)|(apply hκ.out;clear hκ κ)|apply Xd|apply Xe|apply Xf
 |((with_reducible first|refine Xl ?_ ?_|refine Xk ?_ ?_)<;> intro h hari<;> try exact Xp)
 |refine Xr ?_
 |exact True.intro
 |(apply hκ.out;clear hκ κ))
 refine awp_loop (fun m s σ' => ∃ i a : Nat, m = q.parts.length - i ∧ i ≤ q.parts.length ∧ s 1 = ic v ∧ s 5 = ic a ∧ s 9 = sl ip q.parts.length pc ∧ s 10 = ic q.parts.length ∧ s 11 = ic i ∧ Keep σ σ' ∧ a ≤ i ∧ Abs.Hid (a = cntV ((q.parts.take i).map (·.a)) v)) q.parts.length
  ⟨0, 0, by omega, by omega, rfl, rfl, rfl, rfl, rfl, by exact Xs, by simp, by simp [Abs.Hid, cntV]⟩ ?_
 rintro m s σ' ⟨i, a, rfl, hi, h1, h5, h9, h10, h11, hK, b1, hA⟩
 have kno := hK.nobj
 by_cases hlt : i < q.parts.length
 ·have hget := List.getElem?_eq_getElem hlt
  obtain ⟨id, idt, r, hd⟩ := EPt_get hP hget
  have hb := hq.pa _ (List.getElem_mem hlt)
  generalize q.parts[i] = w at hd hget hb
  have HG : Abs.Hid (cntV ((q.parts.take (i + 1)).map (·.a)) v = cntV ((q.parts.take i).map (·.a)) v + if hasV w.a.ts v then 1 else 0) := by
   rw [Abs.Hid, List.take_add_one, hget, Option.toList_some, List.map_append, cntV, List.countP_append]; simp [cntV, List.countP_cons]
  clear hget
  have hw1000 : w.a.ts.length ≤ 1000 := by omega
  repeat' (first
 |with_reducible first|apply Xa|apply Xb|(refine Xc ?_;intro κ hκ)|(apply hκ.out;clear hκ κ)|apply Xd|apply Xe|apply Xf
 |((with_reducible first|refine Xl ?_ ?_|refine Xk ?_ ?_)<;> intro h hari<;> try exact Xp)
 |((with_reducible refine Xh ?_);refine Xi (ehas_spec _ _ _ _ hw1000 _) ?_;rintro _ _ ⟨rfl,hK2⟩;(have kno2:=hK2.nobj;have hK3:=((hK.new _).put hK.nobj _).trans hK2))
 |refine Xr ?_
 |exact True.intro
 |(apply hκ.out;clear hκ κ))
  ·exact ⟨q.parts.length - (i + 1), by omega, i + 1, a + 1, rfl, by omega, by simp, by simp, by omega, by rw [Abs.Hid, HG.out, hA.out, if_pos (by assumption)]⟩
  ·exact ⟨q.parts.length - (i + 1), by omega, i + 1, a, rfl, by omega, by simp, by simp, by omega, by rw [Abs.Hid, HG.out, hA.out, if_neg (by simp_all), Nat.add_zero]⟩
 ·have hil : i = q.parts.length := by omega
  subst hil
  have hA := hA.out
  rw [List.take_length] at hA
  subst hA
  repeat' (first
 |with_reducible first|apply Xa|apply Xb|(refine Xc ?_;intro κ hκ)|(apply hκ.out;clear hκ κ)|apply Xd|apply Xe|apply Xf
 |((with_reducible first|refine Xl ?_ ?_|refine Xk ?_ ?_)<;> intro h hari<;> try exact Xp)
 |refine Xr ?_
 |exact True.intro
 |(apply hκ.out;clear hκ κ))
  first | exact ⟨_, rfl, rfl, hK⟩ | exact ⟨_, rfl, rfl⟩ | exact ⟨_, rfl, hK⟩ | exact hK
def atomsQ (q : Qry) : List Atm := q.head :: (q.parts.map (·.a) ++ q.nots)
set_option maxHeartbeats 16000000 in
theorem eatoms_spec (q : Qry) (c : List AV) (hc : EQ q c) (hq : QOk q) (σ : St) : ACalls Tryz.prog 248 [ag c] σ fun r σ' => ∃ id cs, r = sl id (atomsQ q).length cs ∧ EL EAt (atomsQ q) cs ∧ Keep σ σ' := by
 obtain ⟨ih, ip, inn, pc, nc, rfl, hP, hN⟩ := hc
 have hpl := EL.length EPt_len hP
 have hnl := EL.length EAt_len hN
 have hl := hq.pl
 have hl2 := hq.nl
 refine acalls 37 [.tmp 2] Tryz.func248 rfl (by decide) rfl rfl (Nat.le_of_ble_eq_true rfl) ?_
 repeat' (first
 |with_reducible first|apply Xa|apply Xb|(refine Xc ?_;intro κ hκ)|(apply hκ.out;clear hκ κ)|apply Xd|apply Xe|apply Xf
 |((with_reducible first|refine Xl ?_ ?_|refine Xk ?_ ?_)<;> intro h hari<;> try exact Xp)
 |((with_reducible refine aapp_go ?_);refine Xt ?_;intro idn σn hOn hKn eobj enobj ever entop)
 |((with_reducible refine aappn_go ?_);refine Xu ?_)
 |refine Xr ?_
 |exact True.intro
 |(apply hκ.out;clear hκ κ))
 have hK0 : Keep σ (σ.new [ic q.head.p, sl ih q.head.ts.length (ecells q.head.ts), sl ip q.parts.length pc, sl inn q.nots.length nc]) := (Keep.refl _).new _
 refine awp_loop (fun m s σ' => ∃ (k i3 : Nat) (xs : List AV), m = q.parts.length - k ∧ k ≤ q.parts.length ∧ s 1 = ptr σ.nobj 0 ∧ s 3 = sl i3 (1 + k) xs ∧ s 12 = sl ip q.parts.length pc ∧ s 13 = ic q.parts.length ∧ s 14 = ic k ∧ Keep σ σ' ∧ σ.nobj < σ'.nobj ∧ σ'.obj σ.nobj = [ic q.head.p, sl ih q.head.ts.length (ecells q.head.ts), sl ip q.parts.length pc, sl inn q.nots.length nc] ∧ Own σ σ' i3 (1 + k) ∧ xs.length = (1 + k) * 2 ∧ Abs.Hid (EL EAt (q.head :: (q.parts.take k).map (·.a)) xs)) q.parts.length
  ⟨0, _, _, by omega, by omega, by simp [upd], rfl, rfl, rfl, rfl, hK0.lay 1, by simp only [lay_nobj, new_nobj]; omega, by rw [lay_obj, new_same], Own.made hK0 (by decide), by simp, EL.single ⟨ih, rfl⟩⟩ ?_
 rintro m s σ' ⟨k, i3, xs, rfl, hk, h1, h3, h12, h13, h14, hK, hno, ob, hO, hxl, hE⟩
 clear hK0
 have kno := hK.nobj
 by_cases hlt : k < q.parts.length
 ·have hget := List.getElem?_eq_getElem hlt
  obtain ⟨id, idt, r, hd⟩ := EPt_get hP hget
  generalize q.parts[k] = w at hd hget
  have HG : Abs.Hid (q.parts[k]? = some w) := hget
  clear hget
  repeat' (first
 |with_reducible first|apply Xa|apply Xb|(refine Xc ?_;intro κ hκ)|(apply hκ.out;clear hκ κ)|apply Xd|apply Xe|apply Xf
 |((with_reducible first|refine Xl ?_ ?_|refine Xk ?_ ?_)<;> intro h hari<;> try exact Xp)
 |((with_reducible refine aapp_go ?_);refine Xt ?_;intro idn σn hOn hKn eobj enobj ever entop)
 |((with_reducible refine aappn_go ?_);refine Xu ?_)
 |refine Xr ?_
 |exact True.intro
 |(apply hκ.out;clear hκ κ))
  refine aApp_own (by first | exact tez_69) ((hK.new _).put hK.nobj _) (Own.put (Own.new hO _) _ _) (by decide) (by rfl) (hxl) (by rfl) (by rfl) (by decide) (by omega) (by omega) ?_
  intro idn σn hOn hKn eobj enobj ever entop
  simp only [put_nobj, new_nobj] at enobj
  have eob : σn.obj σ.nobj = σ'.obj σ.nobj := by rw [eobj, put_ne (by omega), new_lt (by omega)]
  refine Xr ?_
  repeat' (first
 |with_reducible first|apply Xa|apply Xb|(refine Xc ?_;intro κ hκ)|(apply hκ.out;clear hκ κ)|apply Xd|apply Xe|apply Xf
 |((with_reducible first|refine Xl ?_ ?_|refine Xk ?_ ?_)<;> intro h hari<;> try exact Xp)
 |((with_reducible refine aapp_go ?_);refine Xt ?_;intro idn σn hOn hKn eobj enobj ever entop)
 |((with_reducible refine aappn_go ?_);refine Xu ?_)
 |refine Xr ?_
 |exact True.intro
 |(apply hκ.out;clear hκ κ))
  refine ⟨q.parts.length - (k + 1), by omega, k + 1, idn, xs ++ [ic w.a.p, sl id w.a.ts.length (ecells w.a.ts)], rfl, by omega, by simp [Nat.add_assoc], by simp, by omega, by simpa [Nat.add_assoc] using hOn, by simp; omega, ?_⟩
  rw [Abs.Hid, List.take_add_one, HG.out]
  have := EL.append hE.out (EL.single (E := EAt) (a := w.a) ⟨id, rfl⟩)
  simpa using this
 ·have hkl : k = q.parts.length := by omega
  subst hkl
  rw [List.take_length] at hE
  generalize hM : q.parts.length = M at *
  have HM : Abs.Hid _ := hM
  clear hM hlt hk
  repeat' (first
 |with_reducible first|apply Xa|apply Xb|(refine Xc ?_;intro κ hκ)|(apply hκ.out;clear hκ κ)|apply Xd|apply Xe|apply Xf
 |((with_reducible first|refine Xl ?_ ?_|refine Xk ?_ ?_)<;> intro h hari<;> try exact Xp)
 |((with_reducible refine aapp_go ?_);refine Xt ?_;intro idn σn hOn hKn eobj enobj ever entop)
 |((with_reducible refine aappn_go ?_);refine Xu ?_)
 |refine Xr ?_
 |exact True.intro
 |(apply hκ.out;clear hκ κ))
  refine awp_loop (fun m s σ' => ∃ (k i3 : Nat) (xs : List AV), m = q.nots.length - k ∧ k ≤ q.nots.length ∧ s 3 = sl i3 (1 + M + k) xs ∧ s 25 = sl inn q.nots.length nc ∧ s 26 = ic q.nots.length ∧ s 27 = ic k ∧ Keep σ σ' ∧ Own σ σ' i3 (1 + M + k) ∧ xs.length = (1 + M + k) * 2 ∧ Abs.Hid (EL EAt (q.head :: (q.parts.map (·.a) ++ q.nots.take k)) xs)) q.nots.length
   ⟨0, i3, xs, by omega, by omega, by simp [upd, *], by simp [upd, *], by simp [upd, *], by simp [upd], hK, by simpa using hO, by simpa using hxl, by simpa using hE⟩ ?_
  clear hE hxl hO h3 h1 h12 h13 h14 hK hno ob kno
  rintro m s σ' ⟨k, i3, xs, rfl, hk, h3, h25, h26, h27, hK, hO, hxl, hE⟩
  have kno := hK.nobj
  by_cases hlt : k < q.nots.length
  ·have hget := List.getElem?_eq_getElem hlt
   obtain ⟨id, r, hd⟩ := EAt_get hN hget
   generalize q.nots[k] = w at hd hget
   have HG : Abs.Hid (q.nots[k]? = some w) := hget
   clear hget
   repeat' (first
 |with_reducible first|apply Xa|apply Xb|(refine Xc ?_;intro κ hκ)|(apply hκ.out;clear hκ κ)|apply Xd|apply Xe|apply Xf
 |((with_reducible first|refine Xl ?_ ?_|refine Xk ?_ ?_)<;> intro h hari<;> try exact Xp)
 |((with_reducible refine aapp_go ?_);refine Xt ?_;intro idn σn hOn hKn eobj enobj ever entop)
 |((with_reducible refine aappn_go ?_);refine Xu ?_)
 |refine Xr ?_
 |exact True.intro
 |(apply hκ.out;clear hκ κ))
   refine aApp_own (by first | exact tez_69) ((hK.new _).put hK.nobj _) (Own.put (Own.new hO _) _ _) (by decide) (by rfl) (hxl) (by rfl) (by rfl) (by decide) (by omega) (by omega) ?_
   intro idn σn hOn hKn eobj enobj ever entop
   refine Xr ?_
   repeat' (first
 |with_reducible first|apply Xa|apply Xb|(refine Xc ?_;intro κ hκ)|(apply hκ.out;clear hκ κ)|apply Xd|apply Xe|apply Xf
 |((with_reducible first|refine Xl ?_ ?_|refine Xk ?_ ?_)<;> intro h hari<;> try exact Xp)
 |((with_reducible refine aapp_go ?_);refine Xt ?_;intro idn σn hOn hKn eobj enobj ever entop)
 |((with_reducible refine aappn_go ?_);refine Xu ?_)
 |refine Xr ?_
 |exact True.intro
 |(apply hκ.out;clear hκ κ))
   refine ⟨q.nots.length - (k + 1), by omega, k + 1, idn, xs ++ [ic w.p, sl id w.ts.length (ecells w.ts)], rfl, by omega, by simp [Nat.add_assoc], by simp, by simpa [Nat.add_assoc] using hOn, by simp; omega, ?_⟩
   rw [Abs.Hid, List.take_add_one, HG.out]
   have := EL.append hE.out (EL.single (E := EAt) (a := w) ⟨id, rfl⟩)
   simpa using this
  ·have hkl : k = q.nots.length := by omega
   subst hkl
   rw [List.take_length] at hE
   have hlen : (atomsQ q).length = 1 + M + q.nots.length := by have := HM.out; simp [atomsQ]; omega
   repeat' (first
 |with_reducible first|apply Xa|apply Xb|(refine Xc ?_;intro κ hκ)|(apply hκ.out;clear hκ κ)|apply Xd|apply Xe|apply Xf
 |((with_reducible first|refine Xl ?_ ?_|refine Xk ?_ ?_)<;> intro h hari<;> try exact Xp)
 |((with_reducible refine aapp_go ?_);refine Xt ?_;intro idn σn hOn hKn eobj enobj ever entop)
 |((with_reducible refine aappn_go ?_);refine Xu ?_)
 |refine Xr ?_
 |exact True.intro
 |(apply hκ.out;clear hκ κ))
   exact ⟨_, rfl, i3, xs, by first | rfl | rw [hlen], by simpa [atomsQ] using hE.out⟩
end Go.Proofs.YtmoeoppbmhfbpaaGreatDoorB
