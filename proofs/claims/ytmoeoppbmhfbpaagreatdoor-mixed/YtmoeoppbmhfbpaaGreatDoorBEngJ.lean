import Derived.Test.YtmoeoppbmhfbpaaGreatDoorBEngH
/- The program's engine: the numbers that may be put for a variable. -/
namespace Go.Proofs.YtmoeoppbmhfbpaaGreatDoorB
open Go.Abs
set_option linter.unusedSimpArgs false
set_option linter.unusedVariables false
set_option maxRecDepth 100000
def Num (ar : Nat) (t : Tup) : Prop := ∀ i, i < ar → ∃ k : Nat, t[i]? = some (k : Int) ∧ k < 1026
def QN (q : Qry) : Prop := ∀ p ∈ q.parts, ∀ t ∈ p.tups, Num p.a.ts.length t
def bcells (f : Nat → Bool) : List AV := (List.range 1026).map fun i => sc (.bool (f i))
theorem bcells_zero : arep 1026 (.bool false) = bcells fun _ => false := by
 unfold arep bcells
 rw [List.map_const']
 simp [cst1]
theorem bcells_len (f : Nat → Bool) : (bcells f).length = 1026 := by simp [bcells]
theorem bcells_get (f : Nat → Bool) {k : Nat} (h : k < 1026) : (bcells f)[k]? = some (sc (.bool (f k))) := by simp [bcells, h]
theorem bcells_set (f : Nat → Bool) {k : Nat} (h : k < 1026) (b : Bool) : (bcells f).set k (sc (.bool b)) = bcells fun j => if j = k then b else f j := by
 apply List.ext_getElem?
 intro n
 rw [List.getElem?_set]
 by_cases hn : n < 1026
 ·by_cases he : k = n
  ·subst he; simp [bcells, hn]
  ·have : n ≠ k := fun e => he e.symm
   simp [bcells, hn, he, this]
 ·have : k ≠ n := by omega
  simp [bcells, hn, this]
def valF (pl : Int) (acc : List Int) (t : Tup) : List Int := if tat t pl ∈ acc then acc else acc ++ [tat t pl]
def valT (tups : List Tup) (pl : Int) : List Int := tups.foldl (valF pl) []
def valQ (q : Qry) (v : Int) : List Int := match q.parts.find? (fun p => hasV p.a.ts v) with
 | some p => valT p.tups (eplc p.a.ts v)
 | none => []
theorem find_snoc {α : Type} {f : α → Bool} {l : List α} {i : Nat} {x : α} (hn : ∀ y ∈ l.take i, f y = false) (hi : l[i]? = some x) (hx : f x = true) : l.find? f = some x := by
 have hlt := (List.getElem?_eq_some_iff.1 hi)
 obtain ⟨h1, h2⟩ := hlt
 conv => lhs; rw [← List.take_append_drop i l]
 rw [List.find?_append, List.find?_eq_none.2 (fun y hy => by rw [hn y hy]; simp), List.drop_eq_getElem_cons h1, h2]
 simp [hx]
set_option maxHeartbeats 16000000 in
theorem evalues_spec (q : Qry) (c : List AV) (v : Int) (hc : EQ q c) (hq : QOk q) (hN : QN q) (σ : St) : ACalls Tryz.prog 172 [ag c, ic v] σ fun r σ' => (∃ id, r = sl id (valQ q v).length (icells (valQ q v))) ∧ Keep σ σ' := by
 obtain ⟨ih, ip, inn, pc, nc, rfl, hP, -⟩ := hc
 have hpl := EL.length EPt_len hP
 have hl := hq.pl
 have hz := bcells_zero
 refine acalls 53 [.tmp 4] Tryz.func172 rfl (by decide) rfl rfl (Nat.le_of_ble_eq_true rfl) ?_
 repeat' (first
 |with_reducible first|apply Xa|apply Xb|(refine Xc ?_;intro κ hκ)|(apply hκ.out;clear hκ κ)|apply Xd|apply Xe|apply Xf
 |((with_reducible first|refine Xl ?_ ?_|refine Xk ?_ ?_)<;> intro h hari<;> try exact Xp)
 |((with_reducible refine aapp_go ?_);refine Xt ?_;intro idn σn hOn hKn eobj enobj ever entop)
 |((with_reducible refine aappn_go ?_);refine Xu ?_)
 |refine Xr ?_
 |exact True.intro
 |(apply hκ.out;clear hκ κ))
 refine awp_loop (fun m s σ' => ∃ i : Nat, m = q.parts.length - i ∧ i ≤ q.parts.length ∧ s 1 = ic v ∧ s 5 = nilS ∧ s 6 = ptr (σ.nobj + 1) 0 ∧ s 14 = sl ip q.parts.length pc ∧ s 15 = ic q.parts.length ∧ s 16 = ic i ∧ Keep σ σ' ∧ σ.nobj + 1 < σ'.nobj ∧ σ'.obj (σ.nobj + 1) = bcells (fun _ => false) ∧ Abs.Hid (∀ p ∈ q.parts.take i, hasV p.a.ts v = false)) q.parts.length
  ⟨0, by omega, by omega, by simp [upd, initS], by simp [upd], by simp [upd], by simp [upd], by simp [upd], rfl, by exact Xs, by simp only [new_nobj]; omega, ?_, by simp [Abs.Hid]⟩ ?_
 ·rw [new_at (by simp only [new_nobj]; omega) (by simp only [new_nobj]; omega)]
 rintro m s σ' ⟨i, rfl, hi, h1, h5, h6, h14, h15, h16, hK, hno, ob1, hA⟩
 have kno := hK.nobj
 by_cases hlt : i < q.parts.length
 ·have hget := List.getElem?_eq_getElem hlt
  obtain ⟨id, idt, r, hd⟩ := EPt_get hP hget
  have hb1 := hq.pa _ (List.getElem_mem hlt)
  have hb2 := hq.pt _ (List.getElem_mem hlt)
  have hb3 := hq.p3 _ (List.getElem_mem hlt)
  have hb4 := hN _ (List.getElem_mem hlt)
  generalize q.parts[i] = w at hd hget hb1 hb2 hb3 hb4
  have hn1 : w.a.ts.length ≤ 1000 := by omega
  have hPl := fun σ => eplace_spec w.a.p id w.a.ts v hn1 σ
  have hK1 : Keep σ ((σ'.new [ic 0, nilS, nilS]).put σ'.nobj [ic w.a.p, sl id w.a.ts.length (ecells w.a.ts), sl idt w.tups.length (tcs w.tups)]) := (hK.new _).put hK.nobj _
  cases hv : hasV w.a.ts v with
  | false =>
   have hp : eplc w.a.ts v = -1 := plc_none (by simpa [hasV] using hv)
   have HS : Abs.Hid (∀ p ∈ q.parts.take (i + 1), hasV p.a.ts v = false) := by
    rw [Abs.Hid, List.take_add_one, hget, Option.toList_some]
    intro p hp
    rcases List.mem_append.1 hp with hp | hp
    ·exact hA.out p hp
    ·simp at hp; subst hp; exact hv
   rw [hp] at hPl
   clear hp hget hA
   repeat' (first
 |with_reducible first|apply Xa|apply Xb|(refine Xc ?_;intro κ hκ)|(apply hκ.out;clear hκ κ)|apply Xd|apply Xe|apply Xf
 |((with_reducible first|refine Xl ?_ ?_|refine Xk ?_ ?_)<;> intro h hari<;> try exact Xp)
 |((with_reducible refine aapp_go ?_);refine Xt ?_;intro idn σn hOn hKn eobj enobj ever entop)
 |((with_reducible refine aappn_go ?_);refine Xu ?_)
 |((with_reducible refine Xh ?_);refine Xi (hPl _) ?_;rintro _ _ ⟨rfl,hK2⟩;(have kno2:=hK2.nobj;have kob2:=hK2.obj;have hKx:=hK1.trans hK2;simp only [put_nobj,new_nobj] at kno2 kob2))
 |refine Xr ?_
 |exact True.intro
 |(apply hκ.out;clear hκ κ))
   refine ⟨q.parts.length - (i + 1), by omega, i + 1, ?_⟩
   ((repeat' with_reducible refine And.intro ?_ ?_)<;> first|exact Xq|exact (HS)|exact Xs)
  | true =>
   obtain ⟨pl, hpl', hpe⟩ := plc_bound hv
   have HR : Abs.Hid (valQ q v = valT w.tups pl) := by rw [Abs.Hid, valQ, find_snoc hA.out hget hv]; simp only [hpe]
   rw [hpe] at hPl
   clear hpe hget hA
   have hpl3 : pl < 3 := by omega
   have hneg : ((pl : Int) == -1) = false := by simp
   have htl := tcs_len hb3
   repeat' (first
 |with_reducible first|apply Xa|apply Xb|(refine Xc ?_;intro κ hκ)|(apply hκ.out;clear hκ κ)|apply Xd|apply Xe|apply Xf
 |((with_reducible first|refine Xl ?_ ?_|refine Xk ?_ ?_)<;> intro h hari<;> try exact Xp)
 |((with_reducible refine aapp_go ?_);refine Xt ?_;intro idn σn hOn hKn eobj enobj ever entop)
 |((with_reducible refine aappn_go ?_);refine Xu ?_)
 |((with_reducible refine Xh ?_);refine Xi (hPl _) ?_;rintro _ _ ⟨rfl,hK2⟩;(have kno2:=hK2.nobj;have kob2:=hK2.obj;have hKx:=hK1.trans hK2;simp only [put_nobj,new_nobj] at kno2 kob2))
 |refine Xr ?_
 |exact True.intro
 |(apply hκ.out;clear hκ κ))
   rename_i σ1
   have o1 : σ1.obj (σ.nobj + 1) = bcells (fun _ => false) := by rw [kob2 _ (by omega), put_ne (by omega), new_lt (by omega), ob1]
   clear kob2 hK2
   refine awp_loop (fun m s σ'' => ∃ (j i3 : Nat) (vs : List Int) (f : Nat → Bool), m = w.tups.length - j ∧ j ≤ w.tups.length ∧ s 5 = sl i3 vs.length (icells vs) ∧ s 6 = ptr (σ.nobj + 1) 0 ∧ s 9 = ic pl ∧ s 27 = sl idt w.tups.length (tcs w.tups) ∧ s 28 = ic w.tups.length ∧ s 29 = ic j ∧ Keep σ σ'' ∧ σ.nobj + 1 < σ''.nobj ∧ σ''.obj (σ.nobj + 1) = bcells f ∧ Own σ σ'' i3 vs.length ∧ vs.length ≤ j ∧ Abs.Hid (vs = valT (w.tups.take j) pl ∧ ∀ k : Nat, f k = true ↔ (k : Int) ∈ vs)) w.tups.length
    ⟨0, 1, [], fun _ => false, by omega, by omega, by simp [upd, *, icells], by simp [upd, *], by simp [upd], by simp [upd], by simp [upd], rfl, hKx, by omega, o1, Own.nil _ _, by simp, by simp [valT], by simp⟩ ?_
   clear o1 h1 h5 h6 h14 h15 h16 hK hno ob1 kno hKx hK1
   rintro m s σ'' ⟨j, i3, vs, f, rfl, hj, h5, h6, h9, h27, h28, h29, hK, hno, ob1, hO, hvl, hX⟩
   have kno := hK.nobj
   have hil := icells_len vs
   by_cases hlt2 : j < w.tups.length
   ·have hget := List.getElem?_eq_getElem hlt2
    obtain ⟨ht3, r2, hd2⟩ := tcs_get3 hb3 hget
    obtain ⟨x, hti, hx⟩ := hb4 _ (List.getElem_mem hlt2) pl hpl'
    generalize w.tups[j] = t at hd2 hget ht3 hti
    have hgi := i3_get hti
    have HS : Abs.Hid (valT (w.tups.take (j + 1)) pl = if (x : Int) ∈ vs then vs else vs ++ [(x : Int)]) := by
     have hta : tat t pl = (x : Int) := by simp [tat, hti]
     rw [Abs.Hid, List.take_add_one, hget, Option.toList_some, valT, List.foldl_append, hX.out.1]
     simp only [List.foldl_cons, List.foldl_nil, valF, hta]
     rfl
    clear hget hti
    have f1 := i3_len ht3
    have f2 := i3_take ht3
    have f3 := i3_take0 ht3
    have f4 := i3_lsp ht3
    have f5 := icells_flat t
    have f6 := i3_le ht3
    have g1 := bcells_get f hx
    have g2 := bcells_set f hx true
    have g3 := bcells_len f
    by_cases hm : (x : Int) ∈ vs
    ·have hfx : f x = true := (hX.out.2 x).2 hm
     have HX : Abs.Hid (vs = valT (w.tups.take (j + 1)) pl ∧ ∀ k : Nat, f k = true ↔ (k : Int) ∈ vs) := ⟨by rw [HS.out, if_pos hm], hX.out.2⟩
     rw [hfx] at g1
     clear hX HS hm g2
     repeat' (first
 |with_reducible first|apply Xa|apply Xb|(refine Xc ?_;intro κ hκ)|(apply hκ.out;clear hκ κ)|apply Xd|apply Xe|apply Xf
 |((with_reducible first|refine Xl ?_ ?_|refine Xk ?_ ?_)<;> intro h hari<;> try exact Xp)
 |((with_reducible refine aapp_go ?_);refine Xt ?_;intro idn σn hOn hKn eobj enobj ever entop)
 |((with_reducible refine aappn_go ?_);refine Xu ?_)
 |refine Xr ?_
 |exact True.intro
 |(apply hκ.out;clear hκ κ))
     refine ⟨w.tups.length - (j + 1), by omega, j + 1, i3, vs, f, ?_⟩
     ((repeat' with_reducible refine And.intro ?_ ?_)<;> first|exact Xq|exact (Own.put (Own.new hO _) _ _)|exact (HX)|exact Xs)
    ·have hfx : f x = false := by
      cases h : f x with
      | false => rfl
      | true => exact absurd ((hX.out.2 x).1 h) hm
     have HX : Abs.Hid (vs ++ [(x : Int)] = valT (w.tups.take (j + 1)) pl ∧ ∀ k : Nat, (if k = x then true else f k) = true ↔ (k : Int) ∈ vs ++ [(x : Int)]) := by
      refine ⟨by rw [HS.out, if_neg hm], fun k => ?_⟩
      have h2 := hX.out.2 k
      by_cases e : k = x
      ·subst e; simp
      ·rw [if_neg e, h2]
       have : ¬ (k : Int) = (x : Int) := by omega
       simp [this]
     rw [hfx] at g1
     clear hX HS hm
     repeat' (first
 |with_reducible first|apply Xa|apply Xb|(refine Xc ?_;intro κ hκ)|(apply hκ.out;clear hκ κ)|apply Xd|apply Xe|apply Xf
 |((with_reducible first|refine Xl ?_ ?_|refine Xk ?_ ?_)<;> intro h hari<;> try exact Xp)
 |((with_reducible refine aapp_go ?_);refine Xt ?_;intro idn σn hOn hKn eobj enobj ever entop)
 |((with_reducible refine aappn_go ?_);refine Xu ?_)
 |refine Xr ?_
 |exact True.intro
 |(apply hκ.out;clear hκ κ))
     refine aApp_own (by first | exact tez_25) (((hK.new _).put hK.nobj _).put (by omega) _) (Own.put (Own.put (Own.new hO _) _ _) _ _) (by decide) (by rfl) (by rw [hil, Nat.mul_one]) (by rfl) (by rfl) (by decide) (by omega) (by omega) ?_
     intro idn σn hOn hKn eobj enobj ever entop
     simp only [put_nobj, new_nobj] at enobj
     refine Xr ?_
     repeat' (first
 |with_reducible first|apply Xa|apply Xb|(refine Xc ?_;intro κ hκ)|(apply hκ.out;clear hκ κ)|apply Xd|apply Xe|apply Xf
 |((with_reducible first|refine Xl ?_ ?_|refine Xk ?_ ?_)<;> intro h hari<;> try exact Xp)
 |((with_reducible refine aapp_go ?_);refine Xt ?_;intro idn σn hOn hKn eobj enobj ever entop)
 |((with_reducible refine aappn_go ?_);refine Xu ?_)
 |refine Xr ?_
 |exact True.intro
 |(apply hκ.out;clear hκ κ))
     refine ⟨w.tups.length - (j + 1), by omega, j + 1, idn, vs ++ [(x : Int)], fun k => if k = x then true else f k, ?_⟩
     ((repeat' with_reducible refine And.intro ?_ ?_)<;> first|exact Xq|exact (by simpa using hOn)|exact (HX)|exact (by simp [icells])|exact Xs)
   ·have hjl : j = w.tups.length := by omega
    subst hjl
    obtain ⟨x1, -⟩ := hX.out
    rw [List.take_length] at x1
    rw [← x1] at HR
    have HR := HR.out
    repeat' (first
 |with_reducible first|apply Xa|apply Xb|(refine Xc ?_;intro κ hκ)|(apply hκ.out;clear hκ κ)|apply Xd|apply Xe|apply Xf
 |((with_reducible first|refine Xl ?_ ?_|refine Xk ?_ ?_)<;> intro h hari<;> try exact Xp)
 |((with_reducible refine aapp_go ?_);refine Xt ?_;intro idn σn hOn hKn eobj enobj ever entop)
 |((with_reducible refine aappn_go ?_);refine Xu ?_)
 |refine Xr ?_
 |exact True.intro
 |(apply hκ.out;clear hκ κ))
    first | exact ⟨_, rfl, ⟨i3, rfl⟩, hK⟩ | exact ⟨_, rfl, ⟨i3, by rw [HR]⟩, hK⟩ | exact ⟨_, rfl, ⟨i3, rfl⟩⟩ | exact ⟨_, rfl, i3, rfl⟩
 ·have hil : i = q.parts.length := by omega
  subst hil
  rw [List.take_length] at hA
  have HR : valQ q v = [] := by
   unfold valQ
   rw [List.find?_eq_none.2 (fun p hp => by rw [hA.out p hp]; simp)]
  repeat' (first
 |with_reducible first|apply Xa|apply Xb|(refine Xc ?_;intro κ hκ)|(apply hκ.out;clear hκ κ)|apply Xd|apply Xe|apply Xf
 |((with_reducible first|refine Xl ?_ ?_|refine Xk ?_ ?_)<;> intro h hari<;> try exact Xp)
 |((with_reducible refine aapp_go ?_);refine Xt ?_;intro idn σn hOn hKn eobj enobj ever entop)
 |((with_reducible refine aappn_go ?_);refine Xu ?_)
 |refine Xr ?_
 |exact True.intro
 |(apply hκ.out;clear hκ κ))
  first | exact ⟨_, rfl, ⟨1, rfl⟩, hK⟩ | exact ⟨_, rfl, ⟨1, by rw [HR]; rfl⟩, hK⟩ | exact ⟨_, rfl, 1, rfl⟩ | exact ⟨_, rfl, 1, by rw [HR]; rfl⟩
/- The program's engine: tuples that no way can use are left out. -/
theorem aApp_two {P : Program} {t : TypeId} {z b : Nat} {zc : List Value} {σ0 σ : St} {id id2 n m m' : Nat} {xs ys : List AV} {K : AV → St → Prop} (ht : tez P t = some (z, b, zc)) (hK : Keep σ0 σ) (hO : Own σ0 σ id n)
  (hz : 0 < z) (hzc : zc.length = z) (hx : xs.length = n * z) (hy : ys.length = m * z) (hf : ys.all flat = true) (hm : 0 < m) (hb : (n + m) * b ≤ 140737488355328) (hl : n + m ≤ 1099511627776)
  (h : ∀ id' σ', Own σ0 σ' id' (n + m) → Keep σ0 σ' → σ'.obj = σ.obj → σ'.nobj = σ.nobj → σ'.ver = σ.ver → σ.ntop < σ'.ntop → (∀ i k, Own σ0 σ i k → (id = 1 ∨ id ≠ i) → Own σ0 σ' i k ∧ (id' = 1 ∨ id' ≠ i)) → K (sl id' (n + m) (xs ++ ys)) σ') : aApp P t t (sl id n xs) (sl id2 m ys) (σ.lay m') K := by
 unfold aApp aapp
 left
 simp only [ht]
 rw [if_pos ⟨trivial, hz, hzc, hx, hy, hf, hm, hb, hl⟩]
 rcases hO with ⟨rfl, rfl⟩ | ⟨k, rfl, h2, h3, h4, h5⟩
 ·have hxs : xs = [] := List.eq_nil_of_length_eq_zero (by simpa using hx)
  subst hxs
  have := h ((σ.lay m').ntop + 2) ((σ.lay m').lay m) (by rw [Nat.zero_add]; exact Own.made (hK.lay m') hm) ((hK.lay m').lay m) rfl rfl rfl (by simp [St.lay]; omega) (fun i k ho _ => by
   refine ⟨ho.keep (((Keep.refl _).lay _).lay _), ?_⟩
   right
   rcases ho with ⟨rfl, -⟩ | ⟨j, rfl, -, hj, -⟩
   ·simp [St.lay]
   ·simp [St.lay]; omega)
  simpa using this
 ·have e1 : (σ.lay m').top k = n := by simp [St.lay]; rw [if_neg (by omega)]; exact h4
  simp only
  rw [if_pos ⟨e1, h5⟩]
  exact h (k + 2) _ (.inr ⟨k, rfl, h2, by simp [St.raise, St.lay]; omega, by simp [St.raise], by omega⟩) ((hK.lay m').raise h2 _) rfl rfl rfl (by simp [St.raise, St.lay]) (fun i j ho hne => by
   have hne : k + 2 ≠ i := by rcases hne with h | h <;> omega
   refine ⟨?_, .inr hne⟩
   rcases ho with ho | ⟨j', rfl, g1, g2, g3, g4⟩
   ·exact .inl ho
   ·exact .inr ⟨j', rfl, g1, by simp [St.raise, St.lay]; omega, by simp [St.raise, St.lay]; rw [if_neg (by omega), if_neg (by omega)]; exact g3, g4⟩)
def ncells (f : Nat → Nat) : List AV := (List.range 1026).map fun i => ic (f i : Nat)
theorem ncells_zero : arep 1026 (.int .i64 0) = ncells fun _ => 0 := by
 unfold arep ncells
 rw [List.map_const']
 simp [cst1]
theorem ncells_len (f : Nat → Nat) : (ncells f).length = 1026 := by simp [ncells]
theorem ncells_get (f : Nat → Nat) {k : Nat} (h : k < 1026) : (ncells f)[k]? = some (ic (f k : Nat)) := by simp [ncells, h]
theorem ncells_set (f : Nat → Nat) {k : Nat} (h : k < 1026) (b : Nat) : (ncells f).set k (ic (b : Nat)) = ncells fun j => if j = k then b else f j := by
 apply List.ext_getElem?
 intro n
 rw [List.getElem?_set]
 by_cases hn : n < 1026
 ·by_cases he : k = n
  ·subst he; simp [ncells, hn]
  ·have : n ≠ k := fun e => he e.symm
   simp [ncells, hn, he, this]
 ·have : k ≠ n := by omega
  simp [ncells, hn, this]
def occ (v : Int) (n : Int) (p : Part) : Bool := p.tups.any fun t => tat t (eplc p.a.ts v) == n
def allHave (l : List Part) (v n : Int) : Bool := l.all fun p => !hasV p.a.ts v || occ v n p
def narP (l : List Part) (v : Int) (p : Part) : Part := if hasV p.a.ts v = true then ⟨p.a, p.tups.filter fun t => allHave l v (tat t (eplc p.a.ts v))⟩ else p
def narBy (q : Qry) (v : Int) : Qry := { q with parts := q.parts.map (narP q.parts v) }
def gF (f : Nat → Nat) (a : Nat) (pl : Int) (l : List Tup) (k : Nat) : Nat := if f k = a ∧ l.any (fun t => tat t pl == (k : Int)) = true then a + 1 else f k
theorem gF_step {f : Nat → Nat} {a : Nat} {pl : Int} {l : List Tup} {t : Tup} {x : Nat} (ht : tat t pl = (x : Int)) : gF f a pl (l ++ [t]) = fun k => if k = x ∧ gF f a pl l x = a then a + 1 else gF f a pl l k := by
 funext k
 have hany : (l ++ [t]).any (fun t => tat t pl == (k : Int)) = (l.any (fun t => tat t pl == (k : Int)) || decide (k = x)) := by
  rw [List.any_append]
  simp only [List.any_cons, List.any_nil, Bool.or_false, ht]
  congr 1
  by_cases e : k = x
  ·subst e; simp
  ·have : ¬ (x : Int) = (k : Int) := by omega
   simp [e, this]
 unfold gF
 rw [hany]
 by_cases e : k = x
 ·subst e
  by_cases h1 : f k = a
  ·cases h2 : l.any (fun t => tat t pl == (k : Int)) <;> simp [h1]
  ·simp [h1]
 ·simp [e]
theorem gF_nil (f : Nat → Nat) (a : Nat) (pl : Int) : gF f a pl [] = f := by funext k; simp [gF]
set_option maxHeartbeats 32000000 in
theorem enarBy_spec (q : Qry) (c : List AV) (v : Int) (hc : EQ q c) (hq : QOk q) (hN : QN q) (σ : St) : ACalls Tryz.prog 250 [ag c, ic v] σ fun r σ' => (∃ c', r = ag c' ∧ EQ (narBy q v) c') ∧ Keep σ σ' := by
 obtain ⟨ih, ip, inn, pc, nc, rfl, hP, hNn⟩ := hc
 have hpl := EL.length EPt_len hP
 have hl := hq.pl
 have hz := ncells_zero
 refine acalls 113 [.cell 4 182] Tryz.func250 rfl (by decide) rfl rfl (Nat.le_of_ble_eq_true rfl) ?_
 repeat' (first
 |with_reducible first|apply Xa|apply Xb|(refine Xc ?_;intro κ hκ)|(apply hκ.out;clear hκ κ)|apply Xd|apply Xe|apply Xf
 |((with_reducible first|refine Xl ?_ ?_|refine Xk ?_ ?_)<;> intro h hari<;> try exact Xp)
 |((with_reducible refine aapp_go ?_);refine Xt ?_;intro idn σn hOn hKn eobj enobj ever entop)
 |((with_reducible refine aappn_go ?_);refine Xu ?_)
 |refine Xr ?_
 |exact True.intro
 |(apply hκ.out;clear hκ κ))
 refine awp_loop (fun m s σ' => ∃ (i a : Nat) (f : Nat → Nat), m = q.parts.length - i ∧ i ≤ q.parts.length ∧ s 1 = ic v ∧ s 2 = ptr σ.nobj 0 ∧ s 4 = ptr (σ.nobj + 1) 0 ∧ s 5 = ptr (σ.nobj + 2) 0 ∧ s 6 = ic a ∧ s 20 = sl ip q.parts.length pc ∧ s 21 = ic q.parts.length ∧ s 22 = ic i ∧ Keep σ σ' ∧ σ.nobj + 2 < σ'.nobj ∧ σ'.obj σ.nobj = [ic q.head.p, sl ih q.head.ts.length (ecells q.head.ts), sl ip q.parts.length pc, sl inn q.nots.length nc] ∧ σ'.obj (σ.nobj + 1) = [ic 0, nilS, nilS, nilS] ∧ σ'.obj (σ.nobj + 2) = ncells f ∧ a ≤ i ∧ (∀ k, f k ≤ a) ∧ Abs.Hid (∀ k, f k = a ↔ allHave (q.parts.take i) v (k : Int) = true)) q.parts.length
  ⟨0, 0, fun _ => 0, by omega, by omega, by simp [upd, initS], by simp [upd], by simp [upd], by simp [upd], by simp [upd], by simp [upd], by simp [upd], rfl, by exact Xs, by simp only [new_nobj]; omega, ?_, ?_, ?_, by omega, by simp, by simp [Abs.Hid, allHave]⟩ ?_
 ·rw [new_lt (by simp only [new_nobj]; omega), new_lt (by simp only [new_nobj]; omega), new_same]
 ·rw [new_lt (by simp only [new_nobj]; omega), new_at (by simp only [new_nobj]; omega) (by simp only [new_nobj]; omega)]
 ·rw [new_at (by simp only [new_nobj]; omega) (by simp only [new_nobj]; omega)]
 rintro m s σ' ⟨i, a, f, rfl, hi, h1, h2, h4, h5, h6, h20, h21, h22, hK, hno, ob0, ob1, ob2, hai, hfa, hA⟩
 have kno := hK.nobj
 by_cases hlt : i < q.parts.length
 ·have hget := List.getElem?_eq_getElem hlt
  obtain ⟨id, idt, r, hd⟩ := EPt_get hP hget
  have hb1 := hq.pa _ (List.getElem_mem hlt)
  have hb2 := hq.pt _ (List.getElem_mem hlt)
  have hb3 := hq.p3 _ (List.getElem_mem hlt)
  have hb4 := hN _ (List.getElem_mem hlt)
  generalize q.parts[i] = w at hd hget hb1 hb2 hb3 hb4
  have hn1 : w.a.ts.length ≤ 1000 := by omega
  have hPl := fun σ => eplace_spec w.a.p id w.a.ts v hn1 σ
  have hK1 : Keep σ ((σ'.new [ic 0, nilS, nilS]).put σ'.nobj [ic w.a.p, sl id w.a.ts.length (ecells w.a.ts), sl idt w.tups.length (tcs w.tups)]) := (hK.new _).put hK.nobj _
  have HA1 : Abs.Hid (∀ n, allHave (q.parts.take (i + 1)) v n = (allHave (q.parts.take i) v n && (!hasV w.a.ts v || occ v n w))) := by
   intro n
   rw [List.take_add_one, hget, Option.toList_some, allHave, List.all_append]
   simp [allHave]
  clear hget
  cases hv : hasV w.a.ts v with
  | false =>
   have hp : eplc w.a.ts v = -1 := plc_none (by simpa [hasV] using hv)
   have HS : Abs.Hid (∀ k, f k = a ↔ allHave (q.parts.take (i + 1)) v (k : Int) = true) := by
    intro k
    rw [HA1.out, hv, hA.out k]; simp
   rw [hp] at hPl
   clear hp hA HA1
   repeat' (first
 |with_reducible first|apply Xa|apply Xb|(refine Xc ?_;intro κ hκ)|(apply hκ.out;clear hκ κ)|apply Xd|apply Xe|apply Xf
 |((with_reducible first|refine Xl ?_ ?_|refine Xk ?_ ?_)<;> intro h hari<;> try exact Xp)
 |((with_reducible refine aapp_go ?_);refine Xt ?_;intro idn σn hOn hKn eobj enobj ever entop)
 |((with_reducible refine aappn_go ?_);refine Xu ?_)
 |((with_reducible refine Xh ?_);refine Xi (hPl _) ?_;rintro _ _ ⟨rfl,hK2⟩;(have kno2:=hK2.nobj;have kob2:=hK2.obj;have hKx:=hK1.trans hK2;simp only [put_nobj,new_nobj] at kno2 kob2))
 |refine Xr ?_
 |exact True.intro
 |(apply hκ.out;clear hκ κ))
   refine ⟨q.parts.length - (i + 1), by omega, i + 1, a, f, ?_⟩
   ((repeat' with_reducible refine And.intro ?_ ?_)<;> first|exact Xq|exact (HS)|exact Xs)
  | true =>
   obtain ⟨pl, hpl', hpe⟩ := plc_bound hv
   have HS : Abs.Hid (∀ k, gF f a pl w.tups k = a + 1 ↔ allHave (q.parts.take (i + 1)) v (k : Int) = true) := by
    intro k
    have h1 := hA.out k
    have h2 := hfa k
    rw [HA1.out, hv, Bool.and_eq_true, ← h1]
    simp only [Bool.not_true, Bool.false_or, occ, hpe]
    unfold gF
    by_cases hc : f k = a ∧ w.tups.any (fun t => tat t pl == (k : Int)) = true
    ·rw [if_pos hc]; exact ⟨fun _ => hc, fun _ => rfl⟩
    ·rw [if_neg hc]; exact ⟨fun h => by omega, fun h => absurd h hc⟩
   have HS2 : Abs.Hid (∀ k, gF f a pl w.tups k ≤ a + 1) := by
    intro k
    have h2 := hfa k
    unfold gF
    split <;> omega
   rw [hpe] at hPl
   clear hpe hA HA1
   have hpl3 : pl < 3 := by omega
   have hneg : ((pl : Int) == -1) = false := by simp
   have htl := tcs_len hb3
   repeat' (first
 |with_reducible first|apply Xa|apply Xb|(refine Xc ?_;intro κ hκ)|(apply hκ.out;clear hκ κ)|apply Xd|apply Xe|apply Xf
 |((with_reducible first|refine Xl ?_ ?_|refine Xk ?_ ?_)<;> intro h hari<;> try exact Xp)
 |((with_reducible refine aapp_go ?_);refine Xt ?_;intro idn σn hOn hKn eobj enobj ever entop)
 |((with_reducible refine aappn_go ?_);refine Xu ?_)
 |((with_reducible refine Xh ?_);refine Xi (hPl _) ?_;rintro _ _ ⟨rfl,hK2⟩;(have kno2:=hK2.nobj;have kob2:=hK2.obj;have hKx:=hK1.trans hK2;simp only [put_nobj,new_nobj] at kno2 kob2))
 |refine Xr ?_
 |exact True.intro
 |(apply hκ.out;clear hκ κ))
   rename_i σ1
   have p0 : σ1.obj σ.nobj = [ic q.head.p, sl ih q.head.ts.length (ecells q.head.ts), sl ip q.parts.length pc, sl inn q.nots.length nc] := by rw [kob2 _ (by omega), put_ne (by omega), new_lt (by omega), ob0]
   have p1 : σ1.obj (σ.nobj + 1) = [ic 0, nilS, nilS, nilS] := by rw [kob2 _ (by omega), put_ne (by omega), new_lt (by omega), ob1]
   have p2 : σ1.obj (σ.nobj + 2) = ncells f := by rw [kob2 _ (by omega), put_ne (by omega), new_lt (by omega), ob2]
   clear kob2 hK2
   refine awp_loop (fun m s σ'' => ∃ (j : Nat) (g : Nat → Nat), m = w.tups.length - j ∧ j ≤ w.tups.length ∧ s 1 = ic v ∧ s 2 = ptr σ.nobj 0 ∧ s 4 = ptr (σ.nobj + 1) 0 ∧ s 5 = ptr (σ.nobj + 2) 0 ∧ s 6 = ic a ∧ s 9 = ic pl ∧ s 20 = sl ip q.parts.length pc ∧ s 21 = ic q.parts.length ∧ s 22 = ic i ∧ s 33 = sl idt w.tups.length (tcs w.tups) ∧ s 34 = ic w.tups.length ∧ s 35 = ic j ∧ Keep σ σ'' ∧ σ.nobj + 2 < σ''.nobj ∧ σ''.obj σ.nobj = [ic q.head.p, sl ih q.head.ts.length (ecells q.head.ts), sl ip q.parts.length pc, sl inn q.nots.length nc] ∧ σ''.obj (σ.nobj + 1) = [ic 0, nilS, nilS, nilS] ∧ σ''.obj (σ.nobj + 2) = ncells g ∧ (∀ k, g k ≤ a + 1) ∧ Abs.Hid (g = gF f a pl (w.tups.take j))) w.tups.length
    ⟨0, f, by omega, by omega, by simp [upd, *], by simp [upd, *], by simp [upd, *], by simp [upd, *], by simp [upd, *], by simp [upd], by simp [upd, *], by simp [upd, *], by simp [upd, *], by simp [upd], by simp [upd], rfl, hKx, by omega, p0, p1, p2, fun k => by have := hfa k; omega, by simp [Abs.Hid, gF_nil]⟩ ?_
   clear p0 p1 p2 h1 h2 h4 h5 h6 h20 h21 h22 hK hno ob0 ob1 ob2 kno hKx hK1
   rintro m s σ'' ⟨j, g, rfl, hj, h1, h2, h4, h5, h6, h9, h20, h21, h22, h33, h34, h35, hK, hno, ob0, ob1, ob2, hga, hX⟩
   have kno := hK.nobj
   by_cases hlt2 : j < w.tups.length
   ·have hget := List.getElem?_eq_getElem hlt2
    obtain ⟨ht3, r2, hd2⟩ := tcs_get3 hb3 hget
    obtain ⟨x, hti, hx⟩ := hb4 _ (List.getElem_mem hlt2) pl hpl'
    generalize w.tups[j] = t at hd2 hget ht3 hti
    have hgi := i3_get hti
    have HG : Abs.Hid (gF f a pl (w.tups.take (j + 1)) = fun k => if k = x ∧ g x = a then a + 1 else g k) := by
     have hta : tat t pl = (x : Int) := by simp [tat, hti]
     rw [Abs.Hid, List.take_add_one, hget, Option.toList_some, gF_step hta, hX.out]
    clear hget hti hX
    have f1 := i3_len ht3
    have f2 := i3_take ht3
    have f3 := i3_take0 ht3
    have f4 := i3_lsp ht3
    have f5 := icells_flat t
    have f6 := i3_le ht3
    have g1 := ncells_get g hx
    have g2 := ncells_set g hx (a + 1)
    have g3 := ncells_len g
    by_cases hm : g x = a
    ·have HX : Abs.Hid ((fun k => if k = x then a + 1 else g k) = gF f a pl (w.tups.take (j + 1))) := by
      rw [Abs.Hid, HG.out]; funext k; simp [hm]
     have hb : ((g x : Int) == (a : Int)) = true := by simp [hm]
     rw [hm] at g1
     have hcast : ((a + 1 : Nat) : Int) = (a : Int) + 1 := by omega
     rw [hcast] at g2
     clear hcast HG
     repeat' (first
 |with_reducible first|apply Xa|apply Xb|(refine Xc ?_;intro κ hκ)|(apply hκ.out;clear hκ κ)|apply Xd|apply Xe|apply Xf
 |((with_reducible first|refine Xl ?_ ?_|refine Xk ?_ ?_)<;> intro h hari<;> try exact Xp)
 |((with_reducible refine aapp_go ?_);refine Xt ?_;intro idn σn hOn hKn eobj enobj ever entop)
 |((with_reducible refine aappn_go ?_);refine Xu ?_)
 |refine Xr ?_
 |exact True.intro
 |(apply hκ.out;clear hκ κ))
     refine ⟨w.tups.length - (j + 1), by omega, j + 1, fun k => if k = x then a + 1 else g k, ?_⟩
     ((repeat' with_reducible refine And.intro ?_ ?_)<;> first|exact Xq|exact (HX)|exact (fun k => by have := hga k; dsimp only; split <;> omega)|exact Xs)
    ·have HX : Abs.Hid (g = gF f a pl (w.tups.take (j + 1))) := by
      rw [Abs.Hid, HG.out]; funext k; simp [hm]
     have hb : ((g x : Int) == (a : Int)) = false := by simp; omega
     clear HG hm g2
     repeat' (first
 |with_reducible first|apply Xa|apply Xb|(refine Xc ?_;intro κ hκ)|(apply hκ.out;clear hκ κ)|apply Xd|apply Xe|apply Xf
 |((with_reducible first|refine Xl ?_ ?_|refine Xk ?_ ?_)<;> intro h hari<;> try exact Xp)
 |((with_reducible refine aapp_go ?_);refine Xt ?_;intro idn σn hOn hKn eobj enobj ever entop)
 |((with_reducible refine aappn_go ?_);refine Xu ?_)
 |refine Xr ?_
 |exact True.intro
 |(apply hκ.out;clear hκ κ))
     refine ⟨w.tups.length - (j + 1), by omega, j + 1, g, ?_⟩
     ((repeat' with_reducible refine And.intro ?_ ?_)<;> first|exact Xq|exact (HX)|exact Xs)
   ·have hjl : j = w.tups.length := by omega
    subst hjl
    have hX := hX.out
    rw [List.take_length] at hX
    subst hX
    repeat' (first
 |with_reducible first|apply Xa|apply Xb|(refine Xc ?_;intro κ hκ)|(apply hκ.out;clear hκ κ)|apply Xd|apply Xe|apply Xf
 |((with_reducible first|refine Xl ?_ ?_|refine Xk ?_ ?_)<;> intro h hari<;> try exact Xp)
 |((with_reducible refine aapp_go ?_);refine Xt ?_;intro idn σn hOn hKn eobj enobj ever entop)
 |((with_reducible refine aappn_go ?_);refine Xu ?_)
 |refine Xr ?_
 |exact True.intro
 |(apply hκ.out;clear hκ κ))
    refine ⟨q.parts.length - (i + 1), by omega, i + 1, a + 1, gF f a pl w.tups, ?_⟩
    ((repeat' with_reducible refine And.intro ?_ ?_)<;> first|exact Xq|exact (HS)|exact (HS2.out)|exact Xs)
 ·have hil : i = q.parts.length := by omega
  subst hil
  rw [List.take_length] at hA
  clear hi
  repeat' (first
 |with_reducible first|apply Xa|apply Xb|(refine Xc ?_;intro κ hκ)|(apply hκ.out;clear hκ κ)|apply Xd|apply Xe|apply Xf
 |((with_reducible first|refine Xl ?_ ?_|refine Xk ?_ ?_)<;> intro h hari<;> try exact Xp)
 |((with_reducible refine aapp_go ?_);refine Xt ?_;intro idn σn hOn hKn eobj enobj ever entop)
 |((with_reducible refine aappn_go ?_);refine Xu ?_)
 |refine Xr ?_
 |exact True.intro
 |(apply hκ.out;clear hκ κ))
  refine awp_loop (fun m s σ2 => ∃ (k i3 : Nat) (xs : List AV), m = q.parts.length - k ∧ k ≤ q.parts.length ∧ s 1 = ic v ∧ s 4 = ptr (σ.nobj + 1) 0 ∧ s 5 = ptr (σ.nobj + 2) 0 ∧ s 6 = ic a ∧ s 12 = ptr σ'.nobj 0 ∧ s 63 = sl ip q.parts.length pc ∧ s 64 = ic q.parts.length ∧ s 65 = ic k ∧ Keep σ σ2 ∧ σ'.nobj < σ2.nobj ∧ σ2.obj (σ.nobj + 1) = [ic 0, nilS, nilS, nilS] ∧ σ2.obj (σ.nobj + 2) = ncells f ∧ σ2.obj σ'.nobj = [ic q.head.p, sl ih q.head.ts.length (ecells q.head.ts), sl i3 k xs, sl inn q.nots.length nc] ∧ Own σ σ2 i3 k ∧ xs.length = k * 3 ∧ Abs.Hid (EL EPt ((q.parts.take k).map (narP q.parts v)) xs)) q.parts.length
   ⟨0, 1, [], by omega, by omega, by simp [upd, *], by simp [upd, *], by simp [upd, *], by simp [upd, *], by simp [upd], by simp [upd], by simp [upd], rfl, (hK.new _).put hK.nobj _, by simp only [put_nobj, new_nobj]; omega, ?_, ?_, ?_, Own.nil _ _, by simp, by simp [Abs.Hid, EL]⟩ ?_
  ·rw [put_ne (by omega), new_lt (by omega), ob1]
  ·rw [put_ne (by omega), new_lt (by omega), ob2]
  ·rw [put_same]
  have h012 := hno
  clear h1 h2 h4 h5 h6 h20 h21 h22 hlt ob0 ob1 ob2 hno hK
  generalize hO12 : σ'.nobj = o12 at *
  clear hO12
  rintro m s σ2 ⟨k, i3, xs, rfl, hk, h1, h4, h5, h6, h12, h63, h64, h65, hK, hno, ob1, ob2, ob3, hO, hxl, hX⟩
  have kno2 := hK.nobj
  by_cases hlt : k < q.parts.length
  ·have hget := List.getElem?_eq_getElem hlt
   obtain ⟨id, idt, r, hd⟩ := EPt_get hP hget
   have hb1 := hq.pa _ (List.getElem_mem hlt)
   have hb2 := hq.pt _ (List.getElem_mem hlt)
   have hb3 := hq.p3 _ (List.getElem_mem hlt)
   have hb4 := hN _ (List.getElem_mem hlt)
   generalize q.parts[k] = w at hd hget hb1 hb2 hb3 hb4
   have hn1 : w.a.ts.length ≤ 1000 := by omega
   have hPl := fun σ => eplace_spec w.a.p id w.a.ts v hn1 σ
   have hK1 : Keep σ ((σ2.new [ic 0, nilS, nilS]).put σ2.nobj [ic w.a.p, sl id w.a.ts.length (ecells w.a.ts), sl idt w.tups.length (tcs w.tups)]) := (hK.new _).put hK.nobj _
   have HM : Abs.Hid ((q.parts.take (k + 1)).map (narP q.parts v) = (q.parts.take k).map (narP q.parts v) ++ [narP q.parts v w]) := by
    rw [Abs.Hid, List.take_add_one, hget]; simp
   clear hget
   cases hv : hasV w.a.ts v with
   | false =>
    have hp : eplc w.a.ts v = -1 := plc_none (by simpa [hasV] using hv)
    have HX : Abs.Hid (EL EPt ((q.parts.take (k + 1)).map (narP q.parts v)) (xs ++ [ic w.a.p, sl id w.a.ts.length (ecells w.a.ts), sl idt w.tups.length (tcs w.tups)])) := by
     rw [Abs.Hid, HM.out]
     refine EL.append hX.out (EL.single ?_)
     rw [narP, if_neg (by rw [hv]; simp)]
     exact ⟨id, idt, rfl⟩
    rw [hp] at hPl
    clear hp HM hX
    repeat' (first
 |with_reducible first|apply Xa|apply Xb|(refine Xc ?_;intro κ hκ)|(apply hκ.out;clear hκ κ)|apply Xd|apply Xe|apply Xf
 |((with_reducible first|refine Xl ?_ ?_|refine Xk ?_ ?_)<;> intro h hari<;> try exact Xp)
 |((with_reducible refine aapp_go ?_);refine Xt ?_;intro idn σn hOn hKn eobj enobj ever entop)
 |((with_reducible refine aappn_go ?_);refine Xu ?_)
 |((with_reducible refine Xh ?_);refine Xi (hPl _) ?_;rintro _ _ ⟨rfl,hK2⟩;(have kno3:=hK2.nobj;have kob2:=hK2.obj;have hKx:=hK1.trans hK2;have hOx:=Own.keep (Own.put (Own.new hO _) _ _) hK2;simp only [put_nobj,new_nobj] at kno3 kob2))
 |refine Xr ?_
 |exact True.intro
 |(apply hκ.out;clear hκ κ))
    refine ⟨q.parts.length - (k + 1), by omega, k + 1, idn, xs ++ [ic w.a.p, sl id w.a.ts.length (ecells w.a.ts), sl idt w.tups.length (tcs w.tups)], ?_⟩
    ((repeat' with_reducible refine And.intro ?_ ?_)<;> first|exact Xq|exact (hKn.put (by omega) _)|exact (Own.put hOn _ _)|exact (HX)|exact Xs)
   | true =>
    obtain ⟨pl, hpl', hpe⟩ := plc_bound hv
    have HNP : Abs.Hid (narP q.parts v w = ⟨w.a, w.tups.filter fun t => allHave q.parts v (tat t pl)⟩) := by rw [Abs.Hid, narP, if_pos hv, hpe]
    rw [hpe] at hPl
    clear hpe
    have hpl3 : pl < 3 := by omega
    have hneg : ((pl : Int) == -1) = false := by simp
    have htl := tcs_len hb3
    have hX0 : Abs.Hid _ := hX
    repeat' (first
 |with_reducible first|apply Xa|apply Xb|(refine Xc ?_;intro κ hκ)|(apply hκ.out;clear hκ κ)|apply Xd|apply Xe|apply Xf
 |((with_reducible first|refine Xl ?_ ?_|refine Xk ?_ ?_)<;> intro h hari<;> try exact Xp)
 |((with_reducible refine aapp_go ?_);refine Xt ?_;intro idn σn hOn hKn eobj enobj ever entop)
 |((with_reducible refine aappn_go ?_);refine Xu ?_)
 |((with_reducible refine Xh ?_);refine Xi (hPl _) ?_;rintro _ _ ⟨rfl,hK2⟩;(have kno3:=hK2.nobj;have kob2:=hK2.obj;have hKx:=hK1.trans hK2;have hOx:=Own.keep (Own.put (Own.new hO _) _ _) hK2;simp only [put_nobj,new_nobj] at kno3 kob2))
 |refine Xr ?_
 |exact True.intro
 |(apply hκ.out;clear hκ κ))
    rename_i σ3
    have p1 : σ3.obj (σ.nobj + 1) = [ic 0, nilS, nilS, nilS] := by rw [kob2 _ (by omega), put_ne (by omega), new_lt (by omega), ob1]
    have p2 : σ3.obj (σ.nobj + 2) = ncells f := by rw [kob2 _ (by omega), put_ne (by omega), new_lt (by omega), ob2]
    have p3 : σ3.obj o12 = [ic q.head.p, sl ih q.head.ts.length (ecells q.head.ts), sl i3 k xs, sl inn q.nots.length nc] := by rw [kob2 _ (by omega), put_ne (by omega), new_lt (by omega), ob3]
    clear kob2 hK2
    refine awp_loop (fun m s σ4 => ∃ (j i5 : Nat) (o : List Tup) (ys : List AV), m = w.tups.length - j ∧ j ≤ w.tups.length ∧ s 1 = ic v ∧ s 4 = ptr (σ.nobj + 1) 0 ∧ s 5 = ptr (σ.nobj + 2) 0 ∧ s 6 = ic a ∧ s 12 = ptr o12 0 ∧ s 15 = ic pl ∧ s 16 = ptr σ3.nobj 0 ∧ s 63 = sl ip q.parts.length pc ∧ s 64 = ic q.parts.length ∧ s 65 = ic k ∧ s 85 = sl idt w.tups.length (tcs w.tups) ∧ s 86 = ic w.tups.length ∧ s 87 = ic j ∧ Keep σ σ4 ∧ σ3.nobj < σ4.nobj ∧ σ4.obj (σ.nobj + 1) = [ic 0, nilS, nilS, nilS] ∧ σ4.obj (σ.nobj + 2) = ncells f ∧ σ4.obj o12 = [ic q.head.p, sl ih q.head.ts.length (ecells q.head.ts), sl i3 k xs, sl inn q.nots.length nc] ∧ σ4.obj σ3.nobj = [ic w.a.p, sl id w.a.ts.length (ecells w.a.ts), sl i5 o.length ys] ∧ Own σ σ4 i3 k ∧ Own σ σ4 i5 o.length ∧ (i5 = 1 ∨ i5 ≠ i3) ∧ o.length ≤ j ∧ ys.length = o.length * 3 ∧ Abs.Hid (ys = tcs o ∧ o = (w.tups.take j).filter fun t => allHave q.parts v (tat t pl))) w.tups.length
     ⟨0, 1, [], [], by omega, by omega, by simp [upd, *], by simp [upd, *], by simp [upd, *], by simp [upd, *], by simp [upd, *], by simp [upd], by simp [upd], by simp [upd, *], by simp [upd, *], by simp [upd, *], by simp [upd], by simp [upd], rfl, (hKx.new _).put (by omega) _, by simp only [put_nobj, new_nobj]; omega, ?_, ?_, ?_, ?_, Own.put (Own.new hOx _) _ _, Own.nil _ _, .inl rfl, by simp, by simp, ⟨rfl, by simp⟩⟩ ?_
    ·rw [put_ne (by omega), new_lt (by omega), p1]
    ·rw [put_ne (by omega), new_lt (by omega), p2]
    ·rw [put_ne (by omega), new_lt (by omega), p3]
    ·rw [put_same]; simp
    have h03 : o12 < σ3.nobj := by omega
    clear p1 p2 p3 h1 h4 h5 h6 h12 h63 h64 h65 hK hno ob1 ob2 ob3 hO hOx hKx hK1 hX kno2
    rintro m s σ4 ⟨j, i5, o, ys, rfl, hj, h1, h4, h5, h6, h12, h15, h16, h63, h64, h65, h85, h86, h87, hK, hno, ob1, ob2, ob3, ob4, hO3, hO, hne, hol, hyl, hX⟩
    have kno4 := hK.nobj
    by_cases hlt2 : j < w.tups.length
    ·have hget := List.getElem?_eq_getElem hlt2
     obtain ⟨ht3, r2, hd2⟩ := tcs_get3 hb3 hget
     obtain ⟨x, hti, hx⟩ := hb4 _ (List.getElem_mem hlt2) pl hpl'
     generalize w.tups[j] = t at hd2 hget ht3 hti
     have hgi := i3_get hti
     have HF : Abs.Hid ((w.tups.take (j + 1)).filter (fun t => allHave q.parts v (tat t pl)) = (w.tups.take j).filter (fun t => allHave q.parts v (tat t pl)) ++ if f x = a then [t] else []) := by
      have hta : tat t pl = (x : Int) := by simp [tat, hti]
      rw [Abs.Hid, List.take_add_one, hget, Option.toList_some, filter_snoc, hta]
      congr 1
      have h1 := hA.out x
      by_cases e : f x = a
      ·rw [if_pos e, if_pos (h1.1 e)]
      ·rw [if_neg e, if_neg (fun h => e (h1.2 h))]
     clear hget hti
     have f1 := i3_len ht3
     have f2 := i3_take ht3
     have f3 := i3_take0 ht3
     have f4 := i3_lsp ht3
     have f5 := icells_flat t
     have f6 := i3_le ht3
     have g1 := ncells_get f hx
     have g3 := ncells_len f
     have hfx := hfa x
     by_cases hm : f x = a
     ·have HX : Abs.Hid (ys ++ icells t = tcs (o ++ [t]) ∧ o ++ [t] = (w.tups.take (j + 1)).filter fun t => allHave q.parts v (tat t pl)) := by
       obtain ⟨x1, x2⟩ := hX.out
       exact ⟨by rw [x1, tcs_snoc], by rw [HF.out, if_pos hm, x2]⟩
      have hb : ((f x : Int) == (a : Int)) = true := by simp [hm]
      clear hX HF hm
      repeat' (first
 |with_reducible first|apply Xa|apply Xb|(refine Xc ?_;intro κ hκ)|(apply hκ.out;clear hκ κ)|apply Xd|apply Xe|apply Xf
 |((with_reducible first|refine Xl ?_ ?_|refine Xk ?_ ?_)<;> intro h hari<;> try exact Xp)
 |((with_reducible refine aapp_go ?_);refine Xt ?_;intro idn σn hOn hKn eobj enobj ever entop)
 |((with_reducible refine aappn_go ?_);refine Xu ?_)
 |refine Xr ?_
 |exact True.intro
 |(apply hκ.out;clear hκ κ))
      refine aApp_two (by first | exact tez_122 | exact tez_180) ((hK.new _).put hK.nobj _) (Own.put (Own.new hO _) _ _) (by decide) (by rfl) hyl (by rw [f1]) f5 (by decide) (by omega) (by omega) ?_
      intro idn σn hOn hKn eobj enobj ever entop hoth
      obtain ⟨hO3n, hne2⟩ := hoth i3 k (Own.put (Own.new hO3 _) _ _) hne
      simp only [put_nobj, new_nobj] at enobj
      have eob : ∀ p, p < σ4.nobj → σn.obj p = σ4.obj p := fun p hp => by rw [eobj, put_ne (by omega), new_lt (by omega)]
      refine Xr ?_
      repeat' (first
 |with_reducible first|apply Xa|apply Xb|(refine Xc ?_;intro κ hκ)|(apply hκ.out;clear hκ κ)|apply Xd|apply Xe|apply Xf
 |((with_reducible first|refine Xl ?_ ?_|refine Xk ?_ ?_)<;> intro h hari<;> try exact Xp)
 |((with_reducible refine aapp_go ?_);refine Xt ?_;intro idn σn hOn hKn eobj enobj ever entop)
 |((with_reducible refine aappn_go ?_);refine Xu ?_)
 |refine Xr ?_
 |exact True.intro
 |(apply hκ.out;clear hκ κ))
      refine ⟨w.tups.length - (j + 1), by omega, j + 1, idn, o ++ [t], ys ++ icells t, ?_⟩
      ((repeat' with_reducible refine And.intro ?_ ?_)<;> first|exact Xq|exact (hKn.put (by omega) _)|exact (by simpa using Own.put hOn _ _)|exact (Own.put hO3n _ _)|exact (HX)|exact Xs)
     ·have HX : Abs.Hid (ys = tcs o ∧ o = (w.tups.take (j + 1)).filter fun t => allHave q.parts v (tat t pl)) := by
       obtain ⟨x1, x2⟩ := hX.out
       exact ⟨x1, by rw [HF.out, if_neg hm, x2, List.append_nil]⟩
      have hb : ((f x : Int) == (a : Int)) = false := by simp; omega
      clear hX HF hm
      repeat' (first
 |with_reducible first|apply Xa|apply Xb|(refine Xc ?_;intro κ hκ)|(apply hκ.out;clear hκ κ)|apply Xd|apply Xe|apply Xf
 |((with_reducible first|refine Xl ?_ ?_|refine Xk ?_ ?_)<;> intro h hari<;> try exact Xp)
 |((with_reducible refine aapp_go ?_);refine Xt ?_;intro idn σn hOn hKn eobj enobj ever entop)
 |((with_reducible refine aappn_go ?_);refine Xu ?_)
 |refine Xr ?_
 |exact True.intro
 |(apply hκ.out;clear hκ κ))
      refine ⟨w.tups.length - (j + 1), by omega, j + 1, i5, o, ys, ?_⟩
      ((repeat' with_reducible refine And.intro ?_ ?_)<;> first|exact Xq|exact (Own.put (Own.new hO _) _ _)|exact (Own.put (Own.new hO3 _) _ _)|exact (HX)|exact Xs)
    ·have hjl : j = w.tups.length := by omega
     subst hjl
     obtain ⟨x1, x2⟩ := hX.out
     rw [List.take_length] at x2
     have HX : Abs.Hid (EL EPt ((q.parts.take (k + 1)).map (narP q.parts v)) (xs ++ [ic w.a.p, sl id w.a.ts.length (ecells w.a.ts), sl i5 o.length ys])) := by
      rw [Abs.Hid, HM.out]
      refine EL.append hX0.out (EL.single ?_)
      rw [HNP.out, ← x2]
      exact ⟨id, i5, by rw [x1]⟩
     clear hX x1 x2
     repeat' (first
 |with_reducible first|apply Xa|apply Xb|(refine Xc ?_;intro κ hκ)|(apply hκ.out;clear hκ κ)|apply Xd|apply Xe|apply Xf
 |((with_reducible first|refine Xl ?_ ?_|refine Xk ?_ ?_)<;> intro h hari<;> try exact Xp)
 |((with_reducible refine aapp_go ?_);refine Xt ?_;intro idn σn hOn hKn eobj enobj ever entop)
 |((with_reducible refine aappn_go ?_);refine Xu ?_)
 |refine Xr ?_
 |exact True.intro
 |(apply hκ.out;clear hκ κ))
     refine ⟨q.parts.length - (k + 1), by omega, k + 1, idn, xs ++ [ic w.a.p, sl id w.a.ts.length (ecells w.a.ts), sl i5 o.length ys], ?_⟩
     ((repeat' with_reducible refine And.intro ?_ ?_)<;> first|exact Xq|exact (hKn.put (by omega) _)|exact (Own.put hOn _ _)|exact (HX)|exact Xs)
  ·have hkl : k = q.parts.length := by omega
   subst hkl
   rw [List.take_length] at hX
   have hL1 : (q.parts.map (narP q.parts v)).length = q.parts.length := by rw [List.length_map]
   repeat' (first
 |with_reducible first|apply Xa|apply Xb|(refine Xc ?_;intro κ hκ)|(apply hκ.out;clear hκ κ)|apply Xd|apply Xe|apply Xf
 |((with_reducible first|refine Xl ?_ ?_|refine Xk ?_ ?_)<;> intro h hari<;> try exact Xp)
 |((with_reducible refine aapp_go ?_);refine Xt ?_;intro idn σn hOn hKn eobj enobj ever entop)
 |((with_reducible refine aappn_go ?_);refine Xu ?_)
 |refine Xr ?_
 |exact True.intro
 |(apply hκ.out;clear hκ κ))
   exact ⟨_, rfl, ⟨_, rfl, ih, i3, inn, xs, nc, by simp only [narBy]; rw [hL1], hX.out, hNn⟩, hK.put (by omega) _⟩
end Go.Proofs.YtmoeoppbmhfbpaaGreatDoorB
