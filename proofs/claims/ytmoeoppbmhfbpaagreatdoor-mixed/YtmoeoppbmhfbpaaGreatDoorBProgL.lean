import Derived.Test.YtmoeoppbmhfbpaaGreatDoorBProgK
import Derived.Test.YtmoeoppbmhfbpaaGreatDoorBGramD
/- The program: atoms of an item, and whether it is safe. -/
namespace Go.Proofs.YtmoeoppbmhfbpaaGreatDoorB
open Go.Abs
set_option linter.unusedSimpArgs false
set_option linter.unusedVariables false
set_option maxRecDepth 100000
def PC (N : List Tx) (a : RAtom) (c : List AV) : Prop := a.pred ∈ N ∧ ∃ ids, c = [sc (.int .i64 (N.idxOf a.pred : Nat)), sl ids a.terms.length (tcells a.terms)]
theorem PC_len {N : List Tx} (a : RAtom) (c : List AV) (h : PC N a c) : c.length = 2 := by obtain ⟨-, ids, rfl⟩ := h; rfl
theorem EL_PL {N : List Tx} {l : List RAtom} {cs : List AV} {i : Nat} {a : RAtom} (h : EL (PL N) l cs) (hi : l[i]? = some a) : a.pred ∈ N ∧ ∃ ia r, cs.drop (i * 3) = sc (.bool a.nt) :: sc (.int .i64 (N.idxOf a.pred : Nat)) :: sl ia a.terms.length (tcells a.terms) :: r := by
 obtain ⟨c, r, ⟨hm, ia, rfl⟩, e⟩ := EL.get PL_len h hi
 exact ⟨hm, ia, r, e⟩
theorem EL_PC {N : List Tx} {l : List RAtom} {cs : List AV} {i : Nat} {a : RAtom} (h : EL (PC N) l cs) (hi : l[i]? = some a) : a.pred ∈ N ∧ ∃ ia r, cs.drop (i * 2) = sc (.int .i64 (N.idxOf a.pred : Nat)) :: sl ia a.terms.length (tcells a.terms) :: r := by
 obtain ⟨c, r, ⟨hm, ia, rfl⟩, e⟩ := EL.get PC_len h hi
 exact ⟨hm, ia, r, e⟩
theorem EL_PI {N : List Tx} {l : List RItem} {cs : List AV} {i : Nat} {x : RItem} (h : EL (PI N) l cs) (hi : l[i]? = some x) : x.head.pred ∈ N ∧ ∃ ih id b r, EL (PL N) x.body b ∧ cs.drop (i * 4) = sc (.bool x.out) :: sc (.int .i64 (N.idxOf x.head.pred : Nat)) :: sl ih x.head.terms.length (tcells x.head.terms) :: sl id x.body.length b :: r := by
 obtain ⟨c, r, ⟨hm, ih, id, b, hb, rfl⟩, e⟩ := EL.get PI_len h hi
 exact ⟨hm, ih, id, b, r, hb, e⟩
theorem PC_plain {N : List Tx} {l : List RAtom} {cs : List AV} (h : EL (PC N) l cs) : ∀ c ∈ cs, Plain c := by
 induction l generalizing cs with
 | nil => have h : cs = [] := h; subst h; simp
 | cons a l ih =>
  obtain ⟨c1, c2, ⟨-, ids, rfl⟩, h2, rfl⟩ := h
  intro c hc
  rcases List.mem_append.1 hc with hc | hc
  ·simp only [List.mem_cons, List.not_mem_nil, or_false] at hc
   rcases hc with rfl | rfl
   ·exact .inl ⟨_, rfl⟩
   ·refine .inr ⟨_, _, _, rfl, fun x hx => ?_⟩
    simp only [tcells, List.mem_flatMap, tcell, List.mem_cons, List.not_mem_nil, or_false] at hx
    obtain ⟨w, -, rfl | rfl⟩ := hx <;> exact ⟨_, rfl⟩
  ·exact ih h2 c hc
theorem set_two {xs ys : List AV} {n : Nat} {u v a b : AV} (hn : xs.length = n) : ((xs ++ u :: v :: ys).set n a).set (n + 1) b = xs ++ a :: b :: ys := by
 subst hn
 rw [List.set_append_right _ _ (Nat.le_refl _), Nat.sub_self, List.set_cons_zero, List.set_append_right _ _ (by omega), Nat.add_sub_cancel_left, List.set_cons_succ, List.set_cons_zero]
theorem rep_two {m : Nat} (h : 0 < m) (u v : AV) : (List.replicate m [u, v]).flatten = u :: v :: (List.replicate (m - 1) [u, v]).flatten := by
 obtain ⟨k, rfl⟩ : ∃ k, m = k + 1 := ⟨m - 1, by omega⟩
 rw [List.replicate_succ]; rfl
set_option maxHeartbeats 16000000 in
theorem patoms_ok (N : List Tx) (x : RItem) (c : List AV) (hc : PI N x c) (hout : x.out = false) (hn : x.body.length ≤ 1000) (σ : St) : ACalls Tryz.prog 112 [ag c] σ fun r σ' => ∃ (o n : Nat) (cs : List AV), r = fx o 0 n ∧ σ.nobj ≤ o ∧ σ'.obj o = cs ∧ Keep σ σ' ∧ (∀ c ∈ cs, Plain c) ∧ (n = (atomsL x).length ∧ EL (PC N) (atomsL x) cs) := by
 obtain ⟨hm, ih, id, b, hb, rfl⟩ := hc
 have hbl := EL.length PL_len hb
 refine acalls 33 [.tmp 2] Tryz.func112 rfl (by decide) rfl rfl (Nat.le_of_ble_eq_true rfl) ?_
 repeat' (first
 |with_reducible first|apply Xa|apply Xb|(refine Xc ?_;intro κ hκ)|(apply hκ.out;clear hκ κ)|apply Xd|apply Xe|apply Xf
 |((with_reducible first|refine Xl ?_ ?_|refine Xk ?_ ?_)<;> intro h hari<;> try exact Xp)
 |refine Xr ?_
 |exact True.intro
 |(apply hκ.out;clear hκ κ))
 have hK0 : Keep σ (σ.new [sc (.bool false), sc (.int .i64 (N.idxOf x.head.pred : Nat)), sl ih x.head.terms.length (tcells x.head.terms), sl id x.body.length b]) := (Keep.refl _).new _
 have hto : ((x.body.length : Int) + 1).toNat = x.body.length + 1 := by omega
 refine awp_loop (fun m s σ' => ∃ (k : Nat) (cur : List AV), m = x.body.length - k ∧ k ≤ x.body.length ∧ s 3 = fx (σ.nobj + 1) 0 (x.body.length + 1) ∧ s 18 = sl id x.body.length b ∧ s 19 = sc (.int .i64 x.body.length) ∧ s 20 = sc (.int .i64 k) ∧ Keep σ σ' ∧ σ.nobj + 1 < σ'.nobj ∧ σ'.obj (σ.nobj + 1) = cur ∧ cur.length = (x.body.length + 1) * 2 ∧ Abs.Hid (∃ xs, cur = xs ++ (List.replicate (x.body.length - k) [sc (.int .i64 0), nilS]).flatten ∧ xs.length = (1 + k) * 2 ∧ EL (PC N) (x.head :: x.body.take k) xs)) x.body.length
  ⟨0, _, by omega, by omega, by simp [upd, hto], by simp [upd], by simp [upd], rfl, (hK0.new _).put (by omega) _, by simp only [put_nobj, new_nobj]; omega, put_same, by simp [hto], [sc (.int .i64 (N.idxOf x.head.pred : Nat)), sl ih x.head.terms.length (tcells x.head.terms)], ?_, by simp, EL.single ⟨hm, ih, rfl⟩⟩ ?_
 ·rw [hto, rep_two (by omega)]
  rfl
 clear hK0
 rintro m s σ' ⟨k, cur, rfl, hk, h3, h18, h19, h20, hK, hno, hob, hcl, hE⟩
 have kno := hK.nobj
 by_cases hlt : k < x.body.length
 ·have hget := List.getElem?_eq_getElem hlt
  obtain ⟨ha, ia, r, hd⟩ := EL_PL hb hget
  generalize x.body[k] = a at hd hget ha
  have HG : Abs.Hid (x.body[k]? = some a) := hget
  clear hget
  have ht1 : ((k : Int) + 1).toNat = k + 1 := by omega
  repeat' (first
 |with_reducible first|apply Xa|apply Xb|(refine Xc ?_;intro κ hκ)|(apply hκ.out;clear hκ κ)|apply Xd|apply Xe|apply Xf
 |((with_reducible first|refine Xl ?_ ?_|refine Xk ?_ ?_)<;> intro h hari<;> try exact Xp)
 |refine Xr ?_
 |exact True.intro
 |(apply hκ.out;clear hκ κ))
  have HN : Abs.Hid (∃ xs, (cur.set ((k + 1) * 2) (sc (.int .i64 (N.idxOf a.pred : Nat)))).set ((k + 1) * 2 + 1) (sl ia a.terms.length (tcells a.terms)) = xs ++ (List.replicate (x.body.length - (k + 1)) [sc (.int .i64 0), nilS]).flatten ∧ xs.length = (1 + (k + 1)) * 2 ∧ EL (PC N) (x.head :: x.body.take (k + 1)) xs) := by
   obtain ⟨xs, e1, e2, e3⟩ := hE.out
   refine ⟨xs ++ [sc (.int .i64 (N.idxOf a.pred : Nat)), sl ia a.terms.length (tcells a.terms)], ?_, by simp [e2]; omega, ?_⟩
   ·rw [e1, rep_two (by omega), set_two (by rw [e2]; omega)]
    simp [Nat.sub_sub]
   ·rw [List.take_add_one, HG.out]
    exact EL.append e3 (EL.single ⟨ha, ia, rfl⟩)
  refine ⟨x.body.length - (k + 1), by omega, k + 1, (cur.set ((k + 1) * 2) (sc (.int .i64 (N.idxOf a.pred : Nat)))).set ((k + 1) * 2 + 1) (sl ia a.terms.length (tcells a.terms)), ?_⟩
  ((repeat' with_reducible refine And.intro ?_ ?_)<;> first|exact Xq|exact (((hK.new _).put hK.nobj _).put (by omega) _)|exact (put_same)|exact (HN)|exact (by simp [hcl])|exact Xs)
 ·have hkl : k = x.body.length := by omega
  subst hkl
  obtain ⟨xs, e1, e2, e3⟩ := hE.out
  rw [Nat.sub_self, List.replicate_zero, List.flatten_nil, List.append_nil] at e1
  rw [List.take_length] at e3
  subst e1
  have hat : atomsL x = x.head :: x.body := by simp [atomsL, hout]
  repeat' (first
 |with_reducible first|apply Xa|apply Xb|(refine Xc ?_;intro κ hκ)|(apply hκ.out;clear hκ κ)|apply Xd|apply Xe|apply Xf
 |((with_reducible first|refine Xl ?_ ?_|refine Xk ?_ ?_)<;> intro h hari<;> try exact Xp)
 |refine Xr ?_
 |exact True.intro
 |(apply hκ.out;clear hκ κ))
  exact ⟨_, rfl, σ.nobj + 1, _, cur, rfl, by omega, hob, PC_plain e3, rfl, e3⟩
set_option maxHeartbeats 16000000 in
theorem patoms_nil (N : List Tx) (x : RItem) (c : List AV) (hc : PI N x c) (hout : x.out = true) (σ : St) : ACalls Tryz.prog 112 [ag c] σ fun r σ' => r = nilS ∧ Keep σ σ' := by
 obtain ⟨hm, ih, id, b, hb, rfl⟩ := hc
 refine acalls 33 [.tmp 2] Tryz.func112 rfl (by decide) rfl rfl (Nat.le_of_ble_eq_true rfl) ?_
 repeat' (first
 |with_reducible first|apply Xa|apply Xb|(refine Xc ?_;intro κ hκ)|(apply hκ.out;clear hκ κ)|apply Xd|apply Xe|apply Xf
 |((with_reducible first|refine Xl ?_ ?_|refine Xk ?_ ?_)<;> intro h hari<;> try exact Xp)
 |refine Xr ?_
 |exact True.intro
 |(apply hκ.out;clear hκ κ))
 first
 | exact ⟨_, rfl, rfl, by exact Xs⟩
 | exact ⟨rfl, by exact Xs⟩
theorem patoms_spec (N : List Tx) (x : RItem) (c : List AV) (hc : PI N x c) (ho : x.out = true → x.body = []) (hn : x.body.length ≤ 1000) (σ : St) : ACalls Tryz.prog 112 [ag c] σ fun r σ' => ∃ id cs, r = sl id (atomsL x).length cs ∧ EL (PC N) (atomsL x) cs ∧ Keep σ σ' := by
 by_cases hout : x.out = true
 ·refine (patoms_nil N x c hc hout σ).mono fun r σ' h => ?_
  obtain ⟨rfl, h⟩ := h
  exact ⟨1, [], by simp [atomsL, hout, ho hout], by simp [atomsL, hout, ho hout, EL], h⟩
 ·have hout : x.out = false := by simpa using hout
  refine (ACalls.freeze (patoms_ok N x c hc hout hn σ)).mono fun r σ' h => ?_
  obtain ⟨n, cs, rfl, ⟨rfl, h1⟩, h2⟩ := h
  exact ⟨0, cs, rfl, h1, h2⟩
theorem tcells_get {ts : List Tx} {k : Nat} {w : Tx} (h : ts[k]? = some w) : ∃ r, (tcells ts).drop (k * 2) = sc (.bool (encT w).1) :: sc (.int .i64 (encT w).2) :: r := by
 have hE : ∀ ts : List Tx, EL (fun w c => c = tcell w) ts (tcells ts) := by
  intro ts
  induction ts with
  | nil => rfl
  | cons a l ih => exact ⟨tcell a, tcells l, rfl, ih, by simp [tcells]⟩
 obtain ⟨c, r, rfl, e⟩ := EL.get (z := 2) (fun a c h => by rw [h]; rfl) (hE ts) h
 exact ⟨r, e⟩
theorem no_step {p : Nat → Bool} {i : Nat} (h : ∀ j, j < i → p j = false) (hi : p i = false) : ∀ j, j < i + 1 → p j = false := fun j hj => by
 by_cases e : j = i
 ·rw [e]; exact hi
 ·exact h j (by omega)
def hitT (v : Int) (w : Tx) : Bool := (encT w).1 && (encT w).2 == v
def hitV (a : RAtom) (v : Int) (i : Nat) : Bool := match a.terms[i]? with | some w => hitT v w | none => false
set_option maxHeartbeats 16000000 in
theorem pplace_spec (k : Int) (ids : Nat) (a : RAtom) (v : Int) (hn : a.terms.length ≤ 1000) (σ : St) : ACalls Tryz.prog 210 [ag [sc (.int .i64 k), sl ids a.terms.length (tcells a.terms)], sc (.int .i64 v)] σ fun r σ' => r = sc (.int .i64 (firstN (hitV a v) a.terms.length)) ∧ Keep σ σ' := by
 have htl := tcells_len a.terms
 refine acalls 25 [.tmp 4] Tryz.func210 rfl (by decide) rfl rfl (Nat.le_of_ble_eq_true rfl) ?_
 repeat' (first
 |with_reducible first|apply Xa|apply Xb|(refine Xc ?_;intro κ hκ)|(apply hκ.out;clear hκ κ)|apply Xd|apply Xe|apply Xf
 |((with_reducible first|refine Xl ?_ ?_|refine Xk ?_ ?_)<;> intro h hari<;> try exact Xp)
 |refine Xr ?_
 |exact True.intro
 |(apply hκ.out;clear hκ κ))
 refine awp_loop (fun m s σ' => ∃ i : Nat, m = a.terms.length - i ∧ i ≤ a.terms.length ∧ s 1 = sc (.int .i64 v) ∧ s 8 = sl ids a.terms.length (tcells a.terms) ∧ s 9 = sc (.int .i64 a.terms.length) ∧ s 10 = sc (.int .i64 i) ∧ Keep σ σ' ∧ Abs.Hid (∀ j, j < i → hitV a v j = false)) a.terms.length
  ⟨0, by omega, by omega, rfl, rfl, rfl, rfl, by exact Xs, fun j hj => by omega⟩ ?_
 rintro m s σ' ⟨i, rfl, hi, h1, h8, h9, h10, hK, hno⟩
 by_cases hlt : i < a.terms.length
 ·have hget := List.getElem?_eq_getElem hlt
  obtain ⟨r, hd⟩ := tcells_get hget
  generalize a.terms[i] = w at hd hget
  have hv : Abs.Hid (hitV a v i = hitT v w) := by rw [Abs.Hid, hitV, hget]
  clear hget
  have kno := hK.nobj
  generalize h1w : (encT w).1 = w1 at hd
  generalize h2w : (encT w).2 = w2 at hd
  have hvw : Abs.Hid (hitT v w = (w1 && w2 == v)) := by rw [Abs.Hid, hitT, h1w, h2w]
  clear h1w h2w
  repeat' (first
 |with_reducible first|apply Xa|apply Xb|(refine Xc ?_;intro κ hκ)|(apply hκ.out;clear hκ κ)|apply Xd|apply Xe|apply Xf
 |((with_reducible first|refine Xl ?_ ?_|refine Xk ?_ ?_)<;> intro h hari<;> try exact Xp)
 |refine Xr ?_
 |exact True.intro
 |(apply hκ.out;clear hκ κ))
  ·exact ⟨_, rfl, by rw [firstN_hit hlt (by rw [hv.out, hvw.out]; simp [*]) hno.out], by exact Xs⟩
  all_goals exact ⟨a.terms.length - (i + 1), by omega, i + 1, rfl, by omega, by simp, by exact Xs, no_step hno.out (by rw [hv.out, hvw.out]; simp [*])⟩
 ·have hil : i = a.terms.length := by omega
  subst hil
  repeat' (first
 |with_reducible first|apply Xa|apply Xb|(refine Xc ?_;intro κ hκ)|(apply hκ.out;clear hκ κ)|apply Xd|apply Xe|apply Xf
 |((with_reducible first|refine Xl ?_ ?_|refine Xk ?_ ?_)<;> intro h hari<;> try exact Xp)
 |refine Xr ?_
 |exact True.intro
 |(apply hκ.out;clear hκ κ))
  first | exact ⟨_, rfl, by rw [firstN_none hno.out], hK⟩ | exact ⟨_, rfl, by rw [firstN_none hno.out]⟩
theorem firstN_any {α : Type} (l : List α) (q : α → Bool) (p : Nat → Bool) (hp : ∀ i, p i = match l[i]? with | some w => q w | none => false) : (decide (firstN p l.length ≠ -1)) = l.any q := by
 by_cases h : l.any q = true
 ·rw [h]
  rw [List.any_eq_true] at h
  obtain ⟨w, hw, hq⟩ := h
  obtain ⟨i, hi, he⟩ := List.getElem_of_mem hw
  by_cases hN : firstN p l.length = -1
  ·exfalso
   unfold firstN at hN
   split at hN
   ·omega
   ·rename_i hf
    rw [List.find?_eq_none] at hf
    have := hf i (by simpa using hi)
    rw [hp, List.getElem?_eq_getElem hi, he] at this
    simp [hq] at this
  ·simpa using hN
 ·have h : l.any q = false := by simpa using h
  rw [h, firstN_none (fun i hi => by
   rw [hp, List.getElem?_eq_getElem hi]
   rw [List.any_eq_false] at h
   simpa using h l[i] (List.getElem_mem hi))]
  simp
set_option maxHeartbeats 16000000 in
theorem phas_spec (k : Int) (ids : Nat) (a : RAtom) (v : Int) (hn : a.terms.length ≤ 1000) (σ : St) : ACalls Tryz.prog 199 [ag [sc (.int .i64 k), sl ids a.terms.length (tcells a.terms)], sc (.int .i64 v)] σ fun r σ' => r = sc (.bool (a.terms.any (hitT v))) ∧ Keep σ σ' := by
 have hF := firstN_any a.terms (hitT v) (hitV a v) (fun i => by unfold hitV; cases a.terms[i]? <;> rfl)
 refine acalls 9 [.tmp 4] Tryz.func199 rfl (by decide) rfl rfl (Nat.le_of_ble_eq_true rfl) ?_
 repeat' (first
 |with_reducible first|apply Xa|apply Xb|(refine Xc ?_;intro κ hκ)|(apply hκ.out;clear hκ κ)|apply Xd|apply Xe|apply Xf
 |((with_reducible first|refine Xl ?_ ?_|refine Xk ?_ ?_)<;> intro h hari<;> try exact Xp)
 |((with_reducible refine Xh ?_);refine Xi (pplace_spec _ _ a v hn _) ?_;rintro _ _ ⟨rfl,hK1⟩)
 |refine Xr ?_
 |exact True.intro
 |(apply hκ.out;clear hκ κ))
 refine ⟨_, rfl, ?_, by exact Xs⟩
 rw [← hF, show (firstN (hitV a v) a.terms.length != -1) = decide (firstN (hitV a v) a.terms.length ≠ -1) from by rw [Bool.eq_iff_iff]; simp]
def bindsB (x : RItem) (v : Int) : Bool := x.body.any fun a => !a.nt && a.terms.any (hitT v)
set_option maxHeartbeats 16000000 in
theorem pbinds_spec (N : List Tx) (x : RItem) (c : List AV) (v : Int) (hc : PI N x c) (hx : x.fits) (σ : St) : ACalls Tryz.prog 161 [ag c, sc (.int .i64 v)] σ fun r σ' => r = sc (.bool (bindsB x v)) ∧ Keep σ σ' := by
 obtain ⟨hm, ih, id, b, hb, rfl⟩ := hc
 have hbl := EL.length PL_len hb
 obtain ⟨hx1, hx2, hx3⟩ := hx
 refine acalls 24 [.tmp 4] Tryz.func161 rfl (by decide) rfl rfl (Nat.le_of_ble_eq_true rfl) ?_
 repeat' (first
 |with_reducible first|apply Xa|apply Xb|(refine Xc ?_;intro κ hκ)|(apply hκ.out;clear hκ κ)|apply Xd|apply Xe|apply Xf
 |((with_reducible first|refine Xl ?_ ?_|refine Xk ?_ ?_)<;> intro h hari<;> try exact Xp)
 |refine Xr ?_
 |exact True.intro
 |(apply hκ.out;clear hκ κ))
 refine awp_loop (fun m s σ' => ∃ i : Nat, m = x.body.length - i ∧ i ≤ x.body.length ∧ s 1 = sc (.int .i64 v) ∧ s 8 = sl id x.body.length b ∧ s 9 = sc (.int .i64 x.body.length) ∧ s 10 = sc (.int .i64 i) ∧ Keep σ σ' ∧ Abs.Hid ((x.body.take i).any (fun a => !a.nt && a.terms.any (hitT v)) = false)) x.body.length
  ⟨0, by omega, by omega, rfl, rfl, rfl, rfl, by exact Xs, by simp [Abs.Hid]⟩ ?_
 rintro m s σ' ⟨i, rfl, hi, h1, h8, h9, h10, hK, hno⟩
 by_cases hlt : i < x.body.length
 ·have hget := List.getElem?_eq_getElem hlt
  have hta := hx3 x.body[i] (List.getElem_mem hlt)
  obtain ⟨ha, ia, r, hd⟩ := EL_PL hb hget
  generalize x.body[i] = a at hd hget ha hta
  have HG : Abs.Hid (x.body[i]? = some a) := hget
  clear hget
  have kno := hK.nobj
  repeat' (first
 |with_reducible first|apply Xa|apply Xb|(refine Xc ?_;intro κ hκ)|(apply hκ.out;clear hκ κ)|apply Xd|apply Xe|apply Xf
 |((with_reducible first|refine Xl ?_ ?_|refine Xk ?_ ?_)<;> intro h hari<;> try exact Xp)
 |((with_reducible refine Xh ?_);refine Xi (phas_spec _ _ a v hta _) ?_;rintro _ _ ⟨rfl,hK1⟩)
 |refine Xr ?_
 |exact True.intro
 |(apply hκ.out;clear hκ κ))
  ·exact ⟨_, rfl, by rw [bindsB, any_hit _ HG.out (by simp [*])], by exact Xs⟩
  all_goals
   refine ⟨x.body.length - (i + 1), by omega, i + 1, rfl, by omega, by simp, by exact Xs, ?_⟩
   rw [Abs.Hid, any_take_succ _ HG.out, hno.out]; simp [*]
 ·have hil : i = x.body.length := by omega
  subst hil
  rw [List.take_length] at hno
  repeat' (first
 |with_reducible first|apply Xa|apply Xb|(refine Xc ?_;intro κ hκ)|(apply hκ.out;clear hκ κ)|apply Xd|apply Xe|apply Xf
 |((with_reducible first|refine Xl ?_ ?_|refine Xk ?_ ?_)<;> intro h hari<;> try exact Xp)
 |refine Xr ?_
 |exact True.intro
 |(apply hκ.out;clear hκ κ))
  first | exact ⟨_, rfl, by rw [bindsB, hno.out], hK⟩ | exact ⟨_, rfl, by rw [bindsB, hno.out]⟩
def psafeB (x : RItem) : Bool := !(atomsL x).any fun a => a.terms.any fun w => (encT w).1 && !bindsB x (encT w).2
set_option maxHeartbeats 16000000 in
theorem psafe_spec (N : List Tx) (x : RItem) (c : List AV) (hc : PI N x c) (ho : x.out = true → x.body = []) (hx : x.fits) (σ : St) : ACalls Tryz.prog 107 [ag c] σ fun r σ' => r = sc (.bool (psafeB x)) ∧ Keep σ σ' := by
 have hA := patoms_spec N x c hc ho (by have := hx.1; omega)
 have hB := fun v => pbinds_spec N x c v hc hx
 obtain ⟨hm, ih, id, b, hb, rfl⟩ := hc
 have hbl := EL.length PL_len hb
 have hal := hx.atoms
 have hat : ∀ a ∈ atomsL x, a.terms.length ≤ 1000 := by
  intro a ha
  unfold atomsL at ha
  rcases List.mem_append.1 ha with h | h
  ·split at h
   ·cases h
   ·simp at h; subst h; exact hx.2.1
  ·exact hx.2.2 a h
 refine acalls 32 [.tmp 2] Tryz.func107 rfl (by decide) rfl rfl (Nat.le_of_ble_eq_true rfl) ?_
 repeat' (first
 |with_reducible first|apply Xa|apply Xb|(refine Xc ?_;intro κ hκ)|(apply hκ.out;clear hκ κ)|apply Xd|apply Xe|apply Xf
 |((with_reducible first|refine Xl ?_ ?_|refine Xk ?_ ?_)<;> intro h hari<;> try exact Xp)
 |((with_reducible refine Xh ?_);refine Xi (hA _) ?_;rintro _ _ ⟨ida,cs,rfl,hE,hK1⟩;(have kob1:=hK1.obj;have kno1:=hK1.nobj;(try simp only [new_nobj,put_nobj,lay_nobj] at kno1)))
 |refine Xr ?_
 |exact True.intro
 |(apply hκ.out;clear hκ κ))
 rename_i σ1
 have hcl := EL.length PC_len hE
 have hob : σ1.obj σ.nobj = [sc (.bool x.out), sc (.int .i64 (N.idxOf x.head.pred : Nat)), sl ih x.head.terms.length (tcells x.head.terms), sl id x.body.length b] := by rw [kob1 _ (by rw [new_nobj]; omega), new_same]
 have hK1 : Keep (σ.new [sc (.bool x.out), sc (.int .i64 (N.idxOf x.head.pred : Nat)), sl ih x.head.terms.length (tcells x.head.terms), sl id x.body.length b]) σ1 := hK1
 refine awp_loop (fun m s σ' => ∃ i : Nat, m = (atomsL x).length - i ∧ i ≤ (atomsL x).length ∧ s 1 = ptr σ.nobj 0 ∧ s 8 = sl ida (atomsL x).length cs ∧ s 9 = sc (.int .i64 (atomsL x).length) ∧ s 10 = sc (.int .i64 i) ∧ Keep σ1 σ' ∧ Abs.Hid (((atomsL x).take i).any (fun a => a.terms.any fun w => (encT w).1 && !bindsB x (encT w).2) = false)) (atomsL x).length
  ⟨0, by omega, by omega, rfl, rfl, rfl, rfl, Keep.refl _, by simp [Abs.Hid]⟩ ?_
 rintro m s σ' ⟨i, rfl, hi, h1, h8, h9, h10, hK, hno⟩
 have kno := hK.nobj
 have hob' : σ'.obj σ.nobj = [sc (.bool x.out), sc (.int .i64 (N.idxOf x.head.pred : Nat)), sl ih x.head.terms.length (tcells x.head.terms), sl id x.body.length b] := by rw [hK.obj _ (by omega), hob]
 have hKs : Keep σ σ1 := ((Keep.refl σ).new _).trans hK1
 clear kob1
 by_cases hlt : i < (atomsL x).length
 ·have hget := List.getElem?_eq_getElem hlt
  have hta := hat (atomsL x)[i] (List.getElem_mem hlt)
  obtain ⟨ha, ia, r, hd⟩ := EL_PC hE hget
  generalize (atomsL x)[i] = a at hd hget ha hta
  have HG : Abs.Hid ((atomsL x)[i]? = some a) := hget
  clear hget
  have htl := tcells_len a.terms
  repeat' (first
 |with_reducible first|apply Xa|apply Xb|(refine Xc ?_;intro κ hκ)|(apply hκ.out;clear hκ κ)|apply Xd|apply Xe|apply Xf
 |((with_reducible first|refine Xl ?_ ?_|refine Xk ?_ ?_)<;> intro h hari<;> try exact Xp)
 |refine Xr ?_
 |exact True.intro
 |(apply hκ.out;clear hκ κ))
  refine awp_loop (fun m s σ' => ∃ j : Nat, m = a.terms.length - j ∧ j ≤ a.terms.length ∧ s 1 = ptr σ.nobj 0 ∧ s 8 = sl ida (atomsL x).length cs ∧ s 9 = sc (.int .i64 (atomsL x).length) ∧ s 10 = sc (.int .i64 i) ∧ s 15 = sl ia a.terms.length (tcells a.terms) ∧ s 16 = sc (.int .i64 a.terms.length) ∧ s 17 = sc (.int .i64 j) ∧ Keep σ1 σ' ∧ Abs.Hid ((a.terms.take j).any (fun w => (encT w).1 && !bindsB x (encT w).2) = false)) a.terms.length
   ⟨0, by omega, by omega, by simp [upd, h1], by simp [upd, h8], by simp [upd, h9], by simp [upd, h10], rfl, rfl, rfl, (hK.new _).put hK.nobj _, by simp [Abs.Hid]⟩ ?_
  clear hob' hK kno h1 h8 h9 h10
  rintro m s σ' ⟨j, rfl, hj, h1, h8, h9, h10, h15, h16, h17, hK, hno2⟩
  have kno := hK.nobj
  have hob' : σ'.obj σ.nobj = [sc (.bool x.out), sc (.int .i64 (N.idxOf x.head.pred : Nat)), sl ih x.head.terms.length (tcells x.head.terms), sl id x.body.length b] := by rw [hK.obj _ (by omega), hob]
  by_cases hlt2 : j < a.terms.length
  ·have hget := List.getElem?_eq_getElem hlt2
   obtain ⟨r2, hd2⟩ := tcells_get hget
   generalize a.terms[j] = w at hd2 hget
   have HW : Abs.Hid (a.terms[j]? = some w) := hget
   clear hget
   generalize h1w : (encT w).1 = w1 at hd2
   generalize h2w : (encT w).2 = w2 at hd2
   have hvw : Abs.Hid (((encT w).1 && !bindsB x (encT w).2) = (w1 && !bindsB x w2)) := by rw [Abs.Hid, h1w, h2w]
   clear h1w h2w
   repeat' (first
 |with_reducible first|apply Xa|apply Xb|(refine Xc ?_;intro κ hκ)|(apply hκ.out;clear hκ κ)|apply Xd|apply Xe|apply Xf
 |((with_reducible first|refine Xl ?_ ?_|refine Xk ?_ ?_)<;> intro h hari<;> try exact Xp)
 |((with_reducible refine Xh ?_);refine Xi (hB _ _) ?_;rintro _ _ ⟨rfl,hK2⟩)
 |refine Xr ?_
 |exact True.intro
 |(apply hκ.out;clear hκ κ))
   ·exact ⟨_, rfl, by rw [psafeB, any_hit _ HG.out (any_hit _ HW.out (by rw [hvw.out]; simp [*]))]; rfl, by exact Xs⟩
   all_goals
    refine ⟨a.terms.length - (j + 1), by omega, j + 1, rfl, by omega, by simp, by exact Xs, ?_⟩
    rw [Abs.Hid, any_take_succ _ HW.out, hno2.out, hvw.out]; simp [*]
  ·have hjl : j = a.terms.length := by omega
   subst hjl
   rw [List.take_length] at hno2
   repeat' (first
 |with_reducible first|apply Xa|apply Xb|(refine Xc ?_;intro κ hκ)|(apply hκ.out;clear hκ κ)|apply Xd|apply Xe|apply Xf
 |((with_reducible first|refine Xl ?_ ?_|refine Xk ?_ ?_)<;> intro h hari<;> try exact Xp)
 |refine Xr ?_
 |exact True.intro
 |(apply hκ.out;clear hκ κ))
   refine ⟨(atomsL x).length - (i + 1), by omega, i + 1, rfl, by omega, by simp, ?_⟩
   rw [Abs.Hid, any_take_succ _ HG.out, hno.out, hno2.out]; rfl
 ·have hil : i = (atomsL x).length := by omega
  subst hil
  rw [List.take_length] at hno
  repeat' (first
 |with_reducible first|apply Xa|apply Xb|(refine Xc ?_;intro κ hκ)|(apply hκ.out;clear hκ κ)|apply Xd|apply Xe|apply Xf
 |((with_reducible first|refine Xl ?_ ?_|refine Xk ?_ ?_)<;> intro h hari<;> try exact Xp)
 |refine Xr ?_
 |exact True.intro
 |(apply hκ.out;clear hκ κ))
  exact ⟨_, rfl, by rw [psafeB, hno.out]; rfl, by exact Xs⟩
/- The program: the first item that is not safe, the first with another number of terms. -/
abbrev bookA (N : List Tx) (idn : Nat) (l : List RItem) (idi : Nat) (cs : List AV) : AV := ag [sl idn N.length (N.map str), sl idi l.length cs]
structure Bk (N : List Tx) (l : List RItem) (cs : List AV) : Prop where
 el : EL (PI N) l cs
 len : l.length ≤ 16
 fits : ∀ x ∈ l, x.fits
 out : ∀ x ∈ l, x.out = true → x.body = []
 nm : N.length ≤ 2000
 pos : ∀ x ∈ l, ∀ a ∈ atomsL x, 0 < a.terms.length
def punsafe (l : List RItem) (i : Nat) : Bool := match l[i]? with | some x => !psafeB x | none => false
theorem PI.of {N : List Tx} {x : RItem} {ih id : Nat} {b : List AV} (hm : x.head.pred ∈ N) (h : EL (PL N) x.body b) : PI N x [sc (.bool x.out), sc (.int .i64 (N.idxOf x.head.pred : Nat)), sl ih x.head.terms.length (tcells x.head.terms), sl id x.body.length b] := ⟨hm, ih, id, b, h, rfl⟩
set_option maxHeartbeats 16000000 in
theorem firstUnsafe_spec (N : List Tx) (l : List RItem) (cs : List AV) (idn idi : Nat) (hB : Bk N l cs) (σ : St) : ACalls Tryz.prog 122 [bookA N idn l idi cs] σ fun r σ' => r = sc (.int .i64 (firstN (punsafe l) l.length)) ∧ Keep σ σ' := by
 have hcl := EL.length PI_len hB.el
 have hl16 := hB.len
 refine acalls 18 [.tmp 2] Tryz.func122 rfl (by decide) rfl rfl (Nat.le_of_ble_eq_true rfl) ?_
 repeat' (first
 |with_reducible first|apply Xa|apply Xb|(refine Xc ?_;intro κ hκ)|(apply hκ.out;clear hκ κ)|apply Xd|apply Xe|apply Xf
 |((with_reducible first|refine Xl ?_ ?_|refine Xk ?_ ?_)<;> intro h hari<;> try exact Xp)
 |refine Xr ?_
 |exact True.intro
 |(apply hκ.out;clear hκ κ))
 refine awp_loop (fun m s σ' => ∃ i : Nat, m = l.length - i ∧ i ≤ l.length ∧ s 6 = sl idi l.length cs ∧ s 7 = sc (.int .i64 l.length) ∧ s 8 = sc (.int .i64 i) ∧ Keep σ σ' ∧ Abs.Hid (∀ j, j < i → punsafe l j = false)) l.length
  ⟨0, by omega, by omega, rfl, rfl, rfl, by exact Xs, fun j hj => by omega⟩ ?_
 rintro m s σ' ⟨i, rfl, hi, h6, h7, h8, hK, hno⟩
 have kno := hK.nobj
 by_cases hlt : i < l.length
 ·have hget := List.getElem?_eq_getElem hlt
  have hf1 := hB.fits l[i] (List.getElem_mem hlt)
  have ho1 := hB.out l[i] (List.getElem_mem hlt)
  obtain ⟨hm, ih, id, b, r, hb, hd⟩ := EL_PI hB.el hget
  generalize l[i] = x at hd hget hf1 ho1 hb hm
  have hv : Abs.Hid (punsafe l i = !psafeB x) := by rw [Abs.Hid, punsafe, hget]
  clear hget
  repeat' (first
 |with_reducible first|apply Xa|apply Xb|(refine Xc ?_;intro κ hκ)|(apply hκ.out;clear hκ κ)|apply Xd|apply Xe|apply Xf
 |((with_reducible first|refine Xl ?_ ?_|refine Xk ?_ ?_)<;> intro h hari<;> try exact Xp)
 |((with_reducible refine Xh ?_);refine Xi (psafe_spec N x _ (PI.of hm hb) ho1 hf1 _) ?_;rintro _ _ ⟨rfl,hK1⟩)
 |refine Xr ?_
 |exact True.intro
 |(apply hκ.out;clear hκ κ))
  ·exact ⟨_, rfl, by rw [firstN_hit hlt (by rw [hv.out]; simp [*]) hno.out], by exact Xs⟩
  ·exact ⟨l.length - (i + 1), by omega, i + 1, rfl, by omega, by simp, by exact Xs, no_step hno.out (by rw [hv.out]; simp [*])⟩
 ·have hil : i = l.length := by omega
  subst hil
  repeat' (first
 |with_reducible first|apply Xa|apply Xb|(refine Xc ?_;intro κ hκ)|(apply hκ.out;clear hκ κ)|apply Xd|apply Xe|apply Xf
 |((with_reducible first|refine Xl ?_ ?_|refine Xk ?_ ?_)<;> intro h hari<;> try exact Xp)
 |refine Xr ?_
 |exact True.intro
 |(apply hκ.out;clear hκ κ))
  first | exact ⟨_, rfl, by rw [firstN_none hno.out], hK⟩ | exact ⟨_, rfl, by rw [firstN_none hno.out]⟩
/-! ### How many terms each predicate has -/
def cntL (S : List RAtom) (p : Tx) : Nat := match S.find? (fun a => a.pred == p) with | some a => a.terms.length | none => 0
def consS (S : List RAtom) : Prop := ∀ b ∈ S, 0 < b.terms.length ∧ b.terms.length = cntL S b.pred
theorem cnt_snoc (S : List RAtom) (a : RAtom) (p : Tx) : cntL (S ++ [a]) p = match S.find? (fun a => a.pred == p) with | some b => b.terms.length | none => if a.pred = p then a.terms.length else 0 := by
 unfold cntL
 rw [List.find?_append]
 cases hf : S.find? (fun a => a.pred == p) with
 | some b => simp
 | none => by_cases h : a.pred = p <;> simp [h]
theorem cnt_none {S : List RAtom} (h : consS S) (p : Tx) : cntL S p = 0 ↔ S.find? (fun a => a.pred == p) = none := by
 unfold cntL
 cases hf : S.find? (fun a => a.pred == p) with
 | none => simp
 | some b =>
  have hb := (h b (List.mem_of_find?_eq_some hf)).1
  constructor
  ·intro e
   have e : b.terms.length = 0 := e
   omega
  ·intro e; cases e
theorem clash_iff {S : List RAtom} (h : consS S) (a : RAtom) : S.any (clash a) = true ↔ (cntL S a.pred ≠ 0 ∧ cntL S a.pred ≠ a.terms.length) := by
 rw [List.any_eq_true]
 constructor
 ·rintro ⟨b, hb, hc⟩
  simp only [clash, Bool.and_eq_true, beq_iff_eq, decide_eq_true_eq] at hc
  have := h b hb
  rw [hc.1] at this
  omega
 ·rintro ⟨h1, h2⟩
  have h3 : S.find? (fun b => b.pred == a.pred) ≠ none := fun e => h1 ((cnt_none h _).2 e)
  cases hf : S.find? (fun b => b.pred == a.pred) with
  | none => exact absurd hf h3
  | some b =>
   have hp : (b.pred == a.pred) = true := List.find?_some (p := fun b : RAtom => b.pred == a.pred) hf
   have hcn : cntL S a.pred = b.terms.length := by unfold cntL; rw [hf]
   exact ⟨b, List.mem_of_find?_eq_some hf, by simp only [clash, hp, Bool.true_and, decide_eq_true_eq]; omega⟩
theorem cnt_step {S : List RAtom} (h : consS S) (a : RAtom) (p : Tx) : cntL (S ++ [a]) p = if p = a.pred ∧ cntL S a.pred = 0 then a.terms.length else cntL S p := by
 rw [cnt_snoc]
 cases hf : S.find? (fun b => b.pred == p) with
 | some b =>
  have h1 : cntL S p ≠ 0 := fun e => by rw [cnt_none h, hf] at e; cases e
  have hx : ¬ (p = a.pred ∧ cntL S a.pred = 0) := fun e => h1 (by rw [e.1]; exact e.2)
  have hy : cntL S p = b.terms.length := by unfold cntL; rw [hf]
  rw [if_neg hx, hy]
 | none =>
  have h1 : cntL S p = 0 := (cnt_none h _).2 hf
  by_cases e : p = a.pred
  ·subst e; rw [if_pos rfl, if_pos ⟨rfl, h1⟩]
  ·rw [if_neg (fun e' => e e'.symm), if_neg (by rintro ⟨e', -⟩; exact e e'), h1]
theorem cons_snoc {S : List RAtom} {a : RAtom} (h : consS S) (ha : 0 < a.terms.length) (hc : S.any (clash a) = false) : consS (S ++ [a]) := by
 have hn : ¬ (cntL S a.pred ≠ 0 ∧ cntL S a.pred ≠ a.terms.length) := fun e => by rw [← clash_iff h a, hc] at e; cases e
 intro b hb
 rw [cnt_step h]
 rcases List.mem_append.1 hb with hb | hb
 ·have := h b hb
  refine ⟨this.1, ?_⟩
  by_cases e : b.pred = a.pred ∧ cntL S a.pred = 0
  ·rw [e.1] at this; omega
  ·rw [if_neg e]; exact this.2
 ·simp at hb; subst hb
  refine ⟨ha, ?_⟩
  by_cases e : cntL S b.pred = 0
  ·rw [if_pos ⟨rfl, e⟩]
  ·rw [if_neg (by rintro ⟨-, e'⟩; exact e e')]; omega
theorem cons_nil : consS [] := fun b hb => by cases hb
def cvec (n : Nat) (cc : Nat → Int) : List AV := (List.range n).map fun i => sc (.int .i64 (cc i))
theorem cvec_len (n : Nat) (cc : Nat → Int) : (cvec n cc).length = n := by simp [cvec]
theorem cvec_get {n i : Nat} (cc : Nat → Int) (h : i < n) : (cvec n cc)[i]? = some (sc (.int .i64 (cc i))) := by simp [cvec, h]
theorem cvec_set {n i : Nat} (cc : Nat → Int) (v : Int) : (cvec n cc).set i (sc (.int .i64 v)) = cvec n (fun j => if j = i then v else cc j) := by
 apply List.ext_getElem?
 intro j
 rw [List.getElem?_set]
 by_cases hj : j < n
 ·rw [cvec_get (fun j => if j = i then v else cc j) hj]
  by_cases e : i = j
  ·subst e; rw [if_pos rfl, cvec_len, if_pos hj]; simp
  ·rw [if_neg e, cvec_get _ hj, if_neg (fun e' => e e'.symm)]
 ·have h1 : (cvec n fun j => if j = i then v else cc j)[j]? = none := by simp [cvec]; omega
  have h2 : (cvec n cc)[j]? = none := by simp [cvec]; omega
  rw [h1, h2]
  split
  ·rw [cvec_len]; rw [if_neg (by omega)]
  ·rfl
theorem cvec_zero (n : Nat) : List.replicate n (sc (.int .i64 0)) = cvec n fun _ => 0 := by
 apply List.ext_getElem?
 intro j
 by_cases hj : j < n
 ·rw [cvec_get _ hj]; simp [hj]
 ·simp [cvec, hj]
theorem idx_inj {N : List Tx} {p q : Tx} (hp : p ∈ N) (hq : q ∈ N) (h : N.idxOf p = N.idxOf q) : p = q := by
 have h1 := List.getElem_idxOf (List.idxOf_lt_length_of_mem hp)
 have h2 := List.getElem_idxOf (List.idxOf_lt_length_of_mem hq)
 rw [← h1, ← h2]
 congr 1
def cntsOk (N : List Tx) (S : List RAtom) (cc : Nat → Int) : Prop := ∀ p ∈ N, cc (N.idxOf p) = (cntL S p : Nat)
theorem cntsOk.step {N : List Tx} {S : List RAtom} {cc : Nat → Int} {a : RAtom} (h : cntsOk N S cc) (hc : consS S) (ha : a.pred ∈ N) :
  (cc (N.idxOf a.pred) = 0 → cntsOk N (S ++ [a]) (fun j => if j = N.idxOf a.pred then (a.terms.length : Int) else cc j)) ∧ (cc (N.idxOf a.pred) ≠ 0 → cntsOk N (S ++ [a]) cc) := by
 have h0 := h a.pred ha
 constructor
 ·intro e p hp
  rw [cnt_step hc]
  dsimp only
  by_cases ep : p = a.pred
  ·subst ep
   rw [if_pos rfl, if_pos ⟨rfl, by omega⟩]
  ·rw [if_neg (fun e' => ep (idx_inj hp ha e')), if_neg (by rintro ⟨e', -⟩; exact ep e')]
   exact h p hp
 ·intro e p hp
  rw [cnt_step hc, if_neg (by rintro ⟨-, e'⟩; omega)]
  exact h p hp
end Go.Proofs.YtmoeoppbmhfbpaaGreatDoorB
