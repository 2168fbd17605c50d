import Derived.Test.YtmoeoppbmhfbpaaGreatDoorUSpaA
import Derived.Test.YtmoeoppbmhfbpaaGreatDoorUAbsWp
/- The program: a rule without a literal; the search. -/
namespace Go.Proofs.YtmoeoppbmhfbpaaGreatDoorU
open Go.Abs
set_option linter.unusedSimpArgs false
set_option linter.unusedVariables false
set_option maxRecDepth 100000
def woL (x : RItem) (k : Nat) : RItem := { out := false, head := x.head, body := x.body.eraseIdx k }
def woT (ls : List RAtom) (k n : Nat) : List RAtom := (ls.take n).eraseIdx k
theorem woT_add {ls : List RAtom} {k n : Nat} {a : RAtom} (h : ls[n]? = some a) (hk : n ≠ k) : woT ls k (n + 1) = woT ls k n ++ [a] := by
 have hn := (List.getElem?_eq_some_iff.1 h).1
 have hl : (ls.take n).length = n := by rw [List.length_take]; omega
 unfold woT
 rw [List.take_add_one, h, Option.toList_some]
 by_cases hlt : k < n
 ·rw [List.eraseIdx_append_of_lt_length (by omega)]
 ·rw [List.eraseIdx_of_length_le (by rw [List.length_append, hl]; simp; omega), List.eraseIdx_of_length_le (by omega)]
theorem woT_skip {ls : List RAtom} {k : Nat} {a : RAtom} (h : ls[k]? = some a) : woT ls k (k + 1) = woT ls k k := by
 have hn := (List.getElem?_eq_some_iff.1 h).1
 have hl : (ls.take k).length = k := by rw [List.length_take]; omega
 unfold woT
 have e : (ls.take k).eraseIdx k = ls.take k := List.eraseIdx_of_length_le (by omega)
 rw [e, List.take_add_one, h, Option.toList_some, List.eraseIdx_append_of_length_le (by omega), hl, Nat.sub_self]
 simp
theorem woT_len (ls : List RAtom) (k n : Nat) : (woT ls k n).length ≤ n := by
 unfold woT
 have h1 := List.length_eraseIdx_le (ls.take n) k
 rw [List.length_take] at h1
 omega
theorem woT_all (ls : List RAtom) (k : Nat) : woT ls k ls.length = ls.eraseIdx k := by unfold woT; rw [List.take_length]
set_option maxHeartbeats 16000000 in
theorem pwithout_spec (N : List Tx) (x : RItem) (c : List AV) (k : Nat) (hc : PI N x c) (hn : x.body.length ≤ 1000) (σ : St) : ACalls Tryz.prog 106 [ag c, sc (.int .i64 k)] σ fun r σ' => ∃ c', r = ag c' ∧ PI N (woL x k) c' ∧ Keep σ σ' := by
 obtain ⟨hm, ih, id, b, hb, rfl⟩ := hc
 have hbl := EL.length PL_len hb
 refine acalls 30 [.cell 4 97] Tryz.func106 rfl (by decide) rfl rfl (Nat.le_of_ble_eq_true rfl) ?_
 repeat' (first
 |with_reducible first|apply Xa|apply Xb|(refine Xc ?_;intro κ hκ)|(apply hκ.out;clear hκ κ)|apply Xd|apply Xe|apply Xf
 |((with_reducible first|refine Xl ?_ ?_|refine Xk ?_ ?_)<;> intro h hari<;> try exact Xp)
 |((with_reducible refine aapp_go ?_);refine Xt ?_;intro idn σn hOn hKn eobj enobj ever entop)
 |((with_reducible refine aappn_go ?_);refine Xu ?_)
 |refine Xr ?_
 |exact True.intro
 |(apply hκ.out;clear hκ κ))
 refine awp_loop (fun m s σ' => ∃ (n i3 : Nat) (xs : List AV), m = x.body.length - n ∧ n ≤ x.body.length ∧ s 1 = sc (.int .i64 k) ∧ s 4 = ptr (σ.nobj + 1) 0 ∧ s 5 = ptr (σ.nobj + 2) 0 ∧ s 12 = sl id x.body.length b ∧ s 13 = sc (.int .i64 x.body.length) ∧ s 14 = sc (.int .i64 n) ∧ Keep σ σ' ∧ σ.nobj + 2 < σ'.nobj ∧ σ'.obj (σ.nobj + 1) = [sc (.bool false), sc (.int .i64 0), nilS, nilS] ∧ σ'.obj (σ.nobj + 2) = [sc (.bool false), sc (.int .i64 (N.idxOf x.head.pred : Nat)), sl ih x.head.terms.length (tcells x.head.terms), sl i3 (woT x.body k n).length xs] ∧ Own σ σ' i3 (woT x.body k n).length ∧ xs.length = (woT x.body k n).length * 3 ∧ Abs.Hid (EL (PL N) (woT x.body k n) xs)) x.body.length
  ⟨0, 1, [], by omega, by omega, by simp [upd, initS], by simp [upd], by simp [upd], by simp [upd], by simp [upd], rfl, by exact Xs, by simp only [put_nobj, new_nobj]; omega, ?_, ?_, Own.nil _ _, by simp [woT], by simp [Abs.Hid, woT, EL]⟩ ?_
 ·rw [put_ne (by omega), new_lt (by simp only [new_nobj]; omega), new_at (by simp only [new_nobj]; omega) (by simp only [new_nobj]; omega)]
 ·rw [show σ.nobj + 2 = σ.nobj + 1 + 1 by omega, put_same]; simp [woT]
 rintro m s σ' ⟨n, i3, xs, rfl, hn', h1, h4, h5, h12, h13, h14, hK, hno, ob1, ob2, hO, hxl, hX⟩
 have kno := hK.nobj
 have hwl := woT_len x.body k n
 by_cases hlt : n < x.body.length
 ·have hget := List.getElem?_eq_getElem hlt
  obtain ⟨ha, ia, r, hd⟩ := EL_PL hb hget
  generalize x.body[n] = a at hd hget ha
  have HG : Abs.Hid (x.body[n]? = some a) := hget
  clear hget
  generalize hwe : woT x.body k n = wl at ob2 hO hxl hX hwl
  have HWE : Abs.Hid _ := hwe
  clear hwe
  by_cases hnk : n = k
  ·have hnb : ((n : Int) != (k : Int)) = false := by simp [hnk]
   have hst : Abs.Hid (woT x.body k (n + 1) = wl) := by
    rw [Abs.Hid, ← HWE.out, hnk]; exact woT_skip (by rw [← hnk]; exact HG.out)
   clear hnk
   repeat' (first
 |with_reducible first|apply Xa|apply Xb|(refine Xc ?_;intro κ hκ)|(apply hκ.out;clear hκ κ)|apply Xd|apply Xe|apply Xf
 |((with_reducible first|refine Xl ?_ ?_|refine Xk ?_ ?_)<;> intro h hari<;> try exact Xp)
 |((with_reducible refine aapp_go ?_);refine Xt ?_;intro idn σn hOn hKn eobj enobj ever entop)
 |((with_reducible refine aappn_go ?_);refine Xu ?_)
 |refine Xr ?_
 |exact True.intro
 |(apply hκ.out;clear hκ κ))
   exact ⟨x.body.length - (n + 1), by omega, n + 1, i3, xs, rfl, by omega, by simp, (hK.new _).put hK.nobj _, by omega, by rw [hst.out], by rw [hst.out]; exact Own.put (Own.new hO _) _ _, by rw [hst.out]; exact hxl, by rw [Abs.Hid, hst.out]; exact hX.out⟩
  ·have hnb : ((n : Int) != (k : Int)) = true := by simp; omega
   have hst : Abs.Hid (woT x.body k (n + 1) = wl ++ [a]) := by
    rw [Abs.Hid, ← HWE.out]; exact woT_add HG.out hnk
   clear hnk
   repeat' (first
 |with_reducible first|apply Xa|apply Xb|(refine Xc ?_;intro κ hκ)|(apply hκ.out;clear hκ κ)|apply Xd|apply Xe|apply Xf
 |((with_reducible first|refine Xl ?_ ?_|refine Xk ?_ ?_)<;> intro h hari<;> try exact Xp)
 |((with_reducible refine aapp_go ?_);refine Xt ?_;intro idn σn hOn hKn eobj enobj ever entop)
 |((with_reducible refine aappn_go ?_);refine Xu ?_)
 |refine Xr ?_
 |exact True.intro
 |(apply hκ.out;clear hκ κ))
   refine aApp_own (by first | exact tez_95) ((hK.new _).put hK.nobj _) (Own.put (Own.new hO _) _ _) (by decide) (by rfl) hxl (by rfl) (by rfl) (by decide) (by omega) (by omega) ?_
   intro idn σn hOn hKn eobj enobj ever entop
   simp only [put_nobj, new_nobj] at enobj
   have hl1 : Abs.Hid ((woT x.body k (n + 1)).length = wl.length + 1) := by rw [Abs.Hid, hst.out]; simp
   refine Xr ?_
   repeat' (first
 |with_reducible first|apply Xa|apply Xb|(refine Xc ?_;intro κ hκ)|(apply hκ.out;clear hκ κ)|apply Xd|apply Xe|apply Xf
 |((with_reducible first|refine Xl ?_ ?_|refine Xk ?_ ?_)<;> intro h hari<;> try exact Xp)
 |((with_reducible refine aapp_go ?_);refine Xt ?_;intro idn σn hOn hKn eobj enobj ever entop)
 |((with_reducible refine aappn_go ?_);refine Xu ?_)
 |refine Xr ?_
 |exact True.intro
 |(apply hκ.out;clear hκ κ))
   refine ⟨x.body.length - (n + 1), by omega, n + 1, idn, xs ++ [sc (.bool a.nt), sc (.int .i64 (N.idxOf a.pred : Nat)), sl ia a.terms.length (tcells a.terms)], rfl, by omega, by simp, hKn.put (by omega) _, by omega, by rw [hl1.out], by rw [hl1.out]; exact Own.put hOn _ _, by rw [hl1.out]; simp; omega, ?_⟩
   rw [Abs.Hid, hst.out]
   exact EL.append hX.out (EL.single ⟨ha, ia, rfl⟩)
 ·have hnl : n = x.body.length := by omega
  subst hnl
  rw [woT_all] at ob2 hX
  repeat' (first
 |with_reducible first|apply Xa|apply Xb|(refine Xc ?_;intro κ hκ)|(apply hκ.out;clear hκ κ)|apply Xd|apply Xe|apply Xf
 |((with_reducible first|refine Xl ?_ ?_|refine Xk ?_ ?_)<;> intro h hari<;> try exact Xp)
 |((with_reducible refine aapp_go ?_);refine Xt ?_;intro idn σn hOn hKn eobj enobj ever entop)
 |((with_reducible refine aappn_go ?_);refine Xu ?_)
 |refine Xr ?_
 |exact True.intro
 |(apply hκ.out;clear hκ κ))
  exact ⟨_, rfl, _, rfl, ⟨hm, ih, i3, xs, hX.out, rfl⟩, hK.put (by omega) _⟩
/- The program: the search. -/
theorem wRes_form (o : Option Sw) : ∃ s b, wRes o = tp [ag (swC s), sc (.bool b)] ∧ (b = false → o = none) ∧ (b = true → ∃ s', o = some s') := by
 cases o with
 | none => exact ⟨sw0, false, rfl, fun _ => rfl, fun h => by cases h⟩
 | some s => exact ⟨s, true, rfl, (fun h => by cases h), fun _ => ⟨s, rfl⟩⟩
def fB (L : List Lt) (rest : List Lt) (s : Sw) (x b : Lt) : Option Sw := if b.nt = x.nt ∧ x.pr = b.pr then (withL s x.es b.es).bind (ontoL L rest) else none
theorem find_hit {α β : Type} {f : α → Option β} {l : List α} {i : Nat} {b : α} {r : β} (h0 : ∀ j, j < i → ∀ c, l[j]? = some c → f c = none) (hb : l[i]? = some b) (hf : f b = some r) : l.findSome? f = some r := by
 rw [List.findSome?_eq_some_iff]
 obtain ⟨hi, rfl⟩ := List.getElem?_eq_some_iff.1 hb
 refine ⟨l.take i, l[i], l.drop (i + 1), by rw [← List.drop_eq_getElem_cons hi, List.take_append_drop], hf, fun c hc => ?_⟩
 obtain ⟨j, hj⟩ := List.getElem?_of_mem hc
 rw [List.getElem?_take] at hj
 split at hj
 ·rename_i hlt; exact h0 j hlt c hj
 ·cases hj
theorem find_none {α β : Type} {f : α → Option β} {l : List α} (h0 : ∀ j, j < l.length → ∀ c, l[j]? = some c → f c = none) : l.findSome? f = none := by
 rw [List.findSome?_eq_none_iff]
 intro c hc
 obtain ⟨j, hj⟩ := List.getElem?_of_mem hc
 exact h0 j (List.getElem?_eq_some_iff.1 hj).1 c hj
def OkA (left : List RAtom) (a : RAtom) : Prop := a.terms.length ≤ 1000 ∧ (∀ t ∈ a.terms, varOk t) ∧ ∀ b ∈ left, a.pred = b.pred → a.terms.length = b.terms.length
set_option maxHeartbeats 32000000 in
theorem onto_spec (N : List Tx) (left : List RAtom) (cl : List AV) (idl : Nat) (hL : EL (PL N) left cl) (hll : left.length ≤ 1000) : ∀ (lits : List RAtom) (cs : List AV) (ids : Nat) (s : Sw) (σ : St), EL (PL N) lits cs → lits.length ≤ 1000 → (∀ a ∈ lits, OkA left a) →
  ACalls Tryz.prog 109 [ag (swC s), sl ids lits.length cs, sl idl left.length cl] σ fun r σ' => r = wRes (ontoL (left.map (ltA encT N)) (lits.map (ltA encT N)) s) ∧ Keep σ σ' := by
 have hsl := swC_len
 have hsz := swC_zero
 have htk : ∀ s, List.take 78 (swC s) = swC s := fun s => List.take_of_length_le (by rw [swC_len]; exact Nat.le_refl _)
 have hls : ∀ s s', lsp (swC s) 0 (swC s') = swC s' := fun s s' => lsp_whole (by rw [swC_len, swC_len])
 have hfl : ∀ s, (swC s).all flat = true := fun s => by
  rw [List.all_eq_true]
  intro x hx
  obtain ⟨n, -, rfl⟩ := List.mem_map.1 hx
  unfold swF
  split
  ·rfl
  ·split <;> rfl
 have hcll := EL.length PL_len hL
 intro lits
 induction lits with
 | nil =>
  intro cs ids s σ hE _ _
  have hcs : cs = [] := hE
  subst hcs
  have hR : wRes (ontoL (left.map (ltA encT N)) (([] : List RAtom).map (ltA encT N)) s) = tp [ag (swC s), sc (.bool true)] := rfl
  rw [hR]
  clear hR
  refine acalls 55 [.cell 6 104, .tmp 7] Tryz.func109 rfl (by decide) rfl rfl (Nat.le_of_ble_eq_true rfl) ?_
  repeat' (first
 |with_reducible first|apply Xa|apply Xb|(refine Xc ?_;intro κ hκ)|(apply hκ.out;clear hκ κ)|apply Xd|apply Xe|apply Xf
 |((with_reducible first|refine Xl ?_ ?_|refine Xm ?_ ?_|refine Xk ?_ ?_)<;> intro h hari<;> try exact Xp)
 |refine Xr ?_
 |exact True.intro
 |((with_reducible refine Xg ?_);refine Xj ?_)
 |(apply hκ.out;clear hκ κ))
  exact ⟨_, rfl, rfl, by exact Xs⟩
 | cons a lits ih =>
  intro cs ids s σ hE hn hok
  have hcsl := EL.length PL_len hE
  obtain ⟨c0, d, ⟨ham, ia, rfl⟩, hd, rfl⟩ := hE
  have hdl := EL.length PL_len hd
  obtain ⟨hat, hav, hal⟩ := hok a (by simp)
  have hok' : ∀ a ∈ lits, OkA left a := fun a' h => hok a' (by simp [h])
  have hn' : lits.length ≤ 1000 := by simp at hn; omega
  have ih := fun s σ => ih d 0 s σ hd hn' hok'
  clear hok hok' hn
  have hR : Abs.Hid (ontoL (left.map (ltA encT N)) ((a :: lits).map (ltA encT N)) s = (left.map (ltA encT N)).findSome? (fB (left.map (ltA encT N)) (lits.map (ltA encT N)) s (ltA encT N a))) := rfl
  rw [hR.out]
  generalize hfe : fB (left.map (ltA encT N)) (lits.map (ltA encT N)) s (ltA encT N a) = fb
  have HFE : Abs.Hid _ := hfe
  clear hfe hR
  simp only [List.length_cons, List.cons_append, List.nil_append] at hcsl ⊢
  refine acalls 55 [.cell 6 104, .tmp 7] Tryz.func109 rfl (by decide) rfl rfl (Nat.le_of_ble_eq_true rfl) ?_
  repeat' (first
 |with_reducible first|apply Xa|apply Xb|(refine Xc ?_;intro κ hκ)|(apply hκ.out;clear hκ κ)|apply Xd|apply Xe|apply Xf
 |((with_reducible first|refine Xl ?_ ?_|refine Xm ?_ ?_|refine Xk ?_ ?_)<;> intro h hari<;> try exact Xp)
 |refine Xr ?_
 |exact True.intro
 |((with_reducible refine Xg ?_);refine Xj ?_)
 |(apply hκ.out;clear hκ κ))
  refine awp_loop (fun m s0 σ' => ∃ i : Nat, m = left.length - i ∧ i ≤ left.length ∧ s0 1 = sl ids (lits.length + 1) (sc (.bool a.nt) :: sc (.int .i64 (N.idxOf a.pred : Nat)) :: sl ia a.terms.length (tcells a.terms) :: d) ∧ s0 2 = sl idl left.length cl ∧ s0 3 = ptr σ.nobj 0 ∧ s0 6 = ptr (σ.nobj + 1) 0 ∧ s0 8 = ptr (σ.nobj + 2) 0 ∧ s0 21 = sl idl left.length cl ∧ s0 22 = sc (.int .i64 left.length) ∧ s0 23 = sc (.int .i64 i) ∧ Keep σ σ' ∧ σ.nobj + 2 < σ'.nobj ∧ σ'.obj σ.nobj = swC s ∧ σ'.obj (σ.nobj + 1) = swC sw0 ∧ σ'.obj (σ.nobj + 2) = [sc (.bool a.nt), sc (.int .i64 (N.idxOf a.pred : Nat)), sl ia a.terms.length (tcells a.terms)] ∧ Abs.Hid (∀ j, j < i → ∀ c, (left.map (ltA encT N))[j]? = some c → fb c = none)) left.length
   ⟨0, by omega, by omega, by simp [upd, initS], by simp [upd, initS], by simp [upd], by simp [upd], by simp [upd], by simp [upd], by simp [upd], rfl, by exact Xs, by simp only [new_nobj, put_nobj]; omega, ?_, ?_, ?_, fun j hj => by omega⟩ ?_
  ·rw [put_ne (by omega), new_lt (by simp only [new_nobj]; omega), new_lt (by simp only [new_nobj]; omega), new_same]
  ·rw [put_ne (by omega), new_lt (by simp only [new_nobj]; omega), new_at (by simp only [new_nobj]; omega) (by simp only [new_nobj]; omega)]
  ·rw [show σ.nobj + 2 = σ.nobj + 1 + 1 by omega, put_same]
  rintro m s0 σ' ⟨i, rfl, hi, h1, h2, h3, h6, h8, h21, h22, h23, hK, hno, ob0, ob1, ob2, hN0⟩
  have kno := hK.nobj
  by_cases hlt : i < left.length
  ·have hget := List.getElem?_eq_getElem hlt
   have hbm := List.getElem_mem hlt
   have hlb := hal left[i] hbm
   obtain ⟨hb, ib, r, hdb⟩ := EL_PL hL hget
   have hLt : (left.map (ltA encT N))[i]? = some (ltA encT N left[i]) := by rw [List.getElem?_map, hget]; rfl
   generalize left[i] = b at hdb hget hb hlb hLt hbm
   have HLT : Abs.Hid _ := hLt
   clear hget hLt hbm
   have HSTEP : Abs.Hid (fb (ltA encT N b) = none → ∀ j, j < i + 1 → ∀ c, (left.map (ltA encT N))[j]? = some c → fb c = none) := fun h j hj c hc => by
    by_cases e : j = i
    ·subst e; rw [HLT.out] at hc; cases hc; exact h
    ·exact hN0.out j (by omega) c hc
   have hpp : N.idxOf a.pred = N.idxOf b.pred → a.terms.length = b.terms.length := fun h => hlb (idx_inj ham hb h)
   by_cases hnt : b.nt = a.nt
   ·have hnb : (b.nt == a.nt) = true := by simp [hnt]
    have hWi := fun σ => with_spec s (N.idxOf a.pred : Nat) (N.idxOf b.pred : Nat) a.terms b.terms ia ib (fun h => hpp (by omega)) hat hav σ
    have hfb : Abs.Hid (fb (ltA encT N b) = (if ((N.idxOf a.pred : Nat) : Int) = ((N.idxOf b.pred : Nat) : Int) then withL s (a.terms.map encT) (b.terms.map encT) else none).bind (ontoL (left.map (ltA encT N)) (lits.map (ltA encT N)))) := by
     rw [Abs.Hid, ← HFE.out]
     unfold fB ltA
     dsimp only
     by_cases hp : N.idxOf a.pred = N.idxOf b.pred
     ·rw [if_pos ⟨hnt, hp⟩, if_pos (by omega)]
     ·rw [if_neg (fun h => hp h.2), if_neg (by omega)]; rfl
    generalize (if ((N.idxOf a.pred : Nat) : Int) = ((N.idxOf b.pred : Nat) : Int) then withL s (a.terms.map encT) (b.terms.map encT) else none) = ow at hWi hfb
    cases ow with
    | none =>
     simp only [wRes] at hWi
     have hf0 : Abs.Hid (fb (ltA encT N b) = none) := hfb
     repeat' (first
 |with_reducible first|apply Xa|apply Xb|(refine Xc ?_;intro κ hκ)|(apply hκ.out;clear hκ κ)|apply Xd|apply Xe|apply Xf
 |((with_reducible first|refine Xl ?_ ?_|refine Xm ?_ ?_|refine Xk ?_ ?_)<;> intro h hari<;> try exact Xp)
 |((with_reducible refine Xh ?_);refine Xi (hWi _) ?_;rintro _ _ ⟨rfl,hK2⟩;(have kob2:=hK2.obj;have kno2:=hK2.nobj;simp only [new_nobj,put_nobj] at kno2))
 |refine Xr ?_
 |exact True.intro
 |((with_reducible refine Xg ?_);refine Xj ?_)
 |(apply hκ.out;clear hκ κ))
     exact ⟨left.length - (i + 1), by omega, i + 1, rfl, by omega, by simp, (((((hK.new _).put hK.nobj _).trans hK2).new _).put (by omega) _), by omega, HSTEP.out hf0.out⟩
    | some s1 =>
     simp only [wRes] at hWi
     have hIH := ih s1
     obtain ⟨sr, okr, hwr, hwf, hwt⟩ := wRes_form (ontoL (left.map (ltA encT N)) (lits.map (ltA encT N)) s1)
     rw [hwr] at hIH
     have HW : Abs.Hid (wRes (fb (ltA encT N b)) = tp [ag (swC sr), sc (.bool okr)] ∧ (okr = false → fb (ltA encT N b) = none) ∧ (okr = true → ∃ s', fb (ltA encT N b) = some s')) := by
      rw [Abs.Hid, hfb.out]; exact ⟨hwr, hwf, hwt⟩
     clear hwr hwf hwt hfb
     repeat' (first
 |with_reducible first|apply Xa|apply Xb|(refine Xc ?_;intro κ hκ)|(apply hκ.out;clear hκ κ)|apply Xd|apply Xe|apply Xf
 |((with_reducible first|refine Xl ?_ ?_|refine Xm ?_ ?_|refine Xk ?_ ?_)<;> intro h hari<;> try exact Xp)
 |((with_reducible refine Xh ?_);refine Xi (hWi _) ?_;rintro _ _ ⟨rfl,hK2⟩;(have kob2:=hK2.obj;have kno2:=hK2.nobj;simp only [new_nobj,put_nobj] at kno2))
 |refine Xr ?_
 |exact True.intro
 |((with_reducible refine Xg ?_);refine Xj ?_)
 |(apply hκ.out;clear hκ κ))
     rename_i σ2
     have hKt : Keep σ ((σ2.new (swC sw0)).put σ2.nobj (swC s1)) := ((((hK.new _).put hK.nobj _).trans hK2).new _).put (by omega) _
     have tno : ((σ2.new (swC sw0)).put σ2.nobj (swC s1)).nobj = σ2.nobj + 1 := rfl
     have tob : ((σ2.new (swC sw0)).put σ2.nobj (swC s1)).obj σ2.nobj = swC s1 := put_same
     have tob0 : ((σ2.new (swC sw0)).put σ2.nobj (swC s1)).obj σ.nobj = swC s := by rw [put_ne (by omega), new_lt (by omega), kob2 _ (by simp only [put_nobj, new_nobj]; omega), put_ne (by omega), new_lt (by omega), ob0]
     have tob1 : ((σ2.new (swC sw0)).put σ2.nobj (swC s1)).obj (σ.nobj + 1) = swC sw0 := by rw [put_ne (by omega), new_lt (by omega), kob2 _ (by simp only [put_nobj, new_nobj]; omega), put_ne (by omega), new_lt (by omega), ob1]
     have tob2 : ((σ2.new (swC sw0)).put σ2.nobj (swC s1)).obj (σ.nobj + 2) = [sc (.bool a.nt), sc (.int .i64 (N.idxOf a.pred : Nat)), sl ia a.terms.length (tcells a.terms)] := by rw [put_ne (by omega), new_lt (by omega), kob2 _ (by simp only [put_nobj, new_nobj]; omega), put_ne (by omega), new_lt (by omega), ob2]
     generalize (σ2.new (swC sw0)).put σ2.nobj (swC s1) = τ at hKt tno tob tob0 tob1 tob2
     clear hK2 kob2 hWi ob0 ob1 ob2 hK
     refine awp_mono (Q := fun e s' σ' => e = .normal ∧ ∃ o : Nat, s' 1 = sl ids (lits.length + 1) (sc (.bool a.nt) :: sc (.int .i64 (N.idxOf a.pred : Nat)) :: sl ia a.terms.length (tcells a.terms) :: d) ∧ s' 2 = sl idl left.length cl ∧ s' 3 = ptr σ.nobj 0 ∧ s' 6 = ptr (σ.nobj + 1) 0 ∧ s' 8 = ptr (σ.nobj + 2) 0 ∧ s' 21 = sl idl left.length cl ∧ s' 22 = sc (.int .i64 left.length) ∧ s' 23 = sc (.int .i64 i) ∧ s' 12 = sc (.bool okr) ∧ s' 13 = ptr o 0 ∧ τ.nobj ≤ o ∧ o < σ'.nobj ∧ σ'.obj o = swC sr ∧ Keep τ σ') ?_ ?_
     ·refine awp_draw_h follows_mixed (fun _ => True) [10] [0, 1, 2, 3] 7 #[true, true, true, true, false, false, false, false, false, false, false] (by kernel_rfl) (fun _ _ _ h => by cases h.1) ?_
      intro κ hκ
      refine Xr ?_
      refine hκ.out _ ?_
      clear hκ κ
      refine uany_all (rs := [4, 8]) (by kernel_rfl) (by simp) ?_
      intro j hj
      simp only [List.mem_cons, List.not_mem_nil, or_false] at hj
      rcases hj with rfl | rfl
      ·refine aOne_k ?_
       intro κ hκ
       refine Xr ?_
       refine ACalls.mono (hIH _) ?_
       rintro _ σ5 ⟨rfl, KK⟩
       have kno5 := KK.nobj
       refine Xr ?_
       refine hκ.out _ _ ⟨kept_keep KK, ?_⟩
       clear hκ κ
       refine uany_pure (i := 5) _ (tp [ag (swC sr), sc (.bool okr)]) rfl rfl rfl rfl rfl (by kernel_rfl) (by kernel_rfl) (fun _ _ _ h => by cases h.1) (fun o ho _ => KK.ver o ho) ?_
       refine uany_pure (i := 6) _ (ag (swC sr)) rfl rfl rfl rfl rfl (by kernel_rfl) (by kernel_rfl) (fun _ _ _ h => by cases h.1) (fun o ho _ => KK.ver o ho) ?_
       refine uany_pure (i := 7) _ (sc (.bool okr)) rfl rfl rfl rfl rfl (by kernel_rfl) (by kernel_rfl) (fun _ _ _ h => by cases h.1) (fun o ho _ => KK.ver o ho) ?_
       refine uany_one (i := 8) (by kernel_rfl) ?_
       refine aOne_k ?_
       intro κ hκ
       refine Xr ?_
       refine hκ.out _ _ ⟨kept_keep (KK.new _), ?_⟩
       clear hκ κ
       refine uany_one (i := 9) (by kernel_rfl) ?_
       refine aOne_k ?_
       intro κ hκ
       refine Xr ?_
       refine hκ.out _ _ ⟨kept_keep ((KK.new _).put (by omega) _), ?_⟩
       clear hκ κ
       refine uany_one (i := 10) (by kernel_rfl) ?_
       refine aOne_k ?_
       intro κ hκ
       refine Xr ?_
       refine hκ.out _ _ ⟨kept_last rfl, ?_⟩
       clear hκ κ
       refine uany_done (by kernel_rfl) ⟨rfl, σ5.nobj, by simp [upd, aput, h1], by simp [upd, aput, h2], by simp [upd, aput, h3], by simp [upd, aput, h6], by simp [upd, aput, h8], by simp [upd, aput, h21], by simp [upd, aput, h22], by simp [upd, aput, h23], by simp [upd, aput], by simp [upd, aput], by omega, by simp only [put_nobj, new_nobj]; omega, put_same, (KK.new _).put (by omega) _⟩
      ·refine aOne_k ?_
       intro κ hκ
       refine Xr ?_
       refine hκ.out _ _ ⟨kept_keep ((Keep.refl _).new _), ?_⟩
       clear hκ κ
       refine uany_one (i := 4) (by kernel_rfl) ?_
       refine aOne_k ?_
       intro κ hκ
       refine Xr ?_
       refine ACalls.mono (hIH _) ?_
       rintro _ σ5 ⟨rfl, hK5⟩
       have kob5 := hK5.obj
       have kno5 := hK5.nobj
       simp only [new_nobj] at kno5
       have ob5 : σ5.obj τ.nobj = swC sw0 := by rw [kob5 _ (by rw [new_nobj]; omega), new_same]
       have KK := ((Keep.refl τ).new (swC sw0)).trans hK5
       refine Xr ?_
       refine hκ.out _ _ ⟨kept_keep KK, ?_⟩
       clear hκ κ
       refine uany_pure (i := 5) _ (tp [ag (swC sr), sc (.bool okr)]) rfl rfl rfl rfl rfl (by kernel_rfl) (by kernel_rfl) (fun _ _ _ h => by cases h.1) (fun o ho _ => KK.ver o ho) ?_
       refine uany_pure (i := 6) _ (ag (swC sr)) rfl rfl rfl rfl rfl (by kernel_rfl) (by kernel_rfl) (fun _ _ _ h => by cases h.1) (fun o ho _ => KK.ver o ho) ?_
       refine uany_pure (i := 7) _ (sc (.bool okr)) rfl rfl rfl rfl rfl (by kernel_rfl) (by kernel_rfl) (fun _ _ _ h => by cases h.1) (fun o ho _ => KK.ver o ho) ?_
       refine uany_one (i := 9) (by kernel_rfl) ?_
       refine aOne_k ?_
       intro κ hκ
       refine Xr ?_
       refine hκ.out _ _ ⟨kept_keep (KK.put (by omega) _), ?_⟩
       clear hκ κ
       refine uany_one (i := 10) (by kernel_rfl) ?_
       refine aOne_k ?_
       intro κ hκ
       refine Xr ?_
       refine hκ.out _ _ ⟨kept_last rfl, ?_⟩
       clear hκ κ
       refine uany_done (by kernel_rfl) ⟨rfl, σ2.nobj + 1, by simp [upd, aput, h1], by simp [upd, aput, h2], by simp [upd, aput, h3], by simp [upd, aput, h6], by simp [upd, aput, h8], by simp [upd, aput, h21], by simp [upd, aput, h22], by simp [upd, aput, h23], by simp [upd, aput], by simp [upd, aput], by omega, by simp only [put_nobj]; omega, put_same, KK.put (by omega) _⟩
     ·clear h1 h2 h3 h6 h8 h21 h22 h23
      rintro e s' σ6 ⟨rfl, o, h1, h2, h3, h6, h8, h21, h22, h23, h12, h13, hto, hoo, hob, hK6⟩
      have kob6 := hK6.obj
      have kno6 := hK6.nobj
      have hK7 := hKt.trans hK6
      have ob0 : σ6.obj σ.nobj = swC s := by rw [kob6 _ (by omega), tob0]
      have ob1 : σ6.obj (σ.nobj + 1) = swC sw0 := by rw [kob6 _ (by omega), tob1]
      have ob2 : σ6.obj (σ.nobj + 2) = [sc (.bool a.nt), sc (.int .i64 (N.idxOf a.pred : Nat)), sl ia a.terms.length (tcells a.terms)] := by rw [kob6 _ (by omega), tob2]
      clear kob6 tob tob0 tob1 tob2 hK6 hKt hIH ih
      cases okr with
      | true =>
       repeat' (first
 |with_reducible first|apply Xa|apply Xb|(refine Xc ?_;intro κ hκ)|(apply hκ.out;clear hκ κ)|apply Xd|apply Xe|apply Xf
 |((with_reducible first|refine Xl ?_ ?_|refine Xm ?_ ?_|refine Xk ?_ ?_)<;> intro h hari<;> try exact Xp)
 |refine Xr ?_
 |exact True.intro
 |((with_reducible refine Xg ?_);refine Xj ?_)
 |(apply hκ.out;clear hκ κ))
       obtain ⟨s2, hs2⟩ := HW.out.2.2 rfl
       refine ⟨_, rfl, ?_, hK7.put (by omega) _⟩
       rw [find_hit hN0.out HLT.out hs2, ← hs2, HW.out.1]
      | false =>
       repeat' (first
 |with_reducible first|apply Xa|apply Xb|(refine Xc ?_;intro κ hκ)|(apply hκ.out;clear hκ κ)|apply Xd|apply Xe|apply Xf
 |((with_reducible first|refine Xl ?_ ?_|refine Xm ?_ ?_|refine Xk ?_ ?_)<;> intro h hari<;> try exact Xp)
 |refine Xr ?_
 |exact True.intro
 |((with_reducible refine Xg ?_);refine Xj ?_)
 |(apply hκ.out;clear hκ κ))
       exact ⟨left.length - (i + 1), by omega, i + 1, rfl, by omega, by simp, by omega, HSTEP.out (HW.out.2.1 rfl)⟩
   ·have hnb : (b.nt == a.nt) = false := by simpa using hnt
    have hf0 : Abs.Hid (fb (ltA encT N b) = none) := by
     rw [Abs.Hid, ← HFE.out]
     unfold fB ltA
     exact if_neg (fun h => hnt h.1)
    clear hnt
    repeat' (first
 |with_reducible first|apply Xa|apply Xb|(refine Xc ?_;intro κ hκ)|(apply hκ.out;clear hκ κ)|apply Xd|apply Xe|apply Xf
 |((with_reducible first|refine Xl ?_ ?_|refine Xm ?_ ?_|refine Xk ?_ ?_)<;> intro h hari<;> try exact Xp)
 |refine Xr ?_
 |exact True.intro
 |((with_reducible refine Xg ?_);refine Xj ?_)
 |(apply hκ.out;clear hκ κ))
    exact ⟨left.length - (i + 1), by omega, i + 1, rfl, by omega, by simp, (hK.new _).put hK.nobj _, by omega, HSTEP.out hf0.out⟩
  ·have hil : i = left.length := by omega
   subst hil
   have hres : Abs.Hid ((left.map (ltA encT N)).findSome? fb = none) := find_none (by rw [List.length_map]; exact hN0.out)
   repeat' (first
 |with_reducible first|apply Xa|apply Xb|(refine Xc ?_;intro κ hκ)|(apply hκ.out;clear hκ κ)|apply Xd|apply Xe|apply Xf
 |((with_reducible first|refine Xl ?_ ?_|refine Xm ?_ ?_|refine Xk ?_ ?_)<;> intro h hari<;> try exact Xp)
 |refine Xr ?_
 |exact True.intro
 |((with_reducible refine Xg ?_);refine Xj ?_)
 |(apply hκ.out;clear hκ κ))
   exact ⟨_, rfl, by rw [hres.out]; rfl, hK.put (by omega) _⟩
end Go.Proofs.YtmoeoppbmhfbpaaGreatDoorU
