import Derived.Test.YtmoeoppbmhfbpaaDoorXProgK
import Derived.Test.YtmoeoppbmhfbpaaDoorXGram
/- The program: atoms of an item, and whether it is safe. -/
namespace Go.Proofs.YtmoeoppbmhfbpaaDoorX
open Go.Abs
set_option linter.unusedSimpArgs false
set_option linter.unusedVariables false
set_option maxRecDepth 100000

def PC (N : List Tx) (a : RAtom) (c : List AV) : Prop := a.pred ∈ N ∧ ∃ ids, c = [sc (.int .i64 (N.idxOf a.pred : Nat)), sl ids a.terms.length (tcells a.terms)]
theorem PC_len {N : List Tx} (a : RAtom) (c : List AV) (h : PC N a c) : c.length = 2 := by obtain ⟨-, ids, rfl⟩ := h; rfl
theorem EL_PL {N : List Tx} {l : List RAtom} {cs : List AV} {i : Nat} {a : RAtom} (h : EL (PL N) l cs) (hi : l[i]? = some a) : a.pred ∈ N ∧ ∃ ia r, cs.drop (i * 3) = sc (.bool a.nt) :: sc (.int .i64 (N.idxOf a.pred : Nat)) :: sl ia a.terms.length (tcells a.terms) :: r := by
  obtain ⟨c, r, ⟨hm, ia, rfl⟩, e⟩ := EL.get PL_len h hi
  exact ⟨hm, ia, r, e⟩
theorem EL_PC {N : List Tx} {l : List RAtom} {cs : List AV} {i : Nat} {a : RAtom} (h : EL (PC N) l cs) (hi : l[i]? = some a) : a.pred ∈ N ∧ ∃ ia r, cs.drop (i * 2) = sc (.int .i64 (N.idxOf a.pred : Nat)) :: sl ia a.terms.length (tcells a.terms) :: r := by
  obtain ⟨c, r, ⟨hm, ia, rfl⟩, e⟩ := EL.get PC_len h hi
  exact ⟨hm, ia, r, e⟩
theorem EL_PI {N : List Tx} {l : List RItem} {cs : List AV} {i : Nat} {x : RItem} (h : EL (PI N) l cs) (hi : l[i]? = some x) : x.head.pred ∈ N ∧ ∃ ih id b r, EL (PL N) x.body b ∧ cs.drop (i * 4) = sc (.bool x.out) :: sc (.int .i64 (N.idxOf x.head.pred : Nat)) :: sl ih x.head.terms.length (tcells x.head.terms) :: sl id x.body.length b :: r := by
  obtain ⟨c, r, ⟨hm, ih, id, b, hb, rfl⟩, e⟩ := EL.get PI_len h hi
  exact ⟨hm, ih, id, b, r, hb, e⟩

theorem PC_plain {N : List Tx} {l : List RAtom} {cs : List AV} (h : EL (PC N) l cs) : ∀ c ∈ cs, Plain c := by
  induction l generalizing cs with
  | nil => have h : cs = [] := h; subst h; simp
  | cons a l ih =>
    obtain ⟨c1, c2, ⟨-, ids, rfl⟩, h2, rfl⟩ := h
    intro c hc
    rcases List.mem_append.1 hc with hc | hc
    · simp only [List.mem_cons, List.not_mem_nil, or_false] at hc
      rcases hc with rfl | rfl
      · exact .inl ⟨_, rfl⟩
      · refine .inr ⟨_, _, _, rfl, fun x hx => ?_⟩
        simp only [tcells, List.mem_flatMap, tcell, List.mem_cons, List.not_mem_nil, or_false] at hx
        obtain ⟨w, -, rfl | rfl⟩ := hx <;> exact ⟨_, rfl⟩
    · exact ih h2 c hc
theorem set_two {xs ys : List AV} {n : Nat} {u v a b : AV} (hn : xs.length = n) : ((xs ++ u :: v :: ys).set n a).set (n + 1) b = xs ++ a :: b :: ys := by
  subst hn
  rw [List.set_append_right _ _ (Nat.le_refl _), Nat.sub_self, List.set_cons_zero, List.set_append_right _ _ (by omega), Nat.add_sub_cancel_left, List.set_cons_succ, List.set_cons_zero]
theorem rep_two {m : Nat} (h : 0 < m) (u v : AV) : (List.replicate m [u, v]).flatten = u :: v :: (List.replicate (m - 1) [u, v]).flatten := by
  obtain ⟨k, rfl⟩ : ∃ k, m = k + 1 := ⟨m - 1, by omega⟩
  rw [List.replicate_succ]; rfl
set_option maxHeartbeats 16000000 in
theorem patoms_ok (N : List Tx) (x : RItem) (c : List AV) (hc : PI N x c) (hout : x.out = false) (hn : x.body.length ≤ 1000) (σ : St) : ACalls Tryd.prog 30 [ag c] σ fun r σ' => ∃ (o n : Nat) (cs : List AV), r = fx o 0 n ∧ σ.nobj ≤ o ∧ σ'.obj o = cs ∧ Keep σ σ' ∧ (∀ c ∈ cs, Plain c) ∧ (n = (atomsL x).length ∧ EL (PC N) (atomsL x) cs) := by
  obtain ⟨hm, ih, id, b, hb, rfl⟩ := hc
  have hbl := EL.length PL_len hb
  refine acalls 33 [.tmp 2] Tryd.func30 rfl (by decide) rfl rfl (Nat.le_of_ble_eq_true rfl) ?_
  repeat' (first
 |with_reducible (first|apply awp_seq|apply awp_block|(refine awp_region_k ?_;intro κ hκ)|(refine hκ.out _ _ ?_;clear hκ κ)|apply awp_skip|apply awp_exit|apply awp_ret)
 |((first|with_reducible apply gd_split|((with_reducible refine cond_go ?_);refine awp_cond_split rfl ?_ ?_))<;>intro h<;>(try simp only [upd, ↓reduceIte,Nat.reduceEqDiff,B2] at h)<;>(try simp only [*,reduceCtorEq,decide_true,decide_false] at h)<;>(try (have hari:=h;simp only [B3] at hari))<;>(try (first|contradiction|(exfalso;omega)|(exfalso;simp at h;done)))<;>(try simp only [B5]))
 |(simp (maxSteps:=3000000) (disch:=(first|omega|(simp only [B1, *];omega))) only [↓mapA_nil, ↓mapA_cons,B0,B4,awant,undef,aq,al,cst,cst1,acells,flat,behind,abin,aconv,aint,thenQ,blkQ,retQ,Value.cells,Value.oneCell',Int.reduceToNat, ↓reduceIte,Nat.reduceLT,Nat.reduceEqDiff,reduceCtorEq,Nat.reduceAdd,Nat.reduceMul,Nat.reduceLeDiff,u_3,u_39,telem_39,telem_73,tez_73,tfld_41_0,tfld_41_1,tfld_41_2,tfld_67_1,tsz_38,tsz_39,tsz_4,tsz_67,tzero_67, *])
 |(refine hκ.out _ _ ?_;clear hκ κ))
  have hK0 : Keep σ (σ.new [sc (.bool false), sc (.int .i64 (N.idxOf x.head.pred : Nat)), sl ih x.head.terms.length (tcells x.head.terms), sl id x.body.length b]) := (Keep.refl _).new _
  have hto : ((x.body.length : Int) + 1).toNat = x.body.length + 1 := by omega
  refine awp_loop (fun m s σ' => ∃ (k : Nat) (cur : List AV), m = x.body.length - k ∧ k ≤ x.body.length ∧ s 3 = fx (σ.nobj + 1) 0 (x.body.length + 1) ∧ s 18 = sl id x.body.length b ∧ s 19 = sc (.int .i64 x.body.length) ∧ s 20 = sc (.int .i64 k) ∧ Keep σ σ' ∧ σ.nobj + 1 < σ'.nobj ∧ σ'.obj (σ.nobj + 1) = cur ∧ cur.length = (x.body.length + 1) * 2 ∧ Abs.Hid (∃ xs, cur = xs ++ (List.replicate (x.body.length - k) [sc (.int .i64 0), nilS]).flatten ∧ xs.length = (1 + k) * 2 ∧ EL (PC N) (x.head :: x.body.take k) xs)) x.body.length
    ⟨0, _, by omega, by omega, by simp [upd, hto], by simp [upd], by simp [upd], rfl, (hK0.new _).put (by omega) _, by simp only [put_nobj, new_nobj]; omega, put_same, by simp [hto], [sc (.int .i64 (N.idxOf x.head.pred : Nat)), sl ih x.head.terms.length (tcells x.head.terms)], ?_, by simp, EL.single ⟨hm, ih, rfl⟩⟩ ?_
  · rw [hto, rep_two (by omega)]
    rfl
  clear hK0
  rintro m s σ' ⟨k, cur, rfl, hk, h3, h18, h19, h20, hK, hno, hob, hcl, hE⟩
  have kno := hK.nobj
  by_cases hlt : k < x.body.length
  · have hget := List.getElem?_eq_getElem hlt
    obtain ⟨ha, ia, r, hd⟩ := EL_PL hb hget
    generalize x.body[k] = a at hd hget ha
    have HG : Abs.Hid (x.body[k]? = some a) := hget
    clear hget
    have ht1 : ((k : Int) + 1).toNat = k + 1 := by omega
    repeat' (first
 |with_reducible (first|apply awp_seq|apply awp_block|(refine awp_region_k ?_;intro κ hκ)|(refine hκ.out _ _ ?_;clear hκ κ)|apply awp_skip|apply awp_exit|apply awp_ret)
 |((first|with_reducible apply gd_split|((with_reducible refine cond_go ?_);refine awp_cond_split rfl ?_ ?_))<;>intro h<;>(try simp only [upd, ↓reduceIte,Nat.reduceEqDiff,B2] at h)<;>(try simp only [*,reduceCtorEq,decide_true,decide_false] at h)<;>(try (have hari:=h;simp only [B3] at hari))<;>(try (first|contradiction|(exfalso;omega)|(exfalso;simp at h;done)))<;>(try simp only [B5]))
 |(simp (maxSteps:=3000000) (disch:=(first|omega|(simp only [B1, *];omega))) only [↓mapA_nil, ↓mapA_cons,B0,B4,awant,undef,aq,al,cst,cst1,acells,flat,behind,abin,aconv,aint,thenQ,blkQ,retQ,Value.cells,Value.oneCell',Int.reduceToNat, ↓reduceIte,Nat.reduceLT,Nat.reduceEqDiff,reduceCtorEq,Nat.reduceAdd,Nat.reduceMul,Nat.reduceLeDiff,u_3,u_39,telem_39,telem_73,tez_73,tfld_41_0,tfld_41_1,tfld_41_2,tfld_67_1,tsz_38,tsz_39,tsz_4,tsz_67,tzero_67, *])
 |(refine hκ.out _ _ ?_;clear hκ κ))
    have HN : Abs.Hid (∃ xs, (cur.set ((k + 1) * 2) (sc (.int .i64 (N.idxOf a.pred : Nat)))).set ((k + 1) * 2 + 1) (sl ia a.terms.length (tcells a.terms)) = xs ++ (List.replicate (x.body.length - (k + 1)) [sc (.int .i64 0), nilS]).flatten ∧ xs.length = (1 + (k + 1)) * 2 ∧ EL (PC N) (x.head :: x.body.take (k + 1)) xs) := by
      obtain ⟨xs, e1, e2, e3⟩ := hE.out
      refine ⟨xs ++ [sc (.int .i64 (N.idxOf a.pred : Nat)), sl ia a.terms.length (tcells a.terms)], ?_, by simp [e2]; omega, ?_⟩
      · rw [e1, rep_two (by omega), set_two (by rw [e2]; omega)]
        simp [Nat.sub_sub]
      · rw [List.take_add_one, HG.out]
        exact EL.append e3 (EL.single ⟨ha, ia, rfl⟩)
    refine ⟨x.body.length - (k + 1), by omega, k + 1, (cur.set ((k + 1) * 2) (sc (.int .i64 (N.idxOf a.pred : Nat)))).set ((k + 1) * 2 + 1) (sl ia a.terms.length (tcells a.terms)), ?_⟩
    ((repeat' (with_reducible refine And.intro ?_ ?_)) <;> (first | rfl | assumption | omega | (simp only [new_nobj, put_nobj, lay_nobj]; omega) | (simp; omega) | (simp; done) | exact (((hK.new _).put hK.nobj _).put (by omega) _) | exact (put_same) | exact (HN) | exact (by simp [hcl]) | ((repeat (first | exact Keep.refl _ | assumption | (refine Keep.put ?_ (by first | omega | (simp only [new_nobj, put_nobj, lay_nobj, *]; omega)) _) | (refine Keep.new ?_ _) | (refine Keep.lay ?_ _) | (refine Keep.trans ?_ (by assumption)))); done)))
  · have hkl : k = x.body.length := by omega
    subst hkl
    obtain ⟨xs, e1, e2, e3⟩ := hE.out
    rw [Nat.sub_self, List.replicate_zero, List.flatten_nil, List.append_nil] at e1
    rw [List.take_length] at e3
    subst e1
    have hat : atomsL x = x.head :: x.body := by simp [atomsL, hout]
    repeat' (first
 |with_reducible (first|apply awp_seq|apply awp_block|(refine awp_region_k ?_;intro κ hκ)|(refine hκ.out _ _ ?_;clear hκ κ)|apply awp_skip|apply awp_exit|apply awp_ret)
 |((first|with_reducible apply gd_split|((with_reducible refine cond_go ?_);refine awp_cond_split rfl ?_ ?_))<;>intro h<;>(try simp only [upd, ↓reduceIte,Nat.reduceEqDiff,B2] at h)<;>(try simp only [*,reduceCtorEq,decide_true,decide_false] at h)<;>(try (have hari:=h;simp only [B3] at hari))<;>(try (first|contradiction|(exfalso;omega)|(exfalso;simp at h;done)))<;>(try simp only [B5]))
 |(simp (maxSteps:=3000000) (disch:=(first|omega|(simp only [B1, *];omega))) only [↓mapA_nil, ↓mapA_cons,B0,B4,awant,undef,aq,al,cst,cst1,acells,flat,behind,abin,aconv,aint,thenQ,blkQ,retQ,Value.cells,Value.oneCell',Int.reduceToNat, ↓reduceIte,Nat.reduceLT,Nat.reduceEqDiff,reduceCtorEq,Nat.reduceAdd,Nat.reduceMul,Nat.reduceLeDiff,u_3,u_39,telem_39,telem_73,tez_73,tfld_41_0,tfld_41_1,tfld_41_2,tfld_67_1,tsz_38,tsz_39,tsz_4,tsz_67,tzero_67, *])
 |(refine hκ.out _ _ ?_;clear hκ κ))
    exact ⟨_, rfl, σ.nobj + 1, _, cur, rfl, by omega, hob, PC_plain e3, rfl, e3⟩
set_option maxHeartbeats 16000000 in
theorem patoms_nil (N : List Tx) (x : RItem) (c : List AV) (hc : PI N x c) (hout : x.out = true) (σ : St) : ACalls Tryd.prog 30 [ag c] σ fun r σ' => r = nilS ∧ Keep σ σ' := by
  obtain ⟨hm, ih, id, b, hb, rfl⟩ := hc
  refine acalls 33 [.tmp 2] Tryd.func30 rfl (by decide) rfl rfl (Nat.le_of_ble_eq_true rfl) ?_
  repeat' (first
 |with_reducible (first|apply awp_seq|apply awp_block|(refine awp_region_k ?_;intro κ hκ)|(refine hκ.out _ _ ?_;clear hκ κ)|apply awp_skip|apply awp_exit|apply awp_ret)
 |((first|with_reducible apply gd_split|((with_reducible refine cond_go ?_);refine awp_cond_split rfl ?_ ?_))<;>intro h<;>(try simp only [upd, ↓reduceIte,Nat.reduceEqDiff,B2] at h)<;>(try simp only [*,reduceCtorEq,decide_true,decide_false] at h)<;>(try (have hari:=h;simp only [B3] at hari))<;>(try (first|contradiction|(exfalso;omega)|(exfalso;simp at h;done)))<;>(try simp only [B5]))
 |(simp (maxSteps:=3000000) (disch:=(first|omega|(simp only [B1, *];omega))) only [↓mapA_nil, ↓mapA_cons,B0,B4,awant,undef,aq,al,cst,cst1,acells,flat,behind,abin,aconv,aint,thenQ,blkQ,retQ,Value.cells,Value.oneCell',Int.reduceToNat, ↓reduceIte,Nat.reduceLT,Nat.reduceEqDiff,reduceCtorEq,Nat.reduceAdd,Nat.reduceMul,Nat.reduceLeDiff,u_3,u_39,telem_39,telem_73,tez_73,tfld_41_0,tfld_41_1,tfld_41_2,tfld_67_1,tsz_38,tsz_39,tsz_4,tsz_67,tzero_67, *])
 |(refine hκ.out _ _ ?_;clear hκ κ))
  first
  | exact ⟨_, rfl, rfl, by repeat (first | exact Keep.refl _ | assumption | (refine Keep.put ?_ (by first | omega | (simp only [new_nobj, put_nobj, lay_nobj, *]; omega)) _) | (refine Keep.new ?_ _) | (refine Keep.lay ?_ _) | (refine Keep.trans ?_ (by assumption)))⟩
  | exact ⟨rfl, by repeat (first | exact Keep.refl _ | assumption | (refine Keep.put ?_ (by first | omega | (simp only [new_nobj, put_nobj, lay_nobj, *]; omega)) _) | (refine Keep.new ?_ _) | (refine Keep.lay ?_ _) | (refine Keep.trans ?_ (by assumption)))⟩
theorem patoms_spec (N : List Tx) (x : RItem) (c : List AV) (hc : PI N x c) (ho : x.out = true → x.body = []) (hn : x.body.length ≤ 1000) (σ : St) : ACalls Tryd.prog 30 [ag c] σ fun r σ' => ∃ id cs, r = sl id (atomsL x).length cs ∧ EL (PC N) (atomsL x) cs ∧ Keep σ σ' := by
  by_cases hout : x.out = true
  · refine (patoms_nil N x c hc hout σ).mono fun r σ' h => ?_
    obtain ⟨rfl, h⟩ := h
    exact ⟨1, [], by simp [atomsL, hout, ho hout], by simp [atomsL, hout, ho hout, EL], h⟩
  · have hout : x.out = false := by simpa using hout
    refine (ACalls.freeze (patoms_ok N x c hc hout hn σ)).mono fun r σ' h => ?_
    obtain ⟨n, cs, rfl, ⟨rfl, h1⟩, h2⟩ := h
    exact ⟨0, cs, rfl, h1, h2⟩

theorem tcells_get {ts : List Tx} {k : Nat} {w : Tx} (h : ts[k]? = some w) : ∃ r, (tcells ts).drop (k * 2) = sc (.bool (encT w).1) :: sc (.int .i64 (encT w).2) :: r := by
  have hE : ∀ ts : List Tx, EL (fun w c => c = tcell w) ts (tcells ts) := by
    intro ts
    induction ts with
    | nil => rfl
    | cons a l ih => exact ⟨tcell a, tcells l, rfl, ih, by simp [tcells]⟩
  obtain ⟨c, r, rfl, e⟩ := EL.get (z := 2) (fun a c h => by rw [h]; rfl) (hE ts) h
  exact ⟨r, e⟩
theorem no_step {p : Nat → Bool} {i : Nat} (h : ∀ j, j < i → p j = false) (hi : p i = false) : ∀ j, j < i + 1 → p j = false := fun j hj => by
  by_cases e : j = i
  · rw [e]; exact hi
  · exact h j (by omega)
def hitT (v : Int) (w : Tx) : Bool := (encT w).1 && (encT w).2 == v
def hitV (a : RAtom) (v : Int) (i : Nat) : Bool := match a.terms[i]? with | some w => hitT v w | none => false

set_option maxHeartbeats 16000000 in
theorem pplace_spec (k : Int) (ids : Nat) (a : RAtom) (v : Int) (hn : a.terms.length ≤ 1000) (σ : St) : ACalls Tryd.prog 54 [ag [sc (.int .i64 k), sl ids a.terms.length (tcells a.terms)], sc (.int .i64 v)] σ fun r σ' => r = sc (.int .i64 (firstN (hitV a v) a.terms.length)) ∧ Keep σ σ' := by
  have htl := tcells_len a.terms
  refine acalls 25 [.tmp 4] Tryd.func54 rfl (by decide) rfl rfl (Nat.le_of_ble_eq_true rfl) ?_
  repeat' (first
 |with_reducible (first|apply awp_seq|apply awp_block|(refine awp_region_k ?_;intro κ hκ)|(refine hκ.out _ _ ?_;clear hκ κ)|apply awp_skip|apply awp_exit|apply awp_ret)
 |((first|with_reducible apply gd_split|((with_reducible refine cond_go ?_);refine awp_cond_split rfl ?_ ?_))<;>intro h<;>(try simp only [upd, ↓reduceIte,Nat.reduceEqDiff,B2] at h)<;>(try simp only [*,reduceCtorEq,decide_true,decide_false] at h)<;>(try (have hari:=h;simp only [B3] at hari))<;>(try (first|contradiction|(exfalso;omega)|(exfalso;simp at h;done)))<;>(try simp only [B5]))
 |(simp (maxSteps:=3000000) (disch:=(first|omega|(simp only [B1, *];omega))) only [↓mapA_nil, ↓mapA_cons,B0,B4,awant,undef,aq,al,cst,cst1,acells,flat,behind,abin,aconv,aint,thenQ,blkQ,retQ,Value.cells,Value.oneCell',Int.reduceToNat, ↓reduceIte,Nat.reduceLT,Nat.reduceEqDiff,reduceCtorEq,Nat.reduceAdd,Nat.reduceMul,Nat.reduceLeDiff,u_3,u_36,telem_36,tfld_38_1,tfld_45_0,tfld_45_1,tsz_3,tsz_36,tsz_4,tsz_45,tzero_45, *])
 |(refine hκ.out _ _ ?_;clear hκ κ))
  refine awp_loop (fun m s σ' => ∃ i : Nat, m = a.terms.length - i ∧ i ≤ a.terms.length ∧ s 1 = sc (.int .i64 v) ∧ s 8 = sl ids a.terms.length (tcells a.terms) ∧ s 9 = sc (.int .i64 a.terms.length) ∧ s 10 = sc (.int .i64 i) ∧ Keep σ σ' ∧ Abs.Hid (∀ j, j < i → hitV a v j = false)) a.terms.length
    ⟨0, by omega, by omega, rfl, rfl, rfl, rfl, by repeat (first | exact Keep.refl _ | assumption | (refine Keep.put ?_ (by first | omega | (simp only [new_nobj, put_nobj, lay_nobj, *]; omega)) _) | (refine Keep.new ?_ _) | (refine Keep.lay ?_ _) | (refine Keep.trans ?_ (by assumption))), fun j hj => by omega⟩ ?_
  rintro m s σ' ⟨i, rfl, hi, h1, h8, h9, h10, hK, hno⟩
  by_cases hlt : i < a.terms.length
  · have hget := List.getElem?_eq_getElem hlt
    obtain ⟨r, hd⟩ := tcells_get hget
    generalize a.terms[i] = w at hd hget
    have hv : Abs.Hid (hitV a v i = hitT v w) := by rw [Abs.Hid, hitV, hget]
    clear hget
    have kno := hK.nobj
    generalize h1w : (encT w).1 = w1 at hd
    generalize h2w : (encT w).2 = w2 at hd
    have hvw : Abs.Hid (hitT v w = (w1 && w2 == v)) := by rw [Abs.Hid, hitT, h1w, h2w]
    clear h1w h2w
    repeat' (first
 |with_reducible (first|apply awp_seq|apply awp_block|(refine awp_region_k ?_;intro κ hκ)|(refine hκ.out _ _ ?_;clear hκ κ)|apply awp_skip|apply awp_exit|apply awp_ret)
 |((first|with_reducible apply gd_split|((with_reducible refine cond_go ?_);refine awp_cond_split rfl ?_ ?_))<;>intro h<;>(try simp only [upd, ↓reduceIte,Nat.reduceEqDiff,B2] at h)<;>(try simp only [*,reduceCtorEq,decide_true,decide_false] at h)<;>(try (have hari:=h;simp only [B3] at hari))<;>(try (first|contradiction|(exfalso;omega)|(exfalso;simp at h;done)))<;>(try simp only [B5]))
 |(simp (maxSteps:=3000000) (disch:=(first|omega|(simp only [B1, *];omega))) only [↓mapA_nil, ↓mapA_cons,B0,B4,awant,undef,aq,al,cst,cst1,acells,flat,behind,abin,aconv,aint,thenQ,blkQ,retQ,Value.cells,Value.oneCell',Int.reduceToNat, ↓reduceIte,Nat.reduceLT,Nat.reduceEqDiff,reduceCtorEq,Nat.reduceAdd,Nat.reduceMul,Nat.reduceLeDiff,u_3,u_36,telem_36,tfld_38_1,tfld_45_0,tfld_45_1,tsz_3,tsz_36,tsz_4,tsz_45,tzero_45, *])
 |(refine hκ.out _ _ ?_;clear hκ κ))
    · exact ⟨_, rfl, by rw [firstN_hit hlt (by rw [hv.out, hvw.out]; simp [*]) hno.out], by repeat (first | exact Keep.refl _ | assumption | (refine Keep.put ?_ (by first | omega | (simp only [new_nobj, put_nobj, lay_nobj, *]; omega)) _) | (refine Keep.new ?_ _) | (refine Keep.lay ?_ _) | (refine Keep.trans ?_ (by assumption)))⟩
    all_goals exact ⟨a.terms.length - (i + 1), by omega, i + 1, rfl, by omega, by simp, by repeat (first | exact Keep.refl _ | assumption | (refine Keep.put ?_ (by first | omega | (simp only [new_nobj, put_nobj, lay_nobj, *]; omega)) _) | (refine Keep.new ?_ _) | (refine Keep.lay ?_ _) | (refine Keep.trans ?_ (by assumption))), no_step hno.out (by rw [hv.out, hvw.out]; simp [*])⟩
  · have hil : i = a.terms.length := by omega
    subst hil
    repeat' (first
 |with_reducible (first|apply awp_seq|apply awp_block|(refine awp_region_k ?_;intro κ hκ)|(refine hκ.out _ _ ?_;clear hκ κ)|apply awp_skip|apply awp_exit|apply awp_ret)
 |((first|with_reducible apply gd_split|((with_reducible refine cond_go ?_);refine awp_cond_split rfl ?_ ?_))<;>intro h<;>(try simp only [upd, ↓reduceIte,Nat.reduceEqDiff,B2] at h)<;>(try simp only [*,reduceCtorEq,decide_true,decide_false] at h)<;>(try (have hari:=h;simp only [B3] at hari))<;>(try (first|contradiction|(exfalso;omega)|(exfalso;simp at h;done)))<;>(try simp only [B5]))
 |(simp (maxSteps:=3000000) (disch:=(first|omega|(simp only [B1, *];omega))) only [↓mapA_nil, ↓mapA_cons,B0,B4,awant,undef,aq,al,cst,cst1,acells,flat,behind,abin,aconv,aint,thenQ,blkQ,retQ,Value.cells,Value.oneCell',Int.reduceToNat, ↓reduceIte,Nat.reduceLT,Nat.reduceEqDiff,reduceCtorEq,Nat.reduceAdd,Nat.reduceMul,Nat.reduceLeDiff,u_3,u_36,telem_36,tfld_38_1,tfld_45_0,tfld_45_1,tsz_3,tsz_36,tsz_4,tsz_45,tzero_45, *])
 |(refine hκ.out _ _ ?_;clear hκ κ))
    first | exact ⟨_, rfl, by rw [firstN_none hno.out], hK⟩ | exact ⟨_, rfl, by rw [firstN_none hno.out]⟩

theorem firstN_any {α : Type} (l : List α) (q : α → Bool) (p : Nat → Bool) (hp : ∀ i, p i = match l[i]? with | some w => q w | none => false) : (decide (firstN p l.length ≠ -1)) = l.any q := by
  by_cases h : l.any q = true
  · rw [h]
    rw [List.any_eq_true] at h
    obtain ⟨w, hw, hq⟩ := h
    obtain ⟨i, hi, he⟩ := List.getElem_of_mem hw
    by_cases hN : firstN p l.length = -1
    · exfalso
      unfold firstN at hN
      split at hN
      · omega
      · rename_i hf
        rw [List.find?_eq_none] at hf
        have := hf i (by simpa using hi)
        rw [hp, List.getElem?_eq_getElem hi, he] at this
        simp [hq] at this
    · simpa using hN
  · have h : l.any q = false := by simpa using h
    rw [h, firstN_none (fun i hi => by
      rw [hp, List.getElem?_eq_getElem hi]
      rw [List.any_eq_false] at h
      simpa using h l[i] (List.getElem_mem hi))]
    simp
set_option maxHeartbeats 16000000 in
theorem phas_spec (k : Int) (ids : Nat) (a : RAtom) (v : Int) (hn : a.terms.length ≤ 1000) (σ : St) : ACalls Tryd.prog 46 [ag [sc (.int .i64 k), sl ids a.terms.length (tcells a.terms)], sc (.int .i64 v)] σ fun r σ' => r = sc (.bool (a.terms.any (hitT v))) ∧ Keep σ σ' := by
  have hF := firstN_any a.terms (hitT v) (hitV a v) (fun i => by unfold hitV; cases a.terms[i]? <;> rfl)
  refine acalls 9 [.tmp 4] Tryd.func46 rfl (by decide) rfl rfl (Nat.le_of_ble_eq_true rfl) ?_
  repeat' (first
 |with_reducible (first|apply awp_seq|apply awp_block|(refine awp_region_k ?_;intro κ hκ)|(refine hκ.out _ _ ?_;clear hκ κ)|apply awp_skip|apply awp_exit|apply awp_ret)
 |((first|with_reducible apply gd_split|((with_reducible refine cond_go ?_);refine awp_cond_split rfl ?_ ?_))<;>intro h<;>(try simp only [upd, ↓reduceIte,Nat.reduceEqDiff,B2] at h)<;>(try simp only [*,reduceCtorEq,decide_true,decide_false] at h)<;>(try (have hari:=h;simp only [B3] at hari))<;>(try (first|contradiction|(exfalso;omega)|(exfalso;simp at h;done)))<;>(try simp only [B5]))
 |((with_reducible refine acalls_go ?_);refine ACalls.mono (pplace_spec _ _ a v hn _) ?_;rintro _ _ ⟨rfl,hK1⟩)
 |(simp (maxSteps:=3000000) (disch:=(first|omega|(simp only [B1, *];omega))) only [↓mapA_nil, ↓mapA_cons,B0,B4,awant,undef,aq,al,cst,cst1,acells,flat,behind,abin,aconv,aint,thenQ,blkQ,retQ,Value.cells,Value.oneCell',Int.reduceToNat, ↓reduceIte,Nat.reduceLT,Nat.reduceEqDiff,reduceCtorEq,Nat.reduceAdd,Nat.reduceMul,Nat.reduceLeDiff,u_3,tsz_38, *])
 |(refine hκ.out _ _ ?_;clear hκ κ))
  refine ⟨_, rfl, ?_, by repeat (first | exact Keep.refl _ | assumption | (refine Keep.put ?_ (by first | omega | (simp only [new_nobj, put_nobj, lay_nobj, *]; omega)) _) | (refine Keep.new ?_ _) | (refine Keep.lay ?_ _) | (refine Keep.trans ?_ (by assumption)))⟩
  rw [← hF, show (firstN (hitV a v) a.terms.length != -1) = decide (firstN (hitV a v) a.terms.length ≠ -1) from by rw [Bool.eq_iff_iff]; simp]

def bindsB (x : RItem) (v : Int) : Bool := x.body.any fun a => !a.nt && a.terms.any (hitT v)
set_option maxHeartbeats 16000000 in
theorem pbinds_spec (N : List Tx) (x : RItem) (c : List AV) (v : Int) (hc : PI N x c) (hx : x.fits) (σ : St) : ACalls Tryd.prog 39 [ag c, sc (.int .i64 v)] σ fun r σ' => r = sc (.bool (bindsB x v)) ∧ Keep σ σ' := by
  obtain ⟨hm, ih, id, b, hb, rfl⟩ := hc
  have hbl := EL.length PL_len hb
  obtain ⟨hx1, hx2, hx3⟩ := hx
  refine acalls 24 [.tmp 4] Tryd.func39 rfl (by decide) rfl rfl (Nat.le_of_ble_eq_true rfl) ?_
  repeat' (first
 |with_reducible (first|apply awp_seq|apply awp_block|(refine awp_region_k ?_;intro κ hκ)|(refine hκ.out _ _ ?_;clear hκ κ)|apply awp_skip|apply awp_exit|apply awp_ret)
 |((first|with_reducible apply gd_split|((with_reducible refine cond_go ?_);refine awp_cond_split rfl ?_ ?_))<;>intro h<;>(try simp only [upd, ↓reduceIte,Nat.reduceEqDiff,B2] at h)<;>(try simp only [*,reduceCtorEq,decide_true,decide_false] at h)<;>(try (have hari:=h;simp only [B3] at hari))<;>(try (first|contradiction|(exfalso;omega)|(exfalso;simp at h;done)))<;>(try simp only [B5]))
 |(simp (maxSteps:=3000000) (disch:=(first|omega|(simp only [B1, *];omega))) only [↓mapA_nil, ↓mapA_cons,B0,B4,awant,undef,aq,al,cst,cst1,acells,flat,behind,abin,aconv,aint,thenQ,blkQ,retQ,Value.cells,Value.oneCell',Int.reduceToNat, ↓reduceIte,Nat.reduceLT,Nat.reduceEqDiff,reduceCtorEq,Nat.reduceAdd,Nat.reduceMul,Nat.reduceLeDiff,u_3,u_39,telem_39,tfld_41_2,tfld_67_0,tfld_67_1,tsz_38,tsz_39,tsz_4,tsz_67,tzero_67, *])
 |(refine hκ.out _ _ ?_;clear hκ κ))
  refine awp_loop (fun m s σ' => ∃ i : Nat, m = x.body.length - i ∧ i ≤ x.body.length ∧ s 1 = sc (.int .i64 v) ∧ s 8 = sl id x.body.length b ∧ s 9 = sc (.int .i64 x.body.length) ∧ s 10 = sc (.int .i64 i) ∧ Keep σ σ' ∧ Abs.Hid ((x.body.take i).any (fun a => !a.nt && a.terms.any (hitT v)) = false)) x.body.length
    ⟨0, by omega, by omega, rfl, rfl, rfl, rfl, by repeat (first | exact Keep.refl _ | assumption | (refine Keep.put ?_ (by first | omega | (simp only [new_nobj, put_nobj, lay_nobj, *]; omega)) _) | (refine Keep.new ?_ _) | (refine Keep.lay ?_ _) | (refine Keep.trans ?_ (by assumption))), by simp [Abs.Hid]⟩ ?_
  rintro m s σ' ⟨i, rfl, hi, h1, h8, h9, h10, hK, hno⟩
  by_cases hlt : i < x.body.length
  · have hget := List.getElem?_eq_getElem hlt
    have hta := hx3 x.body[i] (List.getElem_mem hlt)
    obtain ⟨ha, ia, r, hd⟩ := EL_PL hb hget
    generalize x.body[i] = a at hd hget ha hta
    have HG : Abs.Hid (x.body[i]? = some a) := hget
    clear hget
    have kno := hK.nobj
    repeat' (first
 |with_reducible (first|apply awp_seq|apply awp_block|(refine awp_region_k ?_;intro κ hκ)|(refine hκ.out _ _ ?_;clear hκ κ)|apply awp_skip|apply awp_exit|apply awp_ret)
 |((first|with_reducible apply gd_split|((with_reducible refine cond_go ?_);refine awp_cond_split rfl ?_ ?_))<;>intro h<;>(try simp only [upd, ↓reduceIte,Nat.reduceEqDiff,B2] at h)<;>(try simp only [*,reduceCtorEq,decide_true,decide_false] at h)<;>(try (have hari:=h;simp only [B3] at hari))<;>(try (first|contradiction|(exfalso;omega)|(exfalso;simp at h;done)))<;>(try simp only [B5]))
 |((with_reducible refine acalls_go ?_);refine ACalls.mono (phas_spec _ _ a v hta _) ?_;rintro _ _ ⟨rfl,hK1⟩)
 |(simp (maxSteps:=3000000) (disch:=(first|omega|(simp only [B1, *];omega))) only [↓mapA_nil, ↓mapA_cons,B0,B4,awant,undef,aq,al,cst,cst1,acells,flat,behind,abin,aconv,aint,thenQ,blkQ,retQ,Value.cells,Value.oneCell',Int.reduceToNat, ↓reduceIte,Nat.reduceLT,Nat.reduceEqDiff,reduceCtorEq,Nat.reduceAdd,Nat.reduceMul,Nat.reduceLeDiff,u_3,u_39,telem_39,tfld_41_2,tfld_67_0,tfld_67_1,tsz_38,tsz_39,tsz_4,tsz_67,tzero_67, *])
 |(refine hκ.out _ _ ?_;clear hκ κ))
    · exact ⟨_, rfl, by rw [bindsB, any_hit _ HG.out (by simp [*])], by repeat (first | exact Keep.refl _ | assumption | (refine Keep.put ?_ (by first | omega | (simp only [new_nobj, put_nobj, lay_nobj, *]; omega)) _) | (refine Keep.new ?_ _) | (refine Keep.lay ?_ _) | (refine Keep.trans ?_ (by assumption)))⟩
    all_goals
      refine ⟨x.body.length - (i + 1), by omega, i + 1, rfl, by omega, by simp, by repeat (first | exact Keep.refl _ | assumption | (refine Keep.put ?_ (by first | omega | (simp only [new_nobj, put_nobj, lay_nobj, *]; omega)) _) | (refine Keep.new ?_ _) | (refine Keep.lay ?_ _) | (refine Keep.trans ?_ (by assumption))), ?_⟩
      rw [Abs.Hid, any_take_succ _ HG.out, hno.out]; simp [*]
  · have hil : i = x.body.length := by omega
    subst hil
    rw [List.take_length] at hno
    repeat' (first
 |with_reducible (first|apply awp_seq|apply awp_block|(refine awp_region_k ?_;intro κ hκ)|(refine hκ.out _ _ ?_;clear hκ κ)|apply awp_skip|apply awp_exit|apply awp_ret)
 |((first|with_reducible apply gd_split|((with_reducible refine cond_go ?_);refine awp_cond_split rfl ?_ ?_))<;>intro h<;>(try simp only [upd, ↓reduceIte,Nat.reduceEqDiff,B2] at h)<;>(try simp only [*,reduceCtorEq,decide_true,decide_false] at h)<;>(try (have hari:=h;simp only [B3] at hari))<;>(try (first|contradiction|(exfalso;omega)|(exfalso;simp at h;done)))<;>(try simp only [B5]))
 |(simp (maxSteps:=3000000) (disch:=(first|omega|(simp only [B1, *];omega))) only [↓mapA_nil, ↓mapA_cons,B0,B4,awant,undef,aq,al,cst,cst1,acells,flat,behind,abin,aconv,aint,thenQ,blkQ,retQ,Value.cells,Value.oneCell',Int.reduceToNat, ↓reduceIte,Nat.reduceLT,Nat.reduceEqDiff,reduceCtorEq,Nat.reduceAdd,Nat.reduceMul,Nat.reduceLeDiff,u_3,u_39,telem_39,tfld_41_2,tfld_67_0,tfld_67_1,tsz_38,tsz_39,tsz_4,tsz_67,tzero_67, *])
 |(refine hκ.out _ _ ?_;clear hκ κ))
    first | exact ⟨_, rfl, by rw [bindsB, hno.out], hK⟩ | exact ⟨_, rfl, by rw [bindsB, hno.out]⟩

def psafeB (x : RItem) : Bool := !(atomsL x).any fun a => a.terms.any fun w => (encT w).1 && !bindsB x (encT w).2
set_option maxHeartbeats 16000000 in
theorem psafe_spec (N : List Tx) (x : RItem) (c : List AV) (hc : PI N x c) (ho : x.out = true → x.body = []) (hx : x.fits) (σ : St) : ACalls Tryd.prog 25 [ag c] σ fun r σ' => r = sc (.bool (psafeB x)) ∧ Keep σ σ' := by
  have hA := patoms_spec N x c hc ho (by have := hx.1; omega)
  have hB := fun v => pbinds_spec N x c v hc hx
  obtain ⟨hm, ih, id, b, hb, rfl⟩ := hc
  have hbl := EL.length PL_len hb
  have hal := hx.atoms
  have hat : ∀ a ∈ atomsL x, a.terms.length ≤ 1000 := by
    intro a ha
    unfold atomsL at ha
    rcases List.mem_append.1 ha with h | h
    · split at h
      · cases h
      · simp at h; subst h; exact hx.2.1
    · exact hx.2.2 a h
  refine acalls 32 [.tmp 2] Tryd.func25 rfl (by decide) rfl rfl (Nat.le_of_ble_eq_true rfl) ?_
  repeat' (first
 |with_reducible (first|apply awp_seq|apply awp_block|(refine awp_region_k ?_;intro κ hκ)|(refine hκ.out _ _ ?_;clear hκ κ)|apply awp_skip|apply awp_exit|apply awp_ret)
 |((first|with_reducible apply gd_split|((with_reducible refine cond_go ?_);refine awp_cond_split rfl ?_ ?_))<;>intro h<;>(try simp only [upd, ↓reduceIte,Nat.reduceEqDiff,B2] at h)<;>(try simp only [*,reduceCtorEq,decide_true,decide_false] at h)<;>(try (have hari:=h;simp only [B3] at hari))<;>(try (first|contradiction|(exfalso;omega)|(exfalso;simp at h;done)))<;>(try simp only [B5]))
 |((with_reducible refine acalls_go ?_);refine ACalls.mono (hA _) ?_;rintro _ _ ⟨ida,cs,rfl,hE,hK1⟩;(have kob1:=hK1.obj;have kno1:=hK1.nobj;(try simp only [new_nobj,put_nobj,lay_nobj] at kno1)))
 |(simp (maxSteps:=3000000) (disch:=(first|omega|(simp only [B1, *];omega))) only [↓mapA_nil, ↓mapA_cons,B0,B4,awant,undef,aq,al,cst,cst1,acells,flat,behind,abin,aconv,aint,thenQ,blkQ,retQ,Value.cells,Value.oneCell',Int.reduceToNat, ↓reduceIte,Nat.reduceLT,Nat.reduceEqDiff,reduceCtorEq,Nat.reduceAdd,Nat.reduceMul,Nat.reduceLeDiff,u_3,u_36,u_73,telem_36,telem_73,tfld_38_1,tfld_45_0,tfld_45_1,tsz_3,tsz_36,tsz_38,tsz_4,tsz_41,tsz_45,tzero_38,tzero_45, *])
 |(refine hκ.out _ _ ?_;clear hκ κ))
  rename_i σ1
  have hcl := EL.length PC_len hE
  have hob : σ1.obj σ.nobj = [sc (.bool x.out), sc (.int .i64 (N.idxOf x.head.pred : Nat)), sl ih x.head.terms.length (tcells x.head.terms), sl id x.body.length b] := by rw [kob1 _ (by rw [new_nobj]; omega), new_same]
  have hK1 : Keep (σ.new [sc (.bool x.out), sc (.int .i64 (N.idxOf x.head.pred : Nat)), sl ih x.head.terms.length (tcells x.head.terms), sl id x.body.length b]) σ1 := hK1
  refine awp_loop (fun m s σ' => ∃ i : Nat, m = (atomsL x).length - i ∧ i ≤ (atomsL x).length ∧ s 1 = ptr σ.nobj 0 ∧ s 8 = sl ida (atomsL x).length cs ∧ s 9 = sc (.int .i64 (atomsL x).length) ∧ s 10 = sc (.int .i64 i) ∧ Keep σ1 σ' ∧ Abs.Hid (((atomsL x).take i).any (fun a => a.terms.any fun w => (encT w).1 && !bindsB x (encT w).2) = false)) (atomsL x).length
    ⟨0, by omega, by omega, rfl, rfl, rfl, rfl, Keep.refl _, by simp [Abs.Hid]⟩ ?_
  rintro m s σ' ⟨i, rfl, hi, h1, h8, h9, h10, hK, hno⟩
  have kno := hK.nobj
  have hob' : σ'.obj σ.nobj = [sc (.bool x.out), sc (.int .i64 (N.idxOf x.head.pred : Nat)), sl ih x.head.terms.length (tcells x.head.terms), sl id x.body.length b] := by rw [hK.obj _ (by omega), hob]
  have hKs : Keep σ σ1 := ((Keep.refl σ).new _).trans hK1
  clear kob1
  by_cases hlt : i < (atomsL x).length
  · have hget := List.getElem?_eq_getElem hlt
    have hta := hat (atomsL x)[i] (List.getElem_mem hlt)
    obtain ⟨ha, ia, r, hd⟩ := EL_PC hE hget
    generalize (atomsL x)[i] = a at hd hget ha hta
    have HG : Abs.Hid ((atomsL x)[i]? = some a) := hget
    clear hget
    have htl := tcells_len a.terms
    repeat' (first
 |with_reducible (first|apply awp_seq|apply awp_block|(refine awp_region_k ?_;intro κ hκ)|(refine hκ.out _ _ ?_;clear hκ κ)|apply awp_skip|apply awp_exit|apply awp_ret)
 |((first|with_reducible apply gd_split|((with_reducible refine cond_go ?_);refine awp_cond_split rfl ?_ ?_))<;>intro h<;>(try simp only [upd, ↓reduceIte,Nat.reduceEqDiff,B2] at h)<;>(try simp only [*,reduceCtorEq,decide_true,decide_false] at h)<;>(try (have hari:=h;simp only [B3] at hari))<;>(try (first|contradiction|(exfalso;omega)|(exfalso;simp at h;done)))<;>(try simp only [B5]))
 |(simp (maxSteps:=3000000) (disch:=(first|omega|(simp only [B1, *];omega))) only [↓mapA_nil, ↓mapA_cons,B0,B4,awant,undef,aq,al,cst,cst1,acells,flat,behind,abin,aconv,aint,thenQ,blkQ,retQ,Value.cells,Value.oneCell',Int.reduceToNat, ↓reduceIte,Nat.reduceLT,Nat.reduceEqDiff,reduceCtorEq,Nat.reduceAdd,Nat.reduceMul,Nat.reduceLeDiff,u_3,u_36,u_73,telem_36,telem_73,tfld_38_1,tfld_45_0,tfld_45_1,tsz_3,tsz_36,tsz_38,tsz_4,tsz_41,tsz_45,tzero_38,tzero_45, *])
 |(refine hκ.out _ _ ?_;clear hκ κ))
    refine awp_loop (fun m s σ' => ∃ j : Nat, m = a.terms.length - j ∧ j ≤ a.terms.length ∧ s 1 = ptr σ.nobj 0 ∧ s 8 = sl ida (atomsL x).length cs ∧ s 9 = sc (.int .i64 (atomsL x).length) ∧ s 10 = sc (.int .i64 i) ∧ s 15 = sl ia a.terms.length (tcells a.terms) ∧ s 16 = sc (.int .i64 a.terms.length) ∧ s 17 = sc (.int .i64 j) ∧ Keep σ1 σ' ∧ Abs.Hid ((a.terms.take j).any (fun w => (encT w).1 && !bindsB x (encT w).2) = false)) a.terms.length
      ⟨0, by omega, by omega, by simp [upd, h1], by simp [upd, h8], by simp [upd, h9], by simp [upd, h10], rfl, rfl, rfl, (hK.new _).put hK.nobj _, by simp [Abs.Hid]⟩ ?_
    clear hob' hK kno h1 h8 h9 h10
    rintro m s σ' ⟨j, rfl, hj, h1, h8, h9, h10, h15, h16, h17, hK, hno2⟩
    have kno := hK.nobj
    have hob' : σ'.obj σ.nobj = [sc (.bool x.out), sc (.int .i64 (N.idxOf x.head.pred : Nat)), sl ih x.head.terms.length (tcells x.head.terms), sl id x.body.length b] := by rw [hK.obj _ (by omega), hob]
    by_cases hlt2 : j < a.terms.length
    · have hget := List.getElem?_eq_getElem hlt2
      obtain ⟨r2, hd2⟩ := tcells_get hget
      generalize a.terms[j] = w at hd2 hget
      have HW : Abs.Hid (a.terms[j]? = some w) := hget
      clear hget
      generalize h1w : (encT w).1 = w1 at hd2
      generalize h2w : (encT w).2 = w2 at hd2
      have hvw : Abs.Hid (((encT w).1 && !bindsB x (encT w).2) = (w1 && !bindsB x w2)) := by rw [Abs.Hid, h1w, h2w]
      clear h1w h2w
      repeat' (first
 |with_reducible (first|apply awp_seq|apply awp_block|(refine awp_region_k ?_;intro κ hκ)|(refine hκ.out _ _ ?_;clear hκ κ)|apply awp_skip|apply awp_exit|apply awp_ret)
 |((first|with_reducible apply gd_split|((with_reducible refine cond_go ?_);refine awp_cond_split rfl ?_ ?_))<;>intro h<;>(try simp only [upd, ↓reduceIte,Nat.reduceEqDiff,B2] at h)<;>(try simp only [*,reduceCtorEq,decide_true,decide_false] at h)<;>(try (have hari:=h;simp only [B3] at hari))<;>(try (first|contradiction|(exfalso;omega)|(exfalso;simp at h;done)))<;>(try simp only [B5]))
 |((with_reducible refine acalls_go ?_);refine ACalls.mono (hB _ _) ?_;rintro _ _ ⟨rfl,hK2⟩)
 |(simp (maxSteps:=3000000) (disch:=(first|omega|(simp only [B1, *];omega))) only [↓mapA_nil, ↓mapA_cons,B0,B4,awant,undef,aq,al,cst,cst1,acells,flat,behind,abin,aconv,aint,thenQ,blkQ,retQ,Value.cells,Value.oneCell',Int.reduceToNat, ↓reduceIte,Nat.reduceLT,Nat.reduceEqDiff,reduceCtorEq,Nat.reduceAdd,Nat.reduceMul,Nat.reduceLeDiff,u_3,u_36,u_73,telem_36,telem_73,tfld_38_1,tfld_45_0,tfld_45_1,tsz_3,tsz_36,tsz_38,tsz_4,tsz_41,tsz_45,tzero_38,tzero_45, *])
 |(refine hκ.out _ _ ?_;clear hκ κ))
      · exact ⟨_, rfl, by rw [psafeB, any_hit _ HG.out (any_hit _ HW.out (by rw [hvw.out]; simp [*]))]; rfl, by repeat (first | exact Keep.refl _ | assumption | (refine Keep.put ?_ (by first | omega | (simp only [new_nobj, put_nobj, lay_nobj, *]; omega)) _) | (refine Keep.new ?_ _) | (refine Keep.lay ?_ _) | (refine Keep.trans ?_ (by assumption)))⟩
      all_goals
        refine ⟨a.terms.length - (j + 1), by omega, j + 1, rfl, by omega, by simp, by repeat (first | exact Keep.refl _ | assumption | (refine Keep.put ?_ (by first | omega | (simp only [new_nobj, put_nobj, lay_nobj, *]; omega)) _) | (refine Keep.new ?_ _) | (refine Keep.lay ?_ _) | (refine Keep.trans ?_ (by assumption))), ?_⟩
        rw [Abs.Hid, any_take_succ _ HW.out, hno2.out, hvw.out]; simp [*]
    · have hjl : j = a.terms.length := by omega
      subst hjl
      rw [List.take_length] at hno2
      repeat' (first
 |with_reducible (first|apply awp_seq|apply awp_block|(refine awp_region_k ?_;intro κ hκ)|(refine hκ.out _ _ ?_;clear hκ κ)|apply awp_skip|apply awp_exit|apply awp_ret)
 |((first|with_reducible apply gd_split|((with_reducible refine cond_go ?_);refine awp_cond_split rfl ?_ ?_))<;>intro h<;>(try simp only [upd, ↓reduceIte,Nat.reduceEqDiff,B2] at h)<;>(try simp only [*,reduceCtorEq,decide_true,decide_false] at h)<;>(try (have hari:=h;simp only [B3] at hari))<;>(try (first|contradiction|(exfalso;omega)|(exfalso;simp at h;done)))<;>(try simp only [B5]))
 |(simp (maxSteps:=3000000) (disch:=(first|omega|(simp only [B1, *];omega))) only [↓mapA_nil, ↓mapA_cons,B0,B4,awant,undef,aq,al,cst,cst1,acells,flat,behind,abin,aconv,aint,thenQ,blkQ,retQ,Value.cells,Value.oneCell',Int.reduceToNat, ↓reduceIte,Nat.reduceLT,Nat.reduceEqDiff,reduceCtorEq,Nat.reduceAdd,Nat.reduceMul,Nat.reduceLeDiff,u_3,u_36,u_73,telem_36,telem_73,tfld_38_1,tfld_45_0,tfld_45_1,tsz_3,tsz_36,tsz_38,tsz_4,tsz_41,tsz_45,tzero_38,tzero_45, *])
 |(refine hκ.out _ _ ?_;clear hκ κ))
      refine ⟨(atomsL x).length - (i + 1), by omega, i + 1, rfl, by omega, by simp, ?_⟩
      rw [Abs.Hid, any_take_succ _ HG.out, hno.out, hno2.out]; rfl
  · have hil : i = (atomsL x).length := by omega
    subst hil
    rw [List.take_length] at hno
    repeat' (first
 |with_reducible (first|apply awp_seq|apply awp_block|(refine awp_region_k ?_;intro κ hκ)|(refine hκ.out _ _ ?_;clear hκ κ)|apply awp_skip|apply awp_exit|apply awp_ret)
 |((first|with_reducible apply gd_split|((with_reducible refine cond_go ?_);refine awp_cond_split rfl ?_ ?_))<;>intro h<;>(try simp only [upd, ↓reduceIte,Nat.reduceEqDiff,B2] at h)<;>(try simp only [*,reduceCtorEq,decide_true,decide_false] at h)<;>(try (have hari:=h;simp only [B3] at hari))<;>(try (first|contradiction|(exfalso;omega)|(exfalso;simp at h;done)))<;>(try simp only [B5]))
 |(simp (maxSteps:=3000000) (disch:=(first|omega|(simp only [B1, *];omega))) only [↓mapA_nil, ↓mapA_cons,B0,B4,awant,undef,aq,al,cst,cst1,acells,flat,behind,abin,aconv,aint,thenQ,blkQ,retQ,Value.cells,Value.oneCell',Int.reduceToNat, ↓reduceIte,Nat.reduceLT,Nat.reduceEqDiff,reduceCtorEq,Nat.reduceAdd,Nat.reduceMul,Nat.reduceLeDiff,u_3,u_36,u_73,telem_36,telem_73,tfld_38_1,tfld_45_0,tfld_45_1,tsz_3,tsz_36,tsz_38,tsz_4,tsz_41,tsz_45,tzero_38,tzero_45, *])
 |(refine hκ.out _ _ ?_;clear hκ κ))
    exact ⟨_, rfl, by rw [psafeB, hno.out]; rfl, by repeat (first | exact Keep.refl _ | assumption | (refine Keep.put ?_ (by first | omega | (simp only [new_nobj, put_nobj, lay_nobj, *]; omega)) _) | (refine Keep.new ?_ _) | (refine Keep.lay ?_ _) | (refine Keep.trans ?_ (by assumption)))⟩
end Go.Proofs.YtmoeoppbmhfbpaaDoorX
