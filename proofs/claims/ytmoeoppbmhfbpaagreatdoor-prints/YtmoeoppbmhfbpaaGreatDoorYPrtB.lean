import Derived.Test.YtmoeoppbmhfbpaaGreatDoorYPrtA
/- The document's own answer: Print, whole. -/
namespace Go.Proofs.YtmoeoppbmhfbpaaGreatDoorY
open Go.Abs
set_option linter.unusedSimpArgs false
set_option linter.unusedVariables false
set_option maxRecDepth 100000

def wrB (j : Nat) : Tx := if j = 0 then [58, 45] else [44]
def wrBs (l : List Tx) : Nat → List RAtom → Tx
  | _, [] => []
  | j, a :: ls => wrB j ++ writeL l a ++ wrBs l (j + 1) ls
theorem wrBs_snoc (l : List Tx) : ∀ (ls : List RAtom) (j : Nat) (a : RAtom), wrBs l j (ls ++ [a]) = wrBs l j ls ++ (wrB (j + ls.length) ++ writeL l a)
  | [], j, a => by simp [wrBs]
  | b :: ls, j, a => by
    rw [List.cons_append, wrBs, wrBs_snoc l ls (j + 1) a, wrBs]
    simp only [List.append_assoc, List.length_cons]
    rw [show j + 1 + ls.length = j + (ls.length + 1) by omega]
theorem writeL_len {l : List Tx} {a : RAtom} (h : short a) : (writeL l a).length ≤ 1002003 := by
  obtain ⟨h1, h2, h3⟩ := h
  have h4 := wrTs_len l a.terms 0 h3
  have h5 : (if a.nt = true then ([33] : Tx) else []).length ≤ 1 := by split <;> simp
  simp only [writeL, List.length_append, List.length_singleton]
  omega
theorem wrB_len (j : Nat) : (wrB j).length ≤ 2 := by unfold wrB; split <;> simp
def writtenL (x : RItem) : Tx := if x.out = true then 63 :: x.head.pred ++ [46] else writeL (ordL x) x.head ++ wrBs (ordL x) 0 x.body ++ [46]
def RItem.short (x : RItem) : Prop := Go.Proofs.YtmoeoppbmhfbpaaGreatDoorY.short x.head ∧ ∀ a ∈ x.body, Go.Proofs.YtmoeoppbmhfbpaaGreatDoorY.short a
theorem atoms_terms {x : RItem} (hx : x.fits) : ((atomsL x).flatMap (·.terms)).length ≤ 1001 * 1000 := by
  have h1 := hx.atoms
  have hat : ∀ a ∈ atomsL x, a.terms.length ≤ 1000 := by
    intro a ha
    unfold atomsL at ha
    rcases List.mem_append.1 ha with h | h
    · split at h
      · cases h
      · simp at h; subst h; exact hx.2.1
    · exact hx.2.2 a h
  generalize atomsL x = ls at h1 hat
  have : (ls.flatMap (·.terms)).length ≤ ls.length * 1000 := by
    clear h1
    induction ls with
    | nil => simp
    | cons a ls ih =>
      have h2 := ih fun b hb => hat b (by simp [hb])
      have h3 := hat a (by simp)
      simp only [List.flatMap_cons, List.length_append, List.length_cons]
      omega
  omega
theorem ordL_len {x : RItem} (hx : x.fits) : (ordL x).length ≤ 10000000 := by
  have h1 := ordT_len ((atomsL x).flatMap (·.terms)) []
  have h2 := atoms_terms hx
  unfold ordL
  rw [List.length_nil, Nat.zero_add] at h1
  omega

set_option maxHeartbeats 16000000 in
theorem written_spec (x : RItem) (c : List AV) (hc : EItem x c) (hx : x.fits) (hs : x.short) (σ : St) : ACalls Tryz.prog 154 [ag c] σ fun r σ' => r = str (writtenL x) ∧ Keep σ σ' := by
  have hO := ordered_spec x c hc hx
  have hol := ordL_len hx
  have hx1 := hx.1
  obtain ⟨ih, id, b, hb, rfl⟩ := hc.cells
  have hbl := EL.length EAtom_len hb
  obtain ⟨hs1, hs2⟩ := hs
  have hsp := hs1.1
  have h63 : ({ data := #[63] } : ByteArray) = bs [63] := rfl
  have h46 : ({ data := #[46] } : ByteArray) = bs [46] := rfl
  have h44 : ({ data := #[44] } : ByteArray) = bs [44] := rfl
  have h58 : ({ data := #[58, 45] } : ByteArray) = bs [58, 45] := rfl
  refine acalls 43 [.tmp 2] Tryz.func154 rfl (by decide) rfl rfl (Nat.le_of_ble_eq_true rfl) ?_
  cases ho : x.out with
  | true =>
    unfold itemCells
    rw [ho]
    repeat' (first
 |with_reducible (first|apply awp_seq|apply awp_block|(refine awp_region_k ?_;intro κ hκ)|(refine hκ.out _ _ ?_;clear hκ κ)|apply awp_skip|apply awp_exit|apply awp_ret)
 |((first|with_reducible apply gd_split|((with_reducible refine cond_go ?_);refine awp_cond_split rfl ?_ ?_))<;>intro h<;>(try simp only [upd, ↓reduceIte,Nat.reduceEqDiff,B2] at h)<;>(try simp only [*,reduceCtorEq,decide_true,decide_false] at h)<;>(try (have hari:=h;simp only [B3] at hari))<;>(try (first|contradiction|(exfalso;omega)|(exfalso;simp at h;done)))<;>(try simp only [B5]))
 |(simp (maxSteps:=3000000) (disch:=(first|omega|(simp only [List.length_append,B1, *];omega))) only [↓mapA_nil, ↓mapA_cons,List.length_append,B0,B4,awant,undef,aq,al,cst,cst1,acells,flat,behind,abin,aconv,aint,thenQ,blkQ,retQ,Value.cells,Value.oneCell',Int.reduceToNat, ↓reduceIte,Nat.reduceLT,Nat.reduceEqDiff,reduceCtorEq,Nat.reduceAdd,Nat.reduceMul,Nat.reduceLeDiff,u_134,u_3,u_9,telem_134,tfld_143_1,tfld_145_0,tfld_145_1,tfld_145_2,tsz_134,tsz_143,tsz_145,tsz_4,tsz_9, *])
 |(refine hκ.out _ _ ?_;clear hκ κ))
    exact ⟨_, rfl, by simp [writtenL, ho], by repeat (first | exact Keep.refl _ | assumption | (refine Keep.put ?_ (by first | omega | (simp only [new_nobj, put_nobj, lay_nobj, *]; omega)) _) | (refine Keep.new ?_ _) | (refine Keep.lay ?_ _) | (refine Keep.trans ?_ (by assumption)))⟩
  | false =>
    have hwh := writeL_len (l := ordL x) hs1
    unfold itemCells at hO ⊢
    rw [ho] at hO ⊢
    have hW := fun ido σ => write_spec (ordL x) ido x.head [sc (.bool x.head.nt), str x.head.pred, sl ih x.head.terms.length (x.head.terms.map str)] ⟨ih, rfl⟩ hol hs1 σ
    generalize hlo : ordL x = lo at hO hol hW hwh
    have HLO : Abs.Hid _ := hlo
    clear hlo
    repeat' (first
 |with_reducible (first|apply awp_seq|apply awp_block|(refine awp_region_k ?_;intro κ hκ)|(refine hκ.out _ _ ?_;clear hκ κ)|apply awp_skip|apply awp_exit|apply awp_ret)
 |((first|with_reducible apply gd_split|((with_reducible refine cond_go ?_);refine awp_cond_split rfl ?_ ?_))<;>intro h<;>(try simp only [upd, ↓reduceIte,Nat.reduceEqDiff,B2] at h)<;>(try simp only [*,reduceCtorEq,decide_true,decide_false] at h)<;>(try (have hari:=h;simp only [B3] at hari))<;>(try (first|contradiction|(exfalso;omega)|(exfalso;simp at h;done)))<;>(try simp only [B5]))
 |((with_reducible refine acalls_go ?_);refine ACalls.mono (hO _) ?_;rintro _ _ ⟨ido,rfl,hK1⟩;(have kob1:=hK1.obj;have kno1:=hK1.nobj;(try simp only [new_nobj,put_nobj,lay_nobj] at kno1)))
 |((with_reducible refine acalls_go ?_);refine ACalls.mono (hW _ _) ?_;rintro _ _ ⟨rfl,hK2⟩;(have kob2:=hK2.obj;have kno2:=hK2.nobj))
 |(simp (maxSteps:=3000000) (disch:=(first|omega|(simp only [List.length_append,B1, *];omega))) only [↓mapA_nil, ↓mapA_cons,List.length_append,B0,B4,awant,undef,aq,al,cst,cst1,acells,flat,behind,abin,aconv,aint,thenQ,blkQ,retQ,Value.cells,Value.oneCell',Int.reduceToNat, ↓reduceIte,Nat.reduceLT,Nat.reduceEqDiff,reduceCtorEq,Nat.reduceAdd,Nat.reduceMul,Nat.reduceLeDiff,u_134,u_3,u_9,telem_134,tfld_143_1,tfld_145_0,tfld_145_1,tfld_145_2,tsz_134,tsz_143,tsz_145,tsz_4,tsz_9, *])
 |(refine hκ.out _ _ ?_;clear hκ κ))
    rename_i σ1 σ2
    have hKs : Keep σ σ2 := by repeat (first | exact Keep.refl _ | assumption | (refine Keep.put ?_ (by first | omega | (simp only [new_nobj, put_nobj, lay_nobj, *]; omega)) _) | (refine Keep.new ?_ _) | (refine Keep.lay ?_ _) | (refine Keep.trans ?_ (by assumption)))
    have hob : σ2.obj σ.nobj = [sc (.bool false), sc (.bool x.head.nt), str x.head.pred, sl ih x.head.terms.length (x.head.terms.map str), sl id x.body.length b] := by
      rw [kob2 _ (by omega), kob1 _ (by rw [new_nobj]; omega), new_same]
    have hno2 : σ.nobj < σ2.nobj := by omega
    clear kob1 kob2 hK1 hK2 kno1 kno2 hO hW
    refine awp_loop (fun m s σ' => ∃ (j : Nat) (acc : Tx), m = x.body.length - j ∧ j ≤ x.body.length ∧ s 1 = ptr σ.nobj 0 ∧ s 3 = sl ido lo.length (lo.map str) ∧ s 4 = str acc ∧ s 5 = sc (.int .i64 j) ∧ Keep σ σ' ∧ σ'.obj σ.nobj = [sc (.bool false), sc (.bool x.head.nt), str x.head.pred, sl ih x.head.terms.length (x.head.terms.map str), sl id x.body.length b] ∧ σ.nobj < σ'.nobj ∧ acc.length ≤ 1002003 + j * 1002010 ∧ Abs.Hid (acc = writeL lo x.head ++ wrBs lo 0 (x.body.take j))) x.body.length
      ⟨0, writeL lo x.head, by omega, by omega, by simp [upd], by simp [upd], by simp [upd], rfl, hKs, hob, hno2, by omega, by simp [Abs.Hid, wrBs]⟩ ?_
    clear hKs hob hno2
    rintro m s σ' ⟨j, acc, rfl, hj, h1, h3, h4, h5, hK, hob, hno, hal, hA⟩
    by_cases hlt : j < x.body.length
    · have hget := List.getElem?_eq_getElem hlt
      have hsa := hs2 x.body[j] (List.getElem_mem hlt)
      obtain ⟨ia, r, hd⟩ := EL_atom hb hget
      generalize x.body[j] = a at hd hget hsa
      have HG : Abs.Hid (x.body[j]? = some a) := hget
      clear hget
      have hstep : Abs.Hid (writeL lo x.head ++ wrBs lo 0 (x.body.take (j + 1)) = acc ++ (wrB j ++ writeL lo a)) := by
        rw [Abs.Hid, List.take_add_one, HG.out, Option.toList_some, wrBs_snoc, hA.out, List.length_take, Nat.min_eq_left (by omega), Nat.zero_add, List.append_assoc]
      have hwa := writeL_len (l := lo) hsa
      have HB : Abs.Hid ((wrB j).length ≤ 2) := wrB_len j
      have hW := fun σ => write_spec lo ido a [sc (.bool a.nt), str a.pred, sl ia a.terms.length (a.terms.map str)] ⟨ia, rfl⟩ hol hsa σ
      generalize hwe : writeL lo a = wa at hW hwa hstep
      clear hwe
      by_cases hj0 : j = 0
      · have hjb : ((j : Int) == 0) = true := by simp [hj0]
        have hwB : Abs.Hid (wrB j = [58, 45]) := by simp [Abs.Hid, wrB, hj0]
        clear hj0
        repeat' (first
 |with_reducible (first|apply awp_seq|apply awp_block|(refine awp_region_k ?_;intro κ hκ)|(refine hκ.out _ _ ?_;clear hκ κ)|apply awp_skip|apply awp_exit|apply awp_ret)
 |((first|with_reducible apply gd_split|((with_reducible refine cond_go ?_);refine awp_cond_split rfl ?_ ?_))<;>intro h<;>(try simp only [upd, ↓reduceIte,Nat.reduceEqDiff,B2] at h)<;>(try simp only [*,reduceCtorEq,decide_true,decide_false] at h)<;>(try (have hari:=h;simp only [B3] at hari))<;>(try (first|contradiction|(exfalso;omega)|(exfalso;simp at h;done)))<;>(try simp only [B5]))
 |((with_reducible refine acalls_go ?_);refine ACalls.mono (hW _) ?_;rintro _ _ ⟨rfl,hK2⟩;(have kob2:=hK2.obj;have kno2:=hK2.nobj))
 |(simp (maxSteps:=3000000) (disch:=(first|omega|(simp only [List.length_append,B1, *];omega))) only [↓mapA_nil, ↓mapA_cons,List.length_append,B0,B4,awant,undef,aq,al,cst,cst1,acells,flat,behind,abin,aconv,aint,thenQ,blkQ,retQ,Value.cells,Value.oneCell',Int.reduceToNat, ↓reduceIte,Nat.reduceLT,Nat.reduceEqDiff,reduceCtorEq,Nat.reduceAdd,Nat.reduceMul,Nat.reduceLeDiff,u_134,u_3,u_9,telem_134,tfld_143_1,tfld_145_0,tfld_145_1,tfld_145_2,tsz_134,tsz_143,tsz_145,tsz_4,tsz_9, *])
 |(refine hκ.out _ _ ?_;clear hκ κ))
        refine ⟨x.body.length - (j + 1), by omega, j + 1, acc ++ (wrB j ++ wa), rfl, by omega, by rw [hwB.out]; simp, by simp, by repeat (first | exact Keep.refl _ | assumption | (refine Keep.put ?_ (by first | omega | (simp only [new_nobj, put_nobj, lay_nobj, *]; omega)) _) | (refine Keep.new ?_ _) | (refine Keep.lay ?_ _) | (refine Keep.trans ?_ (by assumption))), by omega, by have := HB.out; simp only [List.length_append]; omega, by rw [Abs.Hid, hstep.out]⟩
      · have hjb : ((j : Int) == 0) = false := by simp; omega
        have hwB : Abs.Hid (wrB j = [44]) := by simp [Abs.Hid, wrB, hj0]
        clear hj0
        repeat' (first
 |with_reducible (first|apply awp_seq|apply awp_block|(refine awp_region_k ?_;intro κ hκ)|(refine hκ.out _ _ ?_;clear hκ κ)|apply awp_skip|apply awp_exit|apply awp_ret)
 |((first|with_reducible apply gd_split|((with_reducible refine cond_go ?_);refine awp_cond_split rfl ?_ ?_))<;>intro h<;>(try simp only [upd, ↓reduceIte,Nat.reduceEqDiff,B2] at h)<;>(try simp only [*,reduceCtorEq,decide_true,decide_false] at h)<;>(try (have hari:=h;simp only [B3] at hari))<;>(try (first|contradiction|(exfalso;omega)|(exfalso;simp at h;done)))<;>(try simp only [B5]))
 |((with_reducible refine acalls_go ?_);refine ACalls.mono (hW _) ?_;rintro _ _ ⟨rfl,hK2⟩;(have kob2:=hK2.obj;have kno2:=hK2.nobj))
 |(simp (maxSteps:=3000000) (disch:=(first|omega|(simp only [List.length_append,B1, *];omega))) only [↓mapA_nil, ↓mapA_cons,List.length_append,B0,B4,awant,undef,aq,al,cst,cst1,acells,flat,behind,abin,aconv,aint,thenQ,blkQ,retQ,Value.cells,Value.oneCell',Int.reduceToNat, ↓reduceIte,Nat.reduceLT,Nat.reduceEqDiff,reduceCtorEq,Nat.reduceAdd,Nat.reduceMul,Nat.reduceLeDiff,u_134,u_3,u_9,telem_134,tfld_143_1,tfld_145_0,tfld_145_1,tfld_145_2,tsz_134,tsz_143,tsz_145,tsz_4,tsz_9, *])
 |(refine hκ.out _ _ ?_;clear hκ κ))
        refine ⟨x.body.length - (j + 1), by omega, j + 1, acc ++ (wrB j ++ wa), rfl, by omega, by rw [hwB.out]; simp, by simp, by repeat (first | exact Keep.refl _ | assumption | (refine Keep.put ?_ (by first | omega | (simp only [new_nobj, put_nobj, lay_nobj, *]; omega)) _) | (refine Keep.new ?_ _) | (refine Keep.lay ?_ _) | (refine Keep.trans ?_ (by assumption))), by omega, by have := HB.out; simp only [List.length_append]; omega, by rw [Abs.Hid, hstep.out]⟩
    · have hjl : j = x.body.length := by omega
      subst hjl
      rw [List.take_length] at hA
      repeat' (first
 |with_reducible (first|apply awp_seq|apply awp_block|(refine awp_region_k ?_;intro κ hκ)|(refine hκ.out _ _ ?_;clear hκ κ)|apply awp_skip|apply awp_exit|apply awp_ret)
 |((first|with_reducible apply gd_split|((with_reducible refine cond_go ?_);refine awp_cond_split rfl ?_ ?_))<;>intro h<;>(try simp only [upd, ↓reduceIte,Nat.reduceEqDiff,B2] at h)<;>(try simp only [*,reduceCtorEq,decide_true,decide_false] at h)<;>(try (have hari:=h;simp only [B3] at hari))<;>(try (first|contradiction|(exfalso;omega)|(exfalso;simp at h;done)))<;>(try simp only [B5]))
 |(simp (maxSteps:=3000000) (disch:=(first|omega|(simp only [List.length_append,B1, *];omega))) only [↓mapA_nil, ↓mapA_cons,List.length_append,B0,B4,awant,undef,aq,al,cst,cst1,acells,flat,behind,abin,aconv,aint,thenQ,blkQ,retQ,Value.cells,Value.oneCell',Int.reduceToNat, ↓reduceIte,Nat.reduceLT,Nat.reduceEqDiff,reduceCtorEq,Nat.reduceAdd,Nat.reduceMul,Nat.reduceLeDiff,u_134,u_3,u_9,telem_134,tfld_143_1,tfld_145_0,tfld_145_1,tfld_145_2,tsz_134,tsz_143,tsz_145,tsz_4,tsz_9, *])
 |(refine hκ.out _ _ ?_;clear hκ κ))
      first
      | exact ⟨_, rfl, by rw [hA.out]; simp [writtenL, ho, HLO.out], hK⟩
      | exact ⟨_, rfl, by rw [hA.out]; simp [writtenL, ho, HLO.out]⟩

def wholeL (l : List RItem) : Tx := l.flatMap writtenL
theorem wrBs_len {l : List Tx} : ∀ (ls : List RAtom) (j : Nat), (∀ a ∈ ls, short a) → (wrBs l j ls).length ≤ ls.length * 1002010
  | [], j, h => by simp [wrBs]
  | a :: ls, j, h => by
    have h1 := writeL_len (l := l) (h a (by simp))
    have h2 := wrBs_len (l := l) ls (j + 1) fun b hb => h b (by simp [hb])
    have h3 := wrB_len j
    simp only [wrBs, List.length_append, List.length_cons]
    omega
theorem writtenL_len {x : RItem} (hx : x.fits) (hs : x.short) : (writtenL x).length ≤ 1100000000 := by
  have h1 := writeL_len (l := ordL x) hs.1
  have h2 := wrBs_len (l := ordL x) x.body 0 hs.2
  have h3 := hx.1
  have h4 := hs.1.1
  unfold writtenL
  split
  · simp; omega
  · simp only [List.length_append, List.length_singleton]; omega
set_option maxHeartbeats 16000000 in
theorem whole_spec (l : List RItem) (cs : List AV) (idl : Nat) (hE : EL EItem l cs) (hl : l.length ≤ 16) (hf : ∀ x ∈ l, x.fits) (hs : ∀ x ∈ l, x.short) (σ : St) : ACalls Tryz.prog 101 [sl idl l.length cs] σ fun r σ' => r = str (wholeL l) ∧ Keep σ σ' := by
  have hcl := EL.length EItem_len hE
  refine acalls 19 [.tmp 2] Tryz.func101 rfl (by decide) rfl rfl (Nat.le_of_ble_eq_true rfl) ?_
  repeat' (first
 |with_reducible (first|apply awp_seq|apply awp_block|(refine awp_region_k ?_;intro κ hκ)|(refine hκ.out _ _ ?_;clear hκ κ)|apply awp_skip|apply awp_exit|apply awp_ret)
 |((first|with_reducible apply gd_split|((with_reducible refine cond_go ?_);refine awp_cond_split rfl ?_ ?_))<;>intro h<;>(try simp only [upd, ↓reduceIte,Nat.reduceEqDiff,B2] at h)<;>(try simp only [*,reduceCtorEq,decide_true,decide_false] at h)<;>(try (have hari:=h;simp only [B3] at hari))<;>(try (first|contradiction|(exfalso;omega)|(exfalso;simp at h;done)))<;>(try simp only [B5]))
 |(simp (maxSteps:=3000000) (disch:=(first|omega|(simp only [List.length_append,B1, *];omega))) only [↓mapA_nil, ↓mapA_cons,List.length_append,B0,B4,awant,undef,aq,al,cst,cst1,acells,flat,behind,abin,aconv,aint,thenQ,blkQ,retQ,Value.cells,Value.oneCell',Int.reduceToNat, ↓reduceIte,Nat.reduceLT,Nat.reduceEqDiff,reduceCtorEq,Nat.reduceAdd,Nat.reduceMul,Nat.reduceLeDiff,u_137,u_3,u_9,telem_137,tsz_145, *])
 |(refine hκ.out _ _ ?_;clear hκ κ))
  refine awp_loop (fun m s σ' => ∃ (i : Nat) (acc : Tx), m = l.length - i ∧ i ≤ l.length ∧ s 0 = sl idl l.length cs ∧ s 3 = str acc ∧ s 4 = sc (.int .i64 i) ∧ Keep σ σ' ∧ acc.length ≤ i * 1100000000 ∧ Abs.Hid (acc = wholeL (l.take i))) l.length
    ⟨0, [], by omega, by omega, rfl, rfl, rfl, Keep.refl _, by simp, by simp [Abs.Hid, wholeL]⟩ ?_
  rintro m s σ' ⟨i, acc, rfl, hi, h0, h3, h4, hK, hal, hA⟩
  by_cases hlt : i < l.length
  · have hget := List.getElem?_eq_getElem hlt
    have hf1 := hf l[i] (List.getElem_mem hlt)
    have hs1 := hs l[i] (List.getElem_mem hlt)
    obtain ⟨ih, id, b, r, hb, hd⟩ := EL_item hE hget
    generalize l[i] = x at hd hget hf1 hs1 hb
    have HG : Abs.Hid (l[i]? = some x) := hget
    clear hget
    have hwl := writtenL_len hf1 hs1
    have hW := fun σ => written_spec x _ (EItem.of (ih := ih) (id := id) hb) hf1 hs1 σ
    unfold itemCells at hW
    generalize hwe : writtenL x = wx at hW hwl
    have HWE : Abs.Hid _ := hwe
    clear hwe
    repeat' (first
 |with_reducible (first|apply awp_seq|apply awp_block|(refine awp_region_k ?_;intro κ hκ)|(refine hκ.out _ _ ?_;clear hκ κ)|apply awp_skip|apply awp_exit|apply awp_ret)
 |((first|with_reducible apply gd_split|((with_reducible refine cond_go ?_);refine awp_cond_split rfl ?_ ?_))<;>intro h<;>(try simp only [upd, ↓reduceIte,Nat.reduceEqDiff,B2] at h)<;>(try simp only [*,reduceCtorEq,decide_true,decide_false] at h)<;>(try (have hari:=h;simp only [B3] at hari))<;>(try (first|contradiction|(exfalso;omega)|(exfalso;simp at h;done)))<;>(try simp only [B5]))
 |((with_reducible refine acalls_go ?_);refine ACalls.mono (hW _) ?_;rintro _ _ ⟨rfl,hK2⟩)
 |(simp (maxSteps:=3000000) (disch:=(first|omega|(simp only [List.length_append,B1, *];omega))) only [↓mapA_nil, ↓mapA_cons,List.length_append,B0,B4,awant,undef,aq,al,cst,cst1,acells,flat,behind,abin,aconv,aint,thenQ,blkQ,retQ,Value.cells,Value.oneCell',Int.reduceToNat, ↓reduceIte,Nat.reduceLT,Nat.reduceEqDiff,reduceCtorEq,Nat.reduceAdd,Nat.reduceMul,Nat.reduceLeDiff,u_137,u_3,u_9,telem_137,tsz_145, *])
 |(refine hκ.out _ _ ?_;clear hκ κ))
    refine ⟨l.length - (i + 1), by omega, i + 1, acc ++ wx, rfl, by omega, by simp, by simp, by repeat (first | exact Keep.refl _ | assumption | (refine Keep.put ?_ (by first | omega | (simp only [new_nobj, put_nobj, lay_nobj, *]; omega)) _) | (refine Keep.new ?_ _) | (refine Keep.lay ?_ _) | (refine Keep.trans ?_ (by assumption))), by simp only [List.length_append]; omega, ?_⟩
    rw [Abs.Hid, List.take_add_one, HG.out, hA.out]
    simp [wholeL, HWE.out]
  · have hil : i = l.length := by omega
    subst hil
    rw [List.take_length] at hA
    repeat' (first
 |with_reducible (first|apply awp_seq|apply awp_block|(refine awp_region_k ?_;intro κ hκ)|(refine hκ.out _ _ ?_;clear hκ κ)|apply awp_skip|apply awp_exit|apply awp_ret)
 |((first|with_reducible apply gd_split|((with_reducible refine cond_go ?_);refine awp_cond_split rfl ?_ ?_))<;>intro h<;>(try simp only [upd, ↓reduceIte,Nat.reduceEqDiff,B2] at h)<;>(try simp only [*,reduceCtorEq,decide_true,decide_false] at h)<;>(try (have hari:=h;simp only [B3] at hari))<;>(try (first|contradiction|(exfalso;omega)|(exfalso;simp at h;done)))<;>(try simp only [B5]))
 |(simp (maxSteps:=3000000) (disch:=(first|omega|(simp only [List.length_append,B1, *];omega))) only [↓mapA_nil, ↓mapA_cons,List.length_append,B0,B4,awant,undef,aq,al,cst,cst1,acells,flat,behind,abin,aconv,aint,thenQ,blkQ,retQ,Value.cells,Value.oneCell',Int.reduceToNat, ↓reduceIte,Nat.reduceLT,Nat.reduceEqDiff,reduceCtorEq,Nat.reduceAdd,Nat.reduceMul,Nat.reduceLeDiff,u_137,u_3,u_9,telem_137,tsz_145, *])
 |(refine hκ.out _ _ ?_;clear hκ κ))
    first
    | exact ⟨_, rfl, by rw [hA.out], hK⟩
    | exact ⟨_, rfl, by rw [hA.out]⟩
/- The document's Print of a text. -/

theorem uMore_mem {ts : List Tx} {t : Tx} (h : t ∈ ts) : t.length ≤ (uMore ts).length := by
  induction ts with
  | nil => cases h
  | cons u ts ih =>
    unfold uMore at *
    simp only [List.flatMap_cons, List.length_append, List.length_cons]
    rcases List.mem_cons.1 h with rfl | h
    · omega
    · have := ih h; omega
theorem uList_mem {ts : List Tx} {t : Tx} (h : t ∈ ts) : t.length ≤ (uList ts).length := by
  cases ts with
  | nil => cases h
  | cons u ts =>
    unfold uList
    simp only [List.length_append]
    rcases List.mem_cons.1 h with rfl | h
    · omega
    · have := uMore_mem h; omega
theorem uAtom_short {a : RAtom} (hw : a.terms.length ≤ 3) (h : (uAtom a).length ≤ 1000) : short a := by
  unfold uAtom at h
  simp only [List.length_append, List.length_cons] at h
  refine ⟨by omega, by omega, fun t ht => ?_⟩
  have := uList_mem ht
  omega
theorem uItem_short {x : RItem} (hw : WItem x) (h : (uItem x).length ≤ 1000) : x.short := by
  obtain ⟨-, h2, h3⟩ := hw
  unfold uItem at h
  cases ho : x.out with
  | true =>
    rw [if_pos ho] at h
    obtain ⟨-, q1, q2⟩ := h2 ho
    simp only [List.length_cons] at h
    exact ⟨⟨by omega, by simp [q1], by simp [q1]⟩, by simp [q2]⟩
  | false =>
    rw [if_neg (by rw [ho]; simp)] at h
    obtain ⟨q1, -, q2, q3⟩ := h3 ho
    unfold uRule at h
    simp only [List.length_append] at h
    refine ⟨uAtom_short q1.2.2.1 (by omega), fun a ha => ?_⟩
    have hne : x.body ≠ [] := by intro e; rw [e] at ha; cases ha
    rw [if_neg hne] at h
    simp only [List.length_cons] at h
    have hm := uList_mem (List.mem_map_of_mem (f := uLit) ha)
    have hl : (uAtom a).length ≤ (uLit a).length := by unfold uLit; simp
    exact uAtom_short (q3 a ha).2.2.1 (by omega)
theorem uItems_mem {l : List RItem} {x : RItem} (h : x ∈ l) : (uItem x).length ≤ (uItems l).length := by
  induction l with
  | nil => cases h
  | cons y l ih =>
    unfold uItems at *
    simp only [List.flatMap_cons, List.length_append]
    rcases List.mem_cons.1 h with rfl | h
    · omega
    · have := ih h; omega
theorem parse_short {s : Tx} {l : List RItem} {r : Tx} (hs : s.length ≤ 1000) (h : pItems 16 s = .got l r) : ∀ x ∈ l, x.short := by
  obtain ⟨h1, -, -, h4⟩ := pItems_took _ _ _ _ h
  intro x hx
  have := uItems_mem hx
  rw [← h1] at this
  exact uItem_short (h4 x hx) (by omega)
def refPrint (s : Tx) : Tx × Int := if (refCheck s).1 = 0 then (wholeL (itemsL s), 0) else ([], (refCheck s).1)
set_option maxHeartbeats 16000000 in
theorem rprint_spec (s : Tx) (σ : St) : ACalls Tryz.prog 84 [str s] σ fun r σ' => r = tp [str (refPrint s).1, sc (.int .i64 (refPrint s).2)] ∧ Keep σ σ' := by
  have hC := fun σ => rcheck_spec s σ
  refine acalls 17 [.tmp 2, .tmp 3] Tryz.func84 rfl (by decide) rfl rfl (Nat.le_of_ble_eq_true rfl) ?_
  by_cases h0 : (refCheck s).1 = 0
  · have hrp : refPrint s = (wholeL (itemsL s), 0) := by unfold refPrint; rw [if_pos h0]
    have HRP : Abs.Hid _ := hrp
    clear hrp
    have hlen : s.length ≤ 600 := by
      by_cases hl : 600 < s.length
      · unfold refCheck at h0; rw [if_pos hl] at h0; simp at h0
      · omega
    have hp := placeL_parse s
    have hgot : ∃ l r, pItems 16 s = .got l r := by
      cases h : pItems 16 s with
      | got l r => exact ⟨l, r, rfl⟩
      | bad e =>
        rw [h] at hp
        have hp : placeL s = ((s.length - e.length : Nat) : Int) := hp
        unfold refCheck at h0
        rw [if_neg (by omega), hp, if_pos (Int.natCast_nonneg _)] at h0
        simp at h0
    obtain ⟨l, r, hpi⟩ := hgot
    obtain ⟨g1, g2, g3, g4⟩ := parse_good (by omega) hpi
    have hshort := parse_short (by omega) hpi
    have hfits : ∀ x ∈ itemsL s, x.fits := by
      intro x hx
      unfold itemsL at hx
      rw [List.mem_map] at hx
      obtain ⟨u, hu, rfl⟩ := hx
      exact itemL_fits (by have := cutL_piece hu; omega)
    have hI := fun σ => items_spec s (by omega) (by have := g1.1; omega) g1.2 σ
    rw [← g2] at hshort g3
    have hWh := fun cs idl hE σ => whole_spec (itemsL s) cs idl hE g3 hfits hshort σ
    generalize itemsL s = li at hI hWh HRP
    have h0b : ((refCheck s).1 != 0) = false := by simp [h0]
    clear h0 hp hpi g1 g2 g3 g4 hshort hfits hlen
    repeat' (first
 |with_reducible (first|apply awp_seq|apply awp_block|(refine awp_region_k ?_;intro κ hκ)|(refine hκ.out _ _ ?_;clear hκ κ)|apply awp_skip|apply awp_exit|apply awp_ret)
 |((first|with_reducible apply gd_split|((with_reducible refine cond_go ?_);refine awp_cond_split rfl ?_ ?_))<;>intro h<;>(try simp only [upd, ↓reduceIte,Nat.reduceEqDiff,B2] at h)<;>(try simp only [*,reduceCtorEq,decide_true,decide_false] at h)<;>(try (have hari:=h;simp only [B3] at hari))<;>(try (first|contradiction|(exfalso;omega)|(exfalso;simp at h;done)))<;>(try simp only [B5]))
 |((with_reducible refine acalls_go ?_);refine ACalls.mono (hC _) ?_;rintro _ _ ⟨rfl,hK1⟩)
 |((with_reducible refine acalls_go ?_);refine ACalls.mono (hI _) ?_;rintro _ _ ⟨idl,cs,rfl,hE,hK2⟩)
 |((with_reducible refine acalls_go ?_);refine ACalls.mono (hWh _ _ (by assumption) _) ?_;rintro _ _ ⟨rfl,hK3⟩)
 |(simp (maxSteps:=3000000) (disch:=(first|omega|(simp only [List.length_append,B1, *];omega))) only [↓mapA_nil, ↓mapA_cons,List.length_append,B0,B4,awant,undef,aq,al,cst,cst1,acells,flat,behind,abin,aconv,aint,thenQ,blkQ,retQ,Value.cells,Value.oneCell',Int.reduceToNat, ↓reduceIte,Nat.reduceLT,Nat.reduceEqDiff,reduceCtorEq,Nat.reduceAdd,Nat.reduceMul,Nat.reduceLeDiff,u_3, *])
 |(refine hκ.out _ _ ?_;clear hκ κ))
    refine ⟨_, rfl, by rw [HRP.out], by repeat (first | exact Keep.refl _ | assumption | (refine Keep.put ?_ (by first | omega | (simp only [new_nobj, put_nobj, lay_nobj, *]; omega)) _) | (refine Keep.new ?_ _) | (refine Keep.lay ?_ _) | (refine Keep.trans ?_ (by assumption)))⟩
  · have hrp : refPrint s = ([], (refCheck s).1) := by unfold refPrint; rw [if_neg h0]
    have HRP : Abs.Hid _ := hrp
    clear hrp
    have h0b : ((refCheck s).1 != 0) = true := by simpa using h0
    clear h0
    repeat' (first
 |with_reducible (first|apply awp_seq|apply awp_block|(refine awp_region_k ?_;intro κ hκ)|(refine hκ.out _ _ ?_;clear hκ κ)|apply awp_skip|apply awp_exit|apply awp_ret)
 |((first|with_reducible apply gd_split|((with_reducible refine cond_go ?_);refine awp_cond_split rfl ?_ ?_))<;>intro h<;>(try simp only [upd, ↓reduceIte,Nat.reduceEqDiff,B2] at h)<;>(try simp only [*,reduceCtorEq,decide_true,decide_false] at h)<;>(try (have hari:=h;simp only [B3] at hari))<;>(try (first|contradiction|(exfalso;omega)|(exfalso;simp at h;done)))<;>(try simp only [B5]))
 |((with_reducible refine acalls_go ?_);refine ACalls.mono (hC _) ?_;rintro _ _ ⟨rfl,hK1⟩)
 |(simp (maxSteps:=3000000) (disch:=(first|omega|(simp only [List.length_append,B1, *];omega))) only [↓mapA_nil, ↓mapA_cons,List.length_append,B0,B4,awant,undef,aq,al,cst,cst1,acells,flat,behind,abin,aconv,aint,thenQ,blkQ,retQ,Value.cells,Value.oneCell',Int.reduceToNat, ↓reduceIte,Nat.reduceLT,Nat.reduceEqDiff,reduceCtorEq,Nat.reduceAdd,Nat.reduceMul,Nat.reduceLeDiff,u_3, *])
 |(refine hκ.out _ _ ?_;clear hκ κ))
    first | exact ⟨_, rfl, by rw [HRP.out], hK1⟩ | exact ⟨_, rfl, by rw [HRP.out]⟩
end Go.Proofs.YtmoeoppbmhfbpaaGreatDoorY
