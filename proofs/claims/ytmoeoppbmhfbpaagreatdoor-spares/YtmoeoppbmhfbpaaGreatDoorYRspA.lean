import Derived.Test.YtmoeoppbmhfbpaaGreatDoorYSpaA
import Derived.Test.YtmoeoppbmhfbpaaGreatDoorYPrtP
/- The document's own answer: pairs, agree, ways. -/
namespace Go.Proofs.YtmoeoppbmhfbpaaGreatDoorY
open Go.Abs
set_option linter.unusedSimpArgs false
set_option linter.unusedVariables false
set_option maxRecDepth 100000

def pcell (p : Tx × Tx) : List AV := [str p.1, str p.2]
def pcells (l : List (Tx × Tx)) : List AV := l.flatMap pcell
theorem pcells_len (l : List (Tx × Tx)) : (pcells l).length = l.length * 2 := by
  induction l with
  | nil => rfl
  | cons a l ih => unfold pcells at *; rw [List.flatMap_cons, List.length_append, ih]; simp [pcell]; omega
theorem pcells_snoc (l : List (Tx × Tx)) (p : Tx × Tx) : pcells (l ++ [p]) = pcells l ++ [str p.1, str p.2] := by simp [pcells, pcell]
theorem pcells_get {l : List (Tx × Tx)} {k : Nat} {p : Tx × Tx} (h : l[k]? = some p) : ∃ r, (pcells l).drop (k * 2) = str p.1 :: str p.2 :: r := by
  have hE : ∀ l : List (Tx × Tx), EL (fun p c => c = pcell p) l (pcells l) := by
    intro l
    induction l with
    | nil => rfl
    | cons a l ih => exact ⟨pcell a, pcells l, rfl, ih, by simp [pcells]⟩
  obtain ⟨c, r, rfl, e⟩ := EL.get (z := 2) (fun a c h => by rw [h]; rfl) (hE l) h
  exact ⟨r, e⟩
/-- what is kept of objects alone -/
structure KeepO (σ σ' : St) : Prop where
  nobj : σ.nobj ≤ σ'.nobj
  obj : ∀ o, o < σ.nobj → σ'.obj o = σ.obj o
  ver : ∀ o, o < σ.nobj → σ'.ver o = σ.ver o
theorem KeepO.refl (σ : St) : KeepO σ σ := ⟨Nat.le_refl _, fun _ _ => rfl, fun _ _ => rfl⟩
theorem KeepO.trans {a b c : St} (h : KeepO a b) (k : KeepO b c) : KeepO a c := ⟨Nat.le_trans h.nobj k.nobj, fun o ho => (k.obj o (Nat.lt_of_lt_of_le ho h.nobj)).trans (h.obj o ho), fun o ho => (k.ver o (Nat.lt_of_lt_of_le ho h.nobj)).trans (h.ver o ho)⟩
theorem KeepO.new {a b : St} (h : KeepO a b) (cs : List AV) : KeepO a (b.new cs) := by
  obtain ⟨h1, h2, h3⟩ := h
  exact ⟨by simp [St.new]; omega, fun o ho => by rw [new_lt (by omega)]; exact h2 o ho, fun o ho => h3 o ho⟩
theorem KeepO.of {a b c : St} (h : KeepO a b) (h1 : c.obj = b.obj) (h2 : c.nobj = b.nobj) (h3 : c.ver = b.ver) : KeepO a c := ⟨by rw [h2]; exact h.nobj, fun o ho => by rw [h1]; exact h.obj o ho, fun o ho => by rw [h3]; exact h.ver o ho⟩
def pairsR (l : List (Tx × Tx)) : Option (List (Tx × Tx)) → List (Tx × Tx) → Bool → Prop
  | some l', r, b => r = l' ∧ b = true
  | none, r, b => b = false
theorem pairsT_step {l : List (Tx × Tx)} {ts us : List Tx} {k : Nat} {t u : Tx} (ht : ts[k]? = some t) (hu : us[k]? = some u) : pairsT l (ts.drop k) (us.drop k) = if variableB t = true then pairsT (l ++ [(t, u)]) (ts.drop (k + 1)) (us.drop (k + 1)) else if t = u then pairsT l (ts.drop (k + 1)) (us.drop (k + 1)) else none := by
  obtain ⟨l1, e1⟩ := List.getElem?_eq_some_iff.1 ht
  obtain ⟨l2, e2⟩ := List.getElem?_eq_some_iff.1 hu
  rw [List.drop_eq_getElem_cons l1, List.drop_eq_getElem_cons l2, e1, e2]
  rfl
set_option maxHeartbeats 16000000 in
theorem pairs_spec (σ0 : St) (l : List (Tx × Tx)) (id : Nat) (a b : RAtom) (ca cb : List AV) (ha : EAtom a ca) (hb : EAtom b cb) (hl : l.length ≤ 1000000) (hat : a.terms.length ≤ 1000) (σ : St) (hK0 : Keep σ0 σ) (hO : Own σ0 σ id l.length) :
    ACalls Tryz.prog 226 [sl id l.length (pcells l), ag ca, ag cb] σ fun r σ' => ∃ id' l' ok, r = tp [sl id' l'.length (pcells l'), sc (.bool ok)] ∧ pairsR l (pairsL l a b) l' ok ∧ l'.length ≤ l.length + 1000 ∧ Own σ0 σ' id' l'.length ∧ Keep σ0 σ' ∧ KeepO σ σ' := by
  obtain ⟨ia, rfl⟩ := ha
  obtain ⟨ib, rfl⟩ := hb
  have hpl := pcells_len l
  by_cases hnt : a.nt = b.nt
  · have hnb : (a.nt == b.nt) = true := by simp [hnt]
    by_cases hpr : a.pred = b.pred
    · have hpb : (a.pred == b.pred) = true := by simp [hpr]
      by_cases hle : a.terms.length = b.terms.length
      · have hlb : ((a.terms.length : Int) != (b.terms.length : Int)) = false := by simp [hle]
        have hPL : Abs.Hid (pairsL l a b = pairsT l a.terms b.terms) := by rw [Abs.Hid, pairsL, if_pos ⟨hnt, hpr, hle⟩]
        have HLE : Abs.Hid _ := hle
        clear hnt hpr hle
        refine acalls 71 [.tmp 6, .tmp 7] Tryz.func226 rfl (by decide) rfl rfl (Nat.le_of_ble_eq_true rfl) ?_
        repeat' (first
 |with_reducible (first|apply awp_seq|apply awp_block|(refine awp_region_k ?_;intro κ hκ)|(refine hκ.out _ _ ?_;clear hκ κ)|apply awp_skip|apply awp_exit|apply awp_ret)
 |((first|with_reducible (first|apply gd_split|apply gt_split)|((with_reducible refine cond_go ?_);refine awp_cond_split rfl ?_ ?_))<;>intro h<;>(try simp only [upd, ↓reduceIte,Nat.reduceEqDiff,B2] at h)<;>(try simp only [*,reduceCtorEq,decide_true,decide_false] at h)<;>(try (have hari:=h;simp only [B3] at hari))<;>(try (first|contradiction|(exfalso;omega)|(exfalso;simp at h;done)))<;>(try simp only [B5]))
 |((with_reducible refine aapp_go ?_);refine aApp_own (by first|exact tez_150) (by assumption) (by assumption) (by decide) (by rfl) (by first|assumption|(simp;done)|(simp;omega)|omega) (by rfl) (by rfl) (by decide) (by omega) (by omega) ?_;intro idn σn hOn hKn eobj enobj ever entop)
 |((with_reducible refine aappn_go ?_);refine aApp_nil (by first|exact tez_150) (by rfl) (by decide) (by rfl) (by rfl) (by decide) (by omega) (by omega) ?_)
 |(simp (maxSteps:=3000000) (disch:=(first|omega|(simp only [B1, *];omega))) only [↓mapA_nil, ↓mapA_cons,B0,B4,awant,undef,aq,al,cst,cst1,acells,flat,behind,abin,aconv,aint,thenQ,blkQ,retQ,rdo,objOf,Value.cells,Value.oneCell',Int.reduceToNat, ↓reduceIte,Nat.reduceLT,Nat.reduceEqDiff,reduceCtorEq,Nat.reduceAdd,Nat.reduceMul,Nat.reduceLeDiff,u_3,u_37,u_4,u_9,telem_37,tez_150,tfld_143_0,tfld_143_1,tfld_143_2,tstr_152,tsz_37,tsz_4,tsz_9, *])
 |((with_reducible refine and_go ?_);refine And.intro (by first|exact kept_refl|exact kept_last rfl|exact kept_keep (by assumption)) ?_)
 |(refine hκ.out _ _ ?_;clear hκ κ))
        refine awp_loop (fun m s σ' => ∃ (k id' : Nat) (l' : List (Tx × Tx)), m = a.terms.length - k ∧ k ≤ a.terms.length ∧ s 0 = sl id' l'.length (pcells l') ∧ s 4 = ptr σ.nobj 0 ∧ s 5 = ptr (σ.nobj + 1) 0 ∧ s 8 = sc (.int .i64 k) ∧ Keep σ0 σ' ∧ KeepO σ σ' ∧ σ.nobj + 1 < σ'.nobj ∧ σ'.obj σ.nobj = [sc (.bool a.nt), str a.pred, sl ia a.terms.length (a.terms.map str)] ∧ σ'.obj (σ.nobj + 1) = [sc (.bool b.nt), str b.pred, sl ib b.terms.length (b.terms.map str)] ∧ Own σ0 σ' id' l'.length ∧ l'.length ≤ l.length + k ∧ Abs.Hid (pairsT l a.terms b.terms = pairsT l' (a.terms.drop k) (b.terms.drop k))) a.terms.length
          ⟨0, id, l, by omega, by omega, by simp [upd, initS], by simp [upd], by simp [upd], rfl, (hK0.new _).new _, ((KeepO.refl σ).new _).new _, by simp only [new_nobj]; omega, ?_, ?_, Own.new (Own.new hO _) _, by omega, by simp [Abs.Hid]⟩ ?_
        · rw [new_lt (by simp only [new_nobj]; omega), new_same]
        · rw [new_at (by simp only [new_nobj]; omega) (by simp only [new_nobj]; omega)]
        rintro m s σ' ⟨k, id', l', rfl, hk, h0, h4, h5, h8, hK, hKO, hno, ob0, ob1, hOw, hll, hP⟩
        have hpl' := pcells_len l'
        by_cases hlt : k < a.terms.length
        · have hlu : k < b.terms.length := by have := HLE.out; omega
          have g1 := map_str_get hlt
          have g2 := map_str_get hlu
          have hst : Abs.Hid (pairsT l a.terms b.terms = if variableB a.terms[k] = true then pairsT (l' ++ [(a.terms[k], b.terms[k])]) (a.terms.drop (k + 1)) (b.terms.drop (k + 1)) else if a.terms[k] = b.terms[k] then pairsT l' (a.terms.drop (k + 1)) (b.terms.drop (k + 1)) else none) := by
            rw [Abs.Hid, hP.out, pairsT_step (List.getElem?_eq_getElem hlt) (List.getElem?_eq_getElem hlu)]
          generalize a.terms[k] = t at g1 hst
          generalize b.terms[k] = u at g2 hst
          clear hP
          cases hv : variableB t with
          | true =>
            have hst : Abs.Hid (pairsT l a.terms b.terms = pairsT (l' ++ [(t, u)]) (a.terms.drop (k + 1)) (b.terms.drop (k + 1))) := by rw [Abs.Hid, hst.out, if_pos hv]
            have hVa := fun σ => variable_spec t σ
            rw [hv] at hVa
            clear hv
            repeat' (first
 |with_reducible (first|apply awp_seq|apply awp_block|(refine awp_region_k ?_;intro κ hκ)|(refine hκ.out _ _ ?_;clear hκ κ)|apply awp_skip|apply awp_exit|apply awp_ret)
 |((first|with_reducible (first|apply gd_split|apply gt_split)|((with_reducible refine cond_go ?_);refine awp_cond_split rfl ?_ ?_))<;>intro h<;>(try simp only [upd, ↓reduceIte,Nat.reduceEqDiff,B2] at h)<;>(try simp only [*,reduceCtorEq,decide_true,decide_false] at h)<;>(try (have hari:=h;simp only [B3] at hari))<;>(try (first|contradiction|(exfalso;omega)|(exfalso;simp at h;done)))<;>(try simp only [B5]))
 |((with_reducible refine aapp_go ?_);refine aApp_own (by first|exact tez_150) (by assumption) (by assumption) (by decide) (by rfl) (by first|assumption|(simp;done)|(simp;omega)|omega) (by rfl) (by rfl) (by decide) (by omega) (by omega) ?_;intro idn σn hOn hKn eobj enobj ever entop)
 |((with_reducible refine aappn_go ?_);refine aApp_nil (by first|exact tez_150) (by rfl) (by decide) (by rfl) (by rfl) (by decide) (by omega) (by omega) ?_)
 |((with_reducible refine acalls_go ?_);refine ACalls.mono (hVa _) ?_;rintro _ _ ⟨rfl,hσ⟩;(replace hσ:=hσ.symm;subst hσ))
 |(simp (maxSteps:=3000000) (disch:=(first|omega|(simp only [B1, *];omega))) only [↓mapA_nil, ↓mapA_cons,B0,B4,awant,undef,aq,al,cst,cst1,acells,flat,behind,abin,aconv,aint,thenQ,blkQ,retQ,rdo,objOf,Value.cells,Value.oneCell',Int.reduceToNat, ↓reduceIte,Nat.reduceLT,Nat.reduceEqDiff,reduceCtorEq,Nat.reduceAdd,Nat.reduceMul,Nat.reduceLeDiff,u_3,u_37,u_4,u_9,telem_37,tez_150,tfld_143_0,tfld_143_1,tfld_143_2,tstr_152,tsz_37,tsz_4,tsz_9, *])
 |((with_reducible refine and_go ?_);refine And.intro (by first|exact kept_refl|exact kept_last rfl|exact kept_keep (by assumption)) ?_)
 |(refine hκ.out _ _ ?_;clear hκ κ))
            refine awp_draw_k follows_mixed (fun _ => True) [13, 14] [0, 1, 2, 3, 4, 5, 6, 7, 8, 9, 10, 11] [12, 13, 14] (by kernel_rfl) (fun _ _ _ h => h) ?_
            have hKl : Keep σ' (σ'.lay 1) := (Keep.refl _).lay 1
            intro κ hκ
            repeat' (first
 |with_reducible (first|apply awp_seq|apply awp_block|(refine awp_region_k ?_;intro κ hκ)|(refine hκ.out _ _ ?_;clear hκ κ)|apply awp_skip|apply awp_exit|apply awp_ret)
 |((first|with_reducible (first|apply gd_split|apply gt_split)|((with_reducible refine cond_go ?_);refine awp_cond_split rfl ?_ ?_))<;>intro h<;>(try simp only [upd, ↓reduceIte,Nat.reduceEqDiff,B2] at h)<;>(try simp only [*,reduceCtorEq,decide_true,decide_false] at h)<;>(try (have hari:=h;simp only [B3] at hari))<;>(try (first|contradiction|(exfalso;omega)|(exfalso;simp at h;done)))<;>(try simp only [B5]))
 |((with_reducible refine aapp_go ?_);refine aApp_own (by first|exact tez_150) (by assumption) (by assumption) (by decide) (by rfl) (by first|assumption|(simp;done)|(simp;omega)|omega) (by rfl) (by rfl) (by decide) (by omega) (by omega) ?_;intro idn σn hOn hKn eobj enobj ever entop)
 |((with_reducible refine aappn_go ?_);refine aApp_nil (by first|exact tez_150) (by rfl) (by decide) (by rfl) (by rfl) (by decide) (by omega) (by omega) ?_)
 |(simp (maxSteps:=3000000) (disch:=(first|omega|(simp only [B1, *];omega))) only [↓mapA_nil, ↓mapA_cons,B0,B4,awant,undef,aq,al,cst,cst1,acells,flat,behind,abin,aconv,aint,thenQ,blkQ,retQ,rdo,objOf,Value.cells,Value.oneCell',Int.reduceToNat, ↓reduceIte,Nat.reduceLT,Nat.reduceEqDiff,reduceCtorEq,Nat.reduceAdd,Nat.reduceMul,Nat.reduceLeDiff,u_3,u_37,u_4,u_9,telem_37,tez_150,tfld_143_0,tfld_143_1,tfld_143_2,tstr_152,tsz_37,tsz_4,tsz_9, *])
 |((with_reducible refine and_go ?_);refine And.intro (by first|exact kept_refl|exact kept_last rfl|exact kept_keep (by assumption)) ?_)
 |(refine hκ.out _ _ ?_;clear hκ κ))
            exact ⟨a.terms.length - (k + 1), by omega, k + 1, idn, l' ++ [(t, u)], rfl, by omega, by rw [pcells_snoc]; simp, by simp, hKO.of eobj enobj ever, by simpa using hOn, by simp; omega, hst⟩
          | false =>
            have hVa := fun σ => variable_spec t σ
            rw [hv] at hVa
            by_cases htu : t = u
            · have htb : (t == u) = true := by simp [htu]
              have hst : Abs.Hid (pairsT l a.terms b.terms = pairsT l' (a.terms.drop (k + 1)) (b.terms.drop (k + 1))) := by rw [Abs.Hid, hst.out, if_neg (by rw [hv]; simp), if_pos htu]
              clear hv htu
              repeat' (first
 |with_reducible (first|apply awp_seq|apply awp_block|(refine awp_region_k ?_;intro κ hκ)|(refine hκ.out _ _ ?_;clear hκ κ)|apply awp_skip|apply awp_exit|apply awp_ret)
 |((first|with_reducible (first|apply gd_split|apply gt_split)|((with_reducible refine cond_go ?_);refine awp_cond_split rfl ?_ ?_))<;>intro h<;>(try simp only [upd, ↓reduceIte,Nat.reduceEqDiff,B2] at h)<;>(try simp only [*,reduceCtorEq,decide_true,decide_false] at h)<;>(try (have hari:=h;simp only [B3] at hari))<;>(try (first|contradiction|(exfalso;omega)|(exfalso;simp at h;done)))<;>(try simp only [B5]))
 |((with_reducible refine aapp_go ?_);refine aApp_own (by first|exact tez_150) (by assumption) (by assumption) (by decide) (by rfl) (by first|assumption|(simp;done)|(simp;omega)|omega) (by rfl) (by rfl) (by decide) (by omega) (by omega) ?_;intro idn σn hOn hKn eobj enobj ever entop)
 |((with_reducible refine aappn_go ?_);refine aApp_nil (by first|exact tez_150) (by rfl) (by decide) (by rfl) (by rfl) (by decide) (by omega) (by omega) ?_)
 |((with_reducible refine acalls_go ?_);refine ACalls.mono (hVa _) ?_;rintro _ _ ⟨rfl,hσ⟩;(replace hσ:=hσ.symm;subst hσ))
 |(simp (maxSteps:=3000000) (disch:=(first|omega|(simp only [B1, *];omega))) only [↓mapA_nil, ↓mapA_cons,B0,B4,awant,undef,aq,al,cst,cst1,acells,flat,behind,abin,aconv,aint,thenQ,blkQ,retQ,rdo,objOf,Value.cells,Value.oneCell',Int.reduceToNat, ↓reduceIte,Nat.reduceLT,Nat.reduceEqDiff,reduceCtorEq,Nat.reduceAdd,Nat.reduceMul,Nat.reduceLeDiff,u_3,u_37,u_4,u_9,telem_37,tez_150,tfld_143_0,tfld_143_1,tfld_143_2,tstr_152,tsz_37,tsz_4,tsz_9, *])
 |((with_reducible refine and_go ?_);refine And.intro (by first|exact kept_refl|exact kept_last rfl|exact kept_keep (by assumption)) ?_)
 |(refine hκ.out _ _ ?_;clear hκ κ))
              refine awp_draw_k follows_mixed (fun _ => True) [] [0, 1, 2, 3, 4, 5, 6, 7, 8, 9, 10] [] (by kernel_rfl) (fun _ _ _ h => h) ?_
              intro κ hκ
              repeat' (first
 |with_reducible (first|apply awp_seq|apply awp_block|(refine awp_region_k ?_;intro κ hκ)|(refine hκ.out _ _ ?_;clear hκ κ)|apply awp_skip|apply awp_exit|apply awp_ret)
 |((first|with_reducible (first|apply gd_split|apply gt_split)|((with_reducible refine cond_go ?_);refine awp_cond_split rfl ?_ ?_))<;>intro h<;>(try simp only [upd, ↓reduceIte,Nat.reduceEqDiff,B2] at h)<;>(try simp only [*,reduceCtorEq,decide_true,decide_false] at h)<;>(try (have hari:=h;simp only [B3] at hari))<;>(try (first|contradiction|(exfalso;omega)|(exfalso;simp at h;done)))<;>(try simp only [B5]))
 |((with_reducible refine aapp_go ?_);refine aApp_own (by first|exact tez_150) (by assumption) (by assumption) (by decide) (by rfl) (by first|assumption|(simp;done)|(simp;omega)|omega) (by rfl) (by rfl) (by decide) (by omega) (by omega) ?_;intro idn σn hOn hKn eobj enobj ever entop)
 |((with_reducible refine aappn_go ?_);refine aApp_nil (by first|exact tez_150) (by rfl) (by decide) (by rfl) (by rfl) (by decide) (by omega) (by omega) ?_)
 |(simp (maxSteps:=3000000) (disch:=(first|omega|(simp only [B1, *];omega))) only [↓mapA_nil, ↓mapA_cons,B0,B4,awant,undef,aq,al,cst,cst1,acells,flat,behind,abin,aconv,aint,thenQ,blkQ,retQ,rdo,objOf,Value.cells,Value.oneCell',Int.reduceToNat, ↓reduceIte,Nat.reduceLT,Nat.reduceEqDiff,reduceCtorEq,Nat.reduceAdd,Nat.reduceMul,Nat.reduceLeDiff,u_3,u_37,u_4,u_9,telem_37,tez_150,tfld_143_0,tfld_143_1,tfld_143_2,tstr_152,tsz_37,tsz_4,tsz_9, *])
 |((with_reducible refine and_go ?_);refine And.intro (by first|exact kept_refl|exact kept_last rfl|exact kept_keep (by assumption)) ?_)
 |(refine hκ.out _ _ ?_;clear hκ κ))
              exact ⟨a.terms.length - (k + 1), by omega, k + 1, id', l', rfl, by omega, rfl, by simp, hOw, by omega, hst⟩
            · have htb : (t == u) = false := by simpa using htu
              have hst : Abs.Hid (pairsT l a.terms b.terms = none) := by rw [Abs.Hid, hst.out, if_neg (by rw [hv]; simp), if_neg htu]
              clear hv htu
              repeat' (first
 |with_reducible (first|apply awp_seq|apply awp_block|(refine awp_region_k ?_;intro κ hκ)|(refine hκ.out _ _ ?_;clear hκ κ)|apply awp_skip|apply awp_exit|apply awp_ret)
 |((first|with_reducible (first|apply gd_split|apply gt_split)|((with_reducible refine cond_go ?_);refine awp_cond_split rfl ?_ ?_))<;>intro h<;>(try simp only [upd, ↓reduceIte,Nat.reduceEqDiff,B2] at h)<;>(try simp only [*,reduceCtorEq,decide_true,decide_false] at h)<;>(try (have hari:=h;simp only [B3] at hari))<;>(try (first|contradiction|(exfalso;omega)|(exfalso;simp at h;done)))<;>(try simp only [B5]))
 |((with_reducible refine aapp_go ?_);refine aApp_own (by first|exact tez_150) (by assumption) (by assumption) (by decide) (by rfl) (by first|assumption|(simp;done)|(simp;omega)|omega) (by rfl) (by rfl) (by decide) (by omega) (by omega) ?_;intro idn σn hOn hKn eobj enobj ever entop)
 |((with_reducible refine aappn_go ?_);refine aApp_nil (by first|exact tez_150) (by rfl) (by decide) (by rfl) (by rfl) (by decide) (by omega) (by omega) ?_)
 |((with_reducible refine acalls_go ?_);refine ACalls.mono (hVa _) ?_;rintro _ _ ⟨rfl,hσ⟩;(replace hσ:=hσ.symm;subst hσ))
 |(simp (maxSteps:=3000000) (disch:=(first|omega|(simp only [B1, *];omega))) only [↓mapA_nil, ↓mapA_cons,B0,B4,awant,undef,aq,al,cst,cst1,acells,flat,behind,abin,aconv,aint,thenQ,blkQ,retQ,rdo,objOf,Value.cells,Value.oneCell',Int.reduceToNat, ↓reduceIte,Nat.reduceLT,Nat.reduceEqDiff,reduceCtorEq,Nat.reduceAdd,Nat.reduceMul,Nat.reduceLeDiff,u_3,u_37,u_4,u_9,telem_37,tez_150,tfld_143_0,tfld_143_1,tfld_143_2,tstr_152,tsz_37,tsz_4,tsz_9, *])
 |((with_reducible refine and_go ?_);refine And.intro (by first|exact kept_refl|exact kept_last rfl|exact kept_keep (by assumption)) ?_)
 |(refine hκ.out _ _ ?_;clear hκ κ))
              refine awp_draw_k follows_mixed (fun _ => True) [] [0, 1, 2, 3, 4, 5, 6, 7, 8, 9, 10] [] (by kernel_rfl) (fun _ _ _ h => h) ?_
              intro κ hκ
              repeat' (first
 |with_reducible (first|apply awp_seq|apply awp_block|(refine awp_region_k ?_;intro κ hκ)|(refine hκ.out _ _ ?_;clear hκ κ)|apply awp_skip|apply awp_exit|apply awp_ret)
 |((first|with_reducible (first|apply gd_split|apply gt_split)|((with_reducible refine cond_go ?_);refine awp_cond_split rfl ?_ ?_))<;>intro h<;>(try simp only [upd, ↓reduceIte,Nat.reduceEqDiff,B2] at h)<;>(try simp only [*,reduceCtorEq,decide_true,decide_false] at h)<;>(try (have hari:=h;simp only [B3] at hari))<;>(try (first|contradiction|(exfalso;omega)|(exfalso;simp at h;done)))<;>(try simp only [B5]))
 |((with_reducible refine aapp_go ?_);refine aApp_own (by first|exact tez_150) (by assumption) (by assumption) (by decide) (by rfl) (by first|assumption|(simp;done)|(simp;omega)|omega) (by rfl) (by rfl) (by decide) (by omega) (by omega) ?_;intro idn σn hOn hKn eobj enobj ever entop)
 |((with_reducible refine aappn_go ?_);refine aApp_nil (by first|exact tez_150) (by rfl) (by decide) (by rfl) (by rfl) (by decide) (by omega) (by omega) ?_)
 |(simp (maxSteps:=3000000) (disch:=(first|omega|(simp only [B1, *];omega))) only [↓mapA_nil, ↓mapA_cons,B0,B4,awant,undef,aq,al,cst,cst1,acells,flat,behind,abin,aconv,aint,thenQ,blkQ,retQ,rdo,objOf,Value.cells,Value.oneCell',Int.reduceToNat, ↓reduceIte,Nat.reduceLT,Nat.reduceEqDiff,reduceCtorEq,Nat.reduceAdd,Nat.reduceMul,Nat.reduceLeDiff,u_3,u_37,u_4,u_9,telem_37,tez_150,tfld_143_0,tfld_143_1,tfld_143_2,tstr_152,tsz_37,tsz_4,tsz_9, *])
 |((with_reducible refine and_go ?_);refine And.intro (by first|exact kept_refl|exact kept_last rfl|exact kept_keep (by assumption)) ?_)
 |(refine hκ.out _ _ ?_;clear hκ κ))
              exact ⟨_, rfl, id', l', false, rfl, by rw [hPL.out, hst.out]; rfl, by omega, hOw⟩
        · have hkl : k = a.terms.length := by omega
          subst hkl
          have hR : Abs.Hid (pairsL l a b = some l') := by rw [Abs.Hid, hPL.out, hP.out, List.drop_length]; simp [pairsT]
          repeat' (first
 |with_reducible (first|apply awp_seq|apply awp_block|(refine awp_region_k ?_;intro κ hκ)|(refine hκ.out _ _ ?_;clear hκ κ)|apply awp_skip|apply awp_exit|apply awp_ret)
 |((first|with_reducible (first|apply gd_split|apply gt_split)|((with_reducible refine cond_go ?_);refine awp_cond_split rfl ?_ ?_))<;>intro h<;>(try simp only [upd, ↓reduceIte,Nat.reduceEqDiff,B2] at h)<;>(try simp only [*,reduceCtorEq,decide_true,decide_false] at h)<;>(try (have hari:=h;simp only [B3] at hari))<;>(try (first|contradiction|(exfalso;omega)|(exfalso;simp at h;done)))<;>(try simp only [B5]))
 |((with_reducible refine aapp_go ?_);refine aApp_own (by first|exact tez_150) (by assumption) (by assumption) (by decide) (by rfl) (by first|assumption|(simp;done)|(simp;omega)|omega) (by rfl) (by rfl) (by decide) (by omega) (by omega) ?_;intro idn σn hOn hKn eobj enobj ever entop)
 |((with_reducible refine aappn_go ?_);refine aApp_nil (by first|exact tez_150) (by rfl) (by decide) (by rfl) (by rfl) (by decide) (by omega) (by omega) ?_)
 |(simp (maxSteps:=3000000) (disch:=(first|omega|(simp only [B1, *];omega))) only [↓mapA_nil, ↓mapA_cons,B0,B4,awant,undef,aq,al,cst,cst1,acells,flat,behind,abin,aconv,aint,thenQ,blkQ,retQ,rdo,objOf,Value.cells,Value.oneCell',Int.reduceToNat, ↓reduceIte,Nat.reduceLT,Nat.reduceEqDiff,reduceCtorEq,Nat.reduceAdd,Nat.reduceMul,Nat.reduceLeDiff,u_3,u_37,u_4,u_9,telem_37,tez_150,tfld_143_0,tfld_143_1,tfld_143_2,tstr_152,tsz_37,tsz_4,tsz_9, *])
 |((with_reducible refine and_go ?_);refine And.intro (by first|exact kept_refl|exact kept_last rfl|exact kept_keep (by assumption)) ?_)
 |(refine hκ.out _ _ ?_;clear hκ κ))
          exact ⟨_, rfl, id', l', true, rfl, by rw [hR.out]; exact ⟨rfl, rfl⟩, by omega, hOw⟩
      · have hlb : ((a.terms.length : Int) != (b.terms.length : Int)) = true := by simpa using (show ¬ (a.terms.length : Int) = (b.terms.length : Int) by omega)
        have hPL : pairsL l a b = none := by rw [pairsL, if_neg (fun h => hle h.2.2)]
        have HPL : Abs.Hid _ := hPL
        clear hnt hpr hle hPL
        refine acalls 71 [.tmp 6, .tmp 7] Tryz.func226 rfl (by decide) rfl rfl (Nat.le_of_ble_eq_true rfl) ?_
        repeat' (first
 |with_reducible (first|apply awp_seq|apply awp_block|(refine awp_region_k ?_;intro κ hκ)|(refine hκ.out _ _ ?_;clear hκ κ)|apply awp_skip|apply awp_exit|apply awp_ret)
 |((first|with_reducible (first|apply gd_split|apply gt_split)|((with_reducible refine cond_go ?_);refine awp_cond_split rfl ?_ ?_))<;>intro h<;>(try simp only [upd, ↓reduceIte,Nat.reduceEqDiff,B2] at h)<;>(try simp only [*,reduceCtorEq,decide_true,decide_false] at h)<;>(try (have hari:=h;simp only [B3] at hari))<;>(try (first|contradiction|(exfalso;omega)|(exfalso;simp at h;done)))<;>(try simp only [B5]))
 |((with_reducible refine aapp_go ?_);refine aApp_own (by first|exact tez_150) (by assumption) (by assumption) (by decide) (by rfl) (by first|assumption|(simp;done)|(simp;omega)|omega) (by rfl) (by rfl) (by decide) (by omega) (by omega) ?_;intro idn σn hOn hKn eobj enobj ever entop)
 |((with_reducible refine aappn_go ?_);refine aApp_nil (by first|exact tez_150) (by rfl) (by decide) (by rfl) (by rfl) (by decide) (by omega) (by omega) ?_)
 |(simp (maxSteps:=3000000) (disch:=(first|omega|(simp only [B1, *];omega))) only [↓mapA_nil, ↓mapA_cons,B0,B4,awant,undef,aq,al,cst,cst1,acells,flat,behind,abin,aconv,aint,thenQ,blkQ,retQ,rdo,objOf,Value.cells,Value.oneCell',Int.reduceToNat, ↓reduceIte,Nat.reduceLT,Nat.reduceEqDiff,reduceCtorEq,Nat.reduceAdd,Nat.reduceMul,Nat.reduceLeDiff,u_3,u_37,u_4,u_9,telem_37,tez_150,tfld_143_0,tfld_143_1,tfld_143_2,tstr_152,tsz_37,tsz_4,tsz_9, *])
 |((with_reducible refine and_go ?_);refine And.intro (by first|exact kept_refl|exact kept_last rfl|exact kept_keep (by assumption)) ?_)
 |(refine hκ.out _ _ ?_;clear hκ κ))
        refine ⟨_, rfl, id, l, false, rfl, by rw [HPL.out]; rfl, by omega, Own.new (Own.new hO _) _, (hK0.new _).new _, ((KeepO.refl σ).new _).new _⟩
    · have hpb : (a.pred == b.pred) = false := by simpa using hpr
      have hPL : pairsL l a b = none := by rw [pairsL, if_neg (fun h => hpr h.2.1)]
      have HPL : Abs.Hid _ := hPL
      clear hnt hpr hPL
      refine acalls 71 [.tmp 6, .tmp 7] Tryz.func226 rfl (by decide) rfl rfl (Nat.le_of_ble_eq_true rfl) ?_
      repeat' (first
 |with_reducible (first|apply awp_seq|apply awp_block|(refine awp_region_k ?_;intro κ hκ)|(refine hκ.out _ _ ?_;clear hκ κ)|apply awp_skip|apply awp_exit|apply awp_ret)
 |((first|with_reducible (first|apply gd_split|apply gt_split)|((with_reducible refine cond_go ?_);refine awp_cond_split rfl ?_ ?_))<;>intro h<;>(try simp only [upd, ↓reduceIte,Nat.reduceEqDiff,B2] at h)<;>(try simp only [*,reduceCtorEq,decide_true,decide_false] at h)<;>(try (have hari:=h;simp only [B3] at hari))<;>(try (first|contradiction|(exfalso;omega)|(exfalso;simp at h;done)))<;>(try simp only [B5]))
 |((with_reducible refine aapp_go ?_);refine aApp_own (by first|exact tez_150) (by assumption) (by assumption) (by decide) (by rfl) (by first|assumption|(simp;done)|(simp;omega)|omega) (by rfl) (by rfl) (by decide) (by omega) (by omega) ?_;intro idn σn hOn hKn eobj enobj ever entop)
 |((with_reducible refine aappn_go ?_);refine aApp_nil (by first|exact tez_150) (by rfl) (by decide) (by rfl) (by rfl) (by decide) (by omega) (by omega) ?_)
 |(simp (maxSteps:=3000000) (disch:=(first|omega|(simp only [B1, *];omega))) only [↓mapA_nil, ↓mapA_cons,B0,B4,awant,undef,aq,al,cst,cst1,acells,flat,behind,abin,aconv,aint,thenQ,blkQ,retQ,rdo,objOf,Value.cells,Value.oneCell',Int.reduceToNat, ↓reduceIte,Nat.reduceLT,Nat.reduceEqDiff,reduceCtorEq,Nat.reduceAdd,Nat.reduceMul,Nat.reduceLeDiff,u_3,u_37,u_4,u_9,telem_37,tez_150,tfld_143_0,tfld_143_1,tfld_143_2,tstr_152,tsz_37,tsz_4,tsz_9, *])
 |((with_reducible refine and_go ?_);refine And.intro (by first|exact kept_refl|exact kept_last rfl|exact kept_keep (by assumption)) ?_)
 |(refine hκ.out _ _ ?_;clear hκ κ))
      refine ⟨_, rfl, id, l, false, rfl, by rw [HPL.out]; rfl, by omega, Own.new (Own.new hO _) _, (hK0.new _).new _, ((KeepO.refl σ).new _).new _⟩
  · have hnb : (a.nt == b.nt) = false := by simpa using hnt
    have hPL : pairsL l a b = none := by rw [pairsL, if_neg (fun h => hnt h.1)]
    have HPL : Abs.Hid _ := hPL
    clear hnt hPL
    refine acalls 71 [.tmp 6, .tmp 7] Tryz.func226 rfl (by decide) rfl rfl (Nat.le_of_ble_eq_true rfl) ?_
    repeat' (first
 |with_reducible (first|apply awp_seq|apply awp_block|(refine awp_region_k ?_;intro κ hκ)|(refine hκ.out _ _ ?_;clear hκ κ)|apply awp_skip|apply awp_exit|apply awp_ret)
 |((first|with_reducible (first|apply gd_split|apply gt_split)|((with_reducible refine cond_go ?_);refine awp_cond_split rfl ?_ ?_))<;>intro h<;>(try simp only [upd, ↓reduceIte,Nat.reduceEqDiff,B2] at h)<;>(try simp only [*,reduceCtorEq,decide_true,decide_false] at h)<;>(try (have hari:=h;simp only [B3] at hari))<;>(try (first|contradiction|(exfalso;omega)|(exfalso;simp at h;done)))<;>(try simp only [B5]))
 |((with_reducible refine aapp_go ?_);refine aApp_own (by first|exact tez_150) (by assumption) (by assumption) (by decide) (by rfl) (by first|assumption|(simp;done)|(simp;omega)|omega) (by rfl) (by rfl) (by decide) (by omega) (by omega) ?_;intro idn σn hOn hKn eobj enobj ever entop)
 |((with_reducible refine aappn_go ?_);refine aApp_nil (by first|exact tez_150) (by rfl) (by decide) (by rfl) (by rfl) (by decide) (by omega) (by omega) ?_)
 |(simp (maxSteps:=3000000) (disch:=(first|omega|(simp only [B1, *];omega))) only [↓mapA_nil, ↓mapA_cons,B0,B4,awant,undef,aq,al,cst,cst1,acells,flat,behind,abin,aconv,aint,thenQ,blkQ,retQ,rdo,objOf,Value.cells,Value.oneCell',Int.reduceToNat, ↓reduceIte,Nat.reduceLT,Nat.reduceEqDiff,reduceCtorEq,Nat.reduceAdd,Nat.reduceMul,Nat.reduceLeDiff,u_3,u_37,u_4,u_9,telem_37,tez_150,tfld_143_0,tfld_143_1,tfld_143_2,tstr_152,tsz_37,tsz_4,tsz_9, *])
 |((with_reducible refine and_go ?_);refine And.intro (by first|exact kept_refl|exact kept_last rfl|exact kept_keep (by assumption)) ?_)
 |(refine hκ.out _ _ ?_;clear hκ κ))
    refine ⟨_, rfl, id, l, false, rfl, by rw [HPL.out]; rfl, by omega, Own.new (Own.new hO _) _, (hK0.new _).new _, ((KeepO.refl σ).new _).new _⟩
/- The document's own answer: agree, ways. -/

def AgrR (l : List (Tx × Tx)) (i k : Nat) : Prop := ∀ b, b < k → ∀ p q, l[i]? = some p → l[b]? = some q → p.1 = q.1 → p.2 = q.2
theorem agree_of {l : List (Tx × Tx)} (h : ∀ i, i < l.length → AgrR l i i) : Agree l := by
  intro p hp q hq he
  obtain ⟨i, hi⟩ := List.getElem?_of_mem hp
  obtain ⟨k, hk⟩ := List.getElem?_of_mem hq
  have hil := (List.getElem?_eq_some_iff.1 hi).1
  have hkl := (List.getElem?_eq_some_iff.1 hk).1
  rcases Nat.lt_trichotomy i k with hlt | rfl | hgt
  · exact (h k hkl i hlt q p hk hi he.symm).symm
  · rw [hi] at hk; cases hk; rfl
  · exact h i hil k hgt p q hi hk he
set_option maxHeartbeats 16000000 in
theorem agree_spec (l : List (Tx × Tx)) (id : Nat) (hl : l.length ≤ 1000000) (σ : St) : ACalls Tryz.prog 227 [sl id l.length (pcells l)] σ fun r σ' => ∃ b, r = sc (.bool b) ∧ (b = true ↔ Agree l) ∧ σ' = σ := by
  have hpl := pcells_len l
  refine acalls 40 [.tmp 2] Tryz.func227 rfl (by decide) rfl rfl (Nat.le_of_ble_eq_true rfl) ?_
  repeat' (first
 |with_reducible (first|apply awp_seq|apply awp_block|(refine awp_region_k ?_;intro κ hκ)|(refine hκ.out _ _ ?_;clear hκ κ)|apply awp_skip|apply awp_exit|apply awp_ret)
 |((first|with_reducible (first|apply gd_split|apply gt_split)|((with_reducible refine cond_go ?_);refine awp_cond_split rfl ?_ ?_))<;>intro h<;>(try simp only [upd, ↓reduceIte,Nat.reduceEqDiff,B2] at h)<;>(try simp only [*,reduceCtorEq,decide_true,decide_false] at h)<;>(try (have hari:=h;simp only [B3] at hari))<;>(try (first|contradiction|(exfalso;omega)|(exfalso;simp at h;done)))<;>(try simp only [B5]))
 |(simp (maxSteps:=3000000) (disch:=(first|omega|(simp only [B1, *];omega))) only [↓mapA_nil, ↓mapA_cons,B0,B4,awant,undef,aq,al,cst,cst1,acells,flat,behind,abin,aconv,aint,thenQ,blkQ,retQ,rdo,objOf,Value.cells,Value.oneCell',Int.reduceToNat, ↓reduceIte,Nat.reduceLT,Nat.reduceEqDiff,reduceCtorEq,Nat.reduceAdd,Nat.reduceMul,Nat.reduceLeDiff,u_150,u_3,u_9,telem_150,tfld_152_0,tfld_152_1,tsz_9, *])
 |((with_reducible refine and_go ?_);refine And.intro (by first|exact kept_refl|exact kept_last rfl|exact kept_keep (by assumption)) ?_)
 |(refine hκ.out _ _ ?_;clear hκ κ))
  refine awp_loop (fun m s σ' => ∃ i : Nat, m = l.length - i ∧ i ≤ l.length ∧ s 0 = sl id l.length (pcells l) ∧ s 3 = sc (.int .i64 i) ∧ σ' = σ ∧ Abs.Hid (∀ j, j < i → AgrR l j j)) l.length
    ⟨0, by omega, by omega, rfl, rfl, rfl, fun j hj => by omega⟩ ?_
  rintro m s σ' ⟨i, rfl, hi, h0, h3, hσ, hA⟩
  subst hσ
  by_cases hlt : i < l.length
  · repeat' (first
 |with_reducible (first|apply awp_seq|apply awp_block|(refine awp_region_k ?_;intro κ hκ)|(refine hκ.out _ _ ?_;clear hκ κ)|apply awp_skip|apply awp_exit|apply awp_ret)
 |((first|with_reducible (first|apply gd_split|apply gt_split)|((with_reducible refine cond_go ?_);refine awp_cond_split rfl ?_ ?_))<;>intro h<;>(try simp only [upd, ↓reduceIte,Nat.reduceEqDiff,B2] at h)<;>(try simp only [*,reduceCtorEq,decide_true,decide_false] at h)<;>(try (have hari:=h;simp only [B3] at hari))<;>(try (first|contradiction|(exfalso;omega)|(exfalso;simp at h;done)))<;>(try simp only [B5]))
 |(simp (maxSteps:=3000000) (disch:=(first|omega|(simp only [B1, *];omega))) only [↓mapA_nil, ↓mapA_cons,B0,B4,awant,undef,aq,al,cst,cst1,acells,flat,behind,abin,aconv,aint,thenQ,blkQ,retQ,rdo,objOf,Value.cells,Value.oneCell',Int.reduceToNat, ↓reduceIte,Nat.reduceLT,Nat.reduceEqDiff,reduceCtorEq,Nat.reduceAdd,Nat.reduceMul,Nat.reduceLeDiff,u_150,u_3,u_9,telem_150,tfld_152_0,tfld_152_1,tsz_9, *])
 |((with_reducible refine and_go ?_);refine And.intro (by first|exact kept_refl|exact kept_last rfl|exact kept_keep (by assumption)) ?_)
 |(refine hκ.out _ _ ?_;clear hκ κ))
    refine awp_loop (fun m s σ'' => ∃ k : Nat, m = i - k ∧ k ≤ i ∧ s 0 = sl id l.length (pcells l) ∧ s 3 = sc (.int .i64 i) ∧ s 4 = sc (.int .i64 k) ∧ σ'' = σ' ∧ Abs.Hid (AgrR l i k)) i
      ⟨0, by omega, by omega, by simp [upd, h0], by simp [upd, h3], rfl, rfl, fun b hb => by omega⟩ ?_
    clear h0 h3
    rintro m s σ'' ⟨k, rfl, hk, h0, h3, h4, hσ, hB⟩
    subst hσ
    by_cases hlt2 : k < i
    · have g1 := List.getElem?_eq_getElem hlt
      have g2 := List.getElem?_eq_getElem (show k < l.length by omega)
      obtain ⟨r1, hd1⟩ := pcells_get g1
      obtain ⟨r2, hd2⟩ := pcells_get g2
      have HG1 : Abs.Hid _ := g1
      have HG2 : Abs.Hid _ := g2
      clear g1 g2
      generalize l[i] = p at hd1 HG1
      generalize l[k] = q at hd2 HG2
      have HS : Abs.Hid ((p.1 = q.1 → p.2 = q.2) → AgrR l i (k + 1)) := fun h b hb p' q' hp hq he => by
        by_cases e : b = k
        · subst e; rw [HG1.out] at hp; rw [HG2.out] at hq; cases hp; cases hq; exact h he
        · exact hB.out b (by omega) p' q' hp hq he
      have HF : Abs.Hid (p.1 = q.1 → p.2 ≠ q.2 → ¬ Agree l) := fun h1 h2 hA => h2 (hA p (List.mem_of_getElem? HG1.out) q (List.mem_of_getElem? HG2.out) h1)
      obtain ⟨p1, p2⟩ := p
      obtain ⟨q1, q2⟩ := q
      dsimp only at hd1 hd2 HS HF
      by_cases he : p1 = q1
      · have hb1 : (p1 == q1) = true := by simp [he]
        by_cases hf : p2 = q2
        · have hb2 : (p2 == q2) = true := by simp [hf]
          have HS2 : Abs.Hid (AgrR l i (k + 1)) := HS.out fun _ => hf
          clear HS HF he hf
          repeat' (first
 |with_reducible (first|apply awp_seq|apply awp_block|(refine awp_region_k ?_;intro κ hκ)|(refine hκ.out _ _ ?_;clear hκ κ)|apply awp_skip|apply awp_exit|apply awp_ret)
 |((first|with_reducible (first|apply gd_split|apply gt_split)|((with_reducible refine cond_go ?_);refine awp_cond_split rfl ?_ ?_))<;>intro h<;>(try simp only [upd, ↓reduceIte,Nat.reduceEqDiff,B2] at h)<;>(try simp only [*,reduceCtorEq,decide_true,decide_false] at h)<;>(try (have hari:=h;simp only [B3] at hari))<;>(try (first|contradiction|(exfalso;omega)|(exfalso;simp at h;done)))<;>(try simp only [B5]))
 |(simp (maxSteps:=3000000) (disch:=(first|omega|(simp only [B1, *];omega))) only [↓mapA_nil, ↓mapA_cons,B0,B4,awant,undef,aq,al,cst,cst1,acells,flat,behind,abin,aconv,aint,thenQ,blkQ,retQ,rdo,objOf,Value.cells,Value.oneCell',Int.reduceToNat, ↓reduceIte,Nat.reduceLT,Nat.reduceEqDiff,reduceCtorEq,Nat.reduceAdd,Nat.reduceMul,Nat.reduceLeDiff,u_150,u_3,u_9,telem_150,tfld_152_0,tfld_152_1,tsz_9, *])
 |((with_reducible refine and_go ?_);refine And.intro (by first|exact kept_refl|exact kept_last rfl|exact kept_keep (by assumption)) ?_)
 |(refine hκ.out _ _ ?_;clear hκ κ))
          refine awp_draw_k follows_mixed (fun _ => True) [] [0, 1, 2, 3, 4, 5, 6, 7, 8, 9, 10, 11, 12, 13, 14, 15, 16, 17, 18, 19, 20, 21, 22, 23] [] (by kernel_rfl) (fun _ _ _ h => h) ?_
          intro κ hκ
          repeat' (first
 |with_reducible (first|apply awp_seq|apply awp_block|(refine awp_region_k ?_;intro κ hκ)|(refine hκ.out _ _ ?_;clear hκ κ)|apply awp_skip|apply awp_exit|apply awp_ret)
 |((first|with_reducible (first|apply gd_split|apply gt_split)|((with_reducible refine cond_go ?_);refine awp_cond_split rfl ?_ ?_))<;>intro h<;>(try simp only [upd, ↓reduceIte,Nat.reduceEqDiff,B2] at h)<;>(try simp only [*,reduceCtorEq,decide_true,decide_false] at h)<;>(try (have hari:=h;simp only [B3] at hari))<;>(try (first|contradiction|(exfalso;omega)|(exfalso;simp at h;done)))<;>(try simp only [B5]))
 |(simp (maxSteps:=3000000) (disch:=(first|omega|(simp only [B1, *];omega))) only [↓mapA_nil, ↓mapA_cons,B0,B4,awant,undef,aq,al,cst,cst1,acells,flat,behind,abin,aconv,aint,thenQ,blkQ,retQ,rdo,objOf,Value.cells,Value.oneCell',Int.reduceToNat, ↓reduceIte,Nat.reduceLT,Nat.reduceEqDiff,reduceCtorEq,Nat.reduceAdd,Nat.reduceMul,Nat.reduceLeDiff,u_150,u_3,u_9,telem_150,tfld_152_0,tfld_152_1,tsz_9, *])
 |((with_reducible refine and_go ?_);refine And.intro (by first|exact kept_refl|exact kept_last rfl|exact kept_keep (by assumption)) ?_)
 |(refine hκ.out _ _ ?_;clear hκ κ))
          exact ⟨i - (k + 1), by omega, k + 1, rfl, by omega, by simp, HS2⟩
        · have hb2 : (p2 == q2) = false := by simpa using hf
          have HF2 : Abs.Hid (¬ Agree l) := HF.out he hf
          clear HS HF he hf
          repeat' (first
 |with_reducible (first|apply awp_seq|apply awp_block|(refine awp_region_k ?_;intro κ hκ)|(refine hκ.out _ _ ?_;clear hκ κ)|apply awp_skip|apply awp_exit|apply awp_ret)
 |((first|with_reducible (first|apply gd_split|apply gt_split)|((with_reducible refine cond_go ?_);refine awp_cond_split rfl ?_ ?_))<;>intro h<;>(try simp only [upd, ↓reduceIte,Nat.reduceEqDiff,B2] at h)<;>(try simp only [*,reduceCtorEq,decide_true,decide_false] at h)<;>(try (have hari:=h;simp only [B3] at hari))<;>(try (first|contradiction|(exfalso;omega)|(exfalso;simp at h;done)))<;>(try simp only [B5]))
 |(simp (maxSteps:=3000000) (disch:=(first|omega|(simp only [B1, *];omega))) only [↓mapA_nil, ↓mapA_cons,B0,B4,awant,undef,aq,al,cst,cst1,acells,flat,behind,abin,aconv,aint,thenQ,blkQ,retQ,rdo,objOf,Value.cells,Value.oneCell',Int.reduceToNat, ↓reduceIte,Nat.reduceLT,Nat.reduceEqDiff,reduceCtorEq,Nat.reduceAdd,Nat.reduceMul,Nat.reduceLeDiff,u_150,u_3,u_9,telem_150,tfld_152_0,tfld_152_1,tsz_9, *])
 |((with_reducible refine and_go ?_);refine And.intro (by first|exact kept_refl|exact kept_last rfl|exact kept_keep (by assumption)) ?_)
 |(refine hκ.out _ _ ?_;clear hκ κ))
          refine awp_draw_k follows_mixed (fun _ => True) [] [0, 1, 2, 3, 4, 5, 6, 7, 8, 9, 10, 11, 12, 13, 14, 15, 16, 17, 18, 19, 20, 21, 22, 23] [] (by kernel_rfl) (fun _ _ _ h => h) ?_
          intro κ hκ
          repeat' (first
 |with_reducible (first|apply awp_seq|apply awp_block|(refine awp_region_k ?_;intro κ hκ)|(refine hκ.out _ _ ?_;clear hκ κ)|apply awp_skip|apply awp_exit|apply awp_ret)
 |((first|with_reducible (first|apply gd_split|apply gt_split)|((with_reducible refine cond_go ?_);refine awp_cond_split rfl ?_ ?_))<;>intro h<;>(try simp only [upd, ↓reduceIte,Nat.reduceEqDiff,B2] at h)<;>(try simp only [*,reduceCtorEq,decide_true,decide_false] at h)<;>(try (have hari:=h;simp only [B3] at hari))<;>(try (first|contradiction|(exfalso;omega)|(exfalso;simp at h;done)))<;>(try simp only [B5]))
 |(simp (maxSteps:=3000000) (disch:=(first|omega|(simp only [B1, *];omega))) only [↓mapA_nil, ↓mapA_cons,B0,B4,awant,undef,aq,al,cst,cst1,acells,flat,behind,abin,aconv,aint,thenQ,blkQ,retQ,rdo,objOf,Value.cells,Value.oneCell',Int.reduceToNat, ↓reduceIte,Nat.reduceLT,Nat.reduceEqDiff,reduceCtorEq,Nat.reduceAdd,Nat.reduceMul,Nat.reduceLeDiff,u_150,u_3,u_9,telem_150,tfld_152_0,tfld_152_1,tsz_9, *])
 |((with_reducible refine and_go ?_);refine And.intro (by first|exact kept_refl|exact kept_last rfl|exact kept_keep (by assumption)) ?_)
 |(refine hκ.out _ _ ?_;clear hκ κ))
          exact ⟨_, rfl, false, rfl, (fun h => by cases h), fun h => absurd h HF2.out⟩
      · have hb1 : (p1 == q1) = false := by simpa using he
        have HS2 : Abs.Hid (AgrR l i (k + 1)) := HS.out fun h => absurd h he
        clear HS HF he
        repeat' (first
 |with_reducible (first|apply awp_seq|apply awp_block|(refine awp_region_k ?_;intro κ hκ)|(refine hκ.out _ _ ?_;clear hκ κ)|apply awp_skip|apply awp_exit|apply awp_ret)
 |((first|with_reducible (first|apply gd_split|apply gt_split)|((with_reducible refine cond_go ?_);refine awp_cond_split rfl ?_ ?_))<;>intro h<;>(try simp only [upd, ↓reduceIte,Nat.reduceEqDiff,B2] at h)<;>(try simp only [*,reduceCtorEq,decide_true,decide_false] at h)<;>(try (have hari:=h;simp only [B3] at hari))<;>(try (first|contradiction|(exfalso;omega)|(exfalso;simp at h;done)))<;>(try simp only [B5]))
 |(simp (maxSteps:=3000000) (disch:=(first|omega|(simp only [B1, *];omega))) only [↓mapA_nil, ↓mapA_cons,B0,B4,awant,undef,aq,al,cst,cst1,acells,flat,behind,abin,aconv,aint,thenQ,blkQ,retQ,rdo,objOf,Value.cells,Value.oneCell',Int.reduceToNat, ↓reduceIte,Nat.reduceLT,Nat.reduceEqDiff,reduceCtorEq,Nat.reduceAdd,Nat.reduceMul,Nat.reduceLeDiff,u_150,u_3,u_9,telem_150,tfld_152_0,tfld_152_1,tsz_9, *])
 |((with_reducible refine and_go ?_);refine And.intro (by first|exact kept_refl|exact kept_last rfl|exact kept_keep (by assumption)) ?_)
 |(refine hκ.out _ _ ?_;clear hκ κ))
        refine awp_draw_k follows_mixed (fun _ => True) [] [0, 1, 2, 3, 4, 5, 6, 7, 8, 9, 10, 11, 12, 13, 14, 15, 16, 17, 18, 19, 20, 21, 22, 23] [] (by kernel_rfl) (fun _ _ _ h => h) ?_
        intro κ hκ
        repeat' (first
 |with_reducible (first|apply awp_seq|apply awp_block|(refine awp_region_k ?_;intro κ hκ)|(refine hκ.out _ _ ?_;clear hκ κ)|apply awp_skip|apply awp_exit|apply awp_ret)
 |((first|with_reducible (first|apply gd_split|apply gt_split)|((with_reducible refine cond_go ?_);refine awp_cond_split rfl ?_ ?_))<;>intro h<;>(try simp only [upd, ↓reduceIte,Nat.reduceEqDiff,B2] at h)<;>(try simp only [*,reduceCtorEq,decide_true,decide_false] at h)<;>(try (have hari:=h;simp only [B3] at hari))<;>(try (first|contradiction|(exfalso;omega)|(exfalso;simp at h;done)))<;>(try simp only [B5]))
 |(simp (maxSteps:=3000000) (disch:=(first|omega|(simp only [B1, *];omega))) only [↓mapA_nil, ↓mapA_cons,B0,B4,awant,undef,aq,al,cst,cst1,acells,flat,behind,abin,aconv,aint,thenQ,blkQ,retQ,rdo,objOf,Value.cells,Value.oneCell',Int.reduceToNat, ↓reduceIte,Nat.reduceLT,Nat.reduceEqDiff,reduceCtorEq,Nat.reduceAdd,Nat.reduceMul,Nat.reduceLeDiff,u_150,u_3,u_9,telem_150,tfld_152_0,tfld_152_1,tsz_9, *])
 |((with_reducible refine and_go ?_);refine And.intro (by first|exact kept_refl|exact kept_last rfl|exact kept_keep (by assumption)) ?_)
 |(refine hκ.out _ _ ?_;clear hκ κ))
        exact ⟨i - (k + 1), by omega, k + 1, rfl, by omega, by simp, HS2⟩
    · have hki : k = i := by omega
      subst hki
      repeat' (first
 |with_reducible (first|apply awp_seq|apply awp_block|(refine awp_region_k ?_;intro κ hκ)|(refine hκ.out _ _ ?_;clear hκ κ)|apply awp_skip|apply awp_exit|apply awp_ret)
 |((first|with_reducible (first|apply gd_split|apply gt_split)|((with_reducible refine cond_go ?_);refine awp_cond_split rfl ?_ ?_))<;>intro h<;>(try simp only [upd, ↓reduceIte,Nat.reduceEqDiff,B2] at h)<;>(try simp only [*,reduceCtorEq,decide_true,decide_false] at h)<;>(try (have hari:=h;simp only [B3] at hari))<;>(try (first|contradiction|(exfalso;omega)|(exfalso;simp at h;done)))<;>(try simp only [B5]))
 |(simp (maxSteps:=3000000) (disch:=(first|omega|(simp only [B1, *];omega))) only [↓mapA_nil, ↓mapA_cons,B0,B4,awant,undef,aq,al,cst,cst1,acells,flat,behind,abin,aconv,aint,thenQ,blkQ,retQ,rdo,objOf,Value.cells,Value.oneCell',Int.reduceToNat, ↓reduceIte,Nat.reduceLT,Nat.reduceEqDiff,reduceCtorEq,Nat.reduceAdd,Nat.reduceMul,Nat.reduceLeDiff,u_150,u_3,u_9,telem_150,tfld_152_0,tfld_152_1,tsz_9, *])
 |((with_reducible refine and_go ?_);refine And.intro (by first|exact kept_refl|exact kept_last rfl|exact kept_keep (by assumption)) ?_)
 |(refine hκ.out _ _ ?_;clear hκ κ))
      exact ⟨l.length - (k + 1), by omega, k + 1, rfl, by omega, by simp, fun j hj => by
        by_cases e : j = k
        · subst e; exact hB.out
        · exact hA.out j (by omega)⟩
  · have hil : i = l.length := by omega
    subst hil
    have hAg := agree_of hA.out
    repeat' (first
 |with_reducible (first|apply awp_seq|apply awp_block|(refine awp_region_k ?_;intro κ hκ)|(refine hκ.out _ _ ?_;clear hκ κ)|apply awp_skip|apply awp_exit|apply awp_ret)
 |((first|with_reducible (first|apply gd_split|apply gt_split)|((with_reducible refine cond_go ?_);refine awp_cond_split rfl ?_ ?_))<;>intro h<;>(try simp only [upd, ↓reduceIte,Nat.reduceEqDiff,B2] at h)<;>(try simp only [*,reduceCtorEq,decide_true,decide_false] at h)<;>(try (have hari:=h;simp only [B3] at hari))<;>(try (first|contradiction|(exfalso;omega)|(exfalso;simp at h;done)))<;>(try simp only [B5]))
 |(simp (maxSteps:=3000000) (disch:=(first|omega|(simp only [B1, *];omega))) only [↓mapA_nil, ↓mapA_cons,B0,B4,awant,undef,aq,al,cst,cst1,acells,flat,behind,abin,aconv,aint,thenQ,blkQ,retQ,rdo,objOf,Value.cells,Value.oneCell',Int.reduceToNat, ↓reduceIte,Nat.reduceLT,Nat.reduceEqDiff,reduceCtorEq,Nat.reduceAdd,Nat.reduceMul,Nat.reduceLeDiff,u_150,u_3,u_9,telem_150,tfld_152_0,tfld_152_1,tsz_9, *])
 |((with_reducible refine and_go ?_);refine And.intro (by first|exact kept_refl|exact kept_last rfl|exact kept_keep (by assumption)) ?_)
 |(refine hκ.out _ _ ?_;clear hκ κ))
    exact ⟨_, rfl, true, rfl, by simp⟩
theorem pow_small {n i : Nat} (h1 : 1 ≤ n) (hn : n ≤ 5) (hi : i ≤ n) : (n - 1) ^ i ≤ 1024 := by
  have : ∀ n, n < 6 → ∀ i, i < 6 → i ≤ n → 1 ≤ n → (n - 1) ^ i ≤ 1024 := by decide
  exact this n (by omega) i (by omega) hi h1
set_option maxHeartbeats 4000000 in
theorem ways_spec (n : Nat) (h1 : 1 ≤ n) (hn : n ≤ 5) (σ : St) : ACalls Tryz.prog 183 [sc (.int .i64 n)] σ fun r σ' => r = sc (.int .i64 ((n - 1) ^ n : Nat)) ∧ σ' = σ := by
  obtain ⟨M, hM⟩ : ∃ M : Nat, n = M + 1 := ⟨n - 1, by omega⟩
  have hnm : (n : Int) - 1 = (M : Int) := by omega
  have hnM : n - 1 = M := by omega
  clear hM
  have hps := fun i hi => pow_small (n := n) (i := i) h1 hn hi
  rw [hnM] at hps ⊢
  clear hnM
  refine acalls 15 [.tmp 2] Tryz.func183 rfl (by decide) rfl rfl (Nat.le_of_ble_eq_true rfl) ?_
  repeat' (first
 |with_reducible (first|apply awp_seq|apply awp_block|(refine awp_region_k ?_;intro κ hκ)|(refine hκ.out _ _ ?_;clear hκ κ)|apply awp_skip|apply awp_exit|apply awp_ret)
 |((first|with_reducible apply gd_split|((with_reducible refine cond_go ?_);refine awp_cond_split rfl ?_ ?_))<;>intro h<;>(try simp only [upd, ↓reduceIte,Nat.reduceEqDiff,B2] at h)<;>(try simp only [*,reduceCtorEq,decide_true,decide_false] at h)<;>(try (have hari:=h;simp only [B3] at hari))<;>(try (first|contradiction|(exfalso;omega)|(exfalso;simp at h;done)))<;>(try simp only [B5]))
 |(simp (maxSteps:=3000000) (disch:=(first|omega|(simp only [B1, *];omega))) only [↓mapA_nil, ↓mapA_cons,B0,B4,awant,undef,aq,al,cst,cst1,acells,flat,behind,abin,aconv,aint,thenQ,blkQ,retQ,Value.cells,Value.oneCell',Int.reduceToNat, ↓reduceIte,Nat.reduceLT,Nat.reduceEqDiff,reduceCtorEq,Nat.reduceAdd,Nat.reduceMul,Nat.reduceLeDiff,u_3, *])
 |(refine hκ.out _ _ ?_;clear hκ κ))
  refine awp_loop (fun m s σ' => ∃ (i p : Nat), m = n - i ∧ i ≤ n ∧ s 0 = sc (.int .i64 n) ∧ s 3 = sc (.int .i64 p) ∧ s 4 = sc (.int .i64 i) ∧ σ' = σ ∧ Abs.Hid (p = M ^ i) ∧ p ≤ 1024) n
    ⟨0, 1, by omega, by omega, rfl, rfl, rfl, rfl, by simp [Abs.Hid], by omega⟩ ?_
  rintro m s σ' ⟨i, p, rfl, hi, h0, h3, h4, hσ, hp, hp2⟩
  subst hσ
  by_cases hlt : i < n
  · have hmul : (p : Int) * (M : Int) = ((p * M : Nat) : Int) := by simp
    have hb : p * M ≤ 1024 := by rw [hp.out, ← Nat.pow_succ]; exact hps (i + 1) hlt
    have hpp : Abs.Hid (p * M = M ^ (i + 1)) := by rw [Abs.Hid, Nat.pow_succ, hp.out]
    generalize p * M = pm at hmul hb hpp
    repeat' (first
 |with_reducible (first|apply awp_seq|apply awp_block|(refine awp_region_k ?_;intro κ hκ)|(refine hκ.out _ _ ?_;clear hκ κ)|apply awp_skip|apply awp_exit|apply awp_ret)
 |((first|with_reducible apply gd_split|((with_reducible refine cond_go ?_);refine awp_cond_split rfl ?_ ?_))<;>intro h<;>(try simp only [upd, ↓reduceIte,Nat.reduceEqDiff,B2] at h)<;>(try simp only [*,reduceCtorEq,decide_true,decide_false] at h)<;>(try (have hari:=h;simp only [B3] at hari))<;>(try (first|contradiction|(exfalso;omega)|(exfalso;simp at h;done)))<;>(try simp only [B5]))
 |(simp (maxSteps:=3000000) (disch:=(first|omega|(simp only [B1, *];omega))) only [↓mapA_nil, ↓mapA_cons,B0,B4,awant,undef,aq,al,cst,cst1,acells,flat,behind,abin,aconv,aint,thenQ,blkQ,retQ,Value.cells,Value.oneCell',Int.reduceToNat, ↓reduceIte,Nat.reduceLT,Nat.reduceEqDiff,reduceCtorEq,Nat.reduceAdd,Nat.reduceMul,Nat.reduceLeDiff,u_3, *])
 |(refine hκ.out _ _ ?_;clear hκ κ))
    exact ⟨n - (i + 1), by omega, i + 1, pm, rfl, by omega, rfl, by simp, hpp, hb⟩
  · have hil : i = n := by omega
    subst hil
    repeat' (first
 |with_reducible (first|apply awp_seq|apply awp_block|(refine awp_region_k ?_;intro κ hκ)|(refine hκ.out _ _ ?_;clear hκ κ)|apply awp_skip|apply awp_exit|apply awp_ret)
 |((first|with_reducible apply gd_split|((with_reducible refine cond_go ?_);refine awp_cond_split rfl ?_ ?_))<;>intro h<;>(try simp only [upd, ↓reduceIte,Nat.reduceEqDiff,B2] at h)<;>(try simp only [*,reduceCtorEq,decide_true,decide_false] at h)<;>(try (have hari:=h;simp only [B3] at hari))<;>(try (first|contradiction|(exfalso;omega)|(exfalso;simp at h;done)))<;>(try simp only [B5]))
 |(simp (maxSteps:=3000000) (disch:=(first|omega|(simp only [B1, *];omega))) only [↓mapA_nil, ↓mapA_cons,B0,B4,awant,undef,aq,al,cst,cst1,acells,flat,behind,abin,aconv,aint,thenQ,blkQ,retQ,Value.cells,Value.oneCell',Int.reduceToNat, ↓reduceIte,Nat.reduceLT,Nat.reduceEqDiff,reduceCtorEq,Nat.reduceAdd,Nat.reduceMul,Nat.reduceLeDiff,u_3, *])
 |(refine hκ.out _ _ ?_;clear hκ κ))
    first
    | exact ⟨_, rfl, by rw [hp.out], rfl⟩
    | exact ⟨_, rfl, by rw [hp.out]⟩
end Go.Proofs.YtmoeoppbmhfbpaaGreatDoorY
