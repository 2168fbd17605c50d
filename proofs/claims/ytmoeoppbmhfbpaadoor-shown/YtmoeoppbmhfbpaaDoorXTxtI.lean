import Derived.Test.YtmoeoppbmhfbpaaDoorXTxtH
import Derived.Test.YtmoeoppbmhfbpaaDoorXTxtC
import Derived.Test.YtmoeoppbmhfbpaaDoorXSpaF
import Derived.Test.YtmoeoppbmhfbpaaDoorXPrtH
/- Shown: what Spare puts is so, by the texts alone. -/
namespace Go.Proofs.YtmoeoppbmhfbpaaDoorX
open Go.Abs
set_option linter.unusedSimpArgs false
set_option linter.unusedVariables false
set_option maxRecDepth 100000

theorem uMore_part {ts : List Tx} {t : Tx} (h : t ∈ ts) : t.length ≤ (uMore ts).length := by
  induction ts with
  | nil => cases h
  | cons u ts ih =>
    have e : uMore (u :: ts) = 44 :: (u ++ uMore ts) := by simp [uMore]
    rw [e]
    simp only [List.length_cons, List.length_append]
    rcases List.mem_cons.1 h with rfl | h
    · omega
    · have := ih h; omega
theorem uList_part {ts : List Tx} {t : Tx} (h : t ∈ ts) : t.length ≤ (uList ts).length := by
  cases ts with
  | nil => cases h
  | cons u ts =>
    rw [uList, List.length_append]
    rcases List.mem_cons.1 h with rfl | h
    · omega
    · have := uMore_part h; omega
theorem lit_part {y : RItem} (hw : WItem y) (ho : y.out = false) {a : RAtom} (ha : a = y.head ∨ a ∈ y.body) : (uLit a).length ≤ (uItem y ++ [46]).length := by
  obtain ⟨h1, h2, h3, h4⟩ := hw.2.2 ho
  rw [uItem, if_neg (by simp [ho]), uRule]
  simp only [List.length_append]
  rcases ha with rfl | ha
  · have e : uLit y.head = uAtom y.head := by simp [uLit, h2]
    rw [e]; omega
  · rw [if_neg (fun e => by rw [e] at ha; cases ha)]
    have := uList_part (List.mem_map.2 ⟨a, ha, rfl⟩ : uLit a ∈ y.body.map uLit)
    simp only [List.length_cons]
    omega
theorem sht_of {y : RItem} {k : Nat} {ts : List Tx} (hw : WItem y) (ho : y.out = false) (hk : k < y.body.length) (hl : (uItem y ++ [46]).length ≤ 100000) (h : ShP y k ts) : ShT (uItem y ++ [46]) k ts (uLit y.head) (y.body.map uLit) := by
  obtain ⟨w1, w2, w3, w4⟩ := hw.2.2 ho
  have hne : ∀ a : RAtom, WAtom a → uLit a ≠ [] := fun a ha e => by
    have := congrArg List.length e
    simp [uLit, uAtom] at this
  refine ⟨hl, ats_rule hw ho, by simpa using hk, by simpa using (by omega : y.body.length ≤ 1000), h.vr, ⟨by have := h.few; omega, h.short⟩, ⟨Nat.le_trans (lit_part hw ho (.inl rfl)) hl, by rw [tms_lit w1]; have := w1.2.2.1; omega⟩, fun b hb => ?_, h.hd, ?_, fun b hb => ?_, fun b hb => ?_⟩
  · obtain ⟨a, ha, rfl⟩ := List.mem_map.1 hb
    exact ⟨hne a (w4 a ha), Nat.le_trans (lit_part hw ho (.inr ha)) hl, by rw [tms_lit (w4 a ha)]; have := (w4 a ha).2.2.1; omega⟩
  · rw [erase_map]; exact h.chd
  · rw [erase_map] at hb ⊢
    obtain ⟨a, ha, rfl⟩ := List.mem_map.1 hb
    exact h.cov a ha
  · rw [erase_map]
    obtain ⟨a, ha, rfl⟩ := List.mem_map.1 hb
    exact h.on a ha
structure ShA (t : Tx) (n m : Int) (u : Tx) : Prop where
  pr : ∃ T, refPrint t = (T, 0) ∧ T.length ≤ 600 ∧ 0 ≤ n ∧ 0 ≤ m ∧ ∃ rule hd ls ts, (pcsL T)[n.toNat]? = some rule ∧ ShT rule m.toNat ts hd ls ∧ u.length ≤ 90000 ∧ ts.length ≤ 1000 ∧ ((u = [] ∧ ts = []) ∨ (u ≠ [] ∧ tmsL (40 :: (u ++ [41])) = ts))
theorem spare_shown {t : Tx} {n m : Int} {p : Tx × Int} (h : pSpareR t n m p) : (p.1 = [] ∧ p.2 ≠ 0) ∨ (p.2 = 0 ∧ ShA t n m p.1) := by
  unfold pSpareR at h
  split at h
  · rename_i he
    exact .inl (by rw [h]; exact ⟨rfl, he⟩)
  · rename_i he
    have he : (refCheck t).1 = 0 := Classical.not_not.1 he
    obtain ⟨N, l, cs, hR, h⟩ := h
    rcases h with ⟨h, -⟩ | ⟨x, s0, -, hn0, hx, hxo, hm0, hm1, hs0, h⟩
    · exact .inl (by rw [h]; exact ⟨rfl, by simp⟩)
    · split at h
      · exact .inl (by rw [h]; exact ⟨rfl, by simp⟩)
      · rename_i s hs
        refine .inr ⟨by rw [h], ?_⟩
        rw [h]
        have hxm := List.mem_of_getElem? hx
        have hX := hR.xr hxm hxo
        have hI := hX.inO
        have hN := (EL_PI_mem hR.bk.el x hxm).2
        have hlen : ∀ a ∈ x.body, ∀ b ∈ x.body, a.pred = b.pred → a.terms.length = b.terms.length := fun a ha b hb => right_len hR.ok x (by rw [hR.items]; exact hxm) a (atoms_mem (.inr ha)) b (atoms_mem (.inr hb))
        have hlen' : ∀ a ∈ (ren x).body, ∀ b ∈ (ren x).body, a.pred = b.pred → a.terms.length = b.terms.length := fun a ha b hb he => by
          simp only [ren, List.mem_map] at ha hb
          obtain ⟨a', ha', rfl⟩ := ha
          obtain ⟨b', hb', rfl⟩ := hb
          simpa [renA] using hlen a' ha' b' hb' he
        have hN' : ∀ a ∈ (ren x).body, a.pred ∈ N := fun a ha => by
          simp only [ren, List.mem_map] at ha
          obtain ⟨a', ha', rfl⟩ := ha
          exact hN a' ha'
        have hwy := ren_WItem (hR.wit x hxm) (hR.wi x hxm)
        have hP := shp_of hwy hI hN' hlen' hs0 hs
        have hw := hR.whole.1
        have hu := whole_u hR.wit
        have hpc : pcsL (wholeL l) = (l.map ren).map fun x => uItem x ++ [46] := by
          rw [hu]
          exact pcs_items fun y hy => by
            obtain ⟨z, hz, rfl⟩ := List.mem_map.1 hy
            exact ren_WItem (hR.wit z hz) (hR.wi z hz)
        have hpl : (uItem (ren x) ++ [46]).length ≤ 600 := by
          refine Nat.le_trans ?_ hw
          rw [hu]
          have key : ∀ l : List RItem, ∀ y ∈ l, (uItem y ++ [46]).length ≤ (uItems l).length := by
            intro l
            induction l with
            | nil => intro y hy; cases hy
            | cons z l ih =>
              intro y hy
              have e : uItems (z :: l) = (uItem z ++ [46]) ++ uItems l := by simp [uItems]
              simp only [e, List.length_append]
              rcases List.mem_cons.1 hy with rfl | hy
              · omega
              · have := ih y hy
                simp only [List.length_append] at this
                omega
          exact key _ _ (List.mem_map.2 ⟨x, hxm, rfl⟩)
        have hml : m.toNat < (ren x).body.length := by simp [ren]; omega
        refine ⟨wholeL l, by unfold refPrint; rw [if_pos he, hR.items], hw, hn0, hm0, uItem (ren x) ++ [46], uLit (ren x).head, (ren x).body.map uLit, putTs s (ordL (ren x)).length, ?_, sht_of hwy hI.out hml (by omega) hP, ?_, by have := hP.few; omega, ?_⟩
        · rw [hpc, List.map_map, List.getElem?_map, hx]; rfl
        · have hk : ∀ ts : List Tx, (∀ t ∈ ts, t.length ≤ 1000) → (uMore ts).length ≤ ts.length * 1001 := by
            intro ts
            induction ts with
            | nil => intro _; simp [uMore]
            | cons t ts ih =>
              intro h
              have h1 := ih fun u hu => h u (by simp [hu])
              have h2 := h t (by simp)
              have e : uMore (t :: ts) = 44 :: (t ++ uMore ts) := by simp [uMore]
              rw [e]
              simp only [List.length_cons, List.length_append]
              omega
          have h1 := hk _ hP.short
          have h2 := hP.few
          have h3 : ∀ ts : List Tx, (uList ts).length ≤ (uMore ts).length := fun ts => by
            cases ts with
            | nil => simp [uList, uMore]
            | cons t ts => simp [uList, uMore]
          have h4 := h3 (putTs s (ordL (ren x)).length)
          simp only
          omega
        · have := hP.put
          by_cases hz : uList (putTs s (ordL (ren x)).length) = []
          · rw [if_pos hz] at this
            exact .inl ⟨hz, this.symm⟩
          · rw [if_neg hz] at this
            exact .inr ⟨hz, this⟩
/- Shown, walked. -/

set_option maxHeartbeats 32000000 in
theorem shown_spec (t : Tx) (n m : Int) (σ : St) : ACalls Tryd.prog 3 [str t, sc (.int .i64 n), sc (.int .i64 m)] σ fun r σ' => r = sc (.bool true) ∧ Keep σ σ' := by
  have hS0 := fun σ => pSpare_spec tKn 0 0 σ
  have hS := fun σ => pSpare_spec t n m σ
  have hPr := fun σ => pprint_spec t σ
  have hc1 : ({ data := #[112, 40, 65, 41, 58, 45, 101, 40, 65, 44, 66, 41, 44, 101, 40, 65, 44, 67, 41, 46] } : ByteArray) = bs tKn := rfl
  have hc2 : ({ data := #[65, 44, 67, 44, 67] } : ByteArray) = bs [65, 44, 67, 44, 67] := rfl
  have hc3 : ({ data := #[40] } : ByteArray) = bs [40] := rfl
  have hc4 : ({ data := #[41] } : ByteArray) = bs [41] := rfl
  have hkn : (([65, 44, 67, 44, 67] : Tx) != [65, 44, 67, 44, 67]) = false := rfl
  refine acalls 68 [.tmp 6] Tryd.func3 rfl (by decide) rfl rfl (Nat.le_of_ble_eq_true rfl) ?_
  repeat' (first
 |with_reducible (first|apply awp_seq|apply awp_block|(refine awp_region_k ?_;intro κ hκ)|(refine hκ.out _ _ ?_;clear hκ κ)|apply awp_skip|apply awp_exit|apply awp_ret)
 |((first|with_reducible apply gd_split|((with_reducible refine cond_go ?_);refine awp_cond_split rfl ?_ ?_))<;>intro h<;>(try simp only [upd, ↓reduceIte,Nat.reduceEqDiff,B2] at h)<;>(try simp only [*,reduceCtorEq,decide_true,decide_false] at h)<;>(try (have hari:=h;simp only [B3] at hari))<;>(try (first|contradiction|(exfalso;omega)|(exfalso;simp at h;done)))<;>(try simp only [B5]))
 |((with_reducible refine acalls_go ?_);refine ACalls.mono (hS0 _) ?_;rintro _ _ ⟨p0,rfl,hp0,hK1⟩;(have e0:=known_spare hp0;subst e0;clear hp0;have kno1:=hK1.nobj))
 |(simp (maxSteps:=3000000) (disch:=(first|omega|(simp only [List.length_append,B1, *];omega))) only [↓mapA_nil, ↓mapA_cons,List.length_append,B0,B4,awant,undef,aq,al,cst,cst1,acells,flat,behind,abin,aconv,aint,thenQ,blkQ,retQ,Value.cells,Value.oneCell',Int.reduceToNat, ↓reduceIte,Nat.reduceLT,Nat.reduceEqDiff,reduceCtorEq,Nat.reduceAdd,Nat.reduceMul,Nat.reduceLeDiff,u_22,u_26,u_3,u_9,telem_26,tsz_9, *])
 |(refine hκ.out _ _ ?_;clear hκ κ))
  rename_i σ1
  refine ACalls.mono (hS _) ?_
  rintro _ σ2 ⟨⟨u, e⟩, rfl, hp, hK2⟩
  have hKa := hK1.trans hK2
  clear hS0 hS hK1 hK2 kno1
  rcases spare_shown hp with ⟨hp1, hp2⟩ | ⟨hp2, hA⟩
  · simp only at hp1 hp2
    subst hp1
    have heb : (e != 0) = true := by simpa using hp2
    have he0 : (([] : Tx) == []) = true := rfl
    clear hp hp2 hPr
    simp (maxSteps:=3000000) (disch:=(first|omega|(simp only [List.length_append,B1, *];omega))) only [↓mapA_nil, ↓mapA_cons,List.length_append,B0,B4,awant,undef,aq,al,cst,cst1,acells,flat,behind,abin,aconv,aint,thenQ,blkQ,retQ,Value.cells,Value.oneCell',Int.reduceToNat, ↓reduceIte,Nat.reduceLT,Nat.reduceEqDiff,reduceCtorEq,Nat.reduceAdd,Nat.reduceMul,Nat.reduceLeDiff,u_22,u_26,u_3,u_9,telem_26,tsz_9, *]
    repeat' (first
 |with_reducible (first|apply awp_seq|apply awp_block|(refine awp_region_k ?_;intro κ hκ)|(refine hκ.out _ _ ?_;clear hκ κ)|apply awp_skip|apply awp_exit|apply awp_ret)
 |((first|with_reducible apply gd_split|((with_reducible refine cond_go ?_);refine awp_cond_split rfl ?_ ?_))<;>intro h<;>(try simp only [upd, ↓reduceIte,Nat.reduceEqDiff,B2] at h)<;>(try simp only [*,reduceCtorEq,decide_true,decide_false] at h)<;>(try (have hari:=h;simp only [B3] at hari))<;>(try (first|contradiction|(exfalso;omega)|(exfalso;simp at h;done)))<;>(try simp only [B5]))
 |(simp (maxSteps:=3000000) (disch:=(first|omega|(simp only [List.length_append,B1, *];omega))) only [↓mapA_nil, ↓mapA_cons,List.length_append,B0,B4,awant,undef,aq,al,cst,cst1,acells,flat,behind,abin,aconv,aint,thenQ,blkQ,retQ,Value.cells,Value.oneCell',Int.reduceToNat, ↓reduceIte,Nat.reduceLT,Nat.reduceEqDiff,reduceCtorEq,Nat.reduceAdd,Nat.reduceMul,Nat.reduceLeDiff,u_22,u_26,u_3,u_9,telem_26,tsz_9, *])
 |(refine hκ.out _ _ ?_;clear hκ κ))
    first | exact ⟨_, rfl, rfl, hKa⟩ | exact ⟨_, rfl, rfl⟩ | exact ⟨_, rfl, hKa⟩
  · simp only at hp2 hA
    subst hp2
    clear hp
    obtain ⟨T, hT, hTl, hn0, hm0, rule, hd, ls, ts, hru, hSh, hul, htl, hcase⟩ := hA.pr
    obtain ⟨n, rfl⟩ := Int.eq_ofNat_of_zero_le hn0
    obtain ⟨m, rfl⟩ := Int.eq_ofNat_of_zero_le hm0
    simp only [Int.toNat_natCast] at hru hSh
    rw [hT] at hPr
    simp only at hPr
    have hPc := fun σ => kpieces_spec T (by omega) σ
    have hShw := fun id σ => kshows_spec rule m ts id hd ls hSh σ
    have hnl := (List.getElem?_eq_some_iff.1 hru).1
    have hdr := map_str_get hnl
    rw [(List.getElem?_eq_some_iff.1 hru).2] at hdr
    clear hA hSh hT hru hn0 hm0
    generalize pcsL T = P at hPc hnl hdr
    have hnb : decide ((P.length : Int) ≤ (n : Int)) = false := by simp; omega
    have hn0b : decide ((n : Int) < 0) = false := by simp
    rcases hcase with ⟨rfl, rfl⟩ | ⟨hu, htm⟩
    · have hub : (([] : Tx) != []) = false := rfl
      simp only [List.length_nil, List.map_nil] at hShw
      simp (maxSteps:=3000000) (disch:=(first|omega|(simp only [List.length_append,B1, *];omega))) only [↓mapA_nil, ↓mapA_cons,List.length_append,B0,B4,awant,undef,aq,al,cst,cst1,acells,flat,behind,abin,aconv,aint,thenQ,blkQ,retQ,Value.cells,Value.oneCell',Int.reduceToNat, ↓reduceIte,Nat.reduceLT,Nat.reduceEqDiff,reduceCtorEq,Nat.reduceAdd,Nat.reduceMul,Nat.reduceLeDiff,u_22,u_26,u_3,u_9,telem_26,tsz_9, *]
      repeat' (first
 |with_reducible (first|apply awp_seq|apply awp_block|(refine awp_region_k ?_;intro κ hκ)|(refine hκ.out _ _ ?_;clear hκ κ)|apply awp_skip|apply awp_exit|apply awp_ret)
 |((first|with_reducible apply gd_split|((with_reducible refine cond_go ?_);refine awp_cond_split rfl ?_ ?_))<;>intro h<;>(try simp only [upd, ↓reduceIte,Nat.reduceEqDiff,B2] at h)<;>(try simp only [*,reduceCtorEq,decide_true,decide_false] at h)<;>(try (have hari:=h;simp only [B3] at hari))<;>(try (first|contradiction|(exfalso;omega)|(exfalso;simp at h;done)))<;>(try simp only [B5]))
 |((with_reducible refine acalls_go ?_);refine ACalls.mono (hPr _) ?_;rintro _ _ ⟨rfl,hK3⟩;(have kno3:=hK3.nobj))
 |((with_reducible refine acalls_go ?_);refine ACalls.mono (hPc _) ?_;rintro _ _ ⟨⟨idp,rfl⟩,hK4⟩;(have kno4:=hK4.nobj))
 |((with_reducible refine acalls_go ?_);refine ACalls.mono (hShw _ _) ?_;rintro _ _ ⟨rfl,hK5⟩;(have hKz:=((hKa.trans hK3).trans hK4).trans hK5))
 |(simp (maxSteps:=3000000) (disch:=(first|omega|(simp only [List.length_append,B1, *];omega))) only [↓mapA_nil, ↓mapA_cons,List.length_append,B0,B4,awant,undef,aq,al,cst,cst1,acells,flat,behind,abin,aconv,aint,thenQ,blkQ,retQ,Value.cells,Value.oneCell',Int.reduceToNat, ↓reduceIte,Nat.reduceLT,Nat.reduceEqDiff,reduceCtorEq,Nat.reduceAdd,Nat.reduceMul,Nat.reduceLeDiff,u_22,u_26,u_3,u_9,telem_26,tsz_9, *])
 |(refine hκ.out _ _ ?_;clear hκ κ))
      first | exact ⟨_, rfl, rfl, hKz⟩ | exact ⟨_, rfl, rfl⟩ | exact ⟨_, rfl, hKz⟩
    · have hub : (u != []) = true := by simpa using hu
      have hue : (u == []) = false := by simpa using hu
      have hTm := fun σ => kterms_spec (40 :: (u ++ [41])) (by simp; omega) σ
      rw [htm] at hTm
      clear htm hu
      simp (maxSteps:=3000000) (disch:=(first|omega|(simp only [List.length_append,B1, *];omega))) only [↓mapA_nil, ↓mapA_cons,List.length_append,B0,B4,awant,undef,aq,al,cst,cst1,acells,flat,behind,abin,aconv,aint,thenQ,blkQ,retQ,Value.cells,Value.oneCell',Int.reduceToNat, ↓reduceIte,Nat.reduceLT,Nat.reduceEqDiff,reduceCtorEq,Nat.reduceAdd,Nat.reduceMul,Nat.reduceLeDiff,u_22,u_26,u_3,u_9,telem_26,tsz_9, *]
      repeat' (first
 |with_reducible (first|apply awp_seq|apply awp_block|(refine awp_region_k ?_;intro κ hκ)|(refine hκ.out _ _ ?_;clear hκ κ)|apply awp_skip|apply awp_exit|apply awp_ret)
 |((first|with_reducible apply gd_split|((with_reducible refine cond_go ?_);refine awp_cond_split rfl ?_ ?_))<;>intro h<;>(try simp only [upd, ↓reduceIte,Nat.reduceEqDiff,B2] at h)<;>(try simp only [*,reduceCtorEq,decide_true,decide_false] at h)<;>(try (have hari:=h;simp only [B3] at hari))<;>(try (first|contradiction|(exfalso;omega)|(exfalso;simp at h;done)))<;>(try simp only [B5]))
 |((with_reducible refine acalls_go ?_);refine ACalls.mono (hPr _) ?_;rintro _ _ ⟨rfl,hK3⟩;(have kno3:=hK3.nobj))
 |((with_reducible refine acalls_go ?_);refine ACalls.mono (hPc _) ?_;rintro _ _ ⟨⟨idp,rfl⟩,hK4⟩;(have kno4:=hK4.nobj))
 |((with_reducible refine acalls_go ?_);refine ACalls.mono (hTm _) ?_;rintro _ _ ⟨⟨idt,rfl⟩,hK6⟩;(have kno6:=hK6.nobj))
 |((with_reducible refine acalls_go ?_);refine ACalls.mono (hShw _ _) ?_;rintro _ _ ⟨rfl,hK5⟩;(have hKz:=(((hKa.trans hK3).trans hK4).trans hK6).trans hK5))
 |(simp (maxSteps:=3000000) (disch:=(first|omega|(simp only [List.length_append,B1, *];omega))) only [↓mapA_nil, ↓mapA_cons,List.length_append,B0,B4,awant,undef,aq,al,cst,cst1,acells,flat,behind,abin,aconv,aint,thenQ,blkQ,retQ,Value.cells,Value.oneCell',Int.reduceToNat, ↓reduceIte,Nat.reduceLT,Nat.reduceEqDiff,reduceCtorEq,Nat.reduceAdd,Nat.reduceMul,Nat.reduceLeDiff,u_22,u_26,u_3,u_9,telem_26,tsz_9, *])
 |(refine hκ.out _ _ ?_;clear hκ κ))
      first | exact ⟨_, rfl, rfl, hKz⟩ | exact ⟨_, rfl, rfl⟩ | exact ⟨_, rfl, hKz⟩
end Go.Proofs.YtmoeoppbmhfbpaaDoorX
