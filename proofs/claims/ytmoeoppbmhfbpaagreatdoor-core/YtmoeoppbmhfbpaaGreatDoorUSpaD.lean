import Derived.Test.YtmoeoppbmhfbpaaGreatDoorUSpaB
import Derived.Test.YtmoeoppbmhfbpaaGreatDoorUPrtF
/- The program: whether a literal is spare; what is put, as a text. -/
namespace Go.Proofs.YtmoeoppbmhfbpaaGreatDoorU
open Go.Abs
set_option linter.unusedSimpArgs false
set_option linter.unusedVariables false
set_option maxRecDepth 100000
def decE (e : Bool × Int) : Tx := if e.1 = true then [UInt8.ofNat (IntKind.u8.wrap (65 + e.2)).toNat] else Lib.itoa e.2
def okE (e : Bool × Int) : Prop := 0 ≤ e.2 ∧ (e.1 = true → e.2 < 26) ∧ e.2 ≤ 999 ∧ (decE e).length ≤ 1000
set_option maxHeartbeats 4000000 in
theorem ttextE_spec (e : Bool × Int) (h : okE e) (σ : St) : ACalls Tryz.prog 110 [ag [sc (.bool e.1), sc (.int .i64 e.2)]] σ fun r σ' => r = str (decE e) ∧ Keep σ σ' := by
 have hone : ∀ z : UInt8, ({ data := #[z] } : ByteArray) = bs [z] := fun _ => rfl
 obtain ⟨b, v⟩ := e
 obtain ⟨h0, h1, h2, -⟩ := h
 dsimp only at h0 h1 h2 ⊢
 cases b with
 | true =>
  have h1 := h1 rfl
  have hL : Abs.Hid (decE (true, v) = [UInt8.ofNat (IntKind.u8.wrap (65 + v)).toNat]) := rfl
  refine acalls 14 [.tmp 2] Tryz.func110 rfl (by decide) rfl rfl (Nat.le_of_ble_eq_true rfl) ?_
  repeat' (first
 |with_reducible first|apply Xa|apply Xb|(refine Xc ?_;intro κ hκ)|(apply hκ.out;clear hκ κ)|apply Xd|apply Xe|apply Xf
 |((with_reducible first|refine Xl ?_ ?_|refine Xk ?_ ?_)<;> intro h hari<;> try exact Xp)
 |refine Xw ?_
 |exact True.intro
 |(apply hκ.out;clear hκ κ))
  exact ⟨_, rfl, by rw [hL.out], by exact Xs⟩
 | false =>
  have hI := fun σ => itoa_spec v h0 (by omega) σ
  have hL : Abs.Hid (decE (false, v) = Lib.itoa v) := rfl
  generalize Lib.itoa v = w at hI hL
  refine acalls 14 [.tmp 2] Tryz.func110 rfl (by decide) rfl rfl (Nat.le_of_ble_eq_true rfl) ?_
  repeat' (first
 |with_reducible first|apply Xa|apply Xb|(refine Xc ?_;intro κ hκ)|(apply hκ.out;clear hκ κ)|apply Xd|apply Xe|apply Xf
 |((with_reducible first|refine Xl ?_ ?_|refine Xk ?_ ?_)<;> intro h hari<;> try exact Xp)
 |((with_reducible refine Xh ?_);refine Xi (hI _) ?_;rintro _ _ ⟨rfl,rfl⟩)
 |refine Xw ?_
 |exact True.intro
 |(apply hκ.out;clear hκ κ))
  exact ⟨_, rfl, by rw [hL.out], by exact Xs⟩
theorem uList_snoc (ts : List Tx) (t : Tx) : uList (ts ++ [t]) = uList ts ++ ((if ts = [] then [] else [44]) ++ t) := by
 cases ts with
 | nil => simp [uList, uMore]
 | cons u ts => simp [uList, uMore]
def putTs (s : Sw) (n : Nat) : List Tx := (List.range n).map fun i => decE (s.2 i)
theorem putTs_succ (s : Sw) (n : Nat) : putTs s (n + 1) = putTs s n ++ [decE (s.2 n)] := by simp [putTs, List.range_succ]
theorem putTs_nil (s : Sw) (n : Nat) : putTs s n = [] ↔ n = 0 := by simp [putTs]
set_option maxHeartbeats 16000000 in
theorem stext_spec (s : Sw) (n : Nat) (hn : n ≤ 26) (hok : ∀ i, i < n → okE (s.2 i)) (σ : St) : ACalls Tryz.prog 65 [ag (swC s), sc (.int .i64 n)] σ fun r σ' => r = str (uList (putTs s n)) ∧ Keep σ σ' := by
 have hsl := swC_len s
 have hdl : (List.drop 26 (swC s)).length = 52 := by rw [List.length_drop, swC_len]
 have htk : List.take 52 (List.drop 26 (swC s)) = List.drop 26 (swC s) := List.take_of_length_le (by rw [hdl]; exact Nat.le_refl _)
 have h44 : ({ data := #[44] } : ByteArray) = bs [44] := rfl
 refine acalls 28 [.tmp 4] Tryz.func65 rfl (by decide) rfl rfl (Nat.le_of_ble_eq_true rfl) ?_
 repeat' (first
 |with_reducible first|apply Xa|apply Xb|(refine Xc ?_;intro κ hκ)|(apply hκ.out;clear hκ κ)|apply Xd|apply Xe|apply Xf
 |((with_reducible first|refine Xl ?_ ?_|refine Xk ?_ ?_)<;> intro h hari<;> try exact Xp)
 |refine Xw ?_
 |exact True.intro
 |(apply hκ.out;clear hκ κ))
 refine awp_loop (fun m s0 σ' => ∃ (i : Nat) (acc : Tx), m = 26 - i ∧ i ≤ 26 ∧ i ≤ n ∧ s0 1 = sc (.int .i64 n) ∧ s0 5 = str acc ∧ s0 9 = ag (List.drop 26 (swC s)) ∧ s0 10 = sc (.int .i64 i) ∧ Keep σ σ' ∧ acc.length ≤ i * 1001 ∧ Abs.Hid (acc = uList (putTs s i))) 26
  ⟨0, [], by omega, by omega, by omega, by simp [upd, initS], by simp [upd], by simp [upd], rfl, by exact Xs, by simp, by simp [Abs.Hid, putTs, uList]⟩ ?_
 rintro m s0 σ' ⟨i, acc, rfl, hi, hin, h1, h5, h9, h10, hK, hal, hA⟩
 have kno := hK.nobj
 by_cases hlt : i < 26
 ·obtain ⟨r, hd⟩ := swC_get2 s hlt
  rw [← List.drop_drop] at hd
  by_cases hie : i < n
  ·have hoe := hok i hie
   have hT := fun σ => ttextE_spec (s.2 i) hoe σ
   have hll := hoe.2.2.2
   have hst : Abs.Hid (uList (putTs s (i + 1)) = acc ++ ((if i = 0 then [] else [44]) ++ decE (s.2 i))) := by
    rw [Abs.Hid, putTs_succ, uList_snoc, hA.out]
    by_cases h0 : i = 0
    ·rw [if_pos ((putTs_nil s i).2 h0), if_pos h0]
    ·rw [if_neg (fun h => h0 ((putTs_nil s i).1 h)), if_neg h0]
   generalize decE (s.2 i) = tw at hT hll hst
   generalize s.2 i = e at hd hT
   obtain ⟨eb, ev⟩ := e
   dsimp only at hd hT
   clear hoe
   by_cases hi0 : i = 0
   ·have hib : decide ((0 : Int) < (i : Int)) = false := by simp [hi0]
    have hst : Abs.Hid (uList (putTs s (i + 1)) = acc ++ tw) := by rw [Abs.Hid, hst.out, if_pos hi0]; simp
    clear hi0
    repeat' (first
 |with_reducible first|apply Xa|apply Xb|(refine Xc ?_;intro κ hκ)|(apply hκ.out;clear hκ κ)|apply Xd|apply Xe|apply Xf
 |((with_reducible first|refine Xl ?_ ?_|refine Xk ?_ ?_)<;> intro h hari<;> try exact Xp)
 |((with_reducible refine Xh ?_);refine Xi (hT _) ?_;rintro _ _ ⟨rfl,hK2⟩;(have kob2:=hK2.obj;have kno2:=hK2.nobj))
 |refine Xw ?_
 |exact True.intro
 |(apply hκ.out;clear hκ κ))
    exact ⟨26 - (i + 1), by omega, i + 1, acc ++ tw, rfl, by omega, by omega, rfl, by simp, ((hK.new _).put hK.nobj _).trans hK2, by simp only [List.length_append]; omega, by rw [Abs.Hid, hst.out]⟩
   ·have hib : decide ((0 : Int) < (i : Int)) = true := by simp; omega
    have hst : Abs.Hid (uList (putTs s (i + 1)) = acc ++ ([44] ++ tw)) := by rw [Abs.Hid, hst.out, if_neg hi0]
    clear hi0
    repeat' (first
 |with_reducible first|apply Xa|apply Xb|(refine Xc ?_;intro κ hκ)|(apply hκ.out;clear hκ κ)|apply Xd|apply Xe|apply Xf
 |((with_reducible first|refine Xl ?_ ?_|refine Xk ?_ ?_)<;> intro h hari<;> try exact Xp)
 |((with_reducible refine Xh ?_);refine Xi (hT _) ?_;rintro _ _ ⟨rfl,hK2⟩;(have kob2:=hK2.obj;have kno2:=hK2.nobj))
 |refine Xw ?_
 |exact True.intro
 |(apply hκ.out;clear hκ κ))
    exact ⟨26 - (i + 1), by omega, i + 1, acc ++ ([44] ++ tw), rfl, by omega, by omega, by rw [List.append_assoc], by simp, ((hK.new _).put hK.nobj _).trans hK2, by simp only [List.length_append, List.length_singleton]; omega, by rw [Abs.Hid, hst.out]⟩
  ·have hin' : i = n := by omega
   subst hin'
   repeat' (first
 |with_reducible first|apply Xa|apply Xb|(refine Xc ?_;intro κ hκ)|(apply hκ.out;clear hκ κ)|apply Xd|apply Xe|apply Xf
 |((with_reducible first|refine Xl ?_ ?_|refine Xk ?_ ?_)<;> intro h hari<;> try exact Xp)
 |refine Xw ?_
 |exact True.intro
 |(apply hκ.out;clear hκ κ))
   exact ⟨_, rfl, by rw [hA.out], (hK.new _).put hK.nobj _⟩
 ·have hil : i = 26 := by omega
  have hn26 : n = 26 := by omega
  subst hil
  subst hn26
  repeat' (first
 |with_reducible first|apply Xa|apply Xb|(refine Xc ?_;intro κ hκ)|(apply hκ.out;clear hκ κ)|apply Xd|apply Xe|apply Xf
 |((with_reducible first|refine Xl ?_ ?_|refine Xk ?_ ?_)<;> intro h hari<;> try exact Xp)
 |refine Xw ?_
 |exact True.intro
 |(apply hκ.out;clear hκ κ))
  first
  | exact ⟨_, rfl, by rw [hA.out], hK⟩
  | exact ⟨_, rfl, by rw [hA.out]⟩
def spareE (N : List Tx) (y : RItem) (k : Nat) (s0 : Sw) : Option Sw := if psafeB (woL y k) = true then ontoL ((y.body.eraseIdx k).map (ltA encT N)) (y.body.map (ltA encT N)) s0 else none
theorem woL_fits {y : RItem} {k : Nat} (h : y.fits) : (woL y k).fits :=
 ⟨Nat.le_trans (List.length_eraseIdx_le _ _) h.1, h.2.1, fun a ha => h.2.2 a (List.mem_of_mem_eraseIdx ha)⟩
set_option maxHeartbeats 16000000 in
theorem pspare_spec (N : List Tx) (y : RItem) (c : List AV) (k : Nat) (s0 : Sw) (hc : PI N y c) (hf : y.fits) (hs0 : withL sw0 (y.head.terms.map encT) (y.head.terms.map encT) = some s0) (hv : ∀ t ∈ y.head.terms, varOk t) (hok : ∀ a ∈ y.body, OkA (y.body.eraseIdx k) a) (σ : St) :
  ACalls Tryz.prog 64 [ag c, sc (.int .i64 k)] σ fun r σ' => r = wRes (spareE N y k s0) ∧ Keep σ σ' := by
 have hsl := swC_len
 have hsz := swC_zero
 have htk : ∀ s, List.take 78 (swC s) = swC s := fun s => List.take_of_length_le (by rw [swC_len]; exact Nat.le_refl _)
 have hls : ∀ s s', lsp (swC s) 0 (swC s') = swC s' := fun s s' => lsp_whole (by rw [swC_len, swC_len])
 have hfl : ∀ s, (swC s).all flat = true := fun s => by
  rw [List.all_eq_true]
  intro x hx
  obtain ⟨n, -, rfl⟩ := List.mem_map.1 hx
  unfold swF
  split
  ·rfl
  ·split <;> rfl
 have hWo := fun σ => pwithout_spec N y c k hc hf.1 σ
 have hSa := fun c' hc' σ => psafe_spec N (woL y k) c' hc' (fun h => by cases h) (woL_fits hf) σ
 have hf1 := hf.1
 obtain ⟨hm, ih, id, b, hb, rfl⟩ := hc
 have hWi := fun i1 i2 σ => with_spec sw0 (N.idxOf y.head.pred : Nat) (N.idxOf y.head.pred : Nat) y.head.terms y.head.terms i1 i2 (fun _ => rfl) hf.2.1 hv σ
 rw [if_pos rfl, hs0] at hWi
 simp only [wRes] at hWi
 have hOn := fun cl idl hL ids σ => onto_spec N (y.body.eraseIdx k) cl idl hL (Nat.le_trans (List.length_eraseIdx_le _ _) hf1) y.body b ids s0 σ hb hf1 hok
 obtain ⟨sr, okr, hwr, -, -⟩ := wRes_form (ontoL ((y.body.eraseIdx k).map (ltA encT N)) (y.body.map (ltA encT N)) s0)
 rw [hwr] at hOn
 cases hsa : psafeB (woL y k) with
 | false =>
  have HR : Abs.Hid (wRes (spareE N y k s0) = tp [ag (swC sw0), sc (.bool false)]) := by rw [Abs.Hid, spareE, if_neg (by rw [hsa]; simp)]; rfl
  rw [hsa] at hSa
  clear hOn hWi hwr
  refine acalls 33 [.cell 4 104, .tmp 5] Tryz.func64 rfl (by decide) rfl rfl (Nat.le_of_ble_eq_true rfl) ?_
  repeat' (first
 |with_reducible first|apply Xa|apply Xb|(refine Xc ?_;intro κ hκ)|(apply hκ.out;clear hκ κ)|apply Xd|apply Xe|apply Xf
 |((with_reducible first|refine Xl ?_ ?_|refine Xk ?_ ?_)<;> intro h hari<;> try exact Xp)
 |((with_reducible refine Xh ?_);first|(refine Xi (hWo _) ?_;rintro _ _ ⟨c2,rfl,hP2,hK1⟩;(have kob1:=hK1.obj;have kno1:=hK1.nobj;simp only [new_nobj] at kno1;have hS2:=hSa c2 hP2;obtain ⟨hm2,ih2,id2,b2,hb2,rfl⟩:=hP2))|(refine Xi (hS2 _) ?_;rintro _ _ ⟨rfl,hK2⟩;(have kob2:=hK2.obj;have kno2:=hK2.nobj;simp only [new_nobj,put_nobj] at kno2)))
 |refine Xw ?_
 |exact True.intro
 |(apply hκ.out;clear hκ κ))
  exact ⟨_, rfl, by rw [HR.out], by exact Xs⟩
 | true =>
  have HR : Abs.Hid (wRes (spareE N y k s0) = tp [ag (swC sr), sc (.bool okr)]) := by rw [Abs.Hid, spareE, if_pos hsa]; exact hwr
  rw [hsa] at hSa
  clear hwr
  refine acalls 33 [.cell 4 104, .tmp 5] Tryz.func64 rfl (by decide) rfl rfl (Nat.le_of_ble_eq_true rfl) ?_
  repeat' (first
 |with_reducible first|apply Xa|apply Xb|(refine Xc ?_;intro κ hκ)|(apply hκ.out;clear hκ κ)|apply Xd|apply Xe|apply Xf
 |((with_reducible first|refine Xl ?_ ?_|refine Xk ?_ ?_)<;> intro h hari<;> try exact Xp)
 |((with_reducible refine Xh ?_);first|(refine Xi (hWo _) ?_;rintro _ _ ⟨c2,rfl,hP2,hK1⟩;(have kob1:=hK1.obj;have kno1:=hK1.nobj;simp only [new_nobj] at kno1;have hS2:=hSa c2 hP2;obtain ⟨hm2,ih2,id2,b2,hb2,rfl⟩:=hP2))|(refine Xi (hS2 _) ?_;rintro _ _ ⟨rfl,hK2⟩;(have kob2:=hK2.obj;have kno2:=hK2.nobj;simp only [new_nobj,put_nobj] at kno2))|(refine Xi (hWi _ _ _) ?_;rintro _ _ ⟨rfl,hK3⟩;(have kob3:=hK3.obj;have kno3:=hK3.nobj))|(refine Xi (hOn _ _ hb2 _ _) ?_;rintro _ _ ⟨rfl,hK4⟩;(have kob4:=hK4.obj;have kno4:=hK4.nobj;simp only [new_nobj,put_nobj] at kno4)))
 |refine Xw ?_
 |exact True.intro
 |(apply hκ.out;clear hκ κ))
  exact ⟨_, rfl, by rw [HR.out], by exact Xs⟩
end Go.Proofs.YtmoeoppbmhfbpaaGreatDoorU
