import Derived.Shelf.Strconv.Itoa3
import Derived.Test.YtmoeoppbmhfbpaaDoorProg
import Derived.Test.YtmoeoppbmhfbpaaDoorXAbsWp
import Derived.Test.YtmoeoppbmhfbpaaDoorXProgR
/- The contract of the library's Itoa, laid at this program (by the shelf's own tool). -/
namespace Go.Proofs
open Go.Shelf
def Tryd.laysM171_ren : Go.Shelf.Ren := ⟨fun | 171 => 40 | 243 => 47 | 246 => 55 | 283 => 60 | 284 => 61 | 285 => 62 | 286 => 63 | 129 => 66 | 317 => 65 | 318 => 67 | 319 => 68 | 320 => 69 | 337 => 73 | 338 => 74 | n => n, fun | 3 => 3 | 9 => 9 | 2 => 2 | 4 => 4 | 171 => 100 | 0 => 0 | 53 => 101 | 37 => 83 | 5 => 5 | 173 => 104 | 212 => 109 | 51 => 110 | 20 => 20 | 213 => 111 | 46 => 112 | 232 => 115 | 233 => 116 | n => n, fun | 17 => 0 | 18 => 1 | 19 => 2 | n => n⟩
theorem Tryd.laysM171 : Go.Proofs.LaysM.n171 Tryd.prog Tryd.laysM171_ren := {
  mixed := by kernel_rfl
  f129 := Tryd.func66.trans (congrArg some (by kernel_rfl))
  f171 := Tryd.func40.trans (congrArg some (by kernel_rfl))
  f243 := Tryd.func47.trans (congrArg some (by kernel_rfl))
  f246 := Tryd.func55.trans (congrArg some (by kernel_rfl))
  f283 := Tryd.func60.trans (congrArg some (by kernel_rfl))
  f284 := Tryd.func61.trans (congrArg some (by kernel_rfl))
  f285 := Tryd.func62.trans (congrArg some (by kernel_rfl))
  f286 := Tryd.func63.trans (congrArg some (by kernel_rfl))
  f317 := Tryd.func65.trans (congrArg some (by kernel_rfl))
  f318 := Tryd.func67.trans (congrArg some (by kernel_rfl))
  f319 := Tryd.func68.trans (congrArg some (by kernel_rfl))
  f320 := Tryd.func69.trans (congrArg some (by kernel_rfl))
  f337 := Tryd.func73.trans (congrArg some (by kernel_rfl))
  f338 := Tryd.func74.trans (congrArg some (by kernel_rfl))
  t0 := Tryd.underlying0
  a0 := Tryd.isAgg0
  z0 := Tryd.sizeOf0
  v0 := Tryd.zeroValue0
  t2 := Tryd.underlying2
  a2 := Tryd.isAgg2
  z2 := Tryd.sizeOf2
  v2 := Tryd.zeroValue2
  t3 := Tryd.underlying3
  a3 := Tryd.isAgg3
  z3 := Tryd.sizeOf3
  v3 := Tryd.zeroValue3
  t4 := Tryd.underlying4
  a4 := Tryd.isAgg4
  z4 := Tryd.sizeOf4
  v4 := Tryd.zeroValue4
  t5 := Tryd.underlying5
  a5 := Tryd.isAgg5
  z5 := Tryd.sizeOf5
  v5 := Tryd.zeroValue5
  t9 := Tryd.underlying9
  a9 := Tryd.isAgg9
  z9 := Tryd.sizeOf9
  v9 := Tryd.zeroValue9
  t20 := Tryd.underlying20
  a20 := Tryd.isAgg20
  z20 := Tryd.sizeOf20
  v20 := Tryd.zeroValue20
  t37 := Tryd.underlying83
  a37 := Tryd.isAgg83
  z37 := Tryd.sizeOf83
  v37 := Tryd.zeroValue83
  t46 := Tryd.underlying112
  a46 := Tryd.isAgg112
  z46 := Tryd.sizeOf112
  v46 := Tryd.zeroValue112
  t51 := Tryd.underlying110
  a51 := Tryd.isAgg110
  z51 := Tryd.sizeOf110
  v51 := Tryd.zeroValue110
  t53 := Tryd.underlying101
  a53 := Tryd.isAgg101
  z53 := Tryd.sizeOf101
  v53 := Tryd.zeroValue101
  t171 := Tryd.underlying100
  a171 := Tryd.isAgg100
  z171 := Tryd.sizeOf100
  v171 := Tryd.zeroValue100
  t173 := Tryd.underlying104
  a173 := Tryd.isAgg104
  z173 := Tryd.sizeOf104
  v173 := Tryd.zeroValue104
  t212 := Tryd.underlying109
  a212 := Tryd.isAgg109
  z212 := Tryd.sizeOf109
  v212 := Tryd.zeroValue109
  t213 := Tryd.underlying111
  a213 := Tryd.isAgg111
  z213 := Tryd.sizeOf111
  t232 := Tryd.underlying115
  a232 := Tryd.isAgg115
  z232 := Tryd.sizeOf115
  v232 := Tryd.zeroValue115
  t233 := Tryd.underlying116
  a233 := Tryd.isAgg116
  z233 := Tryd.sizeOf116
  v233 := Tryd.zeroValue116
  g17 := by kernel_rfl
  g18 := by kernel_rfl
  g19 := by kernel_rfl
  i0 := by kernel_rfl
  i2 := by kernel_rfl
  i3 := by kernel_rfl
  i4 := by kernel_rfl
  i5 := by kernel_rfl
  i9 := by kernel_rfl
  i20 := by kernel_rfl
  i37 := by kernel_rfl
  i46 := by kernel_rfl
  i51 := by kernel_rfl
  i53 := by kernel_rfl
  i171 := by kernel_rfl
  i173 := by kernel_rfl
  i212 := by kernel_rfl
  i232 := by kernel_rfl
  i233 := by kernel_rfl
  m17 := by kernel_rfl
  m18 := by kernel_rfl
  m19 := by kernel_rfl }
end Go.Proofs
/- The library's Itoa, as the abstract machine takes it. -/
namespace Go.Proofs.YtmoeoppbmhfbpaaDoorX
open Go.Abs Go.Sort
open Go.RowKit (Below)
set_option linter.unusedVariables false

theorem grow_old (w : World) (k : Nat) (os : Array Obj) {b : Nat} (h : b < w.heap.size) : (grow (w.drewN k) os).heap[b]? = w.heap[b]? := by
  show (w.heap ++ os)[b]? = w.heap[b]?
  exact Array.getElem?_append_left h
theorem grow_cell (w : World) (k : Nat) (os : Array Obj) {b o : Nat} (h : b < w.heap.size) : (grow (w.drewN k) os).cell? ⟨b, o, none⟩ = w.cell? ⟨b, o, none⟩ := by
  unfold World.cell?
  rw [grow_old w k os h]
theorem inv_grown {G : Gh} {σ : St} {w : World} (I : Abs.Inv G σ w) (k : Nat) (os : Array Obj) : Abs.Inv G σ (grow (w.drewN k) os) ∧ Ext G σ w G σ (grow (w.drewN k) os) := by
  have E : Ext G σ w G σ (grow (w.drewN k) os) := ⟨rfl, rfl, Nat.le_refl _, fun _ _ => rfl, Nat.le_refl _, fun _ _ => ⟨Nat.le_refl _, rfl, fun _ => ⟨rfl, rfl⟩⟩, fun b off p => ⟨p, grow_cell w k os (I.perlt _ _ p)⟩, fun o h => ⟨Nat.le_refl _, fun _ => grow_old w k os (I.blk_lt h)⟩⟩
  have hsz : w.heap.size ≤ (grow (w.drewN k) os).heap.size := by
    show w.heap.size ≤ (w.heap ++ os).size
    rw [Array.size_append]; omega
  refine ⟨⟨fun p hp => ?_, I.inj, fun k hk => ?_, I.linj, I.apart, fun b off p => Nat.lt_of_lt_of_le (I.perlt _ _ p) hsz, I.perlo, ?_, Nat.le_trans I.le hsz, I.hyp⟩, E⟩
  · obtain ⟨h1, ⟨arr, e, hb, ha⟩, h3⟩ := I.obj p hp
    exact ⟨h1, ⟨arr, e, by rw [grow_old _ _ _ (I.blk_lt hp)]; exact hb, VR.all E ha⟩, h3⟩
  · obtain ⟨h1, ⟨arr, e, hb, ha⟩, h3⟩ := I.lin k hk
    exact ⟨h1, ⟨arr, e, by rw [grow_old _ _ _ (I.cur_lt hk)]; exact hb, ha⟩, h3⟩
  · have hb := I.below
    have hl := I.le
    exact ⟨hb.os, hb.tape, hb.output, Nat.le_trans hb.size hsz, fun j hj => by rw [grow_old _ _ _ (by omega)]; exact hb.block j hj⟩
theorem itoa_spec (n : Int) (h0 : 0 ≤ n) (h1 : n ≤ 9999) (σ : St) : ACalls Tryd.prog 40 [sc (.int .i64 n)] σ fun x σ' => x = str (Lib.itoa n) ∧ σ' = σ := by
  refine ⟨by kernel_rfl, fun G w cargs I A => ?_⟩
  obtain ⟨v, rfl⟩ : ∃ v, cargs = #[v] := by
    have hl := A.1
    match cargs, hl with
    | ⟨[v]⟩, _ => exact ⟨v, rfl⟩
  have hv : v = .int .i64 n := (A.2 0 v _ rfl rfl).unfold
  subst hv
  refine (Any.strconv_Itoa Tryd.laysM171 n (by omega) (by omega) w (I.hyp w I.below)).mono ?_
  rintro e w' ⟨rfl, k, os, rfl⟩
  obtain ⟨I', E⟩ := inv_grown I k os
  exact ⟨_, G, _, σ, rfl, I', E, VR.sc _, rfl, rfl⟩
/- Numbers: a text and its value. -/
open Go.Abs
set_option linter.unusedSimpArgs false

def DT (w : Tx) : Prop := variableB w = true ∨ (variableB w = false ∧ Lib.itoa (encT w).2 = w ∧ 0 ≤ (encT w).2 ∧ (encT w).2 ≤ 999)
theorem u8_of {b : UInt8} {m : Nat} (h : b.toNat = m) : UInt8.ofNat m = b := by rw [← h]; exact UInt8.ofNat_toNat
theorem dec_snoc {v d : Nat} (hv : 1 ≤ v) (hd : d ≤ 9) : Lib.decDigits (v * 10 + d) = Lib.decDigits v ++ [UInt8.ofNat (48 + d)] := by
  rw [Lib.decDigits, dif_neg (by omega), show (v * 10 + d) / 10 = v by omega, show (v * 10 + d) % 10 = d by omega]
theorem dt_num {w : Tx} {m : Nat} (hv : variableB w = false) (hw : w ≠ []) (hn : numV w = (m : Int)) (hm : m ≤ 999) (hd : Lib.decDigits m = w) : DT w := by
  cases w with
  | nil => exact absurd rfl hw
  | cons b r =>
    refine .inr ⟨hv, ?_⟩
    rw [encT_num hv]
    dsimp only
    rw [hn]
    exact ⟨by rw [Lib.itoa_nonneg, hd], by omega, by omega⟩
theorem pTerm_dt (s w r : Tx) (h : pTerm s = .got w r) : DT w := by
  cases s with
  | nil => cases h
  | cons b q =>
    unfold pTerm at h; dsimp only at h
    split at h
    · rename_i hl; cases h; exact .inl hl
    rename_i hl
    have hl : largeB b.toNat = false := by simpa using hl
    split at h
    · rename_i h0
      cases h
      have h48 : b.toNat = 48 := by have : (b.toNat : Int) = 48 := by simpa using h0
                                    omega
      exact dt_num (m := 0) hl (by simp) (by simp [numV, h48]) (by omega) (by rw [Lib.decDigits_one (by omega), u8_of h48])
    split at h
    · rename_i h9
      cases h
      have hb : 49 ≤ b.toNat ∧ b.toNat ≤ 57 := by simp [nineB] at h9; omega
      have hds := (pWhile_took digitB 2 q).2
      have hln : (pWhile digitB 2 q).1.length ≤ 2 := by
        cases q with
        | nil => simp [pWhile]
        | cons c q =>
          unfold pWhile
          split
          · cases q with
            | nil => simp [pWhile]
            | cons d q => unfold pWhile; split <;> simp [pWhile]
          · simp
      have hdig : ∀ c : UInt8, digitB c.toNat = true → 48 ≤ c.toNat ∧ c.toNat ≤ 57 := fun c hc => by simp [digitB] at hc; omega
      have d1 : Lib.decDigits (b.toNat - 48) = [b] := by rw [Lib.decDigits_one (by omega), u8_of (show b.toNat = 48 + (b.toNat - 48) by omega)]
      generalize (pWhile digitB 2 q).1 = ds at hds hln
      match ds, hds, hln with
      | [], _, _ => exact dt_num (m := b.toNat - 48) hl (by simp) (by simp [numV]; omega) (by omega) d1
      | [c], hds, _ =>
        have hc := hdig c (hds c (by simp))
        have d2 : Lib.decDigits ((b.toNat - 48) * 10 + (c.toNat - 48)) = [b, c] := by rw [dec_snoc (by omega) (by omega), d1, u8_of (show c.toNat = 48 + (c.toNat - 48) by omega)]; rfl
        exact dt_num (m := (b.toNat - 48) * 10 + (c.toNat - 48)) hl (by simp) (by simp [numV]; omega) (by omega) d2
      | [c, d], hds, _ =>
        have hc := hdig c (hds c (by simp))
        have hd := hdig d (hds d (by simp))
        have d2 : Lib.decDigits ((b.toNat - 48) * 10 + (c.toNat - 48)) = [b, c] := by rw [dec_snoc (by omega) (by omega), d1, u8_of (show c.toNat = 48 + (c.toNat - 48) by omega)]; rfl
        have d3 : Lib.decDigits (((b.toNat - 48) * 10 + (c.toNat - 48)) * 10 + (d.toNat - 48)) = [b, c, d] := by rw [dec_snoc (by omega) (by omega), d2, u8_of (show d.toNat = 48 + (d.toNat - 48) by omega)]; rfl
        exact dt_num (m := ((b.toNat - 48) * 10 + (c.toNat - 48)) * 10 + (d.toNat - 48)) hl (by simp) (by simp [numV]; omega) (by omega) d3
    · cases h
end Go.Proofs.YtmoeoppbmhfbpaaDoorX
