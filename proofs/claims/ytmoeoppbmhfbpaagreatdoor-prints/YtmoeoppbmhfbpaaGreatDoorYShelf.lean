import Derived.Shelf.Strconv.Itoa3
import Derived.Test.YtmoeoppbmhfbpaaGreatDoorProg
import Derived.Test.YtmoeoppbmhfbpaaGreatDoorYAbsWp
import Derived.Test.YtmoeoppbmhfbpaaGreatDoorYProgR
/- The contract of the library's Itoa, laid at this program (by the shelf's own tool). -/
namespace Go.Proofs
open Go.Shelf
def Tryz.laysM171_ren : Go.Shelf.Ren := ⟨fun | 171 => 69 | 243 => 119 | 246 => 162 | 283 => 200 | 284 => 201 | 285 => 202 | 286 => 203 | 129 => 238 | 317 => 237 | 318 => 239 | 319 => 240 | 320 => 241 | 337 => 265 | 338 => 266 | n => n, fun | 3 => 3 | 9 => 9 | 2 => 2 | 4 => 4 | 171 => 246 | 0 => 0 | 53 => 247 | 37 => 204 | 5 => 5 | 173 => 250 | 212 => 283 | 51 => 284 | 20 => 20 | 213 => 285 | 46 => 286 | 232 => 303 | 233 => 304 | n => n, fun | 17 => 0 | 18 => 1 | 19 => 2 | n => n⟩
theorem Tryz.laysM171 : Go.Proofs.LaysM.n171 Tryz.prog Tryz.laysM171_ren := {
  mixed := by kernel_rfl
  f129 := Tryz.func238.trans (congrArg some (by kernel_rfl))
  f171 := Tryz.func69.trans (congrArg some (by kernel_rfl))
  f243 := Tryz.func119.trans (congrArg some (by kernel_rfl))
  f246 := Tryz.func162.trans (congrArg some (by kernel_rfl))
  f283 := Tryz.func200.trans (congrArg some (by kernel_rfl))
  f284 := Tryz.func201.trans (congrArg some (by kernel_rfl))
  f285 := Tryz.func202.trans (congrArg some (by kernel_rfl))
  f286 := Tryz.func203.trans (congrArg some (by kernel_rfl))
  f317 := Tryz.func237.trans (congrArg some (by kernel_rfl))
  f318 := Tryz.func239.trans (congrArg some (by kernel_rfl))
  f319 := Tryz.func240.trans (congrArg some (by kernel_rfl))
  f320 := Tryz.func241.trans (congrArg some (by kernel_rfl))
  f337 := Tryz.func265.trans (congrArg some (by kernel_rfl))
  f338 := Tryz.func266.trans (congrArg some (by kernel_rfl))
  t0 := Tryz.underlying0
  a0 := Tryz.isAgg0
  z0 := Tryz.sizeOf0
  v0 := Tryz.zeroValue0
  t2 := Tryz.underlying2
  a2 := Tryz.isAgg2
  z2 := Tryz.sizeOf2
  v2 := Tryz.zeroValue2
  t3 := Tryz.underlying3
  a3 := Tryz.isAgg3
  z3 := Tryz.sizeOf3
  v3 := Tryz.zeroValue3
  t4 := Tryz.underlying4
  a4 := Tryz.isAgg4
  z4 := Tryz.sizeOf4
  v4 := Tryz.zeroValue4
  t5 := Tryz.underlying5
  a5 := Tryz.isAgg5
  z5 := Tryz.sizeOf5
  v5 := Tryz.zeroValue5
  t9 := Tryz.underlying9
  a9 := Tryz.isAgg9
  z9 := Tryz.sizeOf9
  v9 := Tryz.zeroValue9
  t20 := Tryz.underlying20
  a20 := Tryz.isAgg20
  z20 := Tryz.sizeOf20
  v20 := Tryz.zeroValue20
  t37 := Tryz.underlying204
  a37 := Tryz.isAgg204
  z37 := Tryz.sizeOf204
  v37 := Tryz.zeroValue204
  t46 := Tryz.underlying286
  a46 := Tryz.isAgg286
  z46 := Tryz.sizeOf286
  v46 := Tryz.zeroValue286
  t51 := Tryz.underlying284
  a51 := Tryz.isAgg284
  z51 := Tryz.sizeOf284
  v51 := Tryz.zeroValue284
  t53 := Tryz.underlying247
  a53 := Tryz.isAgg247
  z53 := Tryz.sizeOf247
  v53 := Tryz.zeroValue247
  t171 := Tryz.underlying246
  a171 := Tryz.isAgg246
  z171 := Tryz.sizeOf246
  v171 := Tryz.zeroValue246
  t173 := Tryz.underlying250
  a173 := Tryz.isAgg250
  z173 := Tryz.sizeOf250
  v173 := Tryz.zeroValue250
  t212 := Tryz.underlying283
  a212 := Tryz.isAgg283
  z212 := Tryz.sizeOf283
  v212 := Tryz.zeroValue283
  t213 := Tryz.underlying285
  a213 := Tryz.isAgg285
  z213 := Tryz.sizeOf285
  t232 := Tryz.underlying303
  a232 := Tryz.isAgg303
  z232 := Tryz.sizeOf303
  v232 := Tryz.zeroValue303
  t233 := Tryz.underlying304
  a233 := Tryz.isAgg304
  z233 := Tryz.sizeOf304
  v233 := Tryz.zeroValue304
  g17 := by kernel_rfl
  g18 := by kernel_rfl
  g19 := by kernel_rfl
  i0 := by kernel_rfl
  i2 := by kernel_rfl
  i3 := by kernel_rfl
  i4 := by kernel_rfl
  i5 := by kernel_rfl
  i9 := by kernel_rfl
  i20 := by kernel_rfl
  i37 := by kernel_rfl
  i46 := by kernel_rfl
  i51 := by kernel_rfl
  i53 := by kernel_rfl
  i171 := by kernel_rfl
  i173 := by kernel_rfl
  i212 := by kernel_rfl
  i232 := by kernel_rfl
  i233 := by kernel_rfl
  m17 := by kernel_rfl
  m18 := by kernel_rfl
  m19 := by kernel_rfl }
end Go.Proofs
/- The library's Itoa, as the abstract machine takes it. -/
namespace Go.Proofs.YtmoeoppbmhfbpaaGreatDoorY
open Go.Abs Go.Sort
open Go.RowKit (Below)
set_option linter.unusedVariables false

theorem grow_old (w : World) (k : Nat) (os : Array Obj) {b : Nat} (h : b < w.heap.size) : (grow (w.drewN k) os).heap[b]? = w.heap[b]? := by
  show (w.heap ++ os)[b]? = w.heap[b]?
  exact Array.getElem?_append_left h
theorem grow_cell (w : World) (k : Nat) (os : Array Obj) {b o : Nat} (h : b < w.heap.size) : (grow (w.drewN k) os).cell? ⟨b, o, none⟩ = w.cell? ⟨b, o, none⟩ := by
  unfold World.cell?
  rw [grow_old w k os h]
theorem inv_grown {G : Gh} {σ : St} {w : World} (I : Abs.Inv G σ w) (k : Nat) (os : Array Obj) : Abs.Inv G σ (grow (w.drewN k) os) ∧ Ext G σ w G σ (grow (w.drewN k) os) := by
  have E : Ext G σ w G σ (grow (w.drewN k) os) := ⟨rfl, rfl, Nat.le_refl _, fun _ _ => rfl, Nat.le_refl _, fun _ _ => ⟨Nat.le_refl _, rfl, fun _ => ⟨rfl, rfl⟩⟩, fun b off p => ⟨p, grow_cell w k os (I.perlt _ _ p)⟩, fun o h => ⟨Nat.le_refl _, fun _ => grow_old w k os (I.blk_lt h)⟩⟩
  have hsz : w.heap.size ≤ (grow (w.drewN k) os).heap.size := by
    show w.heap.size ≤ (w.heap ++ os).size
    rw [Array.size_append]; omega
  refine ⟨⟨fun p hp => ?_, I.inj, fun k hk => ?_, I.linj, I.apart, fun b off p => Nat.lt_of_lt_of_le (I.perlt _ _ p) hsz, I.perlo, ?_, Nat.le_trans I.le hsz, I.hyp⟩, E⟩
  · obtain ⟨h1, ⟨arr, e, hb, ha⟩, h3⟩ := I.obj p hp
    exact ⟨h1, ⟨arr, e, by rw [grow_old _ _ _ (I.blk_lt hp)]; exact hb, VR.all E ha⟩, h3⟩
  · obtain ⟨h1, ⟨arr, e, hb, ha⟩, h3⟩ := I.lin k hk
    exact ⟨h1, ⟨arr, e, by rw [grow_old _ _ _ (I.cur_lt hk)]; exact hb, ha⟩, h3⟩
  · have hb := I.below
    have hl := I.le
    exact ⟨hb.os, hb.tape, hb.output, Nat.le_trans hb.size hsz, fun j hj => by rw [grow_old _ _ _ (by omega)]; exact hb.block j hj⟩
theorem itoa_spec (n : Int) (h0 : 0 ≤ n) (h1 : n ≤ 9999) (σ : St) : ACalls Tryz.prog 69 [sc (.int .i64 n)] σ fun x σ' => x = str (Lib.itoa n) ∧ σ' = σ := by
  refine ⟨by kernel_rfl, fun G w cargs I A => ?_⟩
  obtain ⟨v, rfl⟩ : ∃ v, cargs = #[v] := by
    have hl := A.1
    match cargs, hl with
    | ⟨[v]⟩, _ => exact ⟨v, rfl⟩
  have hv : v = .int .i64 n := (A.2 0 v _ rfl rfl).unfold
  subst hv
  refine (Any.strconv_Itoa Tryz.laysM171 n (by omega) (by omega) w (I.hyp w I.below)).mono ?_
  rintro e w' ⟨rfl, k, os, rfl⟩
  obtain ⟨I', E⟩ := inv_grown I k os
  exact ⟨_, G, _, σ, rfl, I', E, VR.sc _, rfl, rfl⟩
/- Numbers: a text and its value. -/
open Go.Abs
set_option linter.unusedSimpArgs false

/-- a term that was read: a variable, or the text of its number -/
def DT (w : Tx) : Prop := variableB w = true ∨ (variableB w = false ∧ Lib.itoa (encT w).2 = w ∧ 0 ≤ (encT w).2 ∧ (encT w).2 ≤ 999)
theorem u8_of {b : UInt8} {m : Nat} (h : b.toNat = m) : UInt8.ofNat m = b := by rw [← h]; exact UInt8.ofNat_toNat
theorem dec_snoc {v d : Nat} (hv : 1 ≤ v) (hd : d ≤ 9) : Lib.decDigits (v * 10 + d) = Lib.decDigits v ++ [UInt8.ofNat (48 + d)] := by
  rw [Lib.decDigits, dif_neg (by omega), show (v * 10 + d) / 10 = v by omega, show (v * 10 + d) % 10 = d by omega]
theorem dt_num {w : Tx} {m : Nat} (hv : variableB w = false) (hw : w ≠ []) (hn : numV w = (m : Int)) (hm : m ≤ 999) (hd : Lib.decDigits m = w) : DT w := by
  cases w with
  | nil => exact absurd rfl hw
  | cons b r =>
    refine .inr ⟨hv, ?_⟩
    rw [encT_num hv]
    dsimp only
    rw [hn]
    exact ⟨by rw [Lib.itoa_nonneg, hd], by omega, by omega⟩
theorem pTerm_dt (s w r : Tx) (h : pTerm s = .got w r) : DT w := by
  cases s with
  | nil => cases h
  | cons b q =>
    unfold pTerm at h; dsimp only at h
    split at h
    · rename_i hl; cases h; exact .inl hl
    rename_i hl
    have hl : largeB b.toNat = false := by simpa using hl
    split at h
    · rename_i h0
      cases h
      have h48 : b.toNat = 48 := by have : (b.toNat : Int) = 48 := by simpa using h0
                                    omega
      exact dt_num (m := 0) hl (by simp) (by simp [numV, h48]) (by omega) (by rw [Lib.decDigits_one (by omega), u8_of h48])
    split at h
    · rename_i h9
      cases h
      have hb : 49 ≤ b.toNat ∧ b.toNat ≤ 57 := by simp [nineB] at h9; omega
      have hds := (pWhile_took digitB 2 q).2
      have hln : (pWhile digitB 2 q).1.length ≤ 2 := by
        cases q with
        | nil => simp [pWhile]
        | cons c q =>
          unfold pWhile
          split
          · cases q with
            | nil => simp [pWhile]
            | cons d q => unfold pWhile; split <;> simp [pWhile]
          · simp
      have hdig : ∀ c : UInt8, digitB c.toNat = true → 48 ≤ c.toNat ∧ c.toNat ≤ 57 := fun c hc => by simp [digitB] at hc; omega
      have d1 : Lib.decDigits (b.toNat - 48) = [b] := by rw [Lib.decDigits_one (by omega), u8_of (show b.toNat = 48 + (b.toNat - 48) by omega)]
      generalize (pWhile digitB 2 q).1 = ds at hds hln
      match ds, hds, hln with
      | [], _, _ => exact dt_num (m := b.toNat - 48) hl (by simp) (by simp [numV]; omega) (by omega) d1
      | [c], hds, _ =>
        have hc := hdig c (hds c (by simp))
        have d2 : Lib.decDigits ((b.toNat - 48) * 10 + (c.toNat - 48)) = [b, c] := by rw [dec_snoc (by omega) (by omega), d1, u8_of (show c.toNat = 48 + (c.toNat - 48) by omega)]; rfl
        exact dt_num (m := (b.toNat - 48) * 10 + (c.toNat - 48)) hl (by simp) (by simp [numV]; omega) (by omega) d2
      | [c, d], hds, _ =>
        have hc := hdig c (hds c (by simp))
        have hd := hdig d (hds d (by simp))
        have d2 : Lib.decDigits ((b.toNat - 48) * 10 + (c.toNat - 48)) = [b, c] := by rw [dec_snoc (by omega) (by omega), d1, u8_of (show c.toNat = 48 + (c.toNat - 48) by omega)]; rfl
        have d3 : Lib.decDigits (((b.toNat - 48) * 10 + (c.toNat - 48)) * 10 + (d.toNat - 48)) = [b, c, d] := by rw [dec_snoc (by omega) (by omega), d2, u8_of (show d.toNat = 48 + (d.toNat - 48) by omega)]; rfl
        exact dt_num (m := ((b.toNat - 48) * 10 + (c.toNat - 48)) * 10 + (d.toNat - 48)) hl (by simp) (by simp [numV]; omega) (by omega) d3
    · cases h
end Go.Proofs.YtmoeoppbmhfbpaaGreatDoorY
