import Derived.Test.YtmoeoppbmhfbpabGreatDoorE
import Derived.Test.YtmoeoppbmhfbpabGreatDoorRows
import Derived.LaidMore
import Derived.LaidSub
import Derived.Stop.Joined
/- What the row's listed tables give: the table that Itoa reads. -/
namespace Go.Proofs.YtmoeoppbmhfbpabGreatDoor
open Go.RowKit
set_option linter.unusedVariables false
set_option maxRecDepth 100000

def laid3 : List (String × DataW Unit) := [("math/bits.deBruijn32tab", Rows.laid_math_bits_deBruijn32tab), ("math/bits.deBruijn64tab", Rows.laid_math_bits_deBruijn64tab), ("internal/strconv.uint64pow10", Rows.laid_internal_strconv_uint64pow10)]
theorem hyp_of {W : World} (hL : laidMetH Tryz.prog laid3 W) : Abs.Hyp W.heap.size W := by
  have h1 := ((laidMetH_iff.1 hL).1).filter (fun x => x.1 == "internal/strconv.uint64pow10")
  have e : ((laid3.filter fun x => x.2.handleName?.isNone).filter fun x => x.1 == "internal/strconv.uint64pow10") = [("internal/strconv.uint64pow10", Lib.tabData .u64 Lib.pow10Tab)] := by kernel_rfl
  rw [e] at h1
  have ht : Lib.TabIs Tryz.prog W "internal/strconv.uint64pow10" .u64 Lib.pow10Tab :=
    Lib.tabIs_of_head (g := 0) (t := 298) (e := 277) (n := 20) (by kernel_rfl) (by kernel_rfl) (by kernel_rfl) (by kernel_rfl) (by kernel_rfl) (by kernel_rfl) h1
  intro w' hb
  unfold Lib.TabIs World.var? at *
  cases hg : Tryz.prog.globalNamed "internal/strconv.uint64pow10" with
  | none => simp [hg] at ht
  | some g =>
    simp only [hg, Option.bind_some] at ht ⊢
    have hlt : g < W.heap.size := by
      rcases Nat.lt_or_ge g W.heap.size with h' | h'
      · exact h'
      · rw [Array.getElem?_eq_none h'] at ht; simp at ht
    rw [hb.block g hlt]
    exact ht
end Go.Proofs.YtmoeoppbmhfbpabGreatDoor
