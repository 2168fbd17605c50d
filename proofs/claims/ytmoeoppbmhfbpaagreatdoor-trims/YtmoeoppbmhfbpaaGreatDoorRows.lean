/-
  NARROWER THAN 'FOR EVERY INPUT', by the rows' own cells (each row's printed sentence says how): Checks: laid · Prints: laid · Runs: laid · Roads: laid · Mixed: laid · Spares: laid · Implieds: laid · Trims: laid · Core: laid · Tight: laid · Sliced: laid.
  DERIVED. THE GIVEN ROWS OF THIS SEAT. 11 by the template 'for every input the law returns true; each argument reads behind the call as it read before'; 0 by the template 'total and deterministic' (their statements: YtmoeoppbmhfbpaaGreatDoorTotals.lean).
  GIVEN WITH THE SEED: the statements are not yours to turn. If you find one false, say at which input.
  Laid BY PROGRAM, IN A SANDBOX (cutbox-rows.mjs): the forced cells as the released guide's own fill.sh prints them over the translation 55bd6d0bb0434ac1… (all of the seat's roots in one cut). By AI agents, Wed Nov 11 2026. No macro, syntax, notation, axiom, sorry.
-/
import Derived.Test.YtmoeoppbmhfbpaaGreatDoorChecked
import GoSem.Claim
import GoSem.ClaimJoined
import GoSem.ClaimMapViews
import Derived.JoinedTies
import Derived.KernelRfl
namespace Go.Proofs.YtmoeoppbmhfbpaaGreatDoor
/- THE CELL 'sum', in the pinned program and in every row, IS THE sha256 OF THE DUMP (.gsa) THAT YtmoeoppbmhfbpaaGreatDoorProg.lean LOADS. Nothing in Lean hashes anything: it is a label: what it is worth is what the hold of that sum in a sandbox is worth. -/
noncomputable def Tryz.pinned : Pinned := { name := "ytmoeoppbmhfbpaagreatdoor", sum := "55bd6d0bb0434ac1f933a12182af757cec02985b33b11564f4b8372b46c7715e", checked := Tryz.checked }
namespace Rows
def none {H : Type} : Left H := { results := [], args := [] }

/- WHAT THE LISTED PACKAGE-LEVEL VARIABLES READ AS WHEN THE CALL BEGINS. Each datum BY PROGRAM (the guide's laid-datum.mjs) off the statement by which the dump's own 'gosem.cut.vars' lays the variable. In a bare row this is a premise. The card (YtmoeoppbmhfbpaaGreatDoorCards.lean) ties it to the program's text. -/
def laid_math_bits_deBruijn32tab {H : Type} : DataW H := .agg [.lit (.int .u8 0), .lit (.int .u8 1), .lit (.int .u8 28), .lit (.int .u8 2), .lit (.int .u8 29), .lit (.int .u8 14), .lit (.int .u8 24), .lit (.int .u8 3), .lit (.int .u8 30), .lit (.int .u8 22), .lit (.int .u8 20), .lit (.int .u8 15), .lit (.int .u8 25), .lit (.int .u8 17), .lit (.int .u8 4), .lit (.int .u8 8), .lit (.int .u8 31), .lit (.int .u8 27), .lit (.int .u8 13), .lit (.int .u8 23), .lit (.int .u8 21), .lit (.int .u8 19), .lit (.int .u8 16), .lit (.int .u8 7), .lit (.int .u8 26), .lit (.int .u8 12), .lit (.int .u8 18), .lit (.int .u8 6), .lit (.int .u8 11), .lit (.int .u8 5), .lit (.int .u8 10), .lit (.int .u8 9)]
def laid_math_bits_deBruijn64tab {H : Type} : DataW H := .agg [.lit (.int .u8 0), .lit (.int .u8 1), .lit (.int .u8 56), .lit (.int .u8 2), .lit (.int .u8 57), .lit (.int .u8 49), .lit (.int .u8 28), .lit (.int .u8 3), .lit (.int .u8 61), .lit (.int .u8 58), .lit (.int .u8 42), .lit (.int .u8 50), .lit (.int .u8 38), .lit (.int .u8 29), .lit (.int .u8 17), .lit (.int .u8 4), .lit (.int .u8 62), .lit (.int .u8 47), .lit (.int .u8 59), .lit (.int .u8 36), .lit (.int .u8 45), .lit (.int .u8 43), .lit (.int .u8 51), .lit (.int .u8 22), .lit (.int .u8 53), .lit (.int .u8 39), .lit (.int .u8 33), .lit (.int .u8 30), .lit (.int .u8 24), .lit (.int .u8 18), .lit (.int .u8 12), .lit (.int .u8 5), .lit (.int .u8 63), .lit (.int .u8 55), .lit (.int .u8 48), .lit (.int .u8 27), .lit (.int .u8 60), .lit (.int .u8 41), .lit (.int .u8 37), .lit (.int .u8 16), .lit (.int .u8 46), .lit (.int .u8 35), .lit (.int .u8 44), .lit (.int .u8 21), .lit (.int .u8 52), .lit (.int .u8 32), .lit (.int .u8 23), .lit (.int .u8 11), .lit (.int .u8 54), .lit (.int .u8 26), .lit (.int .u8 40), .lit (.int .u8 15), .lit (.int .u8 34), .lit (.int .u8 20), .lit (.int .u8 31), .lit (.int .u8 10), .lit (.int .u8 25), .lit (.int .u8 14), .lit (.int .u8 19), .lit (.int .u8 9), .lit (.int .u8 13), .lit (.int .u8 8), .lit (.int .u8 7), .lit (.int .u8 6)]
def laid_internal_strconv_uint64pow10 {H : Type} : DataW H := .agg [.lit (.int .u64 1), .lit (.int .u64 10), .lit (.int .u64 100), .lit (.int .u64 1000), .lit (.int .u64 10000), .lit (.int .u64 100000), .lit (.int .u64 1000000), .lit (.int .u64 10000000), .lit (.int .u64 100000000), .lit (.int .u64 1000000000), .lit (.int .u64 10000000000), .lit (.int .u64 100000000000), .lit (.int .u64 1000000000000), .lit (.int .u64 10000000000000), .lit (.int .u64 100000000000000), .lit (.int .u64 1000000000000000), .lit (.int .u64 10000000000000000), .lit (.int .u64 100000000000000000), .lit (.int .u64 1000000000000000000), .lit (.int .u64 10000000000000000000)]

/-- 'rulebooklaw.Checks': WHATEVER THE INPUT: true; the input reads as it did. -/
def checksSpec : ChangeSpec := { name := "checks", fn := fun _ => fun
  | [d] => { results := [.lit (.bool true)], args := [d] }
  | _ => none }
def checksRow : OpenClaim := { program := "ytmoeoppbmhfbpaagreatdoor", sum := "55bd6d0bb0434ac1f933a12182af757cec02985b33b11564f4b8372b46c7715e", func := "rulebook/rulebooklaw.Checks", spec := "checks", recurses := true, named := ["internal/strconv.uint64pow10", "math/bits.deBruijn32tab", "math/bits.deBruijn64tab"], apart := false, laid := [("math/bits.deBruijn32tab", laid_math_bits_deBruijn32tab), ("math/bits.deBruijn64tab", laid_math_bits_deBruijn64tab), ("internal/strconv.uint64pow10", laid_internal_strconv_uint64pow10)] }
def ChecksSaid : Prop := checksRow.holds Tryz.pinned (OpenSpec.ofChange checksSpec)

/-- ITS FALSE NEIGHBOUR: 'it returns false'. Refute it at one input. -/
def checksWrong : ChangeSpec := { name := "checks", fn := fun _ => fun
  | [d] => { results := [.lit (.bool false)], args := [d] }
  | _ => none }
def ChecksWrongFalsely : Prop := checksRow.holds Tryz.pinned (OpenSpec.ofChange checksWrong)

/-- 'rulebooklaw.Prints': WHATEVER THE INPUT: true; the input reads as it did. -/
def printsSpec : ChangeSpec := { name := "prints", fn := fun _ => fun
  | [d] => { results := [.lit (.bool true)], args := [d] }
  | _ => none }
def printsRow : OpenClaim := { program := "ytmoeoppbmhfbpaagreatdoor", sum := "55bd6d0bb0434ac1f933a12182af757cec02985b33b11564f4b8372b46c7715e", func := "rulebook/rulebooklaw.Prints", spec := "prints", recurses := true, named := ["internal/strconv.uint64pow10", "math/bits.deBruijn32tab", "math/bits.deBruijn64tab"], apart := false, laid := [("math/bits.deBruijn32tab", laid_math_bits_deBruijn32tab), ("math/bits.deBruijn64tab", laid_math_bits_deBruijn64tab), ("internal/strconv.uint64pow10", laid_internal_strconv_uint64pow10)] }
def PrintsSaid : Prop := printsRow.holds Tryz.pinned (OpenSpec.ofChange printsSpec)

/-- ITS FALSE NEIGHBOUR: 'it returns false'. Refute it at one input. -/
def printsWrong : ChangeSpec := { name := "prints", fn := fun _ => fun
  | [d] => { results := [.lit (.bool false)], args := [d] }
  | _ => none }
def PrintsWrongFalsely : Prop := printsRow.holds Tryz.pinned (OpenSpec.ofChange printsWrong)

/-- 'rulebooklaw.Runs': WHATEVER THE INPUT: true; the input reads as it did. -/
def runsSpec : ChangeSpec := { name := "runs", fn := fun _ => fun
  | [d] => { results := [.lit (.bool true)], args := [d] }
  | _ => none }
def runsRow : OpenClaim := { program := "ytmoeoppbmhfbpaagreatdoor", sum := "55bd6d0bb0434ac1f933a12182af757cec02985b33b11564f4b8372b46c7715e", func := "rulebook/rulebooklaw.Runs", spec := "runs", recurses := true, named := ["internal/strconv.uint64pow10", "math/bits.deBruijn32tab", "math/bits.deBruijn64tab"], apart := false, laid := [("math/bits.deBruijn32tab", laid_math_bits_deBruijn32tab), ("math/bits.deBruijn64tab", laid_math_bits_deBruijn64tab), ("internal/strconv.uint64pow10", laid_internal_strconv_uint64pow10)] }
def RunsSaid : Prop := runsRow.holds Tryz.pinned (OpenSpec.ofChange runsSpec)

/-- ITS FALSE NEIGHBOUR: 'it returns false'. Refute it at one input. -/
def runsWrong : ChangeSpec := { name := "runs", fn := fun _ => fun
  | [d] => { results := [.lit (.bool false)], args := [d] }
  | _ => none }
def RunsWrongFalsely : Prop := runsRow.holds Tryz.pinned (OpenSpec.ofChange runsWrong)

/-- 'rulebookkeep.Roads': WHATEVER THE INPUT: true; the input reads as it did. -/
def roadsSpec : ChangeSpec := { name := "roads", fn := fun _ => fun
  | [d1, d2, d3] => { results := [.lit (.bool true)], args := [d1, d2, d3] }
  | _ => none }
def roadsRow : OpenClaim := { program := "ytmoeoppbmhfbpaagreatdoor", sum := "55bd6d0bb0434ac1f933a12182af757cec02985b33b11564f4b8372b46c7715e", func := "rulebook/rulebookkeep.Roads", spec := "roads", recurses := true, named := ["internal/strconv.uint64pow10", "math/bits.deBruijn32tab", "math/bits.deBruijn64tab"], apart := false, laid := [("math/bits.deBruijn32tab", laid_math_bits_deBruijn32tab), ("math/bits.deBruijn64tab", laid_math_bits_deBruijn64tab), ("internal/strconv.uint64pow10", laid_internal_strconv_uint64pow10)] }
def RoadsSaid : Prop := roadsRow.holds Tryz.pinned (OpenSpec.ofChange roadsSpec)

/-- ITS FALSE NEIGHBOUR: 'it returns false'. Refute it at one input. -/
def roadsWrong : ChangeSpec := { name := "roads", fn := fun _ => fun
  | [d1, d2, d3] => { results := [.lit (.bool false)], args := [d1, d2, d3] }
  | _ => none }
def RoadsWrongFalsely : Prop := roadsRow.holds Tryz.pinned (OpenSpec.ofChange roadsWrong)

/-- 'rulebookkeep.Mixed': WHATEVER THE INPUT: true; the input reads as it did. -/
def mixedSpec : ChangeSpec := { name := "mixed", fn := fun _ => fun
  | [d1, d2, d3, d4] => { results := [.lit (.bool true)], args := [d1, d2, d3, d4] }
  | _ => none }
def mixedRow : OpenClaim := { program := "ytmoeoppbmhfbpaagreatdoor", sum := "55bd6d0bb0434ac1f933a12182af757cec02985b33b11564f4b8372b46c7715e", func := "rulebook/rulebookkeep.Mixed", spec := "mixed", recurses := true, named := ["internal/strconv.uint64pow10", "math/bits.deBruijn32tab", "math/bits.deBruijn64tab"], apart := false, laid := [("math/bits.deBruijn32tab", laid_math_bits_deBruijn32tab), ("math/bits.deBruijn64tab", laid_math_bits_deBruijn64tab), ("internal/strconv.uint64pow10", laid_internal_strconv_uint64pow10)] }
def MixedSaid : Prop := mixedRow.holds Tryz.pinned (OpenSpec.ofChange mixedSpec)

/-- ITS FALSE NEIGHBOUR: 'it returns false'. Refute it at one input. -/
def mixedWrong : ChangeSpec := { name := "mixed", fn := fun _ => fun
  | [d1, d2, d3, d4] => { results := [.lit (.bool false)], args := [d1, d2, d3, d4] }
  | _ => none }
def MixedWrongFalsely : Prop := mixedRow.holds Tryz.pinned (OpenSpec.ofChange mixedWrong)

/-- 'rulebooklaw.Spares': WHATEVER THE INPUT: true; the input reads as it did. -/
def sparesSpec : ChangeSpec := { name := "spares", fn := fun _ => fun
  | [d] => { results := [.lit (.bool true)], args := [d] }
  | _ => none }
def sparesRow : OpenClaim := { program := "ytmoeoppbmhfbpaagreatdoor", sum := "55bd6d0bb0434ac1f933a12182af757cec02985b33b11564f4b8372b46c7715e", func := "rulebook/rulebooklaw.Spares", spec := "spares", recurses := true, named := ["internal/strconv.uint64pow10", "math/bits.deBruijn32tab", "math/bits.deBruijn64tab"], apart := false, laid := [("math/bits.deBruijn32tab", laid_math_bits_deBruijn32tab), ("math/bits.deBruijn64tab", laid_math_bits_deBruijn64tab), ("internal/strconv.uint64pow10", laid_internal_strconv_uint64pow10)] }
def SparesSaid : Prop := sparesRow.holds Tryz.pinned (OpenSpec.ofChange sparesSpec)

/-- ITS FALSE NEIGHBOUR: 'it returns false'. Refute it at one input. -/
def sparesWrong : ChangeSpec := { name := "spares", fn := fun _ => fun
  | [d] => { results := [.lit (.bool false)], args := [d] }
  | _ => none }
def SparesWrongFalsely : Prop := sparesRow.holds Tryz.pinned (OpenSpec.ofChange sparesWrong)

/-- 'rulebooklaw.Implieds': WHATEVER THE INPUT: true; the input reads as it did. -/
def impliedsSpec : ChangeSpec := { name := "implieds", fn := fun _ => fun
  | [d] => { results := [.lit (.bool true)], args := [d] }
  | _ => none }
def impliedsRow : OpenClaim := { program := "ytmoeoppbmhfbpaagreatdoor", sum := "55bd6d0bb0434ac1f933a12182af757cec02985b33b11564f4b8372b46c7715e", func := "rulebook/rulebooklaw.Implieds", spec := "implieds", recurses := true, named := ["internal/strconv.uint64pow10", "math/bits.deBruijn32tab", "math/bits.deBruijn64tab"], apart := false, laid := [("math/bits.deBruijn32tab", laid_math_bits_deBruijn32tab), ("math/bits.deBruijn64tab", laid_math_bits_deBruijn64tab), ("internal/strconv.uint64pow10", laid_internal_strconv_uint64pow10)] }
def ImpliedsSaid : Prop := impliedsRow.holds Tryz.pinned (OpenSpec.ofChange impliedsSpec)

/-- ITS FALSE NEIGHBOUR: 'it returns false'. Refute it at one input. -/
def impliedsWrong : ChangeSpec := { name := "implieds", fn := fun _ => fun
  | [d] => { results := [.lit (.bool false)], args := [d] }
  | _ => none }
def ImpliedsWrongFalsely : Prop := impliedsRow.holds Tryz.pinned (OpenSpec.ofChange impliedsWrong)

/-- 'rulebooklaw.Trims': WHATEVER THE INPUT: true; the input reads as it did. -/
def trimsSpec : ChangeSpec := { name := "trims", fn := fun _ => fun
  | [d] => { results := [.lit (.bool true)], args := [d] }
  | _ => none }
def trimsRow : OpenClaim := { program := "ytmoeoppbmhfbpaagreatdoor", sum := "55bd6d0bb0434ac1f933a12182af757cec02985b33b11564f4b8372b46c7715e", func := "rulebook/rulebooklaw.Trims", spec := "trims", recurses := true, named := ["internal/strconv.uint64pow10", "math/bits.deBruijn32tab", "math/bits.deBruijn64tab"], apart := false, laid := [("math/bits.deBruijn32tab", laid_math_bits_deBruijn32tab), ("math/bits.deBruijn64tab", laid_math_bits_deBruijn64tab), ("internal/strconv.uint64pow10", laid_internal_strconv_uint64pow10)] }
def TrimsSaid : Prop := trimsRow.holds Tryz.pinned (OpenSpec.ofChange trimsSpec)

/-- ITS FALSE NEIGHBOUR: 'it returns false'. Refute it at one input. -/
def trimsWrong : ChangeSpec := { name := "trims", fn := fun _ => fun
  | [d] => { results := [.lit (.bool false)], args := [d] }
  | _ => none }
def TrimsWrongFalsely : Prop := trimsRow.holds Tryz.pinned (OpenSpec.ofChange trimsWrong)

/-- 'rulebookkeep.Core': WHATEVER THE INPUT: true; the input reads as it did. -/
def coreSpec : ChangeSpec := { name := "core", fn := fun _ => fun
  | [d] => { results := [.lit (.bool true)], args := [d] }
  | _ => none }
def coreRow : OpenClaim := { program := "ytmoeoppbmhfbpaagreatdoor", sum := "55bd6d0bb0434ac1f933a12182af757cec02985b33b11564f4b8372b46c7715e", func := "rulebook/rulebookkeep.Core", spec := "core", recurses := true, named := ["internal/strconv.uint64pow10", "math/bits.deBruijn32tab", "math/bits.deBruijn64tab"], apart := false, laid := [("math/bits.deBruijn32tab", laid_math_bits_deBruijn32tab), ("math/bits.deBruijn64tab", laid_math_bits_deBruijn64tab), ("internal/strconv.uint64pow10", laid_internal_strconv_uint64pow10)] }
def CoreSaid : Prop := coreRow.holds Tryz.pinned (OpenSpec.ofChange coreSpec)

/-- ITS FALSE NEIGHBOUR: 'it returns false'. Refute it at one input. -/
def coreWrong : ChangeSpec := { name := "core", fn := fun _ => fun
  | [d] => { results := [.lit (.bool false)], args := [d] }
  | _ => none }
def CoreWrongFalsely : Prop := coreRow.holds Tryz.pinned (OpenSpec.ofChange coreWrong)

/-- 'rulebookkeep.Tight': WHATEVER THE INPUT: true; the input reads as it did. -/
def tightSpec : ChangeSpec := { name := "tight", fn := fun _ => fun
  | [d] => { results := [.lit (.bool true)], args := [d] }
  | _ => none }
def tightRow : OpenClaim := { program := "ytmoeoppbmhfbpaagreatdoor", sum := "55bd6d0bb0434ac1f933a12182af757cec02985b33b11564f4b8372b46c7715e", func := "rulebook/rulebookkeep.Tight", spec := "tight", recurses := true, named := ["internal/strconv.uint64pow10", "math/bits.deBruijn32tab", "math/bits.deBruijn64tab"], apart := false, laid := [("math/bits.deBruijn32tab", laid_math_bits_deBruijn32tab), ("math/bits.deBruijn64tab", laid_math_bits_deBruijn64tab), ("internal/strconv.uint64pow10", laid_internal_strconv_uint64pow10)] }
def TightSaid : Prop := tightRow.holds Tryz.pinned (OpenSpec.ofChange tightSpec)

/-- ITS FALSE NEIGHBOUR: 'it returns false'. Refute it at one input. -/
def tightWrong : ChangeSpec := { name := "tight", fn := fun _ => fun
  | [d] => { results := [.lit (.bool false)], args := [d] }
  | _ => none }
def TightWrongFalsely : Prop := tightRow.holds Tryz.pinned (OpenSpec.ofChange tightWrong)

/-- 'rulebookkeep.Sliced': WHATEVER THE INPUT: true; the input reads as it did. -/
def slicedSpec : ChangeSpec := { name := "sliced", fn := fun _ => fun
  | [d1, d2] => { results := [.lit (.bool true)], args := [d1, d2] }
  | _ => none }
def slicedRow : OpenClaim := { program := "ytmoeoppbmhfbpaagreatdoor", sum := "55bd6d0bb0434ac1f933a12182af757cec02985b33b11564f4b8372b46c7715e", func := "rulebook/rulebookkeep.Sliced", spec := "sliced", recurses := true, named := ["internal/strconv.uint64pow10", "math/bits.deBruijn32tab", "math/bits.deBruijn64tab"], apart := false, laid := [("math/bits.deBruijn32tab", laid_math_bits_deBruijn32tab), ("math/bits.deBruijn64tab", laid_math_bits_deBruijn64tab), ("internal/strconv.uint64pow10", laid_internal_strconv_uint64pow10)] }
def SlicedSaid : Prop := slicedRow.holds Tryz.pinned (OpenSpec.ofChange slicedSpec)

/-- ITS FALSE NEIGHBOUR: 'it returns false'. Refute it at one input. -/
def slicedWrong : ChangeSpec := { name := "sliced", fn := fun _ => fun
  | [d1, d2] => { results := [.lit (.bool false)], args := [d1, d2] }
  | _ => none }
def SlicedWrongFalsely : Prop := slicedRow.holds Tryz.pinned (OpenSpec.ofChange slicedWrong)

/- THE SECOND FORM. 'bulk': how many values and letters a reading holds, each counted each time it is reached (what is shared counts as often as it is met; a slice's spare places count too). A statement '..UptoSaid' is the law's where the arguments, and the package variables that the reading takes, are together of bulk at most 1048576: NARROWER than '..Said'. Prove '..Said' where nothing that the law and all that it calls make is longer than what came in: it says more and counts as full. Else prove '..UptoSaid'. A law counts once. -/
mutual
def uptoBulk {H : Type} : DataW H → Nat
  | .lit (.string bytes) => bytes.length + 1
  | .lit _ => 1
  | .nil => 1
  | .ptr d => uptoBulk d + 1
  | .slice elems spare => uptoBulkAll elems + uptoBulkAll spare + 1
  | .agg parts => uptoBulkAll parts + 1
  | .iface _ d => uptoBulk d + 1
  | .map entries => uptoBulkEntries entries + 1
  | .held _ => 1
def uptoBulkAll {H : Type} : List (DataW H) → Nat
  | [] => 0
  | d :: r => uptoBulk d + uptoBulkAll r
def uptoBulkEntries {H : Type} : List (Lit × DataW H) → Nat
  | [] => 0
  | x :: r => uptoBulkEntry x + uptoBulkEntries r
def uptoBulkEntry {H : Type} : Lit × DataW H → Nat
  | (.string bytes, d) => bytes.length + uptoBulk d + 1
  | (_, d) => uptoBulk d + 1
 end
def uptoSmall : (H : Type) → List (DataW H) → Bool := fun _ ds => decide (uptoBulkAll ds ≤ 1048576)
def OpenSpec.upto (s : _root_.Go.ChangeSpec) : _root_.Go.OpenSpec := { _root_.Go.OpenSpec.ofChange s with cond := some uptoSmall }

/-- 'rulebooklaw.Checks', WHERE WHAT IT READS IS OF BULK AT MOST 1048576: true; the input reads as it did. -/
def checksUptoRow : OpenClaim := { program := "ytmoeoppbmhfbpaagreatdoor", sum := "55bd6d0bb0434ac1f933a12182af757cec02985b33b11564f4b8372b46c7715e", func := "rulebook/rulebooklaw.Checks", spec := "checks", recurses := true, named := ["internal/strconv.uint64pow10", "math/bits.deBruijn32tab", "math/bits.deBruijn64tab"], apart := false, laid := [("math/bits.deBruijn32tab", laid_math_bits_deBruijn32tab), ("math/bits.deBruijn64tab", laid_math_bits_deBruijn64tab), ("internal/strconv.uint64pow10", laid_internal_strconv_uint64pow10)], narrowed := true }
def ChecksUptoSaid : Prop := checksUptoRow.holds Tryz.pinned (OpenSpec.upto checksSpec)

/-- 'rulebooklaw.Prints', WHERE WHAT IT READS IS OF BULK AT MOST 1048576: true; the input reads as it did. -/
def printsUptoRow : OpenClaim := { program := "ytmoeoppbmhfbpaagreatdoor", sum := "55bd6d0bb0434ac1f933a12182af757cec02985b33b11564f4b8372b46c7715e", func := "rulebook/rulebooklaw.Prints", spec := "prints", recurses := true, named := ["internal/strconv.uint64pow10", "math/bits.deBruijn32tab", "math/bits.deBruijn64tab"], apart := false, laid := [("math/bits.deBruijn32tab", laid_math_bits_deBruijn32tab), ("math/bits.deBruijn64tab", laid_math_bits_deBruijn64tab), ("internal/strconv.uint64pow10", laid_internal_strconv_uint64pow10)], narrowed := true }
def PrintsUptoSaid : Prop := printsUptoRow.holds Tryz.pinned (OpenSpec.upto printsSpec)

/-- 'rulebooklaw.Runs', WHERE WHAT IT READS IS OF BULK AT MOST 1048576: true; the input reads as it did. -/
def runsUptoRow : OpenClaim := { program := "ytmoeoppbmhfbpaagreatdoor", sum := "55bd6d0bb0434ac1f933a12182af757cec02985b33b11564f4b8372b46c7715e", func := "rulebook/rulebooklaw.Runs", spec := "runs", recurses := true, named := ["internal/strconv.uint64pow10", "math/bits.deBruijn32tab", "math/bits.deBruijn64tab"], apart := false, laid := [("math/bits.deBruijn32tab", laid_math_bits_deBruijn32tab), ("math/bits.deBruijn64tab", laid_math_bits_deBruijn64tab), ("internal/strconv.uint64pow10", laid_internal_strconv_uint64pow10)], narrowed := true }
def RunsUptoSaid : Prop := runsUptoRow.holds Tryz.pinned (OpenSpec.upto runsSpec)

/-- 'rulebookkeep.Roads', WHERE WHAT IT READS IS OF BULK AT MOST 1048576: true; the input reads as it did. -/
def roadsUptoRow : OpenClaim := { program := "ytmoeoppbmhfbpaagreatdoor", sum := "55bd6d0bb0434ac1f933a12182af757cec02985b33b11564f4b8372b46c7715e", func := "rulebook/rulebookkeep.Roads", spec := "roads", recurses := true, named := ["internal/strconv.uint64pow10", "math/bits.deBruijn32tab", "math/bits.deBruijn64tab"], apart := false, laid := [("math/bits.deBruijn32tab", laid_math_bits_deBruijn32tab), ("math/bits.deBruijn64tab", laid_math_bits_deBruijn64tab), ("internal/strconv.uint64pow10", laid_internal_strconv_uint64pow10)], narrowed := true }
def RoadsUptoSaid : Prop := roadsUptoRow.holds Tryz.pinned (OpenSpec.upto roadsSpec)

/-- 'rulebookkeep.Mixed', WHERE WHAT IT READS IS OF BULK AT MOST 1048576: true; the input reads as it did. -/
def mixedUptoRow : OpenClaim := { program := "ytmoeoppbmhfbpaagreatdoor", sum := "55bd6d0bb0434ac1f933a12182af757cec02985b33b11564f4b8372b46c7715e", func := "rulebook/rulebookkeep.Mixed", spec := "mixed", recurses := true, named := ["internal/strconv.uint64pow10", "math/bits.deBruijn32tab", "math/bits.deBruijn64tab"], apart := false, laid := [("math/bits.deBruijn32tab", laid_math_bits_deBruijn32tab), ("math/bits.deBruijn64tab", laid_math_bits_deBruijn64tab), ("internal/strconv.uint64pow10", laid_internal_strconv_uint64pow10)], narrowed := true }
def MixedUptoSaid : Prop := mixedUptoRow.holds Tryz.pinned (OpenSpec.upto mixedSpec)

/-- 'rulebooklaw.Spares', WHERE WHAT IT READS IS OF BULK AT MOST 1048576: true; the input reads as it did. -/
def sparesUptoRow : OpenClaim := { program := "ytmoeoppbmhfbpaagreatdoor", sum := "55bd6d0bb0434ac1f933a12182af757cec02985b33b11564f4b8372b46c7715e", func := "rulebook/rulebooklaw.Spares", spec := "spares", recurses := true, named := ["internal/strconv.uint64pow10", "math/bits.deBruijn32tab", "math/bits.deBruijn64tab"], apart := false, laid := [("math/bits.deBruijn32tab", laid_math_bits_deBruijn32tab), ("math/bits.deBruijn64tab", laid_math_bits_deBruijn64tab), ("internal/strconv.uint64pow10", laid_internal_strconv_uint64pow10)], narrowed := true }
def SparesUptoSaid : Prop := sparesUptoRow.holds Tryz.pinned (OpenSpec.upto sparesSpec)

/-- 'rulebooklaw.Implieds', WHERE WHAT IT READS IS OF BULK AT MOST 1048576: true; the input reads as it did. -/
def impliedsUptoRow : OpenClaim := { program := "ytmoeoppbmhfbpaagreatdoor", sum := "55bd6d0bb0434ac1f933a12182af757cec02985b33b11564f4b8372b46c7715e", func := "rulebook/rulebooklaw.Implieds", spec := "implieds", recurses := true, named := ["internal/strconv.uint64pow10", "math/bits.deBruijn32tab", "math/bits.deBruijn64tab"], apart := false, laid := [("math/bits.deBruijn32tab", laid_math_bits_deBruijn32tab), ("math/bits.deBruijn64tab", laid_math_bits_deBruijn64tab), ("internal/strconv.uint64pow10", laid_internal_strconv_uint64pow10)], narrowed := true }
def ImpliedsUptoSaid : Prop := impliedsUptoRow.holds Tryz.pinned (OpenSpec.upto impliedsSpec)

/-- 'rulebooklaw.Trims', WHERE WHAT IT READS IS OF BULK AT MOST 1048576: true; the input reads as it did. -/
def trimsUptoRow : OpenClaim := { program := "ytmoeoppbmhfbpaagreatdoor", sum := "55bd6d0bb0434ac1f933a12182af757cec02985b33b11564f4b8372b46c7715e", func := "rulebook/rulebooklaw.Trims", spec := "trims", recurses := true, named := ["internal/strconv.uint64pow10", "math/bits.deBruijn32tab", "math/bits.deBruijn64tab"], apart := false, laid := [("math/bits.deBruijn32tab", laid_math_bits_deBruijn32tab), ("math/bits.deBruijn64tab", laid_math_bits_deBruijn64tab), ("internal/strconv.uint64pow10", laid_internal_strconv_uint64pow10)], narrowed := true }
def TrimsUptoSaid : Prop := trimsUptoRow.holds Tryz.pinned (OpenSpec.upto trimsSpec)

/-- 'rulebookkeep.Core', WHERE WHAT IT READS IS OF BULK AT MOST 1048576: true; the input reads as it did. -/
def coreUptoRow : OpenClaim := { program := "ytmoeoppbmhfbpaagreatdoor", sum := "55bd6d0bb0434ac1f933a12182af757cec02985b33b11564f4b8372b46c7715e", func := "rulebook/rulebookkeep.Core", spec := "core", recurses := true, named := ["internal/strconv.uint64pow10", "math/bits.deBruijn32tab", "math/bits.deBruijn64tab"], apart := false, laid := [("math/bits.deBruijn32tab", laid_math_bits_deBruijn32tab), ("math/bits.deBruijn64tab", laid_math_bits_deBruijn64tab), ("internal/strconv.uint64pow10", laid_internal_strconv_uint64pow10)], narrowed := true }
def CoreUptoSaid : Prop := coreUptoRow.holds Tryz.pinned (OpenSpec.upto coreSpec)

/-- 'rulebookkeep.Tight', WHERE WHAT IT READS IS OF BULK AT MOST 1048576: true; the input reads as it did. -/
def tightUptoRow : OpenClaim := { program := "ytmoeoppbmhfbpaagreatdoor", sum := "55bd6d0bb0434ac1f933a12182af757cec02985b33b11564f4b8372b46c7715e", func := "rulebook/rulebookkeep.Tight", spec := "tight", recurses := true, named := ["internal/strconv.uint64pow10", "math/bits.deBruijn32tab", "math/bits.deBruijn64tab"], apart := false, laid := [("math/bits.deBruijn32tab", laid_math_bits_deBruijn32tab), ("math/bits.deBruijn64tab", laid_math_bits_deBruijn64tab), ("internal/strconv.uint64pow10", laid_internal_strconv_uint64pow10)], narrowed := true }
def TightUptoSaid : Prop := tightUptoRow.holds Tryz.pinned (OpenSpec.upto tightSpec)

/-- 'rulebookkeep.Sliced', WHERE WHAT IT READS IS OF BULK AT MOST 1048576: true; the input reads as it did. -/
def slicedUptoRow : OpenClaim := { program := "ytmoeoppbmhfbpaagreatdoor", sum := "55bd6d0bb0434ac1f933a12182af757cec02985b33b11564f4b8372b46c7715e", func := "rulebook/rulebookkeep.Sliced", spec := "sliced", recurses := true, named := ["internal/strconv.uint64pow10", "math/bits.deBruijn32tab", "math/bits.deBruijn64tab"], apart := false, laid := [("math/bits.deBruijn32tab", laid_math_bits_deBruijn32tab), ("math/bits.deBruijn64tab", laid_math_bits_deBruijn64tab), ("internal/strconv.uint64pow10", laid_internal_strconv_uint64pow10)], narrowed := true }
def SlicedUptoSaid : Prop := slicedUptoRow.holds Tryz.pinned (OpenSpec.upto slicedSpec)

end Rows
end Go.Proofs.YtmoeoppbmhfbpaaGreatDoor
