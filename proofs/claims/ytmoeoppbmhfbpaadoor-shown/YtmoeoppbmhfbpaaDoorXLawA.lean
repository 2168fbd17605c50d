import Derived.Test.YtmoeoppbmhfbpaaDoorXProgR
import Derived.ProofKit
import Derived.OpenShut
import Derived.Below
import Derived.Carry
import Derived.Deep.Slices
/- The law: Checks. -/
namespace Go.Proofs.YtmoeoppbmhfbpaaDoorX
open Go.Abs
set_option linter.unusedSimpArgs false
set_option linter.unusedVariables false
set_option maxRecDepth 100000

/- From the abstract machine to the row: a script that came in. -/
open Go.RowKit (Below)

def st0 : St := { obj := fun _ => [], nobj := 0, top := fun _ => 0, ntop := 0, ver := fun _ => 0 }
def gh0 (W : World) : Gh := { blk := fun _ => 0, cur := fun _ => 0, cap := fun _ => 0, siz := fun _ => 0, per := fun b _ => b < W.heap.size, base := W.heap.size, w0 := W }
theorem inv0 (W : World) (hy : Abs.Hyp W.heap.size W) : Abs.Inv (gh0 W) st0 W :=
  ⟨fun o h => absurd h (Nat.not_lt_zero _), fun o o' h => absurd h (Nat.not_lt_zero _), fun k h => absurd h (Nat.not_lt_zero _), fun k k' h => absurd h (Nat.not_lt_zero _), fun o k h => absurd h (Nat.not_lt_zero _),
   fun b off h => h, fun b off h => h, Below.refl _ _, Nat.le_refl _, hy⟩
end Go.Proofs.YtmoeoppbmhfbpaaDoorX
