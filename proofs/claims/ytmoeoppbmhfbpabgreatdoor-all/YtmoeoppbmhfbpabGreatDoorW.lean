import Derived.Test.YtmoeoppbmhfbpabGreatDoorUa
import Derived.Test.YtmoeoppbmhfbpabGreatDoorV
set_option maxHeartbeats 64000000
set_option maxRecDepth 100000
set_option linter.all false
open List
open List renaming length->Z
namespace Go.Proofs.YtmoeoppbmhfbpabGreatDoorJ
open Go.Abs Tryz
def all_spec (l:List iR)(cs ids)(i:r EO l cs)(f:Z l<=9223372036854775807)(j:∀o∈l,o.n<=9223372036854775807)(a):ni 9 [sl ids (Z l) cs] a λx b=>x=my true/\W a b:=by
 have g:Plays 1 7 l:=λo e n k c d a=>by
  obtain h|h|h|h|h|h|h:o.kind=1\/o.kind=2\/o.kind=3\/o.kind=4\/o.kind=5\/o.kind=6\/o.kind=7:=L
  exact Aue o h c d a;exact Aud o h c d a;exact Aqv o h c d a;exact Awd o h c d a;exact Auc o h c d a;exact Aqw o h c d a;exact plays_opt o h (j o e) c d a
 refine wl Tryz.func9 ?_;refine mt (upto_spec l cs ids 1 7 i f g) ?_;rintro yb ya _ _ ⟨rfl,b⟩;refine X ?_;exact⟨_,rfl,rfl⟩
end Go.Proofs.YtmoeoppbmhfbpabGreatDoorJ
