import Derived.Test.YtmoeoppbmhfbpabGreatDoorProg
import Derived.Test.YtmoeoppbmhfbpabGreatDoorJAbsWp
import Derived.KernelRfl
set_option maxRecDepth 100000
set_option linter.all false
open List renaming length->Z
namespace Go.Abs
abbrev ic (n:Int):AV:=sc (.int .i64 n)
open Go.Proofs
abbrev my (b:Bool):AV:=sc (.bool b)
abbrev ni:=AF Tryz.prog
def nk {p:Prop}(h:p:=by simp):p:=h
def nn {p q:Prop}(h:p)(w:PLift p->q:=by intro w;simpa using w.down):q:=w ⟨h⟩
def nq {p:Prop}(h:p:=by kernel_rfl):p:=h
def nr {p:Prop}(h:p:=by decide):p:=h
def nu {p:Prop}(h:p:=by assumption):p:=h
def nv (n m:Nat):Array Bool:=((List.range n).map m.testBit).toArray
def SK:J3 Tryz.prog 3=some (false,1):=nq
def TH:J3 Tryz.prog 4=some (false,1):=nq
def TG:J3 Tryz.prog 9=some (false,1):=nq
def PW:J3 Tryz.prog 42=some (false,1):=nq
def PV:J3 Tryz.prog 26=some (true,6):=nq
def QP:J3 Tryz.prog 60=some (false,1):=nq
def QO:J3 Tryz.prog 62=some (true,2):=nq
def QM:J3 Tryz.prog 72=some (false,1):=nq
def QL:J3 Tryz.prog 75=some (false,1):=nq
def QK:J3 Tryz.prog 77=some (true,3):=nq
def QJ:J3 Tryz.prog 120=some (false,1):=nq
def QI:J3 Tryz.prog 122=some (true,2):=nq
def QH:J3 Tryz.prog 123=some (false,1):=nq
def QG:J3 Tryz.prog 125=some (true,4):=nq
def uG:J3 Tryz.prog 151=some (true,2):=nq
def uF:J3 Tryz.prog 154=some (true,78):=nq
def uE:J3 Tryz.prog 113=some (true,3):=nq
def uD:J3 Tryz.prog 138=some (false,1):=nq
def uC:J3 Tryz.prog 141=some (true,3):=nq
def uB:J3 Tryz.prog 101=some (false,1):=nq
def uA:J3 Tryz.prog 108=some (true,3):=nq
def tZ:J3 Tryz.prog 110=some (true,5):=nq
def tY:J3 Tryz.prog 198=some (true,3):=nq
def tX:J3 Tryz.prog 189=some (false,1):=nq
def tW:J3 Tryz.prog 191=some (true,4):=nq
def tV:J3 Tryz.prog 227=some (false,1):=nq
def tU:J3 Tryz.prog 239=some (true,3):=nq
def tT:J3 Tryz.prog 220=some (true,256):=nq
def jN:Gu Tryz.prog 26=some [Value.int IntKind.i64 (0),Value.int IntKind.i64 (0),Value.int IntKind.i64 (0),Value.string ⟨#[]⟩,Value.string ⟨#[]⟩,Value.string ⟨#[]⟩]:=nq
def jM:Gu Tryz.prog 62=some [Value.slice none 0 0,Value.slice none 0 0]:=nq
def jL:Gu Tryz.prog 77=some [Value.slice none 0 0,Value.int IntKind.i64 (0),Value.int IntKind.i64 (0)]:=nq
def jK:Gu Tryz.prog 122=some [Value.int IntKind.i64 (0),Value.slice none 0 0]:=nq
def jJ:Gu Tryz.prog 125=some [Value.bool false,Value.int IntKind.i64 (0),Value.slice none 0 0,Value.slice none 0 0]:=nq
def cC:Gu Tryz.prog 151=some [Value.bool false,Value.int IntKind.i64 (0)]:=nq
def PU:List Value:=List.replicate 26 (.bool false)++(List.replicate 26 [Value.bool false,Value.int .i64 0]).flatten
def cB:Gu Tryz.prog 154=some PU:=nq
def bZ:Gu Tryz.prog 113=some [Value.string ⟨#[]⟩,Value.int IntKind.i64 (0),Value.slice none 0 0]:=nq
def bX:Gu Tryz.prog 141=some [Value.int IntKind.i64 (0),Value.int IntKind.i64 (0),Value.int IntKind.i64 (0)]:=nq
def bW:Gu Tryz.prog 108=some [Value.bool false,Value.string ⟨#[]⟩,Value.slice none 0 0]:=nq
def bV:Gu Tryz.prog 110=some [Value.bool false,Value.bool false,Value.string ⟨#[]⟩,Value.slice none 0 0,Value.slice none 0 0]:=nq
def bU:Gu Tryz.prog 198=some [Value.bool false,Value.int IntKind.i64 (0),Value.slice none 0 0]:=nq
def bS:Gu Tryz.prog 191=some [Value.int IntKind.i64 (0),Value.slice none 0 0,Value.slice none 0 0,Value.slice none 0 0]:=nq
def bR:Gu Tryz.prog 239=some [Value.int IntKind.i64 (0),Value.slice none 0 0,Value.slice none 0 0]:=nq
def bQ:Gu Tryz.prog 220=some (zV 256 (Value.bool false)):=nq
def bP:Gu Tryz.prog 273=some (zV 1026 (Value.bool false)):=nq
def bN:Gu Tryz.prog 304=some (zV 1026 (Value.int IntKind.i64 (0))):=nq
def kP:Ff Tryz.prog 22=some (6,72):=nq
def kO:Ff Tryz.prog 48=some (1,8):=nq
def kN:Ff Tryz.prog 42=some (1,16):=nq
def kM:Ff Tryz.prog 60=some (4,64):=nq
def kL:Ff Tryz.prog 72=some (2,32):=nq
def kK:Ff Tryz.prog 75=some (1,24):=nq
def kJ:Ff Tryz.prog 120=some (2,16):=nq
def kI:Ff Tryz.prog 123=some (3,40):=nq
def dA:Ff Tryz.prog 138=some (3,24):=nq
def cZ:Ff Tryz.prog 101=some (3,48):=nq
def cY:Ff Tryz.prog 96=some (5,80):=nq
def cX:Ff Tryz.prog 160=some (2,32):=nq
def cW:Ff Tryz.prog 189=some (3,56):=nq
def cV:Ff Tryz.prog 225=some (1,24):=nq
def cU:Ff Tryz.prog 227=some (1,1):=nq
def uS:Up Tryz.prog 149=some (26,1):=nq
def kY:Up Tryz.prog 152=some (26,2):=nq
def kX:Up Tryz.prog 141=some (3,1):=nq
def kW:Up Tryz.prog 218=some (16,1):=nq
def kV:Up Tryz.prog 220=some (16,16):=nq
def kU:Up Tryz.prog 273=some (1026,1):=nq
def kT:Up Tryz.prog 252=some (4096,1):=nq
def kR:Up Tryz.prog 304=some (1026,1):=nq
def uK:Lp Tryz.prog 62=some ([Value.slice none 0 0,Value.slice none 0 0],[(0,1),(1,1)]):=nq
def uJ:Lp Tryz.prog 77=some ([Value.slice none 0 0,Value.int IntKind.i64 (0),Value.int IntKind.i64 (0)],[(0,1),(1,1),(2,1)]):=nq
def uI:Lp Tryz.prog 122=some ([Value.int IntKind.i64 (0),Value.slice none 0 0],[(0,1),(1,1)]):=nq
def uH:Lp Tryz.prog 125=some ([Value.bool false,Value.int IntKind.i64 (0),Value.slice none 0 0,Value.slice none 0 0],[(0,1),(1,2),(3,1)]):=nq
def kE:Lp Tryz.prog 151=some ([Value.bool false,Value.int IntKind.i64 (0)],[(0,1),(1,1)]):=nq
def kD:Lp Tryz.prog 154=some (PU,[(0,26),(26,52)]):=nq
def kC:Lp Tryz.prog 113=some ([Value.string ⟨#[]⟩,Value.int IntKind.i64 (0),Value.slice none 0 0],[(0,1),(1,1),(2,1)]):=nq
def kB:Lp Tryz.prog 141=some ([Value.int IntKind.i64 (0),Value.int IntKind.i64 (0),Value.int IntKind.i64 (0)],[(0,1),(1,1),(2,1)]):=nq
def kA:Lp Tryz.prog 108=some ([Value.bool false,Value.string ⟨#[]⟩,Value.slice none 0 0],[(0,1),(1,1),(2,1)]):=nq
def jZ:Lp Tryz.prog 110=some ([Value.bool false,Value.bool false,Value.string ⟨#[]⟩,Value.slice none 0 0,Value.slice none 0 0],[(0,1),(1,3),(4,1)]):=nq
def jY:Lp Tryz.prog 162=some ([Value.string ⟨#[]⟩,Value.string ⟨#[]⟩],[(0,1),(1,1)]):=nq
def jX:Lp Tryz.prog 198=some ([Value.bool false,Value.int IntKind.i64 (0),Value.slice none 0 0],[(0,1),(1,2)]):=nq
def jW:Lp Tryz.prog 191=some ([Value.int IntKind.i64 (0),Value.slice none 0 0,Value.slice none 0 0,Value.slice none 0 0],[(0,2),(2,1),(3,1)]):=nq
def jV:Lp Tryz.prog 239=some ([Value.int IntKind.i64 (0),Value.slice none 0 0,Value.slice none 0 0],[(0,2),(2,1)]):=nq
def jU:Lp Tryz.prog 210=some ([Value.int IntKind.i64 (0),Value.int IntKind.i64 (0),Value.int IntKind.i64 (0),Value.int IntKind.i64 (0),Value.int IntKind.i64 (0),Value.int IntKind.i64 (0),Value.bool false],[(0,1),(1,1),(2,1),(3,1),(4,1),(5,1),(6,1)]):=nq
def OC:List Value:=[Value.slice none 0 0,Value.bool false,Value.int .i64 0,Value.slice none 0 0]++List.replicate 4096 (Value.slice none 0 0)
def jT:Lp Tryz.prog 254=some (OC,[(0,1),(1,1),(2,1),(3,1),(4,4096)]):=nq
def S3:P0 Tryz.prog 48=some (1,8,[Value.int IntKind.i64 (0)]):=nq
def S1:P0 Tryz.prog 42=some (1,16,[Value.string ⟨#[]⟩]):=nq
def Mw:P0 Tryz.prog 60=some (4,64,[Value.bool false,Value.int IntKind.i64 (0),Value.slice none 0 0,Value.slice none 0 0]):=nq
def F5:P0 Tryz.prog 72=some (2,32,[Value.int IntKind.i64 (0),Value.slice none 0 0]):=nq
def fP:P0 Tryz.prog 75=some (1,24,[Value.slice none 0 0]):=nq
def Gl:P0 Tryz.prog 120=some (2,16,[Value.bool false,Value.int IntKind.i64 (0)]):=nq
def G5:P0 Tryz.prog 123=some (3,40,[Value.bool false,Value.int IntKind.i64 (0),Value.slice none 0 0]):=nq
def G6:P0 Tryz.prog 138=some (3,24,[Value.int IntKind.i64 (0),Value.int IntKind.i64 (0),Value.int IntKind.i64 (0)]):=nq
def It:P0 Tryz.prog 101=some (3,48,[Value.bool false,Value.string ⟨#[]⟩,Value.slice none 0 0]):=nq
def Q8:P0 Tryz.prog 96=some (5,80,[Value.bool false,Value.bool false,Value.string ⟨#[]⟩,Value.slice none 0 0,Value.slice none 0 0]):=nq
def U6:P0 Tryz.prog 160=some (2,32,[Value.string ⟨#[]⟩,Value.string ⟨#[]⟩]):=nq
def Ee:P0 Tryz.prog 189=some (3,56,[Value.int IntKind.i64 (0),Value.slice none 0 0,Value.slice none 0 0]):=nq
def U5:P0 Tryz.prog 87=some (1,1,[Value.int IntKind.u8 (0)]):=nq
def Q7:P0 Tryz.prog 225=some (1,24,[Value.slice none 0 0]):=nq
def U4:P0 Tryz.prog 227=some (1,1,[Value.bool false]):=nq
def cS:Dm Tryz.prog 26 0=some (0,false,1):=nq
def cR:Dm Tryz.prog 26 1=some (1,false,1):=nq
def cQ:Dm Tryz.prog 26 3=some (3,false,1):=nq
def cP:Dm Tryz.prog 26 4=some (4,false,1):=nq
def cO:Dm Tryz.prog 62 0=some (0,false,1):=nq
def cN:Dm Tryz.prog 62 1=some (1,false,1):=nq
def cM:Dm Tryz.prog 77 0=some (0,false,1):=nq
def cL:Dm Tryz.prog 77 1=some (1,false,1):=nq
def cK:Dm Tryz.prog 77 2=some (2,false,1):=nq
def cJ:Dm Tryz.prog 122 0=some (0,false,1):=nq
def cI:Dm Tryz.prog 122 1=some (1,false,1):=nq
def cH:Dm Tryz.prog 125 0=some (0,false,1):=nq
def cG:Dm Tryz.prog 125 1=some (1,true,2):=nq
def cF:Dm Tryz.prog 125 2=some (3,false,1):=nq
def Wv:Dm Tryz.prog 151 0=some (0,false,1):=nq
def Wu:Dm Tryz.prog 151 1=some (1,false,1):=nq
def Wt:Dm Tryz.prog 154 0=some (0,true,26):=nq
def Ws:Dm Tryz.prog 154 1=some (26,true,52):=nq
def Wr:Dm Tryz.prog 113 0=some (0,false,1):=nq
def Wq:Dm Tryz.prog 113 1=some (1,false,1):=nq
def Wp:Dm Tryz.prog 113 2=some (2,false,1):=nq
def Wo:Dm Tryz.prog 108 0=some (0,false,1):=nq
def Wn:Dm Tryz.prog 108 1=some (1,false,1):=nq
def Wm:Dm Tryz.prog 108 2=some (2,false,1):=nq
def Wl:Dm Tryz.prog 110 0=some (0,false,1):=nq
def Wk:Dm Tryz.prog 110 1=some (1,true,3):=nq
def Wj:Dm Tryz.prog 110 2=some (4,false,1):=nq
def Wi:Dm Tryz.prog 162 0=some (0,false,1):=nq
def Wh:Dm Tryz.prog 162 1=some (1,false,1):=nq
def Wg:Dm Tryz.prog 198 0=some (0,false,1):=nq
def We:Dm Tryz.prog 198 1=some (1,true,2):=nq
def Wd:Dm Tryz.prog 191 0=some (0,true,2):=nq
def Wc:Dm Tryz.prog 191 1=some (2,false,1):=nq
def Wb:Dm Tryz.prog 191 2=some (3,false,1):=nq
def Wa:Dm Tryz.prog 239 0=some (0,true,2):=nq
def V9:Dm Tryz.prog 239 1=some (2,false,1):=nq
def V8:Dm Tryz.prog 210 0=some (0,false,1):=nq
def V7:Dm Tryz.prog 210 1=some (1,false,1):=nq
def V6:Dm Tryz.prog 210 2=some (2,false,1):=nq
def V5:Dm Tryz.prog 210 3=some (3,false,1):=nq
def V4:Dm Tryz.prog 210 4=some (4,false,1):=nq
def V3:Dm Tryz.prog 210 5=some (5,false,1):=nq
def V2:Dm Tryz.prog 210 6=some (6,false,1):=nq
def V1:Dm Tryz.prog 254 0=some (0,false,1):=nq
def V0:Dm Tryz.prog 254 1=some (1,false,1):=nq
def Vz:Dm Tryz.prog 254 2=some (2,false,1):=nq
def Vy:Dm Tryz.prog 254 3=some (3,false,1):=nq
def Vx:Dm Tryz.prog 254 4=some (4,true,4096):=nq
def cE:kG Tryz.prog 151=some .i64:=nq
def cD:jP Tryz.prog 141=true:=nq
def Ag:Tryz.prog.follows .mixedOrders=true:=nq
def TX:type_of% @Tryz.underlying3:=Tryz.underlying3
def TY:type_of% @Tryz.underlying4:=Tryz.underlying4
def TZ:type_of% @Tryz.underlying5:=Tryz.underlying5
def UA:type_of% @Tryz.underlying9:=Tryz.underlying9
def TO:type_of% @Tryz.underlying123:=Tryz.underlying123
def TD:type_of% @Tryz.underlying87:=Tryz.underlying87
def tS:J3 Tryz.prog 260=some (true,104):=nq
def kS:Up Tryz.prog 260=some (52,2):=nq
def PT:List Value:=(List.replicate 52 [Value.bool false,Value.int .i64 0]).flatten
def mj:List (Nat×Nat):=(List.range 52).map λk=>(k*2,2)
def bO:Gu Tryz.prog 260=some PT:=nq
def jS:Lp Tryz.prog 260=some (PT,mj):=nq
def Xv {a b:Prop}(x:a)(y:b):a/\b:=⟨x,y⟩
def BF:type_of% (Xv @SK<|Xv @TH<|Xv @TG<|Xv @PW<|Xv @PV<|Xv @QP<|Xv @QO<|Xv @QM<|Xv @QL<|Xv @QK<|Xv @QJ<|Xv @QI<|Xv @QH<|Xv @QG<|Xv @uG<|Xv @uF<|Xv @uE<|Xv @uD<|Xv @uC<|Xv @uB<|Xv @uA<|Xv @tZ<|Xv @tY<|Xv @tX<|Xv @tW<|Xv @tV<|Xv @tU<|Xv @tT<|Xv @jN<|Xv @jM<|Xv @jL<|Xv @jK<|Xv @jJ<|Xv @cC<|Xv @cB<|Xv @bZ<|Xv @bX<|Xv @bW<|Xv @bV<|Xv @bU<|Xv @bS<|Xv @bR<|Xv @bQ<|Xv @bP<|Xv @bN<|Xv @kP<|Xv @kO<|Xv @kN<|Xv @kM<|Xv @kL<|Xv @kK<|Xv @kJ<|Xv @kI<|Xv @dA<|Xv @cZ<|Xv @cY<|Xv @cX<|Xv @cW<|Xv @cV<|Xv @cU<|Xv @uS<|Xv @kY<|Xv @kX<|Xv @kW<|Xv @kV<|Xv @kU<|Xv @kT<|Xv @kR<|Xv @uK<|Xv @uJ<|Xv @uI<|Xv @uH<|Xv @kE<|Xv @kD<|Xv @kC<|Xv @kB<|Xv @kA<|Xv @jZ<|Xv @jY<|Xv @jX<|Xv @jW<|Xv @jV<|Xv @jU<|Xv @jT<|Xv @S3<|Xv @S1<|Xv @Mw<|Xv @F5<|Xv @fP<|Xv @Gl<|Xv @G5<|Xv @G6<|Xv @It<|Xv @Q8<|Xv @U6<|Xv @Ee<|Xv @U5<|Xv @Q7<|Xv @U4<|Xv @cS<|Xv @cR<|Xv @cQ<|Xv @cP<|Xv @cO<|Xv @cN<|Xv @cM<|Xv @cL<|Xv @cK<|Xv @cJ<|Xv @cI<|Xv @cH<|Xv @cG<|Xv @cF<|Xv @Wv<|Xv @Wu<|Xv @Wt<|Xv @Ws<|Xv @Wr<|Xv @Wq<|Xv @Wp<|Xv @Wo<|Xv @Wn<|Xv @Wm<|Xv @Wl<|Xv @Wk<|Xv @Wj<|Xv @Wi<|Xv @Wh<|Xv @Wg<|Xv @We<|Xv @Wd<|Xv @Wc<|Xv @Wb<|Xv @Wa<|Xv @V9<|Xv @V8<|Xv @V7<|Xv @V6<|Xv @V5<|Xv @V4<|Xv @V3<|Xv @V2<|Xv @V1<|Xv @V0<|Xv @Vz<|Xv @Vy<|Xv @Vx<|Xv @cE<|Xv @cD<|Xv @TX<|Xv @TY<|Xv @TZ<|Xv @UA<|Xv @TO<|Xv @TD<|Xv @tS<|Xv @kS<|Xv @bO<|@jS):=Xv @SK<|Xv @TH<|Xv @TG<|Xv @PW<|Xv @PV<|Xv @QP<|Xv @QO<|Xv @QM<|Xv @QL<|Xv @QK<|Xv @QJ<|Xv @QI<|Xv @QH<|Xv @QG<|Xv @uG<|Xv @uF<|Xv @uE<|Xv @uD<|Xv @uC<|Xv @uB<|Xv @uA<|Xv @tZ<|Xv @tY<|Xv @tX<|Xv @tW<|Xv @tV<|Xv @tU<|Xv @tT<|Xv @jN<|Xv @jM<|Xv @jL<|Xv @jK<|Xv @jJ<|Xv @cC<|Xv @cB<|Xv @bZ<|Xv @bX<|Xv @bW<|Xv @bV<|Xv @bU<|Xv @bS<|Xv @bR<|Xv @bQ<|Xv @bP<|Xv @bN<|Xv @kP<|Xv @kO<|Xv @kN<|Xv @kM<|Xv @kL<|Xv @kK<|Xv @kJ<|Xv @kI<|Xv @dA<|Xv @cZ<|Xv @cY<|Xv @cX<|Xv @cW<|Xv @cV<|Xv @cU<|Xv @uS<|Xv @kY<|Xv @kX<|Xv @kW<|Xv @kV<|Xv @kU<|Xv @kT<|Xv @kR<|Xv @uK<|Xv @uJ<|Xv @uI<|Xv @uH<|Xv @kE<|Xv @kD<|Xv @kC<|Xv @kB<|Xv @kA<|Xv @jZ<|Xv @jY<|Xv @jX<|Xv @jW<|Xv @jV<|Xv @jU<|Xv @jT<|Xv @S3<|Xv @S1<|Xv @Mw<|Xv @F5<|Xv @fP<|Xv @Gl<|Xv @G5<|Xv @G6<|Xv @It<|Xv @Q8<|Xv @U6<|Xv @Ee<|Xv @U5<|Xv @Q7<|Xv @U4<|Xv @cS<|Xv @cR<|Xv @cQ<|Xv @cP<|Xv @cO<|Xv @cN<|Xv @cM<|Xv @cL<|Xv @cK<|Xv @cJ<|Xv @cI<|Xv @cH<|Xv @cG<|Xv @cF<|Xv @Wv<|Xv @Wu<|Xv @Wt<|Xv @Ws<|Xv @Wr<|Xv @Wq<|Xv @Wp<|Xv @Wo<|Xv @Wn<|Xv @Wm<|Xv @Wl<|Xv @Wk<|Xv @Wj<|Xv @Wi<|Xv @Wh<|Xv @Wg<|Xv @We<|Xv @Wd<|Xv @Wc<|Xv @Wb<|Xv @Wa<|Xv @V9<|Xv @V8<|Xv @V7<|Xv @V6<|Xv @V5<|Xv @V4<|Xv @V3<|Xv @V2<|Xv @V1<|Xv @V0<|Xv @Vz<|Xv @Vy<|Xv @Vx<|Xv @cE<|Xv @cD<|Xv @TX<|Xv @TY<|Xv @TZ<|Xv @UA<|Xv @TO<|Xv @TD<|Xv @tS<|Xv @kS<|Xv @bO<|@jS
def Xa:=@Iy
def Xb:=@fF
def Xc:=@Sj
def Xd:=@oJ
def Xe:=@oL
def Xf:=@vX
def Xg:=@SE
def Xh:=@fI
def Xi:=@AF.mono
def Xj {A F D a i}{b:Prop}(c:Kept A F D i a:=by with_unfolding_all first|exact kept_refl|exact A3 rfl|exact Al (by assumption)):(b)->Kept A F D i a/\b:=λh=>⟨c,h⟩
def Xn {p q:Prop}(e:p=q:=by ((try simp only[upd,↓reduceIte,Nat.reduceEqDiff,B2])<;>(try simp only[*,reduceCtorEq,NJ,NK]))<;>rfl):p=q:=e
def Xo {p q:Prop}(e:p=q:=by (simp only[B3])<;>rfl):p->q:=e.mp
def Xp {p:Prop}(e:False:=by first|contradiction|omega|(simp at h<;>fail)):p:=e.elim
def Xk {P n Q s D c x y t}{q r u v:Prop}(b:BR s c=sc (.bool t):=by with_unfolding_all rfl)(a:(t=true)=q:=by exact Xn)(e2:(t=false)=r:=by exact Xn)(d:q->u:=by first|exact Xo|exact λ_=>True.intro)(e:r->v:=by first|exact Xo|exact λ_=>True.intro):(q->u->Mn P n x Q s D)->(r->v->Mn P n y Q s D)->Mn P n (.cond c x y) Q s D:=λg f=>Zl b (λh=>g (a.mp h) (d (a.mp h))) (λh=>f (e2.mp h) (e (e2.mp h)))
def Xl {P o s D k t}{q r u v:Prop}(a:(t=true)=q:=by exact Xn)(e2:(t=false)=r:=by exact Xn)(b:q->u:=by first|exact Xo|exact λ_=>True.intro)(c:r->v:=by first|exact Xo|exact λ_=>True.intro):(q->u->DR P o s D (NY k s o.dst))->(r->v->k (BC s o.dst (sc undef)) D)->gd P o s D k (some t):=λe d=>VO (λh=>EC.mpr (e (a.mp h) (b (a.mp h)))) (λh=>DG.mpr (d (e2.mp h) (c (e2.mp h))))
def Xm {P o s F σ0 k t}{q r u v:Prop}(a:(t=true)=q:=by exact Xn)(e2:(t=false)=r:=by exact Xn)(b:q->u:=by first|exact Xo|exact λ_=>True.intro)(c:r->v:=by first|exact Xo|exact λ_=>True.intro):(q->u->match aq P s σ0 o.op with
   |some x=>(∀p,LZ s o.op=some p->F p)/\k (BC s o.dst x)
   |none=>False)->(r->v->k (BC s o.dst (sc undef)))->gt P o s F σ0 k (some t):=λe d=>VN (λh=>ED.mpr (e (a.mp h) (b (a.mp h)))) (λh=>DI.mpr (d (e2.mp h) (c (e2.mp h))))
def Xq {p:Prop}(h:p:=by first|rfl|assumption|omega|(simp only[Aa,Ac,Az];omega)|(simp;omega)|(simp<;>fail)):p:=h
def Xr {p q:Prop}(e:p=q:=by (simp (maxSteps:=3000000) (disch:=(first|omega|(simp only[B1, *];omega))) only[↓nF,↓eE,B0,B4,Li,undef,aq,al,cst,cst1,acells,flat,behind,zR,oY,Z0,uP,OH,MX,LZ,vH,Value.cells,Value.oneCell',Int.reduceToNat,↓reduceIte,Nat.reduceLT,Nat.reduceEqDiff,reduceCtorEq,Nat.reduceAdd,Nat.reduceMul,Nat.reduceLeDiff,BF, *])<;>rfl):(q)->p:=λh=>e.mpr h
def Xw {p q:Prop}(e:p=q:=by (simp (maxSteps:=3000000) (disch:=(first|omega|(simp only[AX,B1, *];omega))) only[AX,↓nF,↓eE,B0,B4,Li,undef,aq,al,cst,cst1,acells,flat,behind,zR,oY,Z0,uP,OH,MX,LZ,vH,Value.cells,Value.oneCell',Int.reduceToNat,↓reduceIte,Nat.reduceLT,Nat.reduceEqDiff,reduceCtorEq,Nat.reduceAdd,Nat.reduceMul,Nat.reduceLeDiff,BF, *])<;>rfl):(q)->p:=λh=>e.mpr h
def Xs {a b}(h:AD a b:=by repeat (first|exact AD.refl _|assumption|(refine AD.put ?_ (by first|omega|(simp only[Aa,Ac,Az, *];omega)) _)|(refine AD.new ?_ _)|(refine AD.lay ?_ _)|(refine AD.trans ?_ (by assumption)))):AD a b:=h
def Xt {t z b f σ0 D id e n m s xs c K}
  
  (o:P0 Tryz.prog t=some (z,b,f):=by first|exact S3|exact S1|exact Mw|exact F5|exact fP|exact Gl|exact G5|exact G6|exact It|exact Q8|exact U6|exact Ee|exact U5|exact Q7|exact U4) (g:AD σ0 D:=by assumption) (r:Own σ0 D id n:=by assumption)
  (u:0<z:=by decide) (d:Z f=z:=by with_unfolding_all rfl) (j:Z xs=n*z:=by first|assumption|(simp<;>fail)|(simp;omega)|omega) (l:Z c=m*z:=by with_unfolding_all rfl) (p:c.all flat=true:=by with_unfolding_all rfl) (k:0<m:=by decide) (q:(n+m)*b<=140737488355328:=by omega) (i:n+m<=1099511627776:=by omega):(∀id' a,Own σ0 a id' (n+m)->AD σ0 a->a.C=D.C->a.B=D.B->a.ver=D.ver->D.D<a.D->K (sl id' (n+m) (xs++c)) a)->Jx Tryz.prog t t (sl id n xs) (sl e m c) (D.lay s) K:=λh=>Bo o g r u d j l p k q i h
def Xu {t z b e D d m a K}(k:P0 Tryz.prog t=some (z,b,e):=by first|exact S3|exact S1|exact Mw|exact F5|exact fP|exact Gl|exact G5|exact G6|exact It|exact Q8|exact U6|exact Ee|exact U5|exact Q7|exact U4)(c:Z e=z:=by with_unfolding_all rfl)
  (n:0<z:=by decide) (i:Z a=m*z:=by with_unfolding_all rfl) (j:a.all flat=true:=by with_unfolding_all rfl) (g:0<m:=by decide) (l:m*b<=140737488355328:=by omega) (f:m<=1099511627776:=by omega):(K (sl (D.D+2) m a) (D.lay m))->Jx Tryz.prog t t nilS (sl d m a) D K:=λh=>WS k c n i j g l f h
def Z1 {p q:Prop}(h:p)(w:p->q:=by with_reducible first|exact Xa|exact Xb|exact Xd|exact Xe|exact Xf|exact Xu):q:=w h
def Z2 {a b c:Prop}(d:a)(h2:b)(w:a->b->c:=by with_reducible first|exact Xl|exact Xm|exact Xk):c:=w d h2
def Z3 {p q:Prop}(h:p)(w:p->q:=by first|exact Xr|with_reducible exact Xj):q:=w h
def Z7 {p q:Prop}(h:p)(w:p->q:=by first|exact Xw|with_reducible exact Xj):q:=w h
def Z4 {p q:Prop}(h:p)(w:p->q:=by with_reducible exact ya.o _ _):q:=w h
def Z5 {p q:Prop}(h:p)(w:p->q:=by with_reducible exact Xh):q:=w h
def Z6 {p q:Prop}(h:p)(w:p->q:=by with_reducible exact Xt):q:=w h
def Z8 {p q:Prop}(h:p)(w:p->q:=by with_reducible exact Xc):q:=w h
def Zi {a b c:Prop}(d:a)(h2:b)(w:a->b->c:=by with_reducible exact And.intro):c:=w d h2
def Zt:True:=⟨⟩
def mr {p q:Prop}(h:p)(w:PLift p->q:=by intro w;(repeat' first|refine Z1 ?_|refine Z8 λyb ya=>?_|refine Z4 ?_;try clear ya yb|refine Z2 ?_ ?_<;>intro h a<;>try exact Xp|refine Z3 ?_|exact Zt|apply ya.o;try clear ya yb);exact w.down):q:=w ⟨h⟩
def mu {p q:Prop}(h:p)(w:PLift p->q:=by intro w;(repeat' first|refine Z1 ?_|refine Z8 λyb ya=>?_|refine Z4 ?_;try clear ya yb|refine Z2 ?_ ?_<;>intro h a<;>try exact Xp|refine Z7 ?_|exact Zt|apply ya.o;try clear ya yb);exact w.down):q:=w ⟨h⟩
def mw {p q:Prop}(h:p)(w:PLift p->q:=by intro w;(repeat' first|refine Z1 ?_|refine Z8 λyb ya=>?_|refine Z4 ?_;try clear ya yb|refine Z2 ?_ ?_<;>intro h a<;>try exact Xp|refine Z3 ?_|exact Zt|apply ya.o;try clear ya yb);revert a h;exact w.down):q:=w ⟨h⟩
def nh {p q:Prop}(h:p)(w:PLift p->q:=by intro w;(repeat' first|refine Z1 ?_|refine Z8 λyb ya=>?_|refine Z4 ?_;try clear ya yb|refine Z2 ?_ ?_<;>intro h a<;>try exact Xp|refine Z3 ?_|exact Zt|apply ya.o;try clear ya yb);revert ya yb;exact w.down):q:=w ⟨h⟩
def mz {p q:Prop}(h:p)(w:PLift p->q:=by intro w;(repeat' first|refine Z1 ?_|refine Z8 λyb ya=>?_|refine Z4 ?_;try clear ya yb|refine Z2 ?_ ?_<;>intro h a<;>try exact Xp|refine Z5 ?_;exact w.down|refine Z3 ?_|exact Zt|apply ya.o;try clear ya yb)):q:=w ⟨h⟩
def m0 {p q:Prop}(h:p)(w:PLift p->q:=by intro w;(repeat' first|refine Z1 ?_|refine Z8 λyb ya=>?_|refine Z4 ?_;try clear ya yb|refine Z2 ?_ ?_<;>intro h a<;>try exact Xp|refine Z5 ?_;revert ya yb;exact w.down|refine Z3 ?_|exact Zt|apply ya.o;try clear ya yb)):q:=w ⟨h⟩
def m4 {p q:Prop}(h:p)(w:PLift p->q:=by intro w;(repeat' first|refine Z1 ?_|refine Z8 λyb ya=>?_|refine Z4 ?_;try clear ya yb|refine Z2 ?_ ?_<;>intro h a<;>try exact Xp|refine Z6 ?_;exact w.down|refine Z3 ?_|exact Zt|apply ya.o;try clear ya yb)):q:=w ⟨h⟩
def m5 {p q:Prop}(h:p)(w:PLift p->q:=by intro w;(repeat' first|refine Z1 ?_|refine Z8 λyb ya=>?_|refine Z4 ?_;try clear ya yb|refine Z2 ?_ ?_<;>intro h a<;>try exact Xp|refine Z6 ?_;revert ya yb;exact w.down|refine Z3 ?_|exact Zt|apply ya.o;try clear ya yb)):q:=w ⟨h⟩
def m6 {p q r:Prop}(h:p)(g:r)(w:PLift p->PLift r->q:=by intro w v;(repeat' first|refine Z1 ?_|refine Z8 λyb ya=>?_|refine Z4 ?_;try clear ya yb|refine Z2 ?_ ?_<;>intro h a<;>try exact Xp|refine Z3 ?_|exact Zt|apply ya.o;try clear ya yb);revert a h;exact w.down;revert a h;exact v.down):q:=w ⟨h⟩ ⟨g⟩
def m7 {q:Prop}(w:q:=by repeat' first|refine Z1 ?_|refine Z8 λyb ya=>?_|refine Z4 ?_;try clear ya yb|refine Z2 ?_ ?_<;>intro h a<;>try exact Xp|refine Z3 ?_|exact Zt|apply ya.o;try clear ya yb):q:=w
def m8 {p:Prop}(h:p:=by (repeat' refine Zi ?_ ?_)<;>first|exact Xq|exact Xs):p:=h
def m9 {p q:Prop}(e:q)(w:q->p:=by intro e;(repeat' refine Zi ?_ ?_)<;>first|exact Xq|exact e|exact Xs):p:=w e
def nf {p q r:Prop}(e:q)(f:r)(w:q->r->p:=by intro e f;(repeat' refine Zi ?_ ?_)<;>first|exact Xq|exact e|exact f|exact Xs):p:=w e f
def ng {p q r s:Prop}(e:q)(f:r)(g:s)(w:q->r->s->p:=by intro e f g;(repeat' refine Zi ?_ ?_)<;>first|exact Xq|exact e|exact f|exact g|exact Xs):p:=w e f g
def zz {p q:Prop}(h:p)(w:PLift p->q:=by intro w;(repeat' first|refine Z1 ?_|refine Z8 λyb ya=>?_|refine Z4 ?_;try clear ya yb|refine Z3 ?_|exact Zt|apply ya.o;try clear ya yb);exact w.down):q:=w ⟨h⟩
def zx {p q:Prop}(h:p)(w:PLift p->q:=by intro w;(repeat' first|refine Z1 ?_|refine Z8 λyb ya=>?_|refine Z4 ?_;try clear ya yb|refine Z7 ?_|exact Zt|apply ya.o;try clear ya yb);exact w.down):q:=w ⟨h⟩
def Z9 {P f b c a D R}(n rs)(k:P.funcs[f]?=some b)(h:Mn P n c (MX P rs R) (AL a) D)(g:b.body=some c:=by rfl)(j:b.name≠ "runtime.NumGoroutine":=by decide)(e:b.ntmps=n:=by rfl)(d:b.results.toList=rs:=by rfl)(i:Z a<=n:=by exact Nat.le_of_ble_eq_true rfl):AF P f a D R:=jv n rs k g j e d i h
def AI {p:Prop}(h:p:=by simp[upd, *]):p:=h
def AG {p:Prop}(h:p:=by simp[upd]):p:=h
def AH {p:Prop}(h:p:=by kernel_rfl):p:=h
def AM {p:Prop}(h:p:=by simp only[Aa];omega):p:=h
def BJ {p:Prop}(h:p:=by simp only[Ac,Aa];omega):p:=h
end Go.Abs
