import Derived.Test.YtmoeoppbmhfbpabGreatDoorProg
import Derived.Test.YtmoeoppbmhfbpabGreatDoorIAbsWp
import Derived.KernelRfl
set_option maxRecDepth 100000
set_option linter.all false
open List renaming length->Z
namespace Go.Abs
abbrev ic (n:Int):AV:=sc (.int .i64 n)
open Go.Proofs
theorem VB:J1 Tryz.prog 3=some (false,1):=by kernel_rfl
theorem TA:J1 Tryz.prog 4=some (false,1):=by kernel_rfl
theorem UA:J1 Tryz.prog 9=some (false,1):=by kernel_rfl
theorem SD:J1 Tryz.prog 42=some (false,1):=by kernel_rfl
theorem UB:J1 Tryz.prog 26=some (true,6):=by kernel_rfl
theorem TP:J1 Tryz.prog 60=some (false,1):=by kernel_rfl
theorem RG:J1 Tryz.prog 62=some (true,2):=by kernel_rfl
theorem UD:J1 Tryz.prog 72=some (false,1):=by kernel_rfl
theorem TW:J1 Tryz.prog 75=some (false,1):=by kernel_rfl
theorem UP:J1 Tryz.prog 77=some (true,3):=by kernel_rfl
theorem uU:J1 Tryz.prog 120=some (false,1):=by kernel_rfl
theorem uT:J1 Tryz.prog 122=some (true,2):=by kernel_rfl
theorem uS:J1 Tryz.prog 123=some (false,1):=by kernel_rfl
theorem uR:J1 Tryz.prog 125=some (true,4):=by kernel_rfl
theorem uO:J1 Tryz.prog 151=some (true,2):=by kernel_rfl
theorem uN:J1 Tryz.prog 154=some (true,78):=by kernel_rfl
theorem uV:J1 Tryz.prog 113=some (true,3):=by kernel_rfl
theorem uQ:J1 Tryz.prog 138=some (false,1):=by kernel_rfl
theorem uP:J1 Tryz.prog 141=some (true,3):=by kernel_rfl
theorem uY:J1 Tryz.prog 101=some (false,1):=by kernel_rfl
theorem uX:J1 Tryz.prog 108=some (true,3):=by kernel_rfl
theorem uW:J1 Tryz.prog 110=some (true,5):=by kernel_rfl
theorem uJ:J1 Tryz.prog 198=some (true,3):=by kernel_rfl
theorem uM:J1 Tryz.prog 189=some (false,1):=by kernel_rfl
theorem uK:J1 Tryz.prog 191=some (true,4):=by kernel_rfl
theorem uG:J1 Tryz.prog 227=some (false,1):=by kernel_rfl
theorem uF:J1 Tryz.prog 239=some (true,3):=by kernel_rfl
theorem uI:J1 Tryz.prog 220=some (true,256):=by kernel_rfl
theorem uH:J1 Tryz.prog 222=some (true,16):=by kernel_rfl
theorem jF:Gk Tryz.prog 26=some [Value.int IntKind.i64 (0),Value.int IntKind.i64 (0),Value.int IntKind.i64 (0),Value.string ⟨#[]⟩,Value.string ⟨#[]⟩,Value.string ⟨#[]⟩]:=by kernel_rfl
theorem jE:Gk Tryz.prog 62=some [Value.slice none 0 0,Value.slice none 0 0]:=by kernel_rfl
theorem jD:Gk Tryz.prog 77=some [Value.slice none 0 0,Value.int IntKind.i64 (0),Value.int IntKind.i64 (0)]:=by kernel_rfl
theorem bH:Gk Tryz.prog 122=some [Value.int IntKind.i64 (0),Value.slice none 0 0]:=by kernel_rfl
theorem bG:Gk Tryz.prog 125=some [Value.bool false,Value.int IntKind.i64 (0),Value.slice none 0 0,Value.slice none 0 0]:=by kernel_rfl
theorem bE:Gk Tryz.prog 151=some [Value.bool false,Value.int IntKind.i64 (0)]:=by kernel_rfl
def QJ:List Value:=List.replicate 26 (.bool false)++(List.replicate 26 [Value.bool false,Value.int .i64 0]).flatten
theorem bD:Gk Tryz.prog 154=some QJ:=by kernel_rfl
theorem bI:Gk Tryz.prog 113=some [Value.string ⟨#[]⟩,Value.int IntKind.i64 (0),Value.slice none 0 0]:=by kernel_rfl
theorem bF:Gk Tryz.prog 141=some [Value.int IntKind.i64 (0),Value.int IntKind.i64 (0),Value.int IntKind.i64 (0)]:=by kernel_rfl
theorem bK:Gk Tryz.prog 108=some [Value.bool false,Value.string ⟨#[]⟩,Value.slice none 0 0]:=by kernel_rfl
theorem bJ:Gk Tryz.prog 110=some [Value.bool false,Value.bool false,Value.string ⟨#[]⟩,Value.slice none 0 0,Value.slice none 0 0]:=by kernel_rfl
theorem bB:Gk Tryz.prog 198=some [Value.bool false,Value.int IntKind.i64 (0),Value.slice none 0 0]:=by kernel_rfl
theorem bC:Gk Tryz.prog 191=some [Value.int IntKind.i64 (0),Value.slice none 0 0,Value.slice none 0 0,Value.slice none 0 0]:=by kernel_rfl
theorem aY:Gk Tryz.prog 239=some [Value.int IntKind.i64 (0),Value.slice none 0 0,Value.slice none 0 0]:=by kernel_rfl
theorem bA:Gk Tryz.prog 220=some (NS 256 (Value.bool false)):=by kernel_rfl
theorem aZ:Gk Tryz.prog 222=some [Value.bool false,Value.bool false,Value.bool false,Value.bool false,Value.bool false,Value.bool false,Value.bool false,Value.bool false,Value.bool false,Value.bool false,Value.bool false,Value.bool false,Value.bool false,Value.bool false,Value.bool false,Value.bool false]:=by kernel_rfl
theorem aW:Gk Tryz.prog 273=some (NS 1026 (Value.bool false)):=by kernel_rfl
theorem aV:Gk Tryz.prog 304=some (NS 1026 (Value.int IntKind.i64 (0))):=by kernel_rfl
theorem kI:F9 Tryz.prog 22=some (6,72):=by kernel_rfl
theorem kG:F9 Tryz.prog 48=some (1,8):=by kernel_rfl
theorem kH:F9 Tryz.prog 42=some (1,16):=by kernel_rfl
theorem kF:F9 Tryz.prog 60=some (4,64):=by kernel_rfl
theorem kE:F9 Tryz.prog 72=some (2,32):=by kernel_rfl
theorem kD:F9 Tryz.prog 75=some (1,24):=by kernel_rfl
theorem cH:F9 Tryz.prog 120=some (2,16):=by kernel_rfl
theorem cG:F9 Tryz.prog 123=some (3,40):=by kernel_rfl
theorem cE:F9 Tryz.prog 138=some (3,24):=by kernel_rfl
theorem cI:F9 Tryz.prog 101=some (3,48):=by kernel_rfl
theorem kC:F9 Tryz.prog 96=some (5,80):=by kernel_rfl
theorem cD:F9 Tryz.prog 189=some (3,56):=by kernel_rfl
theorem cC:F9 Tryz.prog 225=some (1,24):=by kernel_rfl
theorem cB:F9 Tryz.prog 227=some (1,1):=by kernel_rfl
theorem kS:Sk Tryz.prog 149=some (26,1):=by kernel_rfl
theorem kR:Sk Tryz.prog 152=some (26,2):=by kernel_rfl
theorem kT:Sk Tryz.prog 141=some (3,1):=by kernel_rfl
theorem kQ:Sk Tryz.prog 218=some (16,1):=by kernel_rfl
theorem kP:Sk Tryz.prog 220=some (16,16):=by kernel_rfl
theorem kO:Sk Tryz.prog 222=some (16,1):=by kernel_rfl
theorem kL:Sk Tryz.prog 273=some (1026,1):=by kernel_rfl
theorem kN:Sk Tryz.prog 252=some (4096,1):=by kernel_rfl
theorem kK:Sk Tryz.prog 304=some (1026,1):=by kernel_rfl
theorem vA:Mg Tryz.prog 62=some ([Value.slice none 0 0,Value.slice none 0 0],[(0,1),(1,1)]):=by kernel_rfl
theorem uZ:Mg Tryz.prog 77=some ([Value.slice none 0 0,Value.int IntKind.i64 (0),Value.int IntKind.i64 (0)],[(0,1),(1,1),(2,1)]):=by kernel_rfl
theorem jU:Mg Tryz.prog 122=some ([Value.int IntKind.i64 (0),Value.slice none 0 0],[(0,1),(1,1)]):=by kernel_rfl
theorem jT:Mg Tryz.prog 125=some ([Value.bool false,Value.int IntKind.i64 (0),Value.slice none 0 0,Value.slice none 0 0],[(0,1),(1,2),(3,1)]):=by kernel_rfl
theorem jR:Mg Tryz.prog 151=some ([Value.bool false,Value.int IntKind.i64 (0)],[(0,1),(1,1)]):=by kernel_rfl
theorem jQ:Mg Tryz.prog 154=some (QJ,[(0,26),(26,52)]):=by kernel_rfl
theorem jV:Mg Tryz.prog 113=some ([Value.string ⟨#[]⟩,Value.int IntKind.i64 (0),Value.slice none 0 0],[(0,1),(1,1),(2,1)]):=by kernel_rfl
theorem jS:Mg Tryz.prog 141=some ([Value.int IntKind.i64 (0),Value.int IntKind.i64 (0),Value.int IntKind.i64 (0)],[(0,1),(1,1),(2,1)]):=by kernel_rfl
theorem jX:Mg Tryz.prog 108=some ([Value.bool false,Value.string ⟨#[]⟩,Value.slice none 0 0],[(0,1),(1,1),(2,1)]):=by kernel_rfl
theorem jW:Mg Tryz.prog 110=some ([Value.bool false,Value.bool false,Value.string ⟨#[]⟩,Value.slice none 0 0,Value.slice none 0 0],[(0,1),(1,3),(4,1)]):=by kernel_rfl
theorem jO:Mg Tryz.prog 198=some ([Value.bool false,Value.int IntKind.i64 (0),Value.slice none 0 0],[(0,1),(1,2)]):=by kernel_rfl
theorem jP:Mg Tryz.prog 191=some ([Value.int IntKind.i64 (0),Value.slice none 0 0,Value.slice none 0 0,Value.slice none 0 0],[(0,2),(2,1),(3,1)]):=by kernel_rfl
theorem jM:Mg Tryz.prog 239=some ([Value.int IntKind.i64 (0),Value.slice none 0 0,Value.slice none 0 0],[(0,2),(2,1)]):=by kernel_rfl
theorem jN:Mg Tryz.prog 210=some ([Value.int IntKind.i64 (0),Value.int IntKind.i64 (0),Value.int IntKind.i64 (0),Value.int IntKind.i64 (0),Value.int IntKind.i64 (0),Value.int IntKind.i64 (0),Value.bool false],[(0,1),(1,1),(2,1),(3,1),(4,1),(5,1),(6,1)]):=by kernel_rfl
def OO:List Value:=[Value.slice none 0 0,Value.bool false,Value.int .i64 0,Value.slice none 0 0]++List.replicate 4096 (Value.slice none 0 0)
theorem jL:Mg Tryz.prog 254=some (OO,[(0,1),(1,1),(2,1),(3,1),(4,4096)]):=by kernel_rfl
theorem Si:O5 Tryz.prog 48=some (1,8,[Value.int IntKind.i64 (0)]):=by kernel_rfl
theorem Sj:O5 Tryz.prog 42=some (1,16,[Value.string ⟨#[]⟩]):=by kernel_rfl
theorem Mu:O5 Tryz.prog 60=some (4,64,[Value.bool false,Value.int IntKind.i64 (0),Value.slice none 0 0,Value.slice none 0 0]):=by kernel_rfl
theorem Ge:O5 Tryz.prog 72=some (2,32,[Value.int IntKind.i64 (0),Value.slice none 0 0]):=by kernel_rfl
theorem fA:O5 Tryz.prog 75=some (1,24,[Value.slice none 0 0]):=by kernel_rfl
theorem E0:O5 Tryz.prog 120=some (2,16,[Value.bool false,Value.int IntKind.i64 (0)]):=by kernel_rfl
theorem Fe:O5 Tryz.prog 123=some (3,40,[Value.bool false,Value.int IntKind.i64 (0),Value.slice none 0 0]):=by kernel_rfl
theorem G9:O5 Tryz.prog 138=some (3,24,[Value.int IntKind.i64 (0),Value.int IntKind.i64 (0),Value.int IntKind.i64 (0)]):=by kernel_rfl
theorem I3:O5 Tryz.prog 101=some (3,48,[Value.bool false,Value.string ⟨#[]⟩,Value.slice none 0 0]):=by kernel_rfl
theorem Wm:O5 Tryz.prog 96=some (5,80,[Value.bool false,Value.bool false,Value.string ⟨#[]⟩,Value.slice none 0 0,Value.slice none 0 0]):=by kernel_rfl
theorem vG:O5 Tryz.prog 160=some (2,32,[Value.string ⟨#[]⟩,Value.string ⟨#[]⟩]):=by kernel_rfl
theorem En:O5 Tryz.prog 189=some (3,56,[Value.int IntKind.i64 (0),Value.slice none 0 0,Value.slice none 0 0]):=by kernel_rfl
theorem eZ:O5 Tryz.prog 87=some (1,1,[Value.int IntKind.u8 (0)]):=by kernel_rfl
theorem Qy:O5 Tryz.prog 225=some (1,24,[Value.slice none 0 0]):=by kernel_rfl
theorem Uu:O5 Tryz.prog 227=some (1,1,[Value.bool false]):=by kernel_rfl
theorem bY:Dj Tryz.prog 26 0=some (0,false,1):=by kernel_rfl
theorem bX:Dj Tryz.prog 26 1=some (1,false,1):=by kernel_rfl
theorem bW:Dj Tryz.prog 26 2=some (2,false,1):=by kernel_rfl
theorem bV:Dj Tryz.prog 26 3=some (3,false,1):=by kernel_rfl
theorem bU:Dj Tryz.prog 26 4=some (4,false,1):=by kernel_rfl
theorem bR:Dj Tryz.prog 62 0=some (0,false,1):=by kernel_rfl
theorem bQ:Dj Tryz.prog 62 1=some (1,false,1):=by kernel_rfl
theorem bP:Dj Tryz.prog 77 0=some (0,false,1):=by kernel_rfl
theorem bO:Dj Tryz.prog 77 1=some (1,false,1):=by kernel_rfl
theorem bN:Dj Tryz.prog 77 2=some (2,false,1):=by kernel_rfl
theorem Wa:Dj Tryz.prog 122 0=some (0,false,1):=by kernel_rfl
theorem V9:Dj Tryz.prog 122 1=some (1,false,1):=by kernel_rfl
theorem V8:Dj Tryz.prog 125 0=some (0,false,1):=by kernel_rfl
theorem V7:Dj Tryz.prog 125 1=some (1,true,2):=by kernel_rfl
theorem V6:Dj Tryz.prog 125 2=some (3,false,1):=by kernel_rfl
theorem V5:Dj Tryz.prog 151 0=some (0,false,1):=by kernel_rfl
theorem V4:Dj Tryz.prog 151 1=some (1,false,1):=by kernel_rfl
theorem V3:Dj Tryz.prog 154 0=some (0,true,26):=by kernel_rfl
theorem V2:Dj Tryz.prog 154 1=some (26,true,52):=by kernel_rfl
theorem We:Dj Tryz.prog 113 0=some (0,false,1):=by kernel_rfl
theorem Wc:Dj Tryz.prog 113 1=some (1,false,1):=by kernel_rfl
theorem Wb:Dj Tryz.prog 113 2=some (2,false,1):=by kernel_rfl
theorem Wl:Dj Tryz.prog 108 0=some (0,false,1):=by kernel_rfl
theorem Wk:Dj Tryz.prog 108 1=some (1,false,1):=by kernel_rfl
theorem Wj:Dj Tryz.prog 108 2=some (2,false,1):=by kernel_rfl
theorem Wi:Dj Tryz.prog 110 0=some (0,false,1):=by kernel_rfl
theorem Wh:Dj Tryz.prog 110 1=some (1,true,3):=by kernel_rfl
theorem Wg:Dj Tryz.prog 110 2=some (4,false,1):=by kernel_rfl
theorem Vy:Dj Tryz.prog 198 0=some (0,false,1):=by kernel_rfl
theorem Vx:Dj Tryz.prog 198 1=some (1,true,2):=by kernel_rfl
theorem V1:Dj Tryz.prog 191 0=some (0,true,2):=by kernel_rfl
theorem V0:Dj Tryz.prog 191 1=some (2,false,1):=by kernel_rfl
theorem Vz:Dj Tryz.prog 191 2=some (3,false,1):=by kernel_rfl
theorem Vp:Dj Tryz.prog 239 0=some (0,true,2):=by kernel_rfl
theorem Vo:Dj Tryz.prog 239 1=some (2,false,1):=by kernel_rfl
theorem Vw:Dj Tryz.prog 210 0=some (0,false,1):=by kernel_rfl
theorem Vv:Dj Tryz.prog 210 1=some (1,false,1):=by kernel_rfl
theorem Vu:Dj Tryz.prog 210 2=some (2,false,1):=by kernel_rfl
theorem Vt:Dj Tryz.prog 210 3=some (3,false,1):=by kernel_rfl
theorem Vs:Dj Tryz.prog 210 4=some (4,false,1):=by kernel_rfl
theorem Vr:Dj Tryz.prog 210 5=some (5,false,1):=by kernel_rfl
theorem Vq:Dj Tryz.prog 210 6=some (6,false,1):=by kernel_rfl
theorem Vn:Dj Tryz.prog 254 0=some (0,false,1):=by kernel_rfl
theorem Vm:Dj Tryz.prog 254 1=some (1,false,1):=by kernel_rfl
theorem Vl:Dj Tryz.prog 254 2=some (2,false,1):=by kernel_rfl
theorem Vk:Dj Tryz.prog 254 3=some (3,false,1):=by kernel_rfl
theorem Vj:Dj Tryz.prog 254 4=some (4,true,4096):=by kernel_rfl
theorem bM:jZ Tryz.prog 151=some .i64:=by kernel_rfl
theorem bL:jH Tryz.prog 141=true:=by kernel_rfl
theorem Ag:Tryz.prog.follows .mixedOrders=true:=by kernel_rfl
theorem RN:type_of% @Tryz.underlying3:=Tryz.underlying3
theorem TQ:type_of% @Tryz.underlying4:=Tryz.underlying4
theorem UR:type_of% @Tryz.underlying5:=Tryz.underlying5
theorem VD:type_of% @Tryz.underlying9:=Tryz.underlying9
theorem RZ:type_of% @Tryz.underlying123:=Tryz.underlying123
theorem TN:type_of% @Tryz.underlying87:=Tryz.underlying87
theorem uE:J1 Tryz.prog 260=some (true,104):=by kernel_rfl
theorem kM:Sk Tryz.prog 260=some (52,2):=by kernel_rfl
def RB:List Value:=(List.replicate 52 [Value.bool false,Value.int .i64 0]).flatten
def jp:List (Nat×Nat):=(List.range 52).map fun k=>(k*2,2)
theorem aX:Gk Tryz.prog 260=some RB:=by kernel_rfl
theorem jK:Mg Tryz.prog 260=some (RB,jp):=by kernel_rfl
theorem bS:Dj Tryz.prog 26 5=some (5,false,1):=by kernel_rfl
theorem Xv {a b:Prop}(x:a)(y:b):a/\b:=⟨x,y⟩
theorem BF:type_of% (Xv @VB<|Xv @TA<|Xv @UA<|Xv @SD<|Xv @UB<|Xv @TP<|Xv @RG<|Xv @UD<|Xv @TW<|Xv @UP<|Xv @uU<|Xv @uT<|Xv @uS<|Xv @uR<|Xv @uO<|Xv @uN<|Xv @uV<|Xv @uQ<|Xv @uP<|Xv @uY<|Xv @uX<|Xv @uW<|Xv @uJ<|Xv @uM<|Xv @uK<|Xv @uG<|Xv @uF<|Xv @uI<|Xv @uH<|Xv @jF<|Xv @jE<|Xv @jD<|Xv @bH<|Xv @bG<|Xv @bE<|Xv @bD<|Xv @bI<|Xv @bF<|Xv @bK<|Xv @bJ<|Xv @bB<|Xv @bC<|Xv @aY<|Xv @bA<|Xv @aZ<|Xv @aW<|Xv @aV<|Xv @kI<|Xv @kG<|Xv @kH<|Xv @kF<|Xv @kE<|Xv @kD<|Xv @cH<|Xv @cG<|Xv @cE<|Xv @cI<|Xv @kC<|Xv @cD<|Xv @cC<|Xv @cB<|Xv @kS<|Xv @kR<|Xv @kT<|Xv @kQ<|Xv @kP<|Xv @kO<|Xv @kL<|Xv @kN<|Xv @kK<|Xv @vA<|Xv @uZ<|Xv @jU<|Xv @jT<|Xv @jR<|Xv @jQ<|Xv @jV<|Xv @jS<|Xv @jX<|Xv @jW<|Xv @jO<|Xv @jP<|Xv @jM<|Xv @jN<|Xv @jL<|Xv @Si<|Xv @Sj<|Xv @Mu<|Xv @Ge<|Xv @fA<|Xv @E0<|Xv @Fe<|Xv @G9<|Xv @I3<|Xv @Wm<|Xv @En<|Xv @eZ<|Xv @Qy<|Xv @Uu<|Xv @bY<|Xv @bX<|Xv @bW<|Xv @bV<|Xv @bU<|Xv @bR<|Xv @bQ<|Xv @bP<|Xv @bO<|Xv @bN<|Xv @Wa<|Xv @V9<|Xv @V8<|Xv @V7<|Xv @V6<|Xv @V5<|Xv @V4<|Xv @V3<|Xv @V2<|Xv @We<|Xv @Wc<|Xv @Wb<|Xv @Wl<|Xv @Wk<|Xv @Wj<|Xv @Wi<|Xv @Wh<|Xv @Wg<|Xv @Vy<|Xv @Vx<|Xv @V1<|Xv @V0<|Xv @Vz<|Xv @Vp<|Xv @Vo<|Xv @Vw<|Xv @Vv<|Xv @Vu<|Xv @Vt<|Xv @Vs<|Xv @Vr<|Xv @Vq<|Xv @Vn<|Xv @Vm<|Xv @Vl<|Xv @Vk<|Xv @Vj<|Xv @bM<|Xv @bL<|Xv @RN<|Xv @TQ<|Xv @UR<|Xv @VD<|Xv @RZ<|Xv @TN<|Xv @uE<|Xv @kM<|Xv @aX<|Xv @jK<|@bS):=Xv @VB<|Xv @TA<|Xv @UA<|Xv @SD<|Xv @UB<|Xv @TP<|Xv @RG<|Xv @UD<|Xv @TW<|Xv @UP<|Xv @uU<|Xv @uT<|Xv @uS<|Xv @uR<|Xv @uO<|Xv @uN<|Xv @uV<|Xv @uQ<|Xv @uP<|Xv @uY<|Xv @uX<|Xv @uW<|Xv @uJ<|Xv @uM<|Xv @uK<|Xv @uG<|Xv @uF<|Xv @uI<|Xv @uH<|Xv @jF<|Xv @jE<|Xv @jD<|Xv @bH<|Xv @bG<|Xv @bE<|Xv @bD<|Xv @bI<|Xv @bF<|Xv @bK<|Xv @bJ<|Xv @bB<|Xv @bC<|Xv @aY<|Xv @bA<|Xv @aZ<|Xv @aW<|Xv @aV<|Xv @kI<|Xv @kG<|Xv @kH<|Xv @kF<|Xv @kE<|Xv @kD<|Xv @cH<|Xv @cG<|Xv @cE<|Xv @cI<|Xv @kC<|Xv @cD<|Xv @cC<|Xv @cB<|Xv @kS<|Xv @kR<|Xv @kT<|Xv @kQ<|Xv @kP<|Xv @kO<|Xv @kL<|Xv @kN<|Xv @kK<|Xv @vA<|Xv @uZ<|Xv @jU<|Xv @jT<|Xv @jR<|Xv @jQ<|Xv @jV<|Xv @jS<|Xv @jX<|Xv @jW<|Xv @jO<|Xv @jP<|Xv @jM<|Xv @jN<|Xv @jL<|Xv @Si<|Xv @Sj<|Xv @Mu<|Xv @Ge<|Xv @fA<|Xv @E0<|Xv @Fe<|Xv @G9<|Xv @I3<|Xv @Wm<|Xv @En<|Xv @eZ<|Xv @Qy<|Xv @Uu<|Xv @bY<|Xv @bX<|Xv @bW<|Xv @bV<|Xv @bU<|Xv @bR<|Xv @bQ<|Xv @bP<|Xv @bO<|Xv @bN<|Xv @Wa<|Xv @V9<|Xv @V8<|Xv @V7<|Xv @V6<|Xv @V5<|Xv @V4<|Xv @V3<|Xv @V2<|Xv @We<|Xv @Wc<|Xv @Wb<|Xv @Wl<|Xv @Wk<|Xv @Wj<|Xv @Wi<|Xv @Wh<|Xv @Wg<|Xv @Vy<|Xv @Vx<|Xv @V1<|Xv @V0<|Xv @Vz<|Xv @Vp<|Xv @Vo<|Xv @Vw<|Xv @Vv<|Xv @Vu<|Xv @Vt<|Xv @Vs<|Xv @Vr<|Xv @Vq<|Xv @Vn<|Xv @Vm<|Xv @Vl<|Xv @Vk<|Xv @Vj<|Xv @bM<|Xv @bL<|Xv @RN<|Xv @TQ<|Xv @UR<|Xv @VD<|Xv @RZ<|Xv @TN<|Xv @uE<|Xv @kM<|Xv @aX<|Xv @jK<|@bS
def Xa:=@I8
def Xb:=@eK
def Xc:=@R4
def Xd:=@oH
def Xe:=@oJ
def Xf:=@wR
def Xg:=@TI
def Xh:=@eO
def Xi:=@AF.mono
theorem Xj {A F D D' i}{b:Prop}(hk:Kept A F D i D':=by with_unfolding_all first|exact kept_refl|exact A5 rfl|exact Al (by assumption)):(b)->Kept A F D i D'/\b:=fun h=>⟨hk,h⟩
theorem Xn {p q:Prop}(e:p=q:=by ((try simp only[upd,↓reduceIte,Nat.reduceEqDiff,B2])<;>(try simp only[*,reduceCtorEq,OE,OS]))<;>rfl):p=q:=e
theorem Xo {p q:Prop}(e:p=q:=by (simp only[B3])<;>rfl):p->q:=e.mp
theorem Xp {p:Prop}(e:False:=by first|contradiction|omega|(simp at h<;>fail)):p:=e.elim
theorem Xk {P n Q s D c x y t}{q r u v:Prop}(hc:BU s c=sc (.bool t):=by with_unfolding_all rfl)(e1:(t=true)=q:=by exact Xn)(e2:(t=false)=r:=by exact Xn)(a1:q->u:=by first|exact Xo|exact fun _=>True.intro)(a2:r->v:=by first|exact Xo|exact fun _=>True.intro):(q->u->Me P n x Q s D)->(r->v->Me P n y Q s D)->Me P n (.cond c x y) Q s D:=fun h1 h2=>Y2 hc (fun h=>h1 (e1.mp h) (a1 (e1.mp h))) (fun h=>h2 (e2.mp h) (a2 (e2.mp h)))
theorem Xl {P o s D k t}{q r u v:Prop}(e1:(t=true)=q:=by exact Xn)(e2:(t=false)=r:=by exact Xn)(a1:q->u:=by first|exact Xo|exact fun _=>True.intro)(a2:r->v:=by first|exact Xo|exact fun _=>True.intro):(q->u->DV P o s D (OF k s o.dst))->(r->v->k (BI s o.dst (sc undef)) D)->gd P o s D k (some t):=fun h1 h2=>XY (fun h=>EC.mpr (h1 (e1.mp h) (a1 (e1.mp h)))) (fun h=>DL.mpr (h2 (e2.mp h) (a2 (e2.mp h))))
theorem Xm {P o s F σ0 k t}{q r u v:Prop}(e1:(t=true)=q:=by exact Xn)(e2:(t=false)=r:=by exact Xn)(a1:q->u:=by first|exact Xo|exact fun _=>True.intro)(a2:r->v:=by first|exact Xo|exact fun _=>True.intro):(q->u->match aq P s σ0 o.op with
   |some x=>(∀p,LV s o.op=some p->F p)/\k (BI s o.dst x)
   |none=>False)->(r->v->k (BI s o.dst (sc undef)))->gt P o s F σ0 k (some t):=fun h1 h2=>j9 (fun h=>EE.mpr (h1 (e1.mp h) (a1 (e1.mp h)))) (fun h=>DN.mpr (h2 (e2.mp h) (a2 (e2.mp h))))
theorem Xq {p:Prop}(h:p:=by first|rfl|assumption|omega|(simp only[Aa,Ab,Av];omega)|(simp;omega)|(simp<;>fail)):p:=h
theorem Xr {p q:Prop}(e:p=q:=by (simp (maxSteps:=3000000) (disch:=(first|omega|(simp only[B1, *];omega))) only[↓nC,↓dJ,B0,B4,La,undef,aq,al,cst,cst1,acells,flat,behind,NK,oV,Zc,vE,PR,OR,LV,vZ,Value.cells,Value.oneCell',Int.reduceToNat,↓reduceIte,Nat.reduceLT,Nat.reduceEqDiff,reduceCtorEq,Nat.reduceAdd,Nat.reduceMul,Nat.reduceLeDiff,BF, *])<;>rfl):(q)->p:=fun h=>e.mpr h
theorem Xw {p q:Prop}(e:p=q:=by (simp (maxSteps:=3000000) (disch:=(first|omega|(simp only[AX,B1, *];omega))) only[AX,↓nC,↓dJ,B0,B4,La,undef,aq,al,cst,cst1,acells,flat,behind,NK,oV,Zc,vE,PR,OR,LV,vZ,Value.cells,Value.oneCell',Int.reduceToNat,↓reduceIte,Nat.reduceLT,Nat.reduceEqDiff,reduceCtorEq,Nat.reduceAdd,Nat.reduceMul,Nat.reduceLeDiff,BF, *])<;>rfl):(q)->p:=fun h=>e.mpr h
theorem Xs {a b}(h:AE a b:=by repeat (first|exact AE.refl _|assumption|(refine AE.put ?_ (by first|omega|(simp only[Aa,Ab,Av, *];omega)) _)|(refine AE.new ?_ _)|(refine AE.lay ?_ _)|(refine AE.trans ?_ (by assumption)))):AE a b:=h
theorem Xt {t z b zc σ0 D id id2 n m m' xs ys K}
  
  (ht:O5 Tryz.prog t=some (z,b,zc):=by first|exact Si|exact Sj|exact Mu|exact Ge|exact fA|exact E0|exact Fe|exact G9|exact I3|exact Wm|exact vG|exact En|exact eZ|exact Qy|exact Uu) (hK:AE σ0 D:=by assumption) (hO:Own σ0 D id n:=by assumption)
  (hz:0<z:=by decide) (hzc:Z zc=z:=by with_unfolding_all rfl) (hx:Z xs=n*z:=by first|assumption|(simp<;>fail)|(simp;omega)|omega) (hy:Z ys=m*z:=by with_unfolding_all rfl) (hf:ys.all flat=true:=by with_unfolding_all rfl) (hm:0<m:=by decide) (hb:(n+m)*b<=140737488355328:=by omega) (hl:n+m<=1099511627776:=by omega):(∀id' D',Own σ0 D' id' (n+m)->AE σ0 D'->D'.C=D.C->D'.B=D.B->D'.ver=D.ver->D.D<D'.D->K (sl id' (n+m) (xs++ys)) D')->Iv Tryz.prog t t (sl id n xs) (sl id2 m ys) (D.lay m') K:=fun h=>Bn ht hK hO hz hzc hx hy hf hm hb hl h
theorem Xu {t z b zc D id2 m ys K}(ht:O5 Tryz.prog t=some (z,b,zc):=by first|exact Si|exact Sj|exact Mu|exact Ge|exact fA|exact E0|exact Fe|exact G9|exact I3|exact Wm|exact vG|exact En|exact eZ|exact Qy|exact Uu)(hz0:Z zc=z:=by with_unfolding_all rfl)
  (hz:0<z:=by decide) (hy:Z ys=m*z:=by with_unfolding_all rfl) (hf:ys.all flat=true:=by with_unfolding_all rfl) (hm:0<m:=by decide) (hb:m*b<=140737488355328:=by omega) (hl:m<=1099511627776:=by omega):(K (sl (D.D+2) m ys) (D.lay m))->Iv Tryz.prog t t nilS (sl id2 m ys) D K:=fun h=>VW ht hz0 hz hy hf hm hb hl h
theorem Z1 {p q:Prop}(h:p)(w:p->q:=by with_reducible first|exact Xa|exact Xb|exact Xd|exact Xe|exact Xf|exact Xu):q:=w h
theorem Z2 {a b c:Prop}(h1:a)(h2:b)(w:a->b->c:=by with_reducible first|exact Xl|exact Xm|exact Xk):c:=w h1 h2
theorem Z3 {p q:Prop}(h:p)(w:p->q:=by first|exact Xr|with_reducible exact Xj):q:=w h
theorem Z7 {p q:Prop}(h:p)(w:p->q:=by first|exact Xw|with_reducible exact Xj):q:=w h
theorem Z4 {p q:Prop}(h:p)(w:p->q:=by with_reducible exact yb.o _ _):q:=w h
theorem Z5 {p q:Prop}(h:p)(w:p->q:=by with_reducible exact Xh):q:=w h
theorem Z6 {p q:Prop}(h:p)(w:p->q:=by with_reducible exact Xt):q:=w h
theorem Z8 {p q:Prop}(h:p)(w:p->q:=by with_reducible exact Xc):q:=w h
theorem Zi {a b c:Prop}(h1:a)(h2:b)(w:a->b->c:=by with_reducible exact And.intro):c:=w h1 h2
theorem Zt:True:=⟨⟩
theorem pz {p q:Prop}(h:p)(w:PLift p->q:=by intro w;(repeat' first|refine Z1 ?_|refine Z8 fun yd yb=>?_|refine Z4 ?_;try clear yb yd|refine Z2 ?_ ?_<;>intro h a<;>try exact Xp|refine Z3 ?_|exact Zt|apply yb.o;try clear yb yd);exact w.down):q:=w ⟨h⟩
theorem p6 {p q:Prop}(h:p)(w:PLift p->q:=by intro w;(repeat' first|refine Z1 ?_|refine Z8 fun yd yb=>?_|refine Z4 ?_;try clear yb yd|refine Z2 ?_ ?_<;>intro h a<;>try exact Xp|refine Z7 ?_|exact Zt|apply yb.o;try clear yb yd);exact w.down):q:=w ⟨h⟩
theorem p7 {p q:Prop}(h:p)(w:PLift p->q:=by intro w;(repeat' first|refine Z1 ?_|refine Z8 fun yd yb=>?_|refine Z4 ?_;try clear yb yd|refine Z2 ?_ ?_<;>intro h a<;>try exact Xp|refine Z3 ?_|exact Zt|apply yb.o;try clear yb yd);revert a h;exact w.down):q:=w ⟨h⟩
theorem qm {p q:Prop}(h:p)(w:PLift p->q:=by intro w;(repeat' first|refine Z1 ?_|refine Z8 fun yd yb=>?_|refine Z4 ?_;try clear yb yd|refine Z2 ?_ ?_<;>intro h a<;>try exact Xp|refine Z3 ?_|exact Zt|apply yb.o;try clear yb yd);revert yb yd;exact w.down):q:=w ⟨h⟩
theorem p9 {p q:Prop}(h:p)(w:PLift p->q:=by intro w;(repeat' first|refine Z1 ?_|refine Z8 fun yd yb=>?_|refine Z4 ?_;try clear yb yd|refine Z2 ?_ ?_<;>intro h a<;>try exact Xp|refine Z5 ?_;exact w.down|refine Z3 ?_|exact Zt|apply yb.o;try clear yb yd)):q:=w ⟨h⟩
theorem qb {p q:Prop}(h:p)(w:PLift p->q:=by intro w;(repeat' first|refine Z1 ?_|refine Z8 fun yd yb=>?_|refine Z4 ?_;try clear yb yd|refine Z2 ?_ ?_<;>intro h a<;>try exact Xp|refine Z5 ?_;revert yb yd;exact w.down|refine Z3 ?_|exact Zt|apply yb.o;try clear yb yd)):q:=w ⟨h⟩
theorem qc {p q:Prop}(h:p)(w:PLift p->q:=by intro w;(repeat' first|refine Z1 ?_|refine Z8 fun yd yb=>?_|refine Z4 ?_;try clear yb yd|refine Z2 ?_ ?_<;>intro h a<;>try exact Xp|refine Z6 ?_;exact w.down|refine Z3 ?_|exact Zt|apply yb.o;try clear yb yd)):q:=w ⟨h⟩
theorem qd {p q:Prop}(h:p)(w:PLift p->q:=by intro w;(repeat' first|refine Z1 ?_|refine Z8 fun yd yb=>?_|refine Z4 ?_;try clear yb yd|refine Z2 ?_ ?_<;>intro h a<;>try exact Xp|refine Z6 ?_;revert yb yd;exact w.down|refine Z3 ?_|exact Zt|apply yb.o;try clear yb yd)):q:=w ⟨h⟩
theorem qe {p q r:Prop}(h:p)(g:r)(w:PLift p->PLift r->q:=by intro w v;(repeat' first|refine Z1 ?_|refine Z8 fun yd yb=>?_|refine Z4 ?_;try clear yb yd|refine Z2 ?_ ?_<;>intro h a<;>try exact Xp|refine Z3 ?_|exact Zt|apply yb.o;try clear yb yd);revert a h;exact w.down;revert a h;exact v.down):q:=w ⟨h⟩ ⟨g⟩
theorem qf {q:Prop}(w:q:=by repeat' first|refine Z1 ?_|refine Z8 fun yd yb=>?_|refine Z4 ?_;try clear yb yd|refine Z2 ?_ ?_<;>intro h a<;>try exact Xp|refine Z3 ?_|exact Zt|apply yb.o;try clear yb yd):q:=w
theorem qg {p:Prop}(h:p:=by (repeat' refine Zi ?_ ?_)<;>first|exact Xq|exact Xs):p:=h
theorem qh {p q:Prop}(e:q)(w:q->p:=by intro e;(repeat' refine Zi ?_ ?_)<;>first|exact Xq|exact e|exact Xs):p:=w e
theorem qi {p q r:Prop}(e:q)(f:r)(w:q->r->p:=by intro e f;(repeat' refine Zi ?_ ?_)<;>first|exact Xq|exact e|exact f|exact Xs):p:=w e f
theorem ql {p q r s:Prop}(e:q)(f:r)(g:s)(w:q->r->s->p:=by intro e f g;(repeat' refine Zi ?_ ?_)<;>first|exact Xq|exact e|exact f|exact g|exact Xs):p:=w e f g
theorem zz {p q:Prop}(h:p)(w:PLift p->q:=by intro w;(repeat' first|refine Z1 ?_|refine Z8 fun yd yb=>?_|refine Z4 ?_;try clear yb yd|refine Z3 ?_|exact Zt|apply yb.o;try clear yb yd);exact w.down):q:=w ⟨h⟩
theorem zx {p q:Prop}(h:p)(w:PLift p->q:=by intro w;(repeat' first|refine Z1 ?_|refine Z8 fun yd yb=>?_|refine Z4 ?_;try clear yb yd|refine Z7 ?_|exact Zt|apply yb.o;try clear yb yd);exact w.down):q:=w ⟨h⟩
theorem Z9 {P f fn c args D R}(n rs)(hf:P.funcs[f]?=some fn)(h:Me P n c (OR P rs R) (AM args) D)(hb:fn.body=some c:=by rfl)(hn:fn.name≠ "runtime.NumGoroutine":=by decide)(hnt:fn.ntmps=n:=by rfl)(hrs:fn.results.toList=rs:=by rfl)(hl:Z args<=n:=by exact Nat.le_of_ble_eq_true rfl):AF P f args D R:=pd n rs hf hb hn hnt hrs hl h
theorem AI {p:Prop}(h:p:=by simp[upd, *]):p:=h
theorem AG {p:Prop}(h:p:=by simp[upd]):p:=h
theorem AH {p:Prop}(h:p:=by kernel_rfl):p:=h
theorem AK {p:Prop}(h:p:=by simp only[Aa];omega):p:=h
theorem BM {p:Prop}(h:p:=by simp only[Ab,Aa];omega):p:=h
end Go.Abs
