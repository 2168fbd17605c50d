import Derived.Test.YtmoeoppbmhfbpaaGreatDoorProg
import Derived.Test.YtmoeoppbmhfbpaaGreatDoorDAbsWp
import Derived.KernelRfl
set_option maxRecDepth 100000
set_option linter.all false
namespace Go.Abs
open Go.Proofs
theorem Aa0:I5 Tryz.prog 3=some (false,1):=by kernel_rfl
theorem Aaz:I5 Tryz.prog 4=some (false,1):=by kernel_rfl
theorem Aay:I5 Tryz.prog 9=some (false,1):=by kernel_rfl
theorem uL:I5 Tryz.prog 37=some (false,1):=by kernel_rfl
theorem uK:I5 Tryz.prog 43=some (true,6):=by kernel_rfl
theorem uJ:I5 Tryz.prog 64=some (false,1):=by kernel_rfl
theorem uI:I5 Tryz.prog 66=some (true,2):=by kernel_rfl
theorem uH:I5 Tryz.prog 69=some (false,1):=by kernel_rfl
theorem uG:I5 Tryz.prog 72=some (false,1):=by kernel_rfl
theorem uF:I5 Tryz.prog 74=some (true,3):=by kernel_rfl
theorem uE:I5 Tryz.prog 92=some (false,1):=by kernel_rfl
theorem uD:I5 Tryz.prog 94=some (true,2):=by kernel_rfl
theorem uC:I5 Tryz.prog 95=some (false,1):=by kernel_rfl
theorem uB:I5 Tryz.prog 97=some (true,4):=by kernel_rfl
theorem oI:I5 Tryz.prog 101=some (true,2):=by kernel_rfl
theorem oH:I5 Tryz.prog 104=some (true,78):=by kernel_rfl
theorem oG:I5 Tryz.prog 109=some (true,3):=by kernel_rfl
theorem oF:I5 Tryz.prog 122=some (false,1):=by kernel_rfl
theorem oE:I5 Tryz.prog 125=some (true,3):=by kernel_rfl
theorem oD:I5 Tryz.prog 134=some (false,1):=by kernel_rfl
theorem oC:I5 Tryz.prog 143=some (true,3):=by kernel_rfl
theorem oB:I5 Tryz.prog 145=some (true,5):=by kernel_rfl
theorem oA:I5 Tryz.prog 164=some (true,3):=by kernel_rfl
theorem nZ:I5 Tryz.prog 180=some (false,1):=by kernel_rfl
theorem nY:I5 Tryz.prog 182=some (true,4):=by kernel_rfl
theorem nX:I5 Tryz.prog 208=some (false,1):=by kernel_rfl
theorem nW:I5 Tryz.prog 214=some (true,3):=by kernel_rfl
theorem nV:I5 Tryz.prog 228=some (true,256):=by kernel_rfl
theorem dU:F4 Tryz.prog 43=some [Value.int IntKind.i64 (0),Value.int IntKind.i64 (0),Value.int IntKind.i64 (0),Value.string ⟨#[]⟩,Value.string ⟨#[]⟩,Value.string ⟨#[]⟩]:=by kernel_rfl
theorem dT:F4 Tryz.prog 66=some [Value.slice none 0 0,Value.slice none 0 0]:=by kernel_rfl
theorem dS:F4 Tryz.prog 74=some [Value.slice none 0 0,Value.int IntKind.i64 (0),Value.int IntKind.i64 (0)]:=by kernel_rfl
theorem dR:F4 Tryz.prog 94=some [Value.int IntKind.i64 (0),Value.slice none 0 0]:=by kernel_rfl
theorem dQ:F4 Tryz.prog 97=some [Value.bool false,Value.int IntKind.i64 (0),Value.slice none 0 0,Value.slice none 0 0]:=by kernel_rfl
theorem X5:F4 Tryz.prog 101=some [Value.bool false,Value.int IntKind.i64 (0)]:=by kernel_rfl
def swZ:List Value:=List.replicate 26 (.bool false)++(List.replicate 26 [Value.bool false,Value.int .i64 0]).flatten
theorem X4:F4 Tryz.prog 104=some swZ:=by kernel_rfl
theorem X3:F4 Tryz.prog 109=some [Value.string ⟨#[]⟩,Value.int IntKind.i64 (0),Value.slice none 0 0]:=by kernel_rfl
theorem X0:F4 Tryz.prog 125=some [Value.int IntKind.i64 (0),Value.int IntKind.i64 (0),Value.int IntKind.i64 (0)]:=by kernel_rfl
theorem Xz:F4 Tryz.prog 143=some [Value.bool false,Value.string ⟨#[]⟩,Value.slice none 0 0]:=by kernel_rfl
theorem Xy:F4 Tryz.prog 145=some [Value.bool false,Value.bool false,Value.string ⟨#[]⟩,Value.slice none 0 0,Value.slice none 0 0]:=by kernel_rfl
theorem Xx:F4 Tryz.prog 164=some [Value.bool false,Value.int IntKind.i64 (0),Value.slice none 0 0]:=by kernel_rfl
theorem W9:F4 Tryz.prog 182=some [Value.int IntKind.i64 (0),Value.slice none 0 0,Value.slice none 0 0,Value.slice none 0 0]:=by kernel_rfl
theorem W8:F4 Tryz.prog 214=some [Value.int IntKind.i64 (0),Value.slice none 0 0,Value.slice none 0 0]:=by kernel_rfl
theorem W7:F4 Tryz.prog 228=some (tK 256 (Value.bool false)):=by kernel_rfl
theorem W6:F4 Tryz.prog 262=some (tK 1026 (Value.bool false)):=by kernel_rfl
theorem W5:F4 Tryz.prog 301=some (tK 1026 (Value.int IntKind.i64 (0))):=by kernel_rfl
theorem eW:Ep Tryz.prog 22=some (6,72):=by kernel_rfl
theorem eV:Ep Tryz.prog 25=some (1,8):=by kernel_rfl
theorem eU:Ep Tryz.prog 37=some (1,16):=by kernel_rfl
theorem eT:Ep Tryz.prog 64=some (4,64):=by kernel_rfl
theorem eS:Ep Tryz.prog 69=some (2,32):=by kernel_rfl
theorem eR:Ep Tryz.prog 72=some (1,24):=by kernel_rfl
theorem eQ:Ep Tryz.prog 92=some (2,16):=by kernel_rfl
theorem eP:Ep Tryz.prog 95=some (3,40):=by kernel_rfl
theorem Yt:Ep Tryz.prog 122=some (3,24):=by kernel_rfl
theorem Ys:Ep Tryz.prog 134=some (3,48):=by kernel_rfl
theorem Yr:Ep Tryz.prog 137=some (5,80):=by kernel_rfl
theorem Yq:Ep Tryz.prog 150=some (2,32):=by kernel_rfl
theorem Yp:Ep Tryz.prog 180=some (3,56):=by kernel_rfl
theorem Yo:Ep Tryz.prog 206=some (1,24):=by kernel_rfl
theorem Yn:Ep Tryz.prog 208=some (1,1):=by kernel_rfl
theorem oS:Ty Tryz.prog 99=some (26,1):=by kernel_rfl
theorem fF:Ty Tryz.prog 102=some (26,2):=by kernel_rfl
theorem fE:Ty Tryz.prog 125=some (3,1):=by kernel_rfl
theorem fD:Ty Tryz.prog 226=some (16,1):=by kernel_rfl
theorem fC:Ty Tryz.prog 228=some (16,16):=by kernel_rfl
theorem fA:Ty Tryz.prog 262=some (1026,1):=by kernel_rfl
theorem eZ:Ty Tryz.prog 266=some (4096,1):=by kernel_rfl
theorem eY:Ty Tryz.prog 301=some (1026,1):=by kernel_rfl
theorem oM:K1 Tryz.prog 66=some ([Value.slice none 0 0,Value.slice none 0 0],[(0,1),(1,1)]):=by kernel_rfl
theorem oL:K1 Tryz.prog 74=some ([Value.slice none 0 0,Value.int IntKind.i64 (0),Value.int IntKind.i64 (0)],[(0,1),(1,1),(2,1)]):=by kernel_rfl
theorem oK:K1 Tryz.prog 94=some ([Value.int IntKind.i64 (0),Value.slice none 0 0],[(0,1),(1,1)]):=by kernel_rfl
theorem oJ:K1 Tryz.prog 97=some ([Value.bool false,Value.int IntKind.i64 (0),Value.slice none 0 0,Value.slice none 0 0],[(0,1),(1,2),(3,1)]):=by kernel_rfl
theorem eL:K1 Tryz.prog 101=some ([Value.bool false,Value.int IntKind.i64 (0)],[(0,1),(1,1)]):=by kernel_rfl
theorem eK:K1 Tryz.prog 104=some (swZ,[(0,26),(26,52)]):=by kernel_rfl
theorem eJ:K1 Tryz.prog 109=some ([Value.string ⟨#[]⟩,Value.int IntKind.i64 (0),Value.slice none 0 0],[(0,1),(1,1),(2,1)]):=by kernel_rfl
theorem eI:K1 Tryz.prog 125=some ([Value.int IntKind.i64 (0),Value.int IntKind.i64 (0),Value.int IntKind.i64 (0)],[(0,1),(1,1),(2,1)]):=by kernel_rfl
theorem eH:K1 Tryz.prog 143=some ([Value.bool false,Value.string ⟨#[]⟩,Value.slice none 0 0],[(0,1),(1,1),(2,1)]):=by kernel_rfl
theorem eG:K1 Tryz.prog 145=some ([Value.bool false,Value.bool false,Value.string ⟨#[]⟩,Value.slice none 0 0,Value.slice none 0 0],[(0,1),(1,3),(4,1)]):=by kernel_rfl
theorem eF:K1 Tryz.prog 152=some ([Value.string ⟨#[]⟩,Value.string ⟨#[]⟩],[(0,1),(1,1)]):=by kernel_rfl
theorem eE:K1 Tryz.prog 164=some ([Value.bool false,Value.int IntKind.i64 (0),Value.slice none 0 0],[(0,1),(1,2)]):=by kernel_rfl
theorem eD:K1 Tryz.prog 182=some ([Value.int IntKind.i64 (0),Value.slice none 0 0,Value.slice none 0 0,Value.slice none 0 0],[(0,2),(2,1),(3,1)]):=by kernel_rfl
theorem eC:K1 Tryz.prog 214=some ([Value.int IntKind.i64 (0),Value.slice none 0 0,Value.slice none 0 0],[(0,2),(2,1)]):=by kernel_rfl
theorem eB:K1 Tryz.prog 224=some ([Value.int IntKind.i64 (0),Value.int IntKind.i64 (0),Value.int IntKind.i64 (0),Value.int IntKind.i64 (0),Value.int IntKind.i64 (0),Value.int IntKind.i64 (0),Value.bool false],[(0,1),(1,1),(2,1),(3,1),(4,1),(5,1),(6,1)]):=by kernel_rfl
def wkZ:List Value:=[Value.slice none 0 0,Value.bool false,Value.int .i64 0,Value.slice none 0 0]++List.replicate 4096 (Value.slice none 0 0)
theorem dZ:K1 Tryz.prog 268=some (wkZ,[(0,1),(1,1),(2,1),(3,1),(4,4096)]):=by kernel_rfl
theorem Qa:Np Tryz.prog 25=some (1,8,[Value.int IntKind.i64 (0)]):=by kernel_rfl
theorem P9:Np Tryz.prog 37=some (1,16,[Value.string ⟨#[]⟩]):=by kernel_rfl
theorem La:Np Tryz.prog 64=some (4,64,[Value.bool false,Value.int IntKind.i64 (0),Value.slice none 0 0,Value.slice none 0 0]):=by kernel_rfl
theorem Fa:Np Tryz.prog 69=some (2,32,[Value.int IntKind.i64 (0),Value.slice none 0 0]):=by kernel_rfl
theorem aY:Np Tryz.prog 72=some (1,24,[Value.slice none 0 0]):=by kernel_rfl
theorem Hd:Np Tryz.prog 92=some (2,16,[Value.bool false,Value.int IntKind.i64 (0)]):=by kernel_rfl
theorem J9:Np Tryz.prog 95=some (3,40,[Value.bool false,Value.int IntKind.i64 (0),Value.slice none 0 0]):=by kernel_rfl
theorem F5:Np Tryz.prog 122=some (3,24,[Value.int IntKind.i64 (0),Value.int IntKind.i64 (0),Value.int IntKind.i64 (0)]):=by kernel_rfl
theorem Ka:Np Tryz.prog 134=some (3,48,[Value.bool false,Value.string ⟨#[]⟩,Value.slice none 0 0]):=by kernel_rfl
theorem O0:Np Tryz.prog 137=some (5,80,[Value.bool false,Value.bool false,Value.string ⟨#[]⟩,Value.slice none 0 0,Value.slice none 0 0]):=by kernel_rfl
theorem R3:Np Tryz.prog 150=some (2,32,[Value.string ⟨#[]⟩,Value.string ⟨#[]⟩]):=by kernel_rfl
theorem Dx:Np Tryz.prog 180=some (3,56,[Value.int IntKind.i64 (0),Value.slice none 0 0,Value.slice none 0 0]):=by kernel_rfl
theorem R1:Np Tryz.prog 204=some (1,1,[Value.int IntKind.u8 (0)]):=by kernel_rfl
theorem Oz:Np Tryz.prog 206=some (1,24,[Value.slice none 0 0]):=by kernel_rfl
theorem Rz:Np Tryz.prog 208=some (1,1,[Value.bool false]):=by kernel_rfl
theorem Yl:C9 Tryz.prog 43 0=some (0,false,1):=by kernel_rfl
theorem Yk:C9 Tryz.prog 43 1=some (1,false,1):=by kernel_rfl
theorem Yj:C9 Tryz.prog 43 3=some (3,false,1):=by kernel_rfl
theorem Yi:C9 Tryz.prog 43 4=some (4,false,1):=by kernel_rfl
theorem Yh:C9 Tryz.prog 66 0=some (0,false,1):=by kernel_rfl
theorem Yg:C9 Tryz.prog 66 1=some (1,false,1):=by kernel_rfl
theorem Yf:C9 Tryz.prog 74 0=some (0,false,1):=by kernel_rfl
theorem Ye:C9 Tryz.prog 74 1=some (1,false,1):=by kernel_rfl
theorem Yd:C9 Tryz.prog 74 2=some (2,false,1):=by kernel_rfl
theorem Yc:C9 Tryz.prog 94 0=some (0,false,1):=by kernel_rfl
theorem Yb:C9 Tryz.prog 94 1=some (1,false,1):=by kernel_rfl
theorem Ya:C9 Tryz.prog 97 0=some (0,false,1):=by kernel_rfl
theorem X9:C9 Tryz.prog 97 1=some (1,true,2):=by kernel_rfl
theorem X8:C9 Tryz.prog 97 2=some (3,false,1):=by kernel_rfl
theorem Tw:C9 Tryz.prog 101 0=some (0,false,1):=by kernel_rfl
theorem Tv:C9 Tryz.prog 101 1=some (1,false,1):=by kernel_rfl
theorem Tu:C9 Tryz.prog 104 0=some (0,true,26):=by kernel_rfl
theorem Tt:C9 Tryz.prog 104 1=some (26,true,52):=by kernel_rfl
theorem Ts:C9 Tryz.prog 109 0=some (0,false,1):=by kernel_rfl
theorem Tr:C9 Tryz.prog 109 1=some (1,false,1):=by kernel_rfl
theorem Tq:C9 Tryz.prog 109 2=some (2,false,1):=by kernel_rfl
theorem Tp:C9 Tryz.prog 143 0=some (0,false,1):=by kernel_rfl
theorem To:C9 Tryz.prog 143 1=some (1,false,1):=by kernel_rfl
theorem Tn:C9 Tryz.prog 143 2=some (2,false,1):=by kernel_rfl
theorem Tl:C9 Tryz.prog 145 0=some (0,false,1):=by kernel_rfl
theorem Tk:C9 Tryz.prog 145 1=some (1,true,3):=by kernel_rfl
theorem Tj:C9 Tryz.prog 145 2=some (4,false,1):=by kernel_rfl
theorem Ti:C9 Tryz.prog 152 0=some (0,false,1):=by kernel_rfl
theorem Tg:C9 Tryz.prog 152 1=some (1,false,1):=by kernel_rfl
theorem Tf:C9 Tryz.prog 164 0=some (0,false,1):=by kernel_rfl
theorem Te:C9 Tryz.prog 164 1=some (1,true,2):=by kernel_rfl
theorem Td:C9 Tryz.prog 182 0=some (0,true,2):=by kernel_rfl
theorem Tc:C9 Tryz.prog 182 1=some (2,false,1):=by kernel_rfl
theorem Tb:C9 Tryz.prog 182 2=some (3,false,1):=by kernel_rfl
theorem Ta:C9 Tryz.prog 214 0=some (0,true,2):=by kernel_rfl
theorem S9:C9 Tryz.prog 214 1=some (2,false,1):=by kernel_rfl
theorem S8:C9 Tryz.prog 224 0=some (0,false,1):=by kernel_rfl
theorem S7:C9 Tryz.prog 224 1=some (1,false,1):=by kernel_rfl
theorem S6:C9 Tryz.prog 224 2=some (2,false,1):=by kernel_rfl
theorem S5:C9 Tryz.prog 224 3=some (3,false,1):=by kernel_rfl
theorem S4:C9 Tryz.prog 224 4=some (4,false,1):=by kernel_rfl
theorem S3:C9 Tryz.prog 224 5=some (5,false,1):=by kernel_rfl
theorem S1:C9 Tryz.prog 224 6=some (6,false,1):=by kernel_rfl
theorem S0:C9 Tryz.prog 268 0=some (0,false,1):=by kernel_rfl
theorem Sz:C9 Tryz.prog 268 1=some (1,false,1):=by kernel_rfl
theorem Sy:C9 Tryz.prog 268 2=some (2,false,1):=by kernel_rfl
theorem Sv:C9 Tryz.prog 268 3=some (3,false,1):=by kernel_rfl
theorem Su:C9 Tryz.prog 268 4=some (4,true,4096):=by kernel_rfl
theorem X7:eN Tryz.prog 101=some .i64:=by kernel_rfl
theorem X6:dW Tryz.prog 125=true:=by kernel_rfl
theorem Ag:Tryz.prog.follows .mixedOrders=true:=by kernel_rfl
theorem u_3:type_of% @Tryz.underlying3:=Tryz.underlying3
theorem u_4:type_of% @Tryz.underlying4:=Tryz.underlying4
theorem u_5:type_of% @Tryz.underlying5:=Tryz.underlying5
theorem u_9:type_of% @Tryz.underlying9:=Tryz.underlying9
theorem Aca:type_of% @Tryz.underlying95:=Tryz.underlying95
theorem Aax:type_of% @Tryz.underlying204:=Tryz.underlying204
theorem Xv {a b:Prop}(x:a)(y:b):a/\b:=⟨x,y⟩
theorem BF:type_of% (Xv @Aa0<|Xv @Aaz<|Xv @Aay<|Xv @uL<|Xv @uK<|Xv @uJ<|Xv @uI<|Xv @uH<|Xv @uG<|Xv @uF<|Xv @uE<|Xv @uD<|Xv @uC<|Xv @uB<|Xv @oI<|Xv @oH<|Xv @oG<|Xv @oF<|Xv @oE<|Xv @oD<|Xv @oC<|Xv @oB<|Xv @oA<|Xv @nZ<|Xv @nY<|Xv @nX<|Xv @nW<|Xv @nV<|Xv @dU<|Xv @dT<|Xv @dS<|Xv @dR<|Xv @dQ<|Xv @X5<|Xv @X4<|Xv @X3<|Xv @X0<|Xv @Xz<|Xv @Xy<|Xv @Xx<|Xv @W9<|Xv @W8<|Xv @W7<|Xv @W6<|Xv @W5<|Xv @eW<|Xv @eV<|Xv @eU<|Xv @eT<|Xv @eS<|Xv @eR<|Xv @eQ<|Xv @eP<|Xv @Yt<|Xv @Ys<|Xv @Yr<|Xv @Yq<|Xv @Yp<|Xv @Yo<|Xv @Yn<|Xv @oS<|Xv @fF<|Xv @fE<|Xv @fD<|Xv @fC<|Xv @fA<|Xv @eZ<|Xv @eY<|Xv @oM<|Xv @oL<|Xv @oK<|Xv @oJ<|Xv @eL<|Xv @eK<|Xv @eJ<|Xv @eI<|Xv @eH<|Xv @eG<|Xv @eF<|Xv @eE<|Xv @eD<|Xv @eC<|Xv @eB<|Xv @dZ<|Xv @Qa<|Xv @P9<|Xv @La<|Xv @Fa<|Xv @aY<|Xv @Hd<|Xv @J9<|Xv @F5<|Xv @Ka<|Xv @O0<|Xv @R3<|Xv @Dx<|Xv @R1<|Xv @Oz<|Xv @Rz<|Xv @Yl<|Xv @Yk<|Xv @Yj<|Xv @Yi<|Xv @Yh<|Xv @Yg<|Xv @Yf<|Xv @Ye<|Xv @Yd<|Xv @Yc<|Xv @Yb<|Xv @Ya<|Xv @X9<|Xv @X8<|Xv @Tw<|Xv @Tv<|Xv @Tu<|Xv @Tt<|Xv @Ts<|Xv @Tr<|Xv @Tq<|Xv @Tp<|Xv @To<|Xv @Tn<|Xv @Tl<|Xv @Tk<|Xv @Tj<|Xv @Ti<|Xv @Tg<|Xv @Tf<|Xv @Te<|Xv @Td<|Xv @Tc<|Xv @Tb<|Xv @Ta<|Xv @S9<|Xv @S8<|Xv @S7<|Xv @S6<|Xv @S5<|Xv @S4<|Xv @S3<|Xv @S1<|Xv @S0<|Xv @Sz<|Xv @Sy<|Xv @Sv<|Xv @Su<|Xv @X7<|Xv @X6<|Xv @u_3<|Xv @u_4<|Xv @u_5<|Xv @u_9<|Xv @Aca<|@Aax):=Xv @Aa0<|Xv @Aaz<|Xv @Aay<|Xv @uL<|Xv @uK<|Xv @uJ<|Xv @uI<|Xv @uH<|Xv @uG<|Xv @uF<|Xv @uE<|Xv @uD<|Xv @uC<|Xv @uB<|Xv @oI<|Xv @oH<|Xv @oG<|Xv @oF<|Xv @oE<|Xv @oD<|Xv @oC<|Xv @oB<|Xv @oA<|Xv @nZ<|Xv @nY<|Xv @nX<|Xv @nW<|Xv @nV<|Xv @dU<|Xv @dT<|Xv @dS<|Xv @dR<|Xv @dQ<|Xv @X5<|Xv @X4<|Xv @X3<|Xv @X0<|Xv @Xz<|Xv @Xy<|Xv @Xx<|Xv @W9<|Xv @W8<|Xv @W7<|Xv @W6<|Xv @W5<|Xv @eW<|Xv @eV<|Xv @eU<|Xv @eT<|Xv @eS<|Xv @eR<|Xv @eQ<|Xv @eP<|Xv @Yt<|Xv @Ys<|Xv @Yr<|Xv @Yq<|Xv @Yp<|Xv @Yo<|Xv @Yn<|Xv @oS<|Xv @fF<|Xv @fE<|Xv @fD<|Xv @fC<|Xv @fA<|Xv @eZ<|Xv @eY<|Xv @oM<|Xv @oL<|Xv @oK<|Xv @oJ<|Xv @eL<|Xv @eK<|Xv @eJ<|Xv @eI<|Xv @eH<|Xv @eG<|Xv @eF<|Xv @eE<|Xv @eD<|Xv @eC<|Xv @eB<|Xv @dZ<|Xv @Qa<|Xv @P9<|Xv @La<|Xv @Fa<|Xv @aY<|Xv @Hd<|Xv @J9<|Xv @F5<|Xv @Ka<|Xv @O0<|Xv @R3<|Xv @Dx<|Xv @R1<|Xv @Oz<|Xv @Rz<|Xv @Yl<|Xv @Yk<|Xv @Yj<|Xv @Yi<|Xv @Yh<|Xv @Yg<|Xv @Yf<|Xv @Ye<|Xv @Yd<|Xv @Yc<|Xv @Yb<|Xv @Ya<|Xv @X9<|Xv @X8<|Xv @Tw<|Xv @Tv<|Xv @Tu<|Xv @Tt<|Xv @Ts<|Xv @Tr<|Xv @Tq<|Xv @Tp<|Xv @To<|Xv @Tn<|Xv @Tl<|Xv @Tk<|Xv @Tj<|Xv @Ti<|Xv @Tg<|Xv @Tf<|Xv @Te<|Xv @Td<|Xv @Tc<|Xv @Tb<|Xv @Ta<|Xv @S9<|Xv @S8<|Xv @S7<|Xv @S6<|Xv @S5<|Xv @S4<|Xv @S3<|Xv @S1<|Xv @S0<|Xv @Sz<|Xv @Sy<|Xv @Sv<|Xv @Su<|Xv @X7<|Xv @X6<|Xv @u_3<|Xv @u_4<|Xv @u_5<|Xv @u_9<|Xv @Aca<|@Aax
theorem Xa:type_of% @I3:=@I3
theorem Xb:type_of% @aM:=@aM
theorem Xc:type_of% @Pz:=@Pz
theorem Xd:type_of% @jH:=@jH
theorem Xe:type_of% @jJ:=@jJ
theorem Xf:type_of% @pX:=@pX
theorem Xg:type_of% @xL:=@xL
theorem Xh:type_of% @aP:=@aP
theorem Xi:type_of% @ACalls.mono:=@ACalls.mono
theorem Xj {A:Nat->Bool}{F:Nat->Prop}{D D':St}{i:Nat}{b:Prop}(hk:Kept A F D i D':=by with_unfolding_all first|exact kept_refl|exact Bf rfl|exact Ao (by assumption)):(b)->Kept A F D i D'/\b:=fun h=>⟨hk,h⟩
theorem Xn {p q:Prop}(e:p=q:=by ((try simp only[upd,↓reduceIte,Nat.reduceEqDiff,B2])<;>(try simp only[*,reduceCtorEq,Agg,Agh]))<;>rfl):p=q:=e
theorem Xo {p q:Prop}(e:p=q:=by (simp only[B3])<;>rfl):p->q:=e.mp
theorem Xp {p:Prop}(e:False:=by first|contradiction|omega|(simp at h<;>fail)):p:=e.elim
theorem Xk {P:Program}{n:Nat}{Q:Ha}{s:Sl}{D:St}{c:Operand}{x y:Code}{t:Bool}{q r u v:Prop}(hc:aev s c=sc (.bool t):=by with_unfolding_all rfl)(e1:(t=true)=q:=by exact Xn)(e2:(t=false)=r:=by exact Xn)(a1:q->u:=by first|exact Xo|exact fun _=>True.intro)(a2:r->v:=by first|exact Xo|exact fun _=>True.intro):(q->u->Kz P n x Q s D)->(r->v->Kz P n y Q s D)->Kz P n (.cond c x y) Q s D:=fun h1 h2=>Vv hc (fun h=>h1 (e1.mp h) (a1 (e1.mp h))) (fun h=>h2 (e2.mp h) (a2 (e2.mp h)))
theorem Xl {P:Program}{o:Oper}{s:Sl}{D:St}{k:Sl->St->Prop}{t:Bool}{q r u v:Prop}(e1:(t=true)=q:=by exact Xn)(e2:(t=false)=r:=by exact Xn)(a1:q->u:=by first|exact Xo|exact fun _=>True.intro)(a2:r->v:=by first|exact Xo|exact fun _=>True.intro):(q->u->aStep P o s D (nxt k s o.dst))->(r->v->k (aput s o.dst (sc undef)) D)->gd P o s D k (some t):=fun h1 h2=>wP (fun h=>gd_true.mpr (h1 (e1.mp h) (a1 (e1.mp h)))) (fun h=>gd_false.mpr (h2 (e2.mp h) (a2 (e2.mp h))))
theorem Xm {P:Program}{o:Oper}{s:Sl}{F:Nat->Prop}{σ0:St}{k:Sl->Prop}{t:Bool}{q r u v:Prop}(e1:(t=true)=q:=by exact Xn)(e2:(t=false)=r:=by exact Xn)(a1:q->u:=by first|exact Xo|exact fun _=>True.intro)(a2:r->v:=by first|exact Xo|exact fun _=>True.intro):(q->u->match aq P s σ0 o.op with
   |some x=>(∀p,rdo s o.op=some p->F p)/\k (aput s o.dst x)
   |none=>False)->(r->v->k (aput s o.dst (sc undef)))->gt P o s F σ0 k (some t):=fun h1 h2=>wO (fun h=>gt_true.mpr (h1 (e1.mp h) (a1 (e1.mp h)))) (fun h=>gt_false.mpr (h2 (e2.mp h) (a2 (e2.mp h))))
theorem Xq {p:Prop}(h:p:=by first|rfl|assumption|omega|(simp only[Aa,Ac,Ax];omega)|(simp;omega)|(simp<;>fail)):p:=h
theorem Xr {p q:Prop}(e:p=q:=by (simp (maxSteps:=3000000) (disch:=(first|omega|(simp only[B1, *];omega))) only[↓iL,↓Zk,B0,B4,J2,undef,aq,al,cst,cst1,acells,flat,behind,tG,jU,V5,oQ,Aak,vH,rdo,pH,Value.cells,Value.oneCell',Int.reduceToNat,↓reduceIte,Nat.reduceLT,Nat.reduceEqDiff,reduceCtorEq,Nat.reduceAdd,Nat.reduceMul,Nat.reduceLeDiff,BF, *])<;>rfl):(q)->p:=fun h=>e.mpr h
theorem Xw {p q:Prop}(e:p=q:=by (simp (maxSteps:=3000000) (disch:=(first|omega|(simp only[Aeb,B1, *];omega))) only[Aeb,↓iL,↓Zk,B0,B4,J2,undef,aq,al,cst,cst1,acells,flat,behind,tG,jU,V5,oQ,Aak,vH,rdo,pH,Value.cells,Value.oneCell',Int.reduceToNat,↓reduceIte,Nat.reduceLT,Nat.reduceEqDiff,reduceCtorEq,Nat.reduceAdd,Nat.reduceMul,Nat.reduceLeDiff,BF, *])<;>rfl):(q)->p:=fun h=>e.mpr h
theorem Xs {a b:St}(h:Keep a b:=by repeat (first|exact Keep.refl _|assumption|(refine Keep.put ?_ (by first|omega|(simp only[Aa,Ac,Ax, *];omega)) _)|(refine Keep.new ?_ _)|(refine Keep.lay ?_ _)|(refine Keep.trans ?_ (by assumption)))):Keep a b:=h
theorem Xt {t:TypeId}{z b:Nat}{zc:List Value}{σ0 D:St}{id id2 n m m':Nat}{xs ys:List AV}{K:AV->St->Prop}
  
  (ht:Np Tryz.prog t=some (z,b,zc):=by first|exact Qa|exact P9|exact La|exact Fa|exact aY|exact Hd|exact J9|exact F5|exact Ka|exact O0|exact R3|exact Dx|exact R1|exact Oz|exact Rz) (hK:Keep σ0 D:=by assumption) (hO:Own σ0 D id n:=by assumption)
  (hz:0<z:=by decide) (hzc:zc.length=z:=by with_unfolding_all rfl) (hx:xs.length=n*z:=by first|assumption|(simp<;>fail)|(simp;omega)|omega) (hy:ys.length=m*z:=by with_unfolding_all rfl) (hf:ys.all flat=true:=by with_unfolding_all rfl) (hm:0<m:=by decide) (hb:(n+m)*b<=140737488355328:=by omega) (hl:n+m<=1099511627776:=by omega):(∀id' D',Own σ0 D' id' (n+m)->Keep σ0 D'->D'.obj=D.obj->D'.nobj=D.nobj->D'.ver=D.ver->D.ntop<D'.ntop->K (sl id' (n+m) (xs++ys)) D')->Im Tryz.prog t t (sl id n xs) (sl id2 m ys) (D.lay m') K:=fun h=>Bz ht hK hO hz hzc hx hy hf hm hb hl h
theorem Xu {t:TypeId}{z b:Nat}{zc:List Value}{D:St}{id2 m:Nat}{ys:List AV}{K:AV->St->Prop}(ht:Np Tryz.prog t=some (z,b,zc):=by first|exact Qa|exact P9|exact La|exact Fa|exact aY|exact Hd|exact J9|exact F5|exact Ka|exact O0|exact R3|exact Dx|exact R1|exact Oz|exact Rz)(hz0:zc.length=z:=by with_unfolding_all rfl)
  (hz:0<z:=by decide) (hy:ys.length=m*z:=by with_unfolding_all rfl) (hf:ys.all flat=true:=by with_unfolding_all rfl) (hm:0<m:=by decide) (hb:m*b<=140737488355328:=by omega) (hl:m<=1099511627776:=by omega):(K (sl (D.ntop+2) m ys) (D.lay m))->Im Tryz.prog t t nilS (sl id2 m ys) D K:=fun h=>xQ ht hz0 hz hy hf hm hb hl h
theorem Z1 {p q:Prop}(h:p)(w:p->q:=by with_reducible first|exact Xa|exact Xb|exact Xd|exact Xe|exact Xf|exact Xu):q:=w h
theorem Z2 {a b c:Prop}(h1:a)(h2:b)(w:a->b->c:=by with_reducible first|exact Xl|exact Xm|exact Xk):c:=w h1 h2
theorem Z3 {p q:Prop}(h:p)(w:p->q:=by first|exact Xr|with_reducible exact Xj):q:=w h
theorem Z7 {p q:Prop}(h:p)(w:p->q:=by first|exact Xw|with_reducible exact Xj):q:=w h
theorem Z4 {p q:Prop}(h:p)(w:p->q:=by with_reducible exact J.out _ _):q:=w h
theorem Z5 {p q:Prop}(h:p)(w:p->q:=by with_reducible exact Xh):q:=w h
theorem Z6 {p q:Prop}(h:p)(w:p->q:=by with_reducible exact Xt):q:=w h
theorem Z8 {p q:Prop}(h:p)(w:p->q:=by with_reducible exact Xc):q:=w h
theorem Zi {a b c:Prop}(h1:a)(h2:b)(w:a->b->c:=by with_reducible exact And.intro):c:=w h1 h2
theorem Zt:True:=⟨⟩
theorem zz {p q:Prop}(h:p)(w:PLift p->q:=by intro w;(repeat' first|refine Z1 ?_|refine Z8 fun ya J=>?_|refine Z4 ?_;try clear J ya|refine Z3 ?_|exact Zt|apply J.out;try clear J ya);exact w.down):q:=w ⟨h⟩
theorem zx {p q:Prop}(h:p)(w:PLift p->q:=by intro w;(repeat' first|refine Z1 ?_|refine Z8 fun ya J=>?_|refine Z4 ?_;try clear J ya|refine Z7 ?_|exact Zt|apply J.out;try clear J ya);exact w.down):q:=w ⟨h⟩
theorem Z9 {P:Program}{f:FuncId}{fn:Func}{c:Code}{args:List AV}{D:St}{R:AV->St->Prop}(n:Nat)(rs:List ResultVar)(hf:P.funcs[f]?=some fn)(h:Kz P n c (vH P rs R) (initS args) D)(hb:fn.body=some c:=by rfl)(hn:fn.name≠ "runtime.NumGoroutine":=by decide)(hnt:fn.ntmps=n:=by rfl)(hrs:fn.results.toList=rs:=by rfl)(hl:args.length<=n:=by exact Nat.le_of_ble_eq_true rfl):ACalls P f args D R:=Ab4 n rs hf hb hn hnt hrs hl h
theorem Agn {p:Prop}(h:p:=by simp[upd, *]):p:=h
theorem Ago {p:Prop}(h:p:=by simp[upd]):p:=h
theorem Agp {p:Prop}(h:p:=by kernel_rfl):p:=h
theorem Agq {p:Prop}(h:p:=by simp only[Aa];omega):p:=h
theorem Ags {p:Prop}(h:p:=by simp only[Ac,Aa];omega):p:=h
end Go.Abs
