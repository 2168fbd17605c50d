import Derived.Test.YtmoeoppbmhfbpaaGreatDoorProg
import Derived.Test.YtmoeoppbmhfbpaaGreatDoorHAbsWp
import Derived.KernelRfl
set_option maxRecDepth 100000
set_option linter.all false
namespace Go.Abs
open Go.Proofs
theorem qF:Io Tryz.prog 3=some (false,1):=by kernel_rfl
theorem wZ:Io Tryz.prog 4=some (false,1):=by kernel_rfl
theorem wY:Io Tryz.prog 9=some (false,1):=by kernel_rfl
theorem qE:Io Tryz.prog 37=some (false,1):=by kernel_rfl
theorem qD:Io Tryz.prog 43=some (true,6):=by kernel_rfl
theorem qC:Io Tryz.prog 64=some (false,1):=by kernel_rfl
theorem qB:Io Tryz.prog 66=some (true,2):=by kernel_rfl
theorem qA:Io Tryz.prog 69=some (false,1):=by kernel_rfl
theorem pZ:Io Tryz.prog 72=some (false,1):=by kernel_rfl
theorem pY:Io Tryz.prog 74=some (true,3):=by kernel_rfl
theorem pX:Io Tryz.prog 92=some (false,1):=by kernel_rfl
theorem pW:Io Tryz.prog 94=some (true,2):=by kernel_rfl
theorem pV:Io Tryz.prog 95=some (false,1):=by kernel_rfl
theorem pU:Io Tryz.prog 97=some (true,4):=by kernel_rfl
theorem kO:Io Tryz.prog 101=some (true,2):=by kernel_rfl
theorem kN:Io Tryz.prog 109=some (true,3):=by kernel_rfl
theorem kM:Io Tryz.prog 122=some (false,1):=by kernel_rfl
theorem kL:Io Tryz.prog 125=some (true,3):=by kernel_rfl
theorem kK:Io Tryz.prog 134=some (false,1):=by kernel_rfl
theorem kJ:Io Tryz.prog 143=some (true,3):=by kernel_rfl
theorem kI:Io Tryz.prog 145=some (true,5):=by kernel_rfl
theorem kH:Io Tryz.prog 164=some (true,3):=by kernel_rfl
theorem kG:Io Tryz.prog 180=some (false,1):=by kernel_rfl
theorem kF:Io Tryz.prog 182=some (true,4):=by kernel_rfl
theorem kE:Io Tryz.prog 208=some (false,1):=by kernel_rfl
theorem kD:Io Tryz.prog 214=some (true,3):=by kernel_rfl
theorem kC:Io Tryz.prog 228=some (true,256):=by kernel_rfl
theorem kB:Io Tryz.prog 230=some (true,16):=by kernel_rfl
theorem aJ:Fu Tryz.prog 43=some [Value.int IntKind.i64 (0),Value.int IntKind.i64 (0),Value.int IntKind.i64 (0),Value.string ⟨#[]⟩,Value.string ⟨#[]⟩,Value.string ⟨#[]⟩]:=by kernel_rfl
theorem aI:Fu Tryz.prog 66=some [Value.slice none 0 0,Value.slice none 0 0]:=by kernel_rfl
theorem aH:Fu Tryz.prog 74=some [Value.slice none 0 0,Value.int IntKind.i64 (0),Value.int IntKind.i64 (0)]:=by kernel_rfl
theorem aG:Fu Tryz.prog 94=some [Value.int IntKind.i64 (0),Value.slice none 0 0]:=by kernel_rfl
theorem aF:Fu Tryz.prog 97=some [Value.bool false,Value.int IntKind.i64 (0),Value.slice none 0 0,Value.slice none 0 0]:=by kernel_rfl
theorem Vk:Fu Tryz.prog 101=some [Value.bool false,Value.int IntKind.i64 (0)]:=by kernel_rfl
theorem Vj:Fu Tryz.prog 109=some [Value.string ⟨#[]⟩,Value.int IntKind.i64 (0),Value.slice none 0 0]:=by kernel_rfl
theorem Vi:Fu Tryz.prog 125=some [Value.int IntKind.i64 (0),Value.int IntKind.i64 (0),Value.int IntKind.i64 (0)]:=by kernel_rfl
theorem Vh:Fu Tryz.prog 143=some [Value.bool false,Value.string ⟨#[]⟩,Value.slice none 0 0]:=by kernel_rfl
theorem Vg:Fu Tryz.prog 145=some [Value.bool false,Value.bool false,Value.string ⟨#[]⟩,Value.slice none 0 0,Value.slice none 0 0]:=by kernel_rfl
theorem Vf:Fu Tryz.prog 164=some [Value.bool false,Value.int IntKind.i64 (0),Value.slice none 0 0]:=by kernel_rfl
theorem Ve:Fu Tryz.prog 182=some [Value.int IntKind.i64 (0),Value.slice none 0 0,Value.slice none 0 0,Value.slice none 0 0]:=by kernel_rfl
theorem Vd:Fu Tryz.prog 214=some [Value.int IntKind.i64 (0),Value.slice none 0 0,Value.slice none 0 0]:=by kernel_rfl
theorem Vb:Fu Tryz.prog 228=some (pG 256 (Value.bool false)):=by kernel_rfl
theorem Va:Fu Tryz.prog 230=some [Value.bool false,Value.bool false,Value.bool false,Value.bool false,Value.bool false,Value.bool false,Value.bool false,Value.bool false,Value.bool false,Value.bool false,Value.bool false,Value.bool false,Value.bool false,Value.bool false,Value.bool false,Value.bool false]:=by kernel_rfl
theorem U9:Fu Tryz.prog 262=some (pG 1026 (Value.bool false)):=by kernel_rfl
theorem U8:Fu Tryz.prog 301=some (pG 1026 (Value.int IntKind.i64 (0))):=by kernel_rfl
theorem bH:Ex Tryz.prog 22=some (6,72):=by kernel_rfl
theorem bG:Ex Tryz.prog 25=some (1,8):=by kernel_rfl
theorem bF:Ex Tryz.prog 37=some (1,16):=by kernel_rfl
theorem bE:Ex Tryz.prog 64=some (4,64):=by kernel_rfl
theorem bD:Ex Tryz.prog 69=some (2,32):=by kernel_rfl
theorem bC:Ex Tryz.prog 72=some (1,24):=by kernel_rfl
theorem bB:Ex Tryz.prog 92=some (2,16):=by kernel_rfl
theorem bA:Ex Tryz.prog 95=some (3,40):=by kernel_rfl
theorem V9:Ex Tryz.prog 122=some (3,24):=by kernel_rfl
theorem V8:Ex Tryz.prog 134=some (3,48):=by kernel_rfl
theorem V7:Ex Tryz.prog 137=some (5,80):=by kernel_rfl
theorem V6:Ex Tryz.prog 180=some (3,56):=by kernel_rfl
theorem V5:Ex Tryz.prog 206=some (1,24):=by kernel_rfl
theorem V4:Ex Tryz.prog 208=some (1,1):=by kernel_rfl
theorem bP:Uo Tryz.prog 125=some (3,1):=by kernel_rfl
theorem bO:Uo Tryz.prog 226=some (16,1):=by kernel_rfl
theorem bN:Uo Tryz.prog 228=some (16,16):=by kernel_rfl
theorem bM:Uo Tryz.prog 230=some (16,1):=by kernel_rfl
theorem bL:Uo Tryz.prog 262=some (1026,1):=by kernel_rfl
theorem bK:Uo Tryz.prog 266=some (4096,1):=by kernel_rfl
theorem bJ:Uo Tryz.prog 301=some (1026,1):=by kernel_rfl
theorem kS:Ly Tryz.prog 66=some ([Value.slice none 0 0,Value.slice none 0 0],[(0,1),(1,1)]):=by kernel_rfl
theorem kR:Ly Tryz.prog 74=some ([Value.slice none 0 0,Value.int IntKind.i64 (0),Value.int IntKind.i64 (0)],[(0,1),(1,1),(2,1)]):=by kernel_rfl
theorem kQ:Ly Tryz.prog 94=some ([Value.int IntKind.i64 (0),Value.slice none 0 0],[(0,1),(1,1)]):=by kernel_rfl
theorem kP:Ly Tryz.prog 97=some ([Value.bool false,Value.int IntKind.i64 (0),Value.slice none 0 0,Value.slice none 0 0],[(0,1),(1,2),(3,1)]):=by kernel_rfl
theorem aX:Ly Tryz.prog 101=some ([Value.bool false,Value.int IntKind.i64 (0)],[(0,1),(1,1)]):=by kernel_rfl
theorem aW:Ly Tryz.prog 109=some ([Value.string ⟨#[]⟩,Value.int IntKind.i64 (0),Value.slice none 0 0],[(0,1),(1,1),(2,1)]):=by kernel_rfl
theorem aV:Ly Tryz.prog 125=some ([Value.int IntKind.i64 (0),Value.int IntKind.i64 (0),Value.int IntKind.i64 (0)],[(0,1),(1,1),(2,1)]):=by kernel_rfl
theorem aS:Ly Tryz.prog 143=some ([Value.bool false,Value.string ⟨#[]⟩,Value.slice none 0 0],[(0,1),(1,1),(2,1)]):=by kernel_rfl
theorem aR:Ly Tryz.prog 145=some ([Value.bool false,Value.bool false,Value.string ⟨#[]⟩,Value.slice none 0 0,Value.slice none 0 0],[(0,1),(1,3),(4,1)]):=by kernel_rfl
theorem aQ:Ly Tryz.prog 164=some ([Value.bool false,Value.int IntKind.i64 (0),Value.slice none 0 0],[(0,1),(1,2)]):=by kernel_rfl
theorem aP:Ly Tryz.prog 182=some ([Value.int IntKind.i64 (0),Value.slice none 0 0,Value.slice none 0 0,Value.slice none 0 0],[(0,2),(2,1),(3,1)]):=by kernel_rfl
theorem aO:Ly Tryz.prog 214=some ([Value.int IntKind.i64 (0),Value.slice none 0 0,Value.slice none 0 0],[(0,2),(2,1)]):=by kernel_rfl
theorem aN:Ly Tryz.prog 224=some ([Value.int IntKind.i64 (0),Value.int IntKind.i64 (0),Value.int IntKind.i64 (0),Value.int IntKind.i64 (0),Value.int IntKind.i64 (0),Value.int IntKind.i64 (0),Value.bool false],[(0,1),(1,1),(2,1),(3,1),(4,1),(5,1),(6,1)]):=by kernel_rfl
def wkZ:List Value:=[Value.slice none 0 0,Value.bool false,Value.int .i64 0,Value.slice none 0 0]++List.replicate 4096 (Value.slice none 0 0)
theorem aM:Ly Tryz.prog 268=some (wkZ,[(0,1),(1,1),(2,1),(3,1),(4,4096)]):=by kernel_rfl
theorem Sb:Ld Tryz.prog 25=some (1,8,[Value.int IntKind.i64 (0)]):=by kernel_rfl
theorem Oz:Ld Tryz.prog 37=some (1,16,[Value.string ⟨#[]⟩]):=by kernel_rfl
theorem Oy:Ld Tryz.prog 64=some (4,64,[Value.bool false,Value.int IntKind.i64 (0),Value.slice none 0 0,Value.slice none 0 0]):=by kernel_rfl
theorem Ef:Ld Tryz.prog 69=some (2,32,[Value.int IntKind.i64 (0),Value.slice none 0 0]):=by kernel_rfl
theorem Yf:Ld Tryz.prog 72=some (1,24,[Value.slice none 0 0]):=by kernel_rfl
theorem Kh:Ld Tryz.prog 92=some (2,16,[Value.bool false,Value.int IntKind.i64 (0)]):=by kernel_rfl
theorem Sa:Ld Tryz.prog 95=some (3,40,[Value.bool false,Value.int IntKind.i64 (0),Value.slice none 0 0]):=by kernel_rfl
theorem Fc:Ld Tryz.prog 122=some (3,24,[Value.int IntKind.i64 (0),Value.int IntKind.i64 (0),Value.int IntKind.i64 (0)]):=by kernel_rfl
theorem G8:Ld Tryz.prog 134=some (3,48,[Value.bool false,Value.string ⟨#[]⟩,Value.slice none 0 0]):=by kernel_rfl
theorem Nj:Ld Tryz.prog 137=some (5,80,[Value.bool false,Value.bool false,Value.string ⟨#[]⟩,Value.slice none 0 0,Value.slice none 0 0]):=by kernel_rfl
theorem kX:Ld Tryz.prog 150=some (2,32,[Value.string ⟨#[]⟩,Value.string ⟨#[]⟩]):=by kernel_rfl
theorem Dx:Ld Tryz.prog 180=some (3,56,[Value.int IntKind.i64 (0),Value.slice none 0 0,Value.slice none 0 0]):=by kernel_rfl
theorem Qx:Ld Tryz.prog 204=some (1,1,[Value.int IntKind.u8 (0)]):=by kernel_rfl
theorem Ni:Ld Tryz.prog 206=some (1,24,[Value.slice none 0 0]):=by kernel_rfl
theorem Qw:Ld Tryz.prog 208=some (1,1,[Value.bool false]):=by kernel_rfl
theorem V0:C9 Tryz.prog 43 0=some (0,false,1):=by kernel_rfl
theorem Vz:C9 Tryz.prog 43 1=some (1,false,1):=by kernel_rfl
theorem Vy:C9 Tryz.prog 43 3=some (3,false,1):=by kernel_rfl
theorem Vx:C9 Tryz.prog 43 4=some (4,false,1):=by kernel_rfl
theorem Vw:C9 Tryz.prog 66 0=some (0,false,1):=by kernel_rfl
theorem Vv:C9 Tryz.prog 66 1=some (1,false,1):=by kernel_rfl
theorem Vu:C9 Tryz.prog 74 0=some (0,false,1):=by kernel_rfl
theorem Vt:C9 Tryz.prog 74 1=some (1,false,1):=by kernel_rfl
theorem Vs:C9 Tryz.prog 74 2=some (2,false,1):=by kernel_rfl
theorem Vr:C9 Tryz.prog 94 0=some (0,false,1):=by kernel_rfl
theorem Vq:C9 Tryz.prog 94 1=some (1,false,1):=by kernel_rfl
theorem Vp:C9 Tryz.prog 97 0=some (0,false,1):=by kernel_rfl
theorem Vo:C9 Tryz.prog 97 1=some (1,true,2):=by kernel_rfl
theorem Vn:C9 Tryz.prog 97 2=some (3,false,1):=by kernel_rfl
theorem R9:C9 Tryz.prog 101 0=some (0,false,1):=by kernel_rfl
theorem R8:C9 Tryz.prog 101 1=some (1,false,1):=by kernel_rfl
theorem R7:C9 Tryz.prog 109 0=some (0,false,1):=by kernel_rfl
theorem R6:C9 Tryz.prog 109 1=some (1,false,1):=by kernel_rfl
theorem R5:C9 Tryz.prog 109 2=some (2,false,1):=by kernel_rfl
theorem R4:C9 Tryz.prog 143 0=some (0,false,1):=by kernel_rfl
theorem R3:C9 Tryz.prog 143 1=some (1,false,1):=by kernel_rfl
theorem R1:C9 Tryz.prog 143 2=some (2,false,1):=by kernel_rfl
theorem Rz:C9 Tryz.prog 145 0=some (0,false,1):=by kernel_rfl
theorem Ry:C9 Tryz.prog 145 1=some (1,true,3):=by kernel_rfl
theorem Rx:C9 Tryz.prog 145 2=some (4,false,1):=by kernel_rfl
theorem Rw:C9 Tryz.prog 164 0=some (0,false,1):=by kernel_rfl
theorem Rv:C9 Tryz.prog 164 1=some (1,true,2):=by kernel_rfl
theorem Ru:C9 Tryz.prog 182 0=some (0,true,2):=by kernel_rfl
theorem Rt:C9 Tryz.prog 182 1=some (2,false,1):=by kernel_rfl
theorem Rr:C9 Tryz.prog 182 2=some (3,false,1):=by kernel_rfl
theorem Rq:C9 Tryz.prog 214 0=some (0,true,2):=by kernel_rfl
theorem Rp:C9 Tryz.prog 214 1=some (2,false,1):=by kernel_rfl
theorem Ro:C9 Tryz.prog 224 0=some (0,false,1):=by kernel_rfl
theorem Rn:C9 Tryz.prog 224 1=some (1,false,1):=by kernel_rfl
theorem Rm:C9 Tryz.prog 224 2=some (2,false,1):=by kernel_rfl
theorem Rl:C9 Tryz.prog 224 3=some (3,false,1):=by kernel_rfl
theorem Rk:C9 Tryz.prog 224 4=some (4,false,1):=by kernel_rfl
theorem Rj:C9 Tryz.prog 224 5=some (5,false,1):=by kernel_rfl
theorem Ri:C9 Tryz.prog 224 6=some (6,false,1):=by kernel_rfl
theorem Rh:C9 Tryz.prog 268 0=some (0,false,1):=by kernel_rfl
theorem Rf:C9 Tryz.prog 268 1=some (1,false,1):=by kernel_rfl
theorem Re:C9 Tryz.prog 268 2=some (2,false,1):=by kernel_rfl
theorem Rc:C9 Tryz.prog 268 3=some (3,false,1):=by kernel_rfl
theorem Rb:C9 Tryz.prog 268 4=some (4,true,4096):=by kernel_rfl
theorem Vm:aL Tryz.prog 125=true:=by kernel_rfl
theorem Ad:Tryz.prog.follows .mixedOrders=true:=by kernel_rfl
theorem u_3:type_of% @Tryz.underlying3:=Tryz.underlying3
theorem u_4:type_of% @Tryz.underlying4:=Tryz.underlying4
theorem u_5:type_of% @Tryz.underlying5:=Tryz.underlying5
theorem u_9:type_of% @Tryz.underlying9:=Tryz.underlying9
theorem wX:type_of% @Tryz.underlying125:=Tryz.underlying125
theorem wW:type_of% @Tryz.underlying204:=Tryz.underlying204
theorem Xv {a b:Prop}(x:a)(y:b):a/\b:=⟨x,y⟩
theorem BF:type_of% (Xv @qF<|Xv @wZ<|Xv @wY<|Xv @qE<|Xv @qD<|Xv @qC<|Xv @qB<|Xv @qA<|Xv @pZ<|Xv @pY<|Xv @pX<|Xv @pW<|Xv @pV<|Xv @pU<|Xv @kO<|Xv @kN<|Xv @kM<|Xv @kL<|Xv @kK<|Xv @kJ<|Xv @kI<|Xv @kH<|Xv @kG<|Xv @kF<|Xv @kE<|Xv @kD<|Xv @kC<|Xv @kB<|Xv @aJ<|Xv @aI<|Xv @aH<|Xv @aG<|Xv @aF<|Xv @Vk<|Xv @Vj<|Xv @Vi<|Xv @Vh<|Xv @Vg<|Xv @Vf<|Xv @Ve<|Xv @Vd<|Xv @Vb<|Xv @Va<|Xv @U9<|Xv @U8<|Xv @bH<|Xv @bG<|Xv @bF<|Xv @bE<|Xv @bD<|Xv @bC<|Xv @bB<|Xv @bA<|Xv @V9<|Xv @V8<|Xv @V7<|Xv @V6<|Xv @V5<|Xv @V4<|Xv @bP<|Xv @bO<|Xv @bN<|Xv @bM<|Xv @bL<|Xv @bK<|Xv @bJ<|Xv @kS<|Xv @kR<|Xv @kQ<|Xv @kP<|Xv @aX<|Xv @aW<|Xv @aV<|Xv @aS<|Xv @aR<|Xv @aQ<|Xv @aP<|Xv @aO<|Xv @aN<|Xv @aM<|Xv @Sb<|Xv @Oz<|Xv @Oy<|Xv @Ef<|Xv @Yf<|Xv @Kh<|Xv @Sa<|Xv @Fc<|Xv @G8<|Xv @Nj<|Xv @Dx<|Xv @Qx<|Xv @Ni<|Xv @Qw<|Xv @V0<|Xv @Vz<|Xv @Vy<|Xv @Vx<|Xv @Vw<|Xv @Vv<|Xv @Vu<|Xv @Vt<|Xv @Vs<|Xv @Vr<|Xv @Vq<|Xv @Vp<|Xv @Vo<|Xv @Vn<|Xv @R9<|Xv @R8<|Xv @R7<|Xv @R6<|Xv @R5<|Xv @R4<|Xv @R3<|Xv @R1<|Xv @Rz<|Xv @Ry<|Xv @Rx<|Xv @Rw<|Xv @Rv<|Xv @Ru<|Xv @Rt<|Xv @Rr<|Xv @Rq<|Xv @Rp<|Xv @Ro<|Xv @Rn<|Xv @Rm<|Xv @Rl<|Xv @Rk<|Xv @Rj<|Xv @Ri<|Xv @Rh<|Xv @Rf<|Xv @Re<|Xv @Rc<|Xv @Rb<|Xv @Vm<|Xv @u_3<|Xv @u_4<|Xv @u_5<|Xv @u_9<|Xv @wX<|@wW):=Xv @qF<|Xv @wZ<|Xv @wY<|Xv @qE<|Xv @qD<|Xv @qC<|Xv @qB<|Xv @qA<|Xv @pZ<|Xv @pY<|Xv @pX<|Xv @pW<|Xv @pV<|Xv @pU<|Xv @kO<|Xv @kN<|Xv @kM<|Xv @kL<|Xv @kK<|Xv @kJ<|Xv @kI<|Xv @kH<|Xv @kG<|Xv @kF<|Xv @kE<|Xv @kD<|Xv @kC<|Xv @kB<|Xv @aJ<|Xv @aI<|Xv @aH<|Xv @aG<|Xv @aF<|Xv @Vk<|Xv @Vj<|Xv @Vi<|Xv @Vh<|Xv @Vg<|Xv @Vf<|Xv @Ve<|Xv @Vd<|Xv @Vb<|Xv @Va<|Xv @U9<|Xv @U8<|Xv @bH<|Xv @bG<|Xv @bF<|Xv @bE<|Xv @bD<|Xv @bC<|Xv @bB<|Xv @bA<|Xv @V9<|Xv @V8<|Xv @V7<|Xv @V6<|Xv @V5<|Xv @V4<|Xv @bP<|Xv @bO<|Xv @bN<|Xv @bM<|Xv @bL<|Xv @bK<|Xv @bJ<|Xv @kS<|Xv @kR<|Xv @kQ<|Xv @kP<|Xv @aX<|Xv @aW<|Xv @aV<|Xv @aS<|Xv @aR<|Xv @aQ<|Xv @aP<|Xv @aO<|Xv @aN<|Xv @aM<|Xv @Sb<|Xv @Oz<|Xv @Oy<|Xv @Ef<|Xv @Yf<|Xv @Kh<|Xv @Sa<|Xv @Fc<|Xv @G8<|Xv @Nj<|Xv @Dx<|Xv @Qx<|Xv @Ni<|Xv @Qw<|Xv @V0<|Xv @Vz<|Xv @Vy<|Xv @Vx<|Xv @Vw<|Xv @Vv<|Xv @Vu<|Xv @Vt<|Xv @Vs<|Xv @Vr<|Xv @Vq<|Xv @Vp<|Xv @Vo<|Xv @Vn<|Xv @R9<|Xv @R8<|Xv @R7<|Xv @R6<|Xv @R5<|Xv @R4<|Xv @R3<|Xv @R1<|Xv @Rz<|Xv @Ry<|Xv @Rx<|Xv @Rw<|Xv @Rv<|Xv @Ru<|Xv @Rt<|Xv @Rr<|Xv @Rq<|Xv @Rp<|Xv @Ro<|Xv @Rn<|Xv @Rm<|Xv @Rl<|Xv @Rk<|Xv @Rj<|Xv @Ri<|Xv @Rh<|Xv @Rf<|Xv @Re<|Xv @Rc<|Xv @Rb<|Xv @Vm<|Xv @u_3<|Xv @u_4<|Xv @u_5<|Xv @u_9<|Xv @wX<|@wW
theorem Xa:type_of% @Ij:=@Ij
theorem Xb:type_of% @X6:=@X6
theorem Xc:type_of% @Ol:=@Ol
theorem Xd:type_of% @eR:=@eR
theorem Xe:type_of% @eT:=@eT
theorem Xf:type_of% @mA:=@mA
theorem Xg:type_of% @sZ:=@sZ
theorem Xh:type_of% @X7:=@X7
theorem Xi:type_of% @ACalls.mono:=@ACalls.mono
theorem Xj {A:Nat->Bool}{F:Nat->Prop}{D D':St}{i:Nat}{b:Prop}(hk:Kept A F D i D':=by with_unfolding_all first|exact kept_refl|exact Bz rfl|exact Ap (by assumption)):(b)->Kept A F D i D'/\b:=fun h=>⟨hk,h⟩
theorem Xn {p q:Prop}(e:p=q:=by ((try simp only[upd,↓reduceIte,Nat.reduceEqDiff,B2])<;>(try simp only[*,reduceCtorEq,Ady,Adz]))<;>rfl):p=q:=e
theorem Xo {p q:Prop}(e:p=q:=by (simp only[B3])<;>rfl):p->q:=e.mp
theorem Xp {p:Prop}(e:False:=by first|contradiction|omega|(simp at h<;>fail)):p:=e.elim
theorem Xk {P:Program}{n:Nat}{Q:Ge}{s:Sl}{D:St}{c:Operand}{x y:Code}{t:Bool}{q r u v:Prop}(hc:aev s c=sc (.bool t):=by with_unfolding_all rfl)(e1:(t=true)=q:=by exact Xn)(e2:(t=false)=r:=by exact Xn)(a1:q->u:=by first|exact Xo|exact fun _=>True.intro)(a2:r->v:=by first|exact Xo|exact fun _=>True.intro):(q->u->Jl P n x Q s D)->(r->v->Jl P n y Q s D)->Jl P n (.cond c x y) Q s D:=fun h1 h2=>Ua hc (fun h=>h1 (e1.mp h) (a1 (e1.mp h))) (fun h=>h2 (e2.mp h) (a2 (e2.mp h)))
theorem Xl {P:Program}{o:Oper}{s:Sl}{D:St}{k:Sl->St->Prop}{t:Bool}{q r u v:Prop}(e1:(t=true)=q:=by exact Xn)(e2:(t=false)=r:=by exact Xn)(a1:q->u:=by first|exact Xo|exact fun _=>True.intro)(a2:r->v:=by first|exact Xo|exact fun _=>True.intro):(q->u->aStep P o s D (nxt k s o.dst))->(r->v->k (aput s o.dst (sc undef)) D)->gd P o s D k (some t):=fun h1 h2=>sC (fun h=>gd_true.mpr (h1 (e1.mp h) (a1 (e1.mp h)))) (fun h=>gd_false.mpr (h2 (e2.mp h) (a2 (e2.mp h))))
theorem Xm {P:Program}{o:Oper}{s:Sl}{F:Nat->Prop}{σ0:St}{k:Sl->Prop}{t:Bool}{q r u v:Prop}(e1:(t=true)=q:=by exact Xn)(e2:(t=false)=r:=by exact Xn)(a1:q->u:=by first|exact Xo|exact fun _=>True.intro)(a2:r->v:=by first|exact Xo|exact fun _=>True.intro):(q->u->match aq P s σ0 o.op with
   |some x=>(∀p,xY s o.op=some p->F p)/\k (aput s o.dst x)
   |none=>False)->(r->v->k (aput s o.dst (sc undef)))->gt P o s F σ0 k (some t):=fun h1 h2=>sB (fun h=>gt_true.mpr (h1 (e1.mp h) (a1 (e1.mp h)))) (fun h=>gt_false.mpr (h2 (e2.mp h) (a2 (e2.mp h))))
theorem Xq {p:Prop}(h:p:=by first|rfl|assumption|omega|(simp only[Aa,Ac,Av];omega)|(simp;omega)|(simp<;>fail)):p:=h
theorem Xr {p q:Prop}(e:p=q:=by (simp (maxSteps:=3000000) (disch:=(first|omega|(simp only[B1, *];omega))) only[↓dQ,↓Wu,B0,B4,Ji,undef,aq,al,cst,cst1,acells,flat,behind,pC,fB,Ug,kW,wF,rB,xY,lJ,Value.cells,Value.oneCell',Int.reduceToNat,↓reduceIte,Nat.reduceLT,Nat.reduceEqDiff,reduceCtorEq,Nat.reduceAdd,Nat.reduceMul,Nat.reduceLeDiff,BF, *])<;>rfl):(q)->p:=fun h=>e.mpr h
theorem Xw {p q:Prop}(e:p=q:=by (simp (maxSteps:=3000000) (disch:=(first|omega|(simp only[Abj,B1, *];omega))) only[Abj,↓dQ,↓Wu,B0,B4,Ji,undef,aq,al,cst,cst1,acells,flat,behind,pC,fB,Ug,kW,wF,rB,xY,lJ,Value.cells,Value.oneCell',Int.reduceToNat,↓reduceIte,Nat.reduceLT,Nat.reduceEqDiff,reduceCtorEq,Nat.reduceAdd,Nat.reduceMul,Nat.reduceLeDiff,BF, *])<;>rfl):(q)->p:=fun h=>e.mpr h
theorem Xs {a b:St}(h:Keep a b:=by repeat (first|exact Keep.refl _|assumption|(refine Keep.put ?_ (by first|omega|(simp only[Aa,Ac,Av, *];omega)) _)|(refine Keep.new ?_ _)|(refine Keep.lay ?_ _)|(refine Keep.trans ?_ (by assumption)))):Keep a b:=h
theorem Xt {t:TypeId}{z b:Nat}{zc:List Value}{σ0 D:St}{id id2 n m m':Nat}{xs ys:List AV}{K:AV->St->Prop}
  
  (ht:Ld Tryz.prog t=some (z,b,zc):=by first|exact Sb|exact Oz|exact Oy|exact Ef|exact Yf|exact Kh|exact Sa|exact Fc|exact G8|exact Nj|exact kX|exact Dx|exact Qx|exact Ni|exact Qw) (hK:Keep σ0 D:=by assumption) (hO:Own σ0 D id n:=by assumption)
  (hz:0<z:=by decide) (hzc:zc.length=z:=by with_unfolding_all rfl) (hx:xs.length=n*z:=by first|assumption|(simp<;>fail)|(simp;omega)|omega) (hy:ys.length=m*z:=by with_unfolding_all rfl) (hf:ys.all flat=true:=by with_unfolding_all rfl) (hm:0<m:=by decide) (hb:(n+m)*b<=140737488355328:=by omega) (hl:n+m<=1099511627776:=by omega):(∀id' D',Own σ0 D' id' (n+m)->Keep σ0 D'->D'.obj=D.obj->D'.nobj=D.nobj->D'.ver=D.ver->D.ntop<D'.ntop->K (sl id' (n+m) (xs++ys)) D')->Gx Tryz.prog t t (sl id n xs) (sl id2 m ys) (D.lay m') K:=fun h=>C4 ht hK hO hz hzc hx hy hf hm hb hl h
theorem Xu {t:TypeId}{z b:Nat}{zc:List Value}{D:St}{id2 m:Nat}{ys:List AV}{K:AV->St->Prop}(ht:Ld Tryz.prog t=some (z,b,zc):=by first|exact Sb|exact Oz|exact Oy|exact Ef|exact Yf|exact Kh|exact Sa|exact Fc|exact G8|exact Nj|exact kX|exact Dx|exact Qx|exact Ni|exact Qw)(hz0:zc.length=z:=by with_unfolding_all rfl)
  (hz:0<z:=by decide) (hy:ys.length=m*z:=by with_unfolding_all rfl) (hf:ys.all flat=true:=by with_unfolding_all rfl) (hm:0<m:=by decide) (hb:m*b<=140737488355328:=by omega) (hl:m<=1099511627776:=by omega):(K (sl (D.ntop+2) m ys) (D.lay m))->Gx Tryz.prog t t nilS (sl id2 m ys) D K:=fun h=>tA ht hz0 hz hy hf hm hb hl h
theorem Z1 {p q:Prop}(h:p)(w:p->q:=by with_reducible first|exact Xa|exact Xb|exact Xd|exact Xe|exact Xf|exact Xu):q:=w h
theorem Z2 {a b c:Prop}(h1:a)(h2:b)(w:a->b->c:=by with_reducible first|exact Xl|exact Xm|exact Xk):c:=w h1 h2
theorem Z3 {p q:Prop}(h:p)(w:p->q:=by first|exact Xr|with_reducible exact Xj):q:=w h
theorem Z7 {p q:Prop}(h:p)(w:p->q:=by first|exact Xw|with_reducible exact Xj):q:=w h
theorem Z4 {p q:Prop}(h:p)(w:p->q:=by with_reducible exact J.out _ _):q:=w h
theorem Z5 {p q:Prop}(h:p)(w:p->q:=by with_reducible exact Xh):q:=w h
theorem Z6 {p q:Prop}(h:p)(w:p->q:=by with_reducible exact Xt):q:=w h
theorem Z8 {p q:Prop}(h:p)(w:p->q:=by with_reducible exact Xc):q:=w h
theorem Zi {a b c:Prop}(h1:a)(h2:b)(w:a->b->c:=by with_reducible exact And.intro):c:=w h1 h2
theorem Zt:True:=⟨⟩
theorem Z9 {P:Program}{f:FuncId}{fn:Func}{c:Code}{args:List AV}{D:St}{R:AV->St->Prop}(n:Nat)(rs:List ResultVar)(hf:P.funcs[f]?=some fn)(h:Jl P n c (rB P rs R) (initS args) D)(hb:fn.body=some c:=by rfl)(hn:fn.name≠ "runtime.NumGoroutine":=by decide)(hnt:fn.ntmps=n:=by rfl)(hrs:fn.results.toList=rs:=by rfl)(hl:args.length<=n:=by exact Nat.le_of_ble_eq_true rfl):ACalls P f args D R:=yR n rs hf hb hn hnt hrs hl h
theorem Ad3 {p:Prop}(h:p:=by simp[upd, *]):p:=h
theorem Ad4 {p:Prop}(h:p:=by simp[upd]):p:=h
theorem Ad5 {p:Prop}(h:p:=by kernel_rfl):p:=h
theorem Ad6 {p:Prop}(h:p:=by simp only[Aa];omega):p:=h
theorem Ad7 {p:Prop}(h:p:=by simp only[Ac,Aa];omega):p:=h
end Go.Abs
