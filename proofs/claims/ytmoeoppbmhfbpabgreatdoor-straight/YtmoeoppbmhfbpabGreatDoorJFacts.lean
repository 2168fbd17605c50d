import Derived.Test.YtmoeoppbmhfbpabGreatDoorProg
import Derived.Test.YtmoeoppbmhfbpabGreatDoorJAbsWp
import Derived.KernelRfl
set_option maxRecDepth 100000
set_option linter.all false
namespace Go.Abs
open Go.Proofs
theorem pU:Ji Tryz.prog 3=some (false,1):=by kernel_rfl
theorem wZ:Ji Tryz.prog 4=some (false,1):=by kernel_rfl
theorem wY:Ji Tryz.prog 9=some (false,1):=by kernel_rfl
theorem pT:Ji Tryz.prog 42=some (false,1):=by kernel_rfl
theorem pS:Ji Tryz.prog 60=some (false,1):=by kernel_rfl
theorem pR:Ji Tryz.prog 62=some (true,2):=by kernel_rfl
theorem pQ:Ji Tryz.prog 72=some (false,1):=by kernel_rfl
theorem pP:Ji Tryz.prog 75=some (false,1):=by kernel_rfl
theorem pO:Ji Tryz.prog 77=some (true,3):=by kernel_rfl
theorem jQ:Ji Tryz.prog 120=some (false,1):=by kernel_rfl
theorem jP:Ji Tryz.prog 122=some (true,2):=by kernel_rfl
theorem jO:Ji Tryz.prog 123=some (false,1):=by kernel_rfl
theorem jN:Ji Tryz.prog 125=some (true,4):=by kernel_rfl
theorem jK:Ji Tryz.prog 151=some (true,2):=by kernel_rfl
theorem jR:Ji Tryz.prog 113=some (true,3):=by kernel_rfl
theorem jM:Ji Tryz.prog 138=some (false,1):=by kernel_rfl
theorem jL:Ji Tryz.prog 141=some (true,3):=by kernel_rfl
theorem jH:Ji Tryz.prog 198=some (true,3):=by kernel_rfl
theorem jJ:Ji Tryz.prog 189=some (false,1):=by kernel_rfl
theorem jI:Ji Tryz.prog 191=some (true,4):=by kernel_rfl
theorem jG:Ji Tryz.prog 227=some (false,1):=by kernel_rfl
theorem jF:Ji Tryz.prog 239=some (true,3):=by kernel_rfl
theorem Zd:Hr Tryz.prog 62=some [Value.slice none 0 0,Value.slice none 0 0]:=by kernel_rfl
theorem Zc:Hr Tryz.prog 77=some [Value.slice none 0 0,Value.int IntKind.i64 (0),Value.int IntKind.i64 (0)]:=by kernel_rfl
theorem Vd:Hr Tryz.prog 122=some [Value.int IntKind.i64 (0),Value.slice none 0 0]:=by kernel_rfl
theorem Vb:Hr Tryz.prog 125=some [Value.bool false,Value.int IntKind.i64 (0),Value.slice none 0 0,Value.slice none 0 0]:=by kernel_rfl
theorem U9:Hr Tryz.prog 151=some [Value.bool false,Value.int IntKind.i64 (0)]:=by kernel_rfl
theorem Ve:Hr Tryz.prog 113=some [Value.string ⟨#[]⟩,Value.int IntKind.i64 (0),Value.slice none 0 0]:=by kernel_rfl
theorem Va:Hr Tryz.prog 141=some [Value.int IntKind.i64 (0),Value.int IntKind.i64 (0),Value.int IntKind.i64 (0)]:=by kernel_rfl
theorem U7:Hr Tryz.prog 198=some [Value.bool false,Value.int IntKind.i64 (0),Value.slice none 0 0]:=by kernel_rfl
theorem U8:Hr Tryz.prog 191=some [Value.int IntKind.i64 (0),Value.slice none 0 0,Value.slice none 0 0,Value.slice none 0 0]:=by kernel_rfl
theorem U6:Hr Tryz.prog 239=some [Value.int IntKind.i64 (0),Value.slice none 0 0,Value.slice none 0 0]:=by kernel_rfl
theorem U4:Hr Tryz.prog 273=some (oO 1026 (Value.bool false)):=by kernel_rfl
theorem U3:Hr Tryz.prog 304=some (oO 1026 (Value.int IntKind.i64 (0))):=by kernel_rfl
theorem Zx:Fq Tryz.prog 48=some (1,8):=by kernel_rfl
theorem Zy:Fq Tryz.prog 42=some (1,16):=by kernel_rfl
theorem Zw:Fq Tryz.prog 60=some (4,64):=by kernel_rfl
theorem Zv:Fq Tryz.prog 72=some (2,32):=by kernel_rfl
theorem Zu:Fq Tryz.prog 75=some (1,24):=by kernel_rfl
theorem Vv:Fq Tryz.prog 120=some (2,16):=by kernel_rfl
theorem Vu:Fq Tryz.prog 123=some (3,40):=by kernel_rfl
theorem Vt:Fq Tryz.prog 138=some (3,24):=by kernel_rfl
theorem Vs:Fq Tryz.prog 189=some (3,56):=by kernel_rfl
theorem Vr:Fq Tryz.prog 225=some (1,24):=by kernel_rfl
theorem Vq:Fq Tryz.prog 227=some (1,1):=by kernel_rfl
theorem aC:X3 Tryz.prog 141=some (3,1):=by kernel_rfl
theorem aA:X3 Tryz.prog 273=some (1026,1):=by kernel_rfl
theorem Z0:X3 Tryz.prog 304=some (1026,1):=by kernel_rfl
theorem jU:Mo Tryz.prog 62=some ([Value.slice none 0 0,Value.slice none 0 0],[(0,1),(1,1)]):=by kernel_rfl
theorem jT:Mo Tryz.prog 77=some ([Value.slice none 0 0,Value.int IntKind.i64 (0),Value.int IntKind.i64 (0)],[(0,1),(1,1),(2,1)]):=by kernel_rfl
theorem Zp:Mo Tryz.prog 122=some ([Value.int IntKind.i64 (0),Value.slice none 0 0],[(0,1),(1,1)]):=by kernel_rfl
theorem Zo:Mo Tryz.prog 125=some ([Value.bool false,Value.int IntKind.i64 (0),Value.slice none 0 0,Value.slice none 0 0],[(0,1),(1,2),(3,1)]):=by kernel_rfl
theorem Zm:Mo Tryz.prog 151=some ([Value.bool false,Value.int IntKind.i64 (0)],[(0,1),(1,1)]):=by kernel_rfl
theorem Zq:Mo Tryz.prog 113=some ([Value.string ⟨#[]⟩,Value.int IntKind.i64 (0),Value.slice none 0 0],[(0,1),(1,1),(2,1)]):=by kernel_rfl
theorem Zn:Mo Tryz.prog 141=some ([Value.int IntKind.i64 (0),Value.int IntKind.i64 (0),Value.int IntKind.i64 (0)],[(0,1),(1,1),(2,1)]):=by kernel_rfl
theorem Zk:Mo Tryz.prog 198=some ([Value.bool false,Value.int IntKind.i64 (0),Value.slice none 0 0],[(0,1),(1,2)]):=by kernel_rfl
theorem Zl:Mo Tryz.prog 191=some ([Value.int IntKind.i64 (0),Value.slice none 0 0,Value.slice none 0 0,Value.slice none 0 0],[(0,2),(2,1),(3,1)]):=by kernel_rfl
theorem Zj:Mo Tryz.prog 239=some ([Value.int IntKind.i64 (0),Value.slice none 0 0,Value.slice none 0 0],[(0,2),(2,1)]):=by kernel_rfl
theorem Oa:Lp Tryz.prog 48=some (1,8,[Value.int IntKind.i64 (0)]):=by kernel_rfl
theorem Rt:Lp Tryz.prog 42=some (1,16,[Value.string ⟨#[]⟩]):=by kernel_rfl
theorem Jj:Lp Tryz.prog 60=some (4,64,[Value.bool false,Value.int IntKind.i64 (0),Value.slice none 0 0,Value.slice none 0 0]):=by kernel_rfl
theorem D1:Lp Tryz.prog 72=some (2,32,[Value.int IntKind.i64 (0),Value.slice none 0 0]):=by kernel_rfl
theorem X0:Lp Tryz.prog 75=some (1,24,[Value.slice none 0 0]):=by kernel_rfl
theorem Ee:Lp Tryz.prog 120=some (2,16,[Value.bool false,Value.int IntKind.i64 (0)]):=by kernel_rfl
theorem Fp:Lp Tryz.prog 123=some (3,40,[Value.bool false,Value.int IntKind.i64 (0),Value.slice none 0 0]):=by kernel_rfl
theorem E0:Lp Tryz.prog 138=some (3,24,[Value.int IntKind.i64 (0),Value.int IntKind.i64 (0),Value.int IntKind.i64 (0)]):=by kernel_rfl
theorem jY:Lp Tryz.prog 101=some (3,48,[Value.bool false,Value.string ⟨#[]⟩,Value.slice none 0 0]):=by kernel_rfl
theorem pV:Lp Tryz.prog 96=some (5,80,[Value.bool false,Value.bool false,Value.string ⟨#[]⟩,Value.slice none 0 0,Value.slice none 0 0]):=by kernel_rfl
theorem jX:Lp Tryz.prog 160=some (2,32,[Value.string ⟨#[]⟩,Value.string ⟨#[]⟩]):=by kernel_rfl
theorem Di:Lp Tryz.prog 189=some (3,56,[Value.int IntKind.i64 (0),Value.slice none 0 0,Value.slice none 0 0]):=by kernel_rfl
theorem Xz:Lp Tryz.prog 87=some (1,1,[Value.int IntKind.u8 (0)]):=by kernel_rfl
theorem Mr:Lp Tryz.prog 225=some (1,24,[Value.slice none 0 0]):=by kernel_rfl
theorem Ql:Lp Tryz.prog 227=some (1,1,[Value.bool false]):=by kernel_rfl
theorem Vn:F2 Tryz.prog 62 0=some (0,false,1):=by kernel_rfl
theorem Vm:F2 Tryz.prog 62 1=some (1,false,1):=by kernel_rfl
theorem Vl:F2 Tryz.prog 77 0=some (0,false,1):=by kernel_rfl
theorem Vk:F2 Tryz.prog 77 1=some (1,false,1):=by kernel_rfl
theorem Vj:F2 Tryz.prog 77 2=some (2,false,1):=by kernel_rfl
theorem Ro:F2 Tryz.prog 122 0=some (0,false,1):=by kernel_rfl
theorem Rn:F2 Tryz.prog 122 1=some (1,false,1):=by kernel_rfl
theorem Rm:F2 Tryz.prog 125 0=some (0,false,1):=by kernel_rfl
theorem Rl:F2 Tryz.prog 125 1=some (1,true,2):=by kernel_rfl
theorem Rk:F2 Tryz.prog 125 2=some (3,false,1):=by kernel_rfl
theorem Rj:F2 Tryz.prog 151 0=some (0,false,1):=by kernel_rfl
theorem Ri:F2 Tryz.prog 151 1=some (1,false,1):=by kernel_rfl
theorem Rr:F2 Tryz.prog 113 0=some (0,false,1):=by kernel_rfl
theorem Rq:F2 Tryz.prog 113 1=some (1,false,1):=by kernel_rfl
theorem Rp:F2 Tryz.prog 113 2=some (2,false,1):=by kernel_rfl
theorem Rc:F2 Tryz.prog 198 0=some (0,false,1):=by kernel_rfl
theorem Rb:F2 Tryz.prog 198 1=some (1,true,2):=by kernel_rfl
theorem Rh:F2 Tryz.prog 191 0=some (0,true,2):=by kernel_rfl
theorem Rf:F2 Tryz.prog 191 1=some (2,false,1):=by kernel_rfl
theorem Re:F2 Tryz.prog 191 2=some (3,false,1):=by kernel_rfl
theorem Ra:F2 Tryz.prog 239 0=some (0,true,2):=by kernel_rfl
theorem Q9:F2 Tryz.prog 239 1=some (2,false,1):=by kernel_rfl
theorem Vg:Zs Tryz.prog 151=some .i64:=by kernel_rfl
theorem Vf:Zf Tryz.prog 141=true:=by kernel_rfl
theorem Ah:Tryz.prog.follows .mixedOrders=true:=by kernel_rfl
theorem u_3:type_of% @Tryz.underlying3:=Tryz.underlying3
theorem u_4:type_of% @Tryz.underlying4:=Tryz.underlying4
theorem u_5:type_of% @Tryz.underlying5:=Tryz.underlying5
theorem u_9:type_of% @Tryz.underlying9:=Tryz.underlying9
theorem wV:type_of% @Tryz.underlying141:=Tryz.underlying141
theorem zW:type_of% @Tryz.underlying87:=Tryz.underlying87
theorem pN:Ji Tryz.prog 82=some (true,64):=by kernel_rfl
theorem kB:X3 Tryz.prog 82=some (8,8):=by kernel_rfl
theorem kC:X3 Tryz.prog 81=some (8,1):=by kernel_rfl
theorem Vi:F2 Tryz.prog 84 0=some (0,true,64):=by kernel_rfl
theorem Vh:F2 Tryz.prog 84 1=some (64,true,64):=by kernel_rfl
theorem jS:Mo Tryz.prog 84=some (oO 128 (Value.bool false),[(0,64),(64,64)]):=by kernel_rfl
theorem jE:Ji Tryz.prog 260=some (true,104):=by kernel_rfl
theorem aB:X3 Tryz.prog 260=some (52,2):=by kernel_rfl
def ptZ:List Value:=(List.replicate 52 [Value.bool false,Value.int .i64 0]).flatten
def ptP:List (Nat×Nat):=(List.range 52).map fun k=>(k*2,2)
theorem U5:Hr Tryz.prog 260=some ptZ:=by kernel_rfl
theorem Zi:Mo Tryz.prog 260=some (ptZ,ptP):=by kernel_rfl
theorem Xv {a b:Prop}(x:a)(y:b):a/\b:=⟨x,y⟩
theorem BF:type_of% (Xv @pU<|Xv @wZ<|Xv @wY<|Xv @pT<|Xv @pS<|Xv @pR<|Xv @pQ<|Xv @pP<|Xv @pO<|Xv @jQ<|Xv @jP<|Xv @jO<|Xv @jN<|Xv @jK<|Xv @jR<|Xv @jM<|Xv @jL<|Xv @jH<|Xv @jJ<|Xv @jI<|Xv @jG<|Xv @jF<|Xv @Zd<|Xv @Zc<|Xv @Vd<|Xv @Vb<|Xv @U9<|Xv @Ve<|Xv @Va<|Xv @U7<|Xv @U8<|Xv @U6<|Xv @U4<|Xv @U3<|Xv @Zx<|Xv @Zy<|Xv @Zw<|Xv @Zv<|Xv @Zu<|Xv @Vv<|Xv @Vu<|Xv @Vt<|Xv @Vs<|Xv @Vr<|Xv @Vq<|Xv @aC<|Xv @aA<|Xv @Z0<|Xv @jU<|Xv @jT<|Xv @Zp<|Xv @Zo<|Xv @Zm<|Xv @Zq<|Xv @Zn<|Xv @Zk<|Xv @Zl<|Xv @Zj<|Xv @Oa<|Xv @Rt<|Xv @Jj<|Xv @D1<|Xv @X0<|Xv @Ee<|Xv @Fp<|Xv @E0<|Xv @Di<|Xv @Xz<|Xv @Mr<|Xv @Ql<|Xv @Vn<|Xv @Vm<|Xv @Vl<|Xv @Vk<|Xv @Vj<|Xv @Ro<|Xv @Rn<|Xv @Rm<|Xv @Rl<|Xv @Rk<|Xv @Rj<|Xv @Ri<|Xv @Rr<|Xv @Rq<|Xv @Rp<|Xv @Rc<|Xv @Rb<|Xv @Rh<|Xv @Rf<|Xv @Re<|Xv @Ra<|Xv @Q9<|Xv @Vg<|Xv @Vf<|Xv @u_3<|Xv @u_4<|Xv @u_5<|Xv @u_9<|Xv @wV<|Xv @zW<|Xv @pN<|Xv @kB<|Xv @kC<|Xv @Vi<|Xv @Vh<|Xv @jS<|Xv @jE<|Xv @aB<|Xv @U5<|@Zi):=Xv @pU<|Xv @wZ<|Xv @wY<|Xv @pT<|Xv @pS<|Xv @pR<|Xv @pQ<|Xv @pP<|Xv @pO<|Xv @jQ<|Xv @jP<|Xv @jO<|Xv @jN<|Xv @jK<|Xv @jR<|Xv @jM<|Xv @jL<|Xv @jH<|Xv @jJ<|Xv @jI<|Xv @jG<|Xv @jF<|Xv @Zd<|Xv @Zc<|Xv @Vd<|Xv @Vb<|Xv @U9<|Xv @Ve<|Xv @Va<|Xv @U7<|Xv @U8<|Xv @U6<|Xv @U4<|Xv @U3<|Xv @Zx<|Xv @Zy<|Xv @Zw<|Xv @Zv<|Xv @Zu<|Xv @Vv<|Xv @Vu<|Xv @Vt<|Xv @Vs<|Xv @Vr<|Xv @Vq<|Xv @aC<|Xv @aA<|Xv @Z0<|Xv @jU<|Xv @jT<|Xv @Zp<|Xv @Zo<|Xv @Zm<|Xv @Zq<|Xv @Zn<|Xv @Zk<|Xv @Zl<|Xv @Zj<|Xv @Oa<|Xv @Rt<|Xv @Jj<|Xv @D1<|Xv @X0<|Xv @Ee<|Xv @Fp<|Xv @E0<|Xv @Di<|Xv @Xz<|Xv @Mr<|Xv @Ql<|Xv @Vn<|Xv @Vm<|Xv @Vl<|Xv @Vk<|Xv @Vj<|Xv @Ro<|Xv @Rn<|Xv @Rm<|Xv @Rl<|Xv @Rk<|Xv @Rj<|Xv @Ri<|Xv @Rr<|Xv @Rq<|Xv @Rp<|Xv @Rc<|Xv @Rb<|Xv @Rh<|Xv @Rf<|Xv @Re<|Xv @Ra<|Xv @Q9<|Xv @Vg<|Xv @Vf<|Xv @u_3<|Xv @u_4<|Xv @u_5<|Xv @u_9<|Xv @wV<|Xv @zW<|Xv @pN<|Xv @kB<|Xv @kC<|Xv @Vi<|Xv @Vh<|Xv @jS<|Xv @jE<|Xv @aB<|Xv @U5<|@Zi
theorem Xa:type_of% @Yw:=@Yw
theorem Xb:type_of% @Wy:=@Wy
theorem Xc:type_of% @Ny:=@Ny
theorem Xd:type_of% @dP:=@dP
theorem Xe:type_of% @dR:=@dR
theorem Xf:type_of% @lE:=@lE
theorem Xg:type_of% @sS:=@sS
theorem Xh:type_of% @W0:=@W0
theorem Xi:type_of% @ACalls.mono:=@ACalls.mono
theorem Xj {A:Nat->Bool}{F:Nat->Prop}{D D':St}{i:Nat}{b:Prop}(hk:Kept A F D i D':=by with_unfolding_all first|exact kept_refl|exact Bt rfl|exact Aq (by assumption)):(b)->Kept A F D i D'/\b:=fun h=>⟨hk,h⟩
theorem Xn {p q:Prop}(e:p=q:=by ((try simp only[upd,↓reduceIte,Nat.reduceEqDiff,B2])<;>(try simp only[*,reduceCtorEq,decide_true,decide_false]))<;>rfl):p=q:=e
theorem Xo {p q:Prop}(e:p=q:=by (simp only[B3])<;>rfl):p->q:=e.mp
theorem Xp {p:Prop}(e:False:=by first|contradiction|omega|(simp at h<;>fail)):p:=e.elim
theorem Xk {P:Program}{n:Nat}{Q:Gk}{s:Sl}{D:St}{c:Operand}{x y:Code}{t:Bool}{q r u v:Prop}(hc:aev s c=sc (.bool t):=by with_unfolding_all rfl)(e1:(t=true)=q:=by exact Xn)(e2:(t=false)=r:=by exact Xn)(a1:q->u:=by first|exact Xo|exact fun _=>True.intro)(a2:r->v:=by first|exact Xo|exact fun _=>True.intro):(q->u->Jg P n x Q s D)->(r->v->Jg P n y Q s D)->Jg P n (.cond c x y) Q s D:=fun h1 h2=>Tz hc (fun h=>h1 (e1.mp h) (a1 (e1.mp h))) (fun h=>h2 (e2.mp h) (a2 (e2.mp h)))
theorem Xl {P:Program}{o:Oper}{s:Sl}{D:St}{k:Sl->St->Prop}{t:Bool}{q r u v:Prop}(e1:(t=true)=q:=by exact Xn)(e2:(t=false)=r:=by exact Xn)(a1:q->u:=by first|exact Xo|exact fun _=>True.intro)(a2:r->v:=by first|exact Xo|exact fun _=>True.intro):(q->u->aStep P o s D (nxt k s o.dst))->(r->v->k (aput s o.dst (sc undef)) D)->gd P o s D k (some t):=fun h1 h2=>rO (fun h=>gd_true.mpr (h1 (e1.mp h) (a1 (e1.mp h)))) (fun h=>gd_false.mpr (h2 (e2.mp h) (a2 (e2.mp h))))
theorem Xm {P:Program}{o:Oper}{s:Sl}{F:Nat->Prop}{σ0:St}{k:Sl->Prop}{t:Bool}{q r u v:Prop}(e1:(t=true)=q:=by exact Xn)(e2:(t=false)=r:=by exact Xn)(a1:q->u:=by first|exact Xo|exact fun _=>True.intro)(a2:r->v:=by first|exact Xo|exact fun _=>True.intro):(q->u->match aq P s σ0 o.op with
   |some x=>(∀p,yL s o.op=some p->F p)/\k (aput s o.dst x)
   |none=>False)->(r->v->k (aput s o.dst (sc undef)))->gt P o s F σ0 k (some t):=fun h1 h2=>rL (fun h=>gt_true.mpr (h1 (e1.mp h) (a1 (e1.mp h)))) (fun h=>gt_false.mpr (h2 (e2.mp h) (a2 (e2.mp h))))
theorem Xq {p:Prop}(h:p:=by first|rfl|assumption|omega|(simp only[Aa,Ab,Ag];omega)|(simp;omega)|(simp<;>fail)):p:=h
theorem Xr {p q:Prop}(e:p=q:=by (simp (maxSteps:=3000000) (disch:=(first|omega|(simp only[B1, *];omega))) only[↓cF,↓Wi,B0,B4,Jf,undef,aq,al,cst,cst1,acells,flat,behind,oK,eB,Ub,jW,vX,qK,yL,kM,Value.cells,Value.oneCell',Int.reduceToNat,↓reduceIte,Nat.reduceLT,Nat.reduceEqDiff,reduceCtorEq,Nat.reduceAdd,Nat.reduceMul,Nat.reduceLeDiff,BF, *])<;>rfl):(q)->p:=fun h=>e.mpr h
theorem Xw {p q:Prop}(e:p=q:=by (simp (maxSteps:=3000000) (disch:=(first|omega|(simp only[Ab6,B1, *];omega))) only[Ab6,↓cF,↓Wi,B0,B4,Jf,undef,aq,al,cst,cst1,acells,flat,behind,oK,eB,Ub,jW,vX,qK,yL,kM,Value.cells,Value.oneCell',Int.reduceToNat,↓reduceIte,Nat.reduceLT,Nat.reduceEqDiff,reduceCtorEq,Nat.reduceAdd,Nat.reduceMul,Nat.reduceLeDiff,BF, *])<;>rfl):(q)->p:=fun h=>e.mpr h
theorem Xs {a b:St}(h:Keep a b:=by repeat (first|exact Keep.refl _|assumption|(refine Keep.put ?_ (by first|omega|(simp only[Aa,Ab,Ag, *];omega)) _)|(refine Keep.new ?_ _)|(refine Keep.lay ?_ _)|(refine Keep.trans ?_ (by assumption)))):Keep a b:=h
theorem Xt {t:TypeId}{z b:Nat}{zc:List Value}{σ0 D:St}{id id2 n m m':Nat}{xs ys:List AV}{K:AV->St->Prop}
  
  (ht:Lp Tryz.prog t=some (z,b,zc):=by first|exact Oa|exact Rt|exact Jj|exact D1|exact X0|exact Ee|exact Fp|exact E0|exact jY|exact pV|exact jX|exact Di|exact Xz|exact Mr|exact Ql) (hK:Keep σ0 D:=by assumption) (hO:Own σ0 D id n:=by assumption)
  (hz:0<z:=by decide) (hzc:zc.length=z:=by with_unfolding_all rfl) (hx:xs.length=n*z:=by first|assumption|(simp<;>fail)|(simp;omega)|omega) (hy:ys.length=m*z:=by with_unfolding_all rfl) (hf:ys.all flat=true:=by with_unfolding_all rfl) (hm:0<m:=by decide) (hb:(n+m)*b<=140737488355328:=by omega) (hl:n+m<=1099511627776:=by omega):(∀id' D',Own σ0 D' id' (n+m)->Keep σ0 D'->D'.obj=D.obj->D'.nobj=D.nobj->D'.ver=D.ver->D.ntop<D'.ntop->K (sl id' (n+m) (xs++ys)) D')->Hg Tryz.prog t t (sl id n xs) (sl id2 m ys) (D.lay m') K:=fun h=>Bn ht hK hO hz hzc hx hy hf hm hb hl h
theorem Xu {t:TypeId}{z b:Nat}{zc:List Value}{D:St}{id2 m:Nat}{ys:List AV}{K:AV->St->Prop}(ht:Lp Tryz.prog t=some (z,b,zc):=by first|exact Oa|exact Rt|exact Jj|exact D1|exact X0|exact Ee|exact Fp|exact E0|exact jY|exact pV|exact jX|exact Di|exact Xz|exact Mr|exact Ql)(hz0:zc.length=z:=by with_unfolding_all rfl)
  (hz:0<z:=by decide) (hy:ys.length=m*z:=by with_unfolding_all rfl) (hf:ys.all flat=true:=by with_unfolding_all rfl) (hm:0<m:=by decide) (hb:m*b<=140737488355328:=by omega) (hl:m<=1099511627776:=by omega):(K (sl (D.ntop+2) m ys) (D.lay m))->Hg Tryz.prog t t nilS (sl id2 m ys) D K:=fun h=>sT ht hz0 hz hy hf hm hb hl h
theorem Z1 {p q:Prop}(h:p)(w:p->q:=by with_reducible first|exact Xa|exact Xb|exact Xd|exact Xe|exact Xf|exact Xu):q:=w h
theorem Z2 {a b c:Prop}(h1:a)(h2:b)(w:a->b->c:=by with_reducible first|exact Xl|exact Xm|exact Xk):c:=w h1 h2
theorem Z3 {p q:Prop}(h:p)(w:p->q:=by first|exact Xr|with_reducible exact Xj):q:=w h
theorem Z7 {p q:Prop}(h:p)(w:p->q:=by first|exact Xw|with_reducible exact Xj):q:=w h
theorem Z4 {p q:Prop}(h:p)(w:p->q:=by with_reducible exact hκ.out _ _):q:=w h
theorem Z5 {p q:Prop}(h:p)(w:p->q:=by with_reducible exact Xh):q:=w h
theorem Z6 {p q:Prop}(h:p)(w:p->q:=by with_reducible exact Xt):q:=w h
theorem Z8 {p q:Prop}(h:p)(w:p->q:=by with_reducible exact Xc):q:=w h
theorem Z9 {P:Program}{f:FuncId}{fn:Func}{c:Code}{args:List AV}{D:St}{R:AV->St->Prop}(n:Nat)(rs:List ResultVar)(hf:P.funcs[f]?=some fn)(h:Jg P n c (qK P rs R) (initS args) D)(hb:fn.body=some c:=by rfl)(hn:fn.name≠ "runtime.NumGoroutine":=by decide)(hnt:fn.ntmps=n:=by rfl)(hrs:fn.results.toList=rs:=by rfl)(hl:args.length<=n:=by exact Nat.le_of_ble_eq_true rfl):ACalls P f args D R:=zC n rs hf hb hn hnt hrs hl h
theorem Ad7 {p:Prop}(h:p:=by simp[upd, *]):p:=h
theorem Ad8 {p:Prop}(h:p:=by simp[upd]):p:=h
theorem Ad9 {p:Prop}(h:p:=by kernel_rfl):p:=h
theorem Aea {p:Prop}(h:p:=by simp only[Aa];omega):p:=h
theorem Aeb {p:Prop}(h:p:=by simp only[Ab,Aa];omega):p:=h
end Go.Abs
