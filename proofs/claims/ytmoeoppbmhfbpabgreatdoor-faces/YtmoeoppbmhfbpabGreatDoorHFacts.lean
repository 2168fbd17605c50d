import Derived.Test.YtmoeoppbmhfbpabGreatDoorProg
import Derived.Test.YtmoeoppbmhfbpabGreatDoorHAbsWp
import Derived.KernelRfl
set_option linter.all false
namespace Go.Abs
open Go.Proofs
theorem xH:I9 Tryz.prog 3=some (false,1):=by kernel_rfl
theorem xG:I9 Tryz.prog 4=some (false,1):=by kernel_rfl
theorem xF:I9 Tryz.prog 9=some (false,1):=by kernel_rfl
theorem pO:I9 Tryz.prog 42=some (false,1):=by kernel_rfl
theorem pN:I9 Tryz.prog 60=some (false,1):=by kernel_rfl
theorem pM:I9 Tryz.prog 62=some (true,2):=by kernel_rfl
theorem pL:I9 Tryz.prog 72=some (false,1):=by kernel_rfl
theorem pK:I9 Tryz.prog 75=some (false,1):=by kernel_rfl
theorem pJ:I9 Tryz.prog 77=some (true,3):=by kernel_rfl
theorem jN:I9 Tryz.prog 120=some (false,1):=by kernel_rfl
theorem jM:I9 Tryz.prog 122=some (true,2):=by kernel_rfl
theorem jL:I9 Tryz.prog 123=some (false,1):=by kernel_rfl
theorem jK:I9 Tryz.prog 125=some (true,4):=by kernel_rfl
theorem jH:I9 Tryz.prog 151=some (true,2):=by kernel_rfl
theorem jG:I9 Tryz.prog 154=some (true,78):=by kernel_rfl
theorem jO:I9 Tryz.prog 113=some (true,3):=by kernel_rfl
theorem jJ:I9 Tryz.prog 138=some (false,1):=by kernel_rfl
theorem jI:I9 Tryz.prog 141=some (true,3):=by kernel_rfl
theorem jD:I9 Tryz.prog 198=some (true,3):=by kernel_rfl
theorem jF:I9 Tryz.prog 189=some (false,1):=by kernel_rfl
theorem jE:I9 Tryz.prog 191=some (true,4):=by kernel_rfl
theorem jC:I9 Tryz.prog 227=some (false,1):=by kernel_rfl
theorem jB:I9 Tryz.prog 239=some (true,3):=by kernel_rfl
theorem Zg:Gg Tryz.prog 62=some [Value.slice none 0 0,Value.slice none 0 0]:=by kernel_rfl
theorem Zf:Gg Tryz.prog 77=some [Value.slice none 0 0,Value.int IntKind.i64 (0),Value.int IntKind.i64 (0)]:=by kernel_rfl
theorem Vj:Gg Tryz.prog 122=some [Value.int IntKind.i64 (0),Value.slice none 0 0]:=by kernel_rfl
theorem Vi:Gg Tryz.prog 125=some [Value.bool false,Value.int IntKind.i64 (0),Value.slice none 0 0,Value.slice none 0 0]:=by kernel_rfl
theorem Vf:Gg Tryz.prog 151=some [Value.bool false,Value.int IntKind.i64 (0)]:=by kernel_rfl
def swZ:List Value:=List.replicate 26 (.bool false)++(List.replicate 26 [Value.bool false,Value.int .i64 0]).flatten
theorem Ve:Gg Tryz.prog 154=some swZ:=by kernel_rfl
theorem Vk:Gg Tryz.prog 113=some [Value.string ⟨#[]⟩,Value.int IntKind.i64 (0),Value.slice none 0 0]:=by kernel_rfl
theorem Vg:Gg Tryz.prog 141=some [Value.int IntKind.i64 (0),Value.int IntKind.i64 (0),Value.int IntKind.i64 (0)]:=by kernel_rfl
theorem Vb:Gg Tryz.prog 198=some [Value.bool false,Value.int IntKind.i64 (0),Value.slice none 0 0]:=by kernel_rfl
theorem Vd:Gg Tryz.prog 191=some [Value.int IntKind.i64 (0),Value.slice none 0 0,Value.slice none 0 0,Value.slice none 0 0]:=by kernel_rfl
theorem Va:Gg Tryz.prog 239=some [Value.int IntKind.i64 (0),Value.slice none 0 0,Value.slice none 0 0]:=by kernel_rfl
theorem U8:Gg Tryz.prog 273=some (oN 1026 (Value.bool false)):=by kernel_rfl
theorem U7:Gg Tryz.prog 304=some (oN 1026 (Value.int IntKind.i64 (0))):=by kernel_rfl
theorem aA:Fl Tryz.prog 48=some (1,8):=by kernel_rfl
theorem aB:Fl Tryz.prog 42=some (1,16):=by kernel_rfl
theorem Z0:Fl Tryz.prog 60=some (4,64):=by kernel_rfl
theorem Zz:Fl Tryz.prog 72=some (2,32):=by kernel_rfl
theorem Zy:Fl Tryz.prog 75=some (1,24):=by kernel_rfl
theorem Vx:Fl Tryz.prog 120=some (2,16):=by kernel_rfl
theorem Vw:Fl Tryz.prog 123=some (3,40):=by kernel_rfl
theorem Vv:Fl Tryz.prog 138=some (3,24):=by kernel_rfl
theorem Vu:Fl Tryz.prog 189=some (3,56):=by kernel_rfl
theorem Vt:Fl Tryz.prog 225=some (1,24):=by kernel_rfl
theorem Vs:Fl Tryz.prog 227=some (1,1):=by kernel_rfl
theorem aH:Uj Tryz.prog 149=some (26,1):=by kernel_rfl
theorem aG:Uj Tryz.prog 152=some (26,2):=by kernel_rfl
theorem aI:Uj Tryz.prog 141=some (3,1):=by kernel_rfl
theorem aE:Uj Tryz.prog 273=some (1026,1):=by kernel_rfl
theorem aD:Uj Tryz.prog 304=some (1026,1):=by kernel_rfl
theorem jQ:M6 Tryz.prog 62=some ([Value.slice none 0 0,Value.slice none 0 0],[(0,1),(1,1)]):=by kernel_rfl
theorem jP:M6 Tryz.prog 77=some ([Value.slice none 0 0,Value.int IntKind.i64 (0),Value.int IntKind.i64 (0)],[(0,1),(1,1),(2,1)]):=by kernel_rfl
theorem Zt:M6 Tryz.prog 122=some ([Value.int IntKind.i64 (0),Value.slice none 0 0],[(0,1),(1,1)]):=by kernel_rfl
theorem Zs:M6 Tryz.prog 125=some ([Value.bool false,Value.int IntKind.i64 (0),Value.slice none 0 0,Value.slice none 0 0],[(0,1),(1,2),(3,1)]):=by kernel_rfl
theorem Zq:M6 Tryz.prog 151=some ([Value.bool false,Value.int IntKind.i64 (0)],[(0,1),(1,1)]):=by kernel_rfl
theorem Zp:M6 Tryz.prog 154=some (swZ,[(0,26),(26,52)]):=by kernel_rfl
theorem Zu:M6 Tryz.prog 113=some ([Value.string ⟨#[]⟩,Value.int IntKind.i64 (0),Value.slice none 0 0],[(0,1),(1,1),(2,1)]):=by kernel_rfl
theorem Zr:M6 Tryz.prog 141=some ([Value.int IntKind.i64 (0),Value.int IntKind.i64 (0),Value.int IntKind.i64 (0)],[(0,1),(1,1),(2,1)]):=by kernel_rfl
theorem Zn:M6 Tryz.prog 198=some ([Value.bool false,Value.int IntKind.i64 (0),Value.slice none 0 0],[(0,1),(1,2)]):=by kernel_rfl
theorem Zo:M6 Tryz.prog 191=some ([Value.int IntKind.i64 (0),Value.slice none 0 0,Value.slice none 0 0,Value.slice none 0 0],[(0,2),(2,1),(3,1)]):=by kernel_rfl
theorem Zm:M6 Tryz.prog 239=some ([Value.int IntKind.i64 (0),Value.slice none 0 0,Value.slice none 0 0],[(0,2),(2,1)]):=by kernel_rfl
theorem Oj:Ma Tryz.prog 48=some (1,8,[Value.int IntKind.i64 (0)]):=by kernel_rfl
theorem Ry:Ma Tryz.prog 42=some (1,16,[Value.string ⟨#[]⟩]):=by kernel_rfl
theorem J7:Ma Tryz.prog 60=some (4,64,[Value.bool false,Value.int IntKind.i64 (0),Value.slice none 0 0,Value.slice none 0 0]):=by kernel_rfl
theorem Er:Ma Tryz.prog 72=some (2,32,[Value.int IntKind.i64 (0),Value.slice none 0 0]):=by kernel_rfl
theorem Xx:Ma Tryz.prog 75=some (1,24,[Value.slice none 0 0]):=by kernel_rfl
theorem Ds:Ma Tryz.prog 120=some (2,16,[Value.bool false,Value.int IntKind.i64 (0)]):=by kernel_rfl
theorem D5:Ma Tryz.prog 123=some (3,40,[Value.bool false,Value.int IntKind.i64 (0),Value.slice none 0 0]):=by kernel_rfl
theorem Fj:Ma Tryz.prog 138=some (3,24,[Value.int IntKind.i64 (0),Value.int IntKind.i64 (0),Value.int IntKind.i64 (0)]):=by kernel_rfl
theorem jU:Ma Tryz.prog 101=some (3,48,[Value.bool false,Value.string ⟨#[]⟩,Value.slice none 0 0]):=by kernel_rfl
theorem pR:Ma Tryz.prog 96=some (5,80,[Value.bool false,Value.bool false,Value.string ⟨#[]⟩,Value.slice none 0 0,Value.slice none 0 0]):=by kernel_rfl
theorem jT:Ma Tryz.prog 160=some (2,32,[Value.string ⟨#[]⟩,Value.string ⟨#[]⟩]):=by kernel_rfl
theorem Dh:Ma Tryz.prog 189=some (3,56,[Value.int IntKind.i64 (0),Value.slice none 0 0,Value.slice none 0 0]):=by kernel_rfl
theorem W9:Ma Tryz.prog 87=some (1,1,[Value.int IntKind.u8 (0)]):=by kernel_rfl
theorem M9:Ma Tryz.prog 225=some (1,24,[Value.slice none 0 0]):=by kernel_rfl
theorem Qh:Ma Tryz.prog 227=some (1,1,[Value.bool false]):=by kernel_rfl
theorem Vr:Fw Tryz.prog 62 0=some (0,false,1):=by kernel_rfl
theorem Vq:Fw Tryz.prog 62 1=some (1,false,1):=by kernel_rfl
theorem Vp:Fw Tryz.prog 77 0=some (0,false,1):=by kernel_rfl
theorem Vo:Fw Tryz.prog 77 1=some (1,false,1):=by kernel_rfl
theorem Vn:Fw Tryz.prog 77 2=some (2,false,1):=by kernel_rfl
theorem Ru:Fw Tryz.prog 122 0=some (0,false,1):=by kernel_rfl
theorem Rt:Fw Tryz.prog 122 1=some (1,false,1):=by kernel_rfl
theorem Rr:Fw Tryz.prog 125 0=some (0,false,1):=by kernel_rfl
theorem Rq:Fw Tryz.prog 125 1=some (1,true,2):=by kernel_rfl
theorem Rp:Fw Tryz.prog 125 2=some (3,false,1):=by kernel_rfl
theorem Ro:Fw Tryz.prog 151 0=some (0,false,1):=by kernel_rfl
theorem Rn:Fw Tryz.prog 151 1=some (1,false,1):=by kernel_rfl
theorem Rm:Fw Tryz.prog 154 0=some (0,true,26):=by kernel_rfl
theorem Rl:Fw Tryz.prog 154 1=some (26,true,52):=by kernel_rfl
theorem Rx:Fw Tryz.prog 113 0=some (0,false,1):=by kernel_rfl
theorem Rw:Fw Tryz.prog 113 1=some (1,false,1):=by kernel_rfl
theorem Rv:Fw Tryz.prog 113 2=some (2,false,1):=by kernel_rfl
theorem Rh:Fw Tryz.prog 198 0=some (0,false,1):=by kernel_rfl
theorem Rf:Fw Tryz.prog 198 1=some (1,true,2):=by kernel_rfl
theorem Rk:Fw Tryz.prog 191 0=some (0,true,2):=by kernel_rfl
theorem Rj:Fw Tryz.prog 191 1=some (2,false,1):=by kernel_rfl
theorem Ri:Fw Tryz.prog 191 2=some (3,false,1):=by kernel_rfl
theorem Re:Fw Tryz.prog 239 0=some (0,true,2):=by kernel_rfl
theorem Rc:Fw Tryz.prog 239 1=some (2,false,1):=by kernel_rfl
theorem Vm:Zw Tryz.prog 151=some .i64:=by kernel_rfl
theorem Vl:Zi Tryz.prog 141=true:=by kernel_rfl
theorem Ak:Tryz.prog.follows .mixedOrders=true:=by kernel_rfl
theorem u_3:type_of% @Tryz.underlying3:=Tryz.underlying3
theorem u_4:type_of% @Tryz.underlying4:=Tryz.underlying4
theorem u_5:type_of% @Tryz.underlying5:=Tryz.underlying5
theorem u_9:type_of% @Tryz.underlying9:=Tryz.underlying9
theorem xD:type_of% @Tryz.underlying123:=Tryz.underlying123
theorem Aaj:type_of% @Tryz.underlying87:=Tryz.underlying87
theorem Vh:Gg Tryz.prog 127=some (oN 26 (Value.int IntKind.i64 (0))):=by kernel_rfl
theorem aJ:Uj Tryz.prog 127=some (26,1):=by kernel_rfl
theorem jA:I9 Tryz.prog 260=some (true,104):=by kernel_rfl
theorem aF:Uj Tryz.prog 260=some (52,2):=by kernel_rfl
def ptZ:List Value:=(List.replicate 52 [Value.bool false,Value.int .i64 0]).flatten
def ptP:List (Nat×Nat):=(List.range 52).map fun k=>(k*2,2)
theorem U9:Gg Tryz.prog 260=some ptZ:=by kernel_rfl
theorem Zl:M6 Tryz.prog 260=some (ptZ,ptP):=by kernel_rfl
set_option maxRecDepth 100000
theorem Xv {a b:Prop}(x:a)(y:b):a/\b:=⟨x,y⟩
theorem BF:type_of% (Xv @xH<|Xv @xG<|Xv @xF<|Xv @pO<|Xv @pN<|Xv @pM<|Xv @pL<|Xv @pK<|Xv @pJ<|Xv @jN<|Xv @jM<|Xv @jL<|Xv @jK<|Xv @jH<|Xv @jG<|Xv @jO<|Xv @jJ<|Xv @jI<|Xv @jD<|Xv @jF<|Xv @jE<|Xv @jC<|Xv @jB<|Xv @Zg<|Xv @Zf<|Xv @Vj<|Xv @Vi<|Xv @Vf<|Xv @Ve<|Xv @Vk<|Xv @Vg<|Xv @Vb<|Xv @Vd<|Xv @Va<|Xv @U8<|Xv @U7<|Xv @aA<|Xv @aB<|Xv @Z0<|Xv @Zz<|Xv @Zy<|Xv @Vx<|Xv @Vw<|Xv @Vv<|Xv @Vu<|Xv @Vt<|Xv @Vs<|Xv @aH<|Xv @aG<|Xv @aI<|Xv @aE<|Xv @aD<|Xv @jQ<|Xv @jP<|Xv @Zt<|Xv @Zs<|Xv @Zq<|Xv @Zp<|Xv @Zu<|Xv @Zr<|Xv @Zn<|Xv @Zo<|Xv @Zm<|Xv @Oj<|Xv @Ry<|Xv @J7<|Xv @Er<|Xv @Xx<|Xv @Ds<|Xv @D5<|Xv @Fj<|Xv @Dh<|Xv @W9<|Xv @M9<|Xv @Qh<|Xv @Vr<|Xv @Vq<|Xv @Vp<|Xv @Vo<|Xv @Vn<|Xv @Ru<|Xv @Rt<|Xv @Rr<|Xv @Rq<|Xv @Rp<|Xv @Ro<|Xv @Rn<|Xv @Rm<|Xv @Rl<|Xv @Rx<|Xv @Rw<|Xv @Rv<|Xv @Rh<|Xv @Rf<|Xv @Rk<|Xv @Rj<|Xv @Ri<|Xv @Re<|Xv @Rc<|Xv @Vm<|Xv @Vl<|Xv @u_3<|Xv @u_4<|Xv @u_5<|Xv @u_9<|Xv @xD<|Xv @Aaj<|Xv @Vh<|Xv @aJ<|Xv @jA<|Xv @aF<|Xv @U9<|@Zl):=Xv @xH<|Xv @xG<|Xv @xF<|Xv @pO<|Xv @pN<|Xv @pM<|Xv @pL<|Xv @pK<|Xv @pJ<|Xv @jN<|Xv @jM<|Xv @jL<|Xv @jK<|Xv @jH<|Xv @jG<|Xv @jO<|Xv @jJ<|Xv @jI<|Xv @jD<|Xv @jF<|Xv @jE<|Xv @jC<|Xv @jB<|Xv @Zg<|Xv @Zf<|Xv @Vj<|Xv @Vi<|Xv @Vf<|Xv @Ve<|Xv @Vk<|Xv @Vg<|Xv @Vb<|Xv @Vd<|Xv @Va<|Xv @U8<|Xv @U7<|Xv @aA<|Xv @aB<|Xv @Z0<|Xv @Zz<|Xv @Zy<|Xv @Vx<|Xv @Vw<|Xv @Vv<|Xv @Vu<|Xv @Vt<|Xv @Vs<|Xv @aH<|Xv @aG<|Xv @aI<|Xv @aE<|Xv @aD<|Xv @jQ<|Xv @jP<|Xv @Zt<|Xv @Zs<|Xv @Zq<|Xv @Zp<|Xv @Zu<|Xv @Zr<|Xv @Zn<|Xv @Zo<|Xv @Zm<|Xv @Oj<|Xv @Ry<|Xv @J7<|Xv @Er<|Xv @Xx<|Xv @Ds<|Xv @D5<|Xv @Fj<|Xv @Dh<|Xv @W9<|Xv @M9<|Xv @Qh<|Xv @Vr<|Xv @Vq<|Xv @Vp<|Xv @Vo<|Xv @Vn<|Xv @Ru<|Xv @Rt<|Xv @Rr<|Xv @Rq<|Xv @Rp<|Xv @Ro<|Xv @Rn<|Xv @Rm<|Xv @Rl<|Xv @Rx<|Xv @Rw<|Xv @Rv<|Xv @Rh<|Xv @Rf<|Xv @Rk<|Xv @Rj<|Xv @Ri<|Xv @Re<|Xv @Rc<|Xv @Vm<|Xv @Vl<|Xv @u_3<|Xv @u_4<|Xv @u_5<|Xv @u_9<|Xv @xD<|Xv @Aaj<|Xv @Vh<|Xv @aJ<|Xv @jA<|Xv @aF<|Xv @U9<|@Zl
theorem Xa:type_of% @Yt:=@Yt
theorem Xb:type_of% @W1:=@W1
theorem Xc:type_of% @N9:=@N9
theorem Xd:type_of% @dO:=@dO
theorem Xe:type_of% @dQ:=@dQ
theorem Xf:type_of% @kY:=@kY
theorem Xg:type_of% @tH:=@tH
theorem Xh:type_of% @W4:=@W4
theorem Xi:type_of% @ACalls.mono:=@ACalls.mono
theorem Xj {A:Nat->Bool}{F:Nat->Prop}{D D':St}{i:Nat}{b:Prop}(hk:Kept A F D i D':=by with_unfolding_all first|exact kept_refl|exact Bo rfl|exact Ao (by assumption)):(b)->Kept A F D i D'/\b:=fun h=>⟨hk,h⟩
theorem Xn {p q:Prop}(e:p=q:=by ((try simp only[upd,↓reduceIte,Nat.reduceEqDiff,B2])<;>(try simp only[*,reduceCtorEq,decide_true,decide_false]))<;>rfl):p=q:=e
theorem Xo {p q:Prop}(e:p=q:=by (simp only[B3])<;>rfl):p->q:=e.mp
theorem Xp {p:Prop}(e:False:=by first|contradiction|omega|(simp at h<;>fail)):p:=e.elim
theorem Xk {P:Program}{n:Nat}{Q:Gn}{s:Sl}{D:St}{c:Operand}{x y:Code}{t:Bool}{q r u v:Prop}(hc:aev s c=sc (.bool t):=by with_unfolding_all rfl)(e1:(t=true)=q:=by exact Xn)(e2:(t=false)=r:=by exact Xn)(a1:q->u:=by first|exact Xo|exact fun _=>True.intro)(a2:r->v:=by first|exact Xo|exact fun _=>True.intro):(q->u->Jw P n x Q s D)->(r->v->Jw P n y Q s D)->Jw P n (.cond c x y) Q s D:=fun h1 h2=>T1 hc (fun h=>h1 (e1.mp h) (a1 (e1.mp h))) (fun h=>h2 (e2.mp h) (a2 (e2.mp h)))
theorem Xl {P:Program}{o:Oper}{s:Sl}{D:St}{k:Sl->St->Prop}{t:Bool}{q r u v:Prop}(e1:(t=true)=q:=by exact Xn)(e2:(t=false)=r:=by exact Xn)(a1:q->u:=by first|exact Xo|exact fun _=>True.intro)(a2:r->v:=by first|exact Xo|exact fun _=>True.intro):(q->u->aStep P o s D (nxt k s o.dst))->(r->v->k (aput s o.dst (sc undef)) D)->gd P o s D k (some t):=fun h1 h2=>sB (fun h=>gd_true.mpr (h1 (e1.mp h) (a1 (e1.mp h)))) (fun h=>gd_false.mpr (h2 (e2.mp h) (a2 (e2.mp h))))
theorem Xm {P:Program}{o:Oper}{s:Sl}{F:Nat->Prop}{σ0:St}{k:Sl->Prop}{t:Bool}{q r u v:Prop}(e1:(t=true)=q:=by exact Xn)(e2:(t=false)=r:=by exact Xn)(a1:q->u:=by first|exact Xo|exact fun _=>True.intro)(a2:r->v:=by first|exact Xo|exact fun _=>True.intro):(q->u->match aq P s σ0 o.op with
   |some x=>(∀p,yR s o.op=some p->F p)/\k (aput s o.dst x)
   |none=>False)->(r->v->k (aput s o.dst (sc undef)))->gt P o s F σ0 k (some t):=fun h1 h2=>rZ (fun h=>gt_true.mpr (h1 (e1.mp h) (a1 (e1.mp h)))) (fun h=>gt_false.mpr (h2 (e2.mp h) (a2 (e2.mp h))))
theorem Xq {p:Prop}(h:p:=by first|rfl|assumption|omega|(simp only[Aa,Ab,Ah];omega)|(simp;omega)|(simp<;>fail)):p:=h
theorem Xr {p q:Prop}(e:p=q:=by (simp (maxSteps:=3000000) (disch:=(first|omega|(simp only[B1, *];omega))) only[↓cM,↓Wj,B0,B4,I5,undef,aq,al,cst,cst1,acells,flat,behind,oJ,eC,Ue,jS,wH,qH,yR,kL,Value.cells,Value.oneCell',Int.reduceToNat,↓reduceIte,Nat.reduceLT,Nat.reduceEqDiff,reduceCtorEq,Nat.reduceAdd,Nat.reduceMul,Nat.reduceLeDiff,BF, *])<;>rfl):(q)->p:=fun h=>e.mpr h
theorem Xw {p q:Prop}(e:p=q:=by (simp (maxSteps:=3000000) (disch:=(first|omega|(simp only[Ab2,B1, *];omega))) only[Ab2,↓cM,↓Wj,B0,B4,I5,undef,aq,al,cst,cst1,acells,flat,behind,oJ,eC,Ue,jS,wH,qH,yR,kL,Value.cells,Value.oneCell',Int.reduceToNat,↓reduceIte,Nat.reduceLT,Nat.reduceEqDiff,reduceCtorEq,Nat.reduceAdd,Nat.reduceMul,Nat.reduceLeDiff,BF, *])<;>rfl):(q)->p:=fun h=>e.mpr h
theorem Xs {a b:St}(h:Keep a b:=by repeat (first|exact Keep.refl _|assumption|(refine Keep.put ?_ (by first|omega|(simp only[Aa,Ab,Ah, *];omega)) _)|(refine Keep.new ?_ _)|(refine Keep.lay ?_ _)|(refine Keep.trans ?_ (by assumption)))):Keep a b:=h
theorem Xt {t:TypeId}{z b:Nat}{zc:List Value}{σ0 D:St}{id id2 n m m':Nat}{xs ys:List AV}{K:AV->St->Prop}
  
  (ht:Ma Tryz.prog t=some (z,b,zc):=by first|exact Oj|exact Ry|exact J7|exact Er|exact Xx|exact Ds|exact D5|exact Fj|exact jU|exact pR|exact jT|exact Dh|exact W9|exact M9|exact Qh) (hK:Keep σ0 D:=by assumption) (hO:Own σ0 D id n:=by assumption)
  (hz:0<z:=by decide) (hzc:zc.length=z:=by with_unfolding_all rfl) (hx:xs.length=n*z:=by first|assumption|(simp<;>fail)|(simp;omega)|omega) (hy:ys.length=m*z:=by with_unfolding_all rfl) (hf:ys.all flat=true:=by with_unfolding_all rfl) (hm:0<m:=by decide) (hb:(n+m)*b<=140737488355328:=by omega) (hl:n+m<=1099511627776:=by omega):(∀id' D',Own σ0 D' id' (n+m)->Keep σ0 D'->D'.obj=D.obj->D'.nobj=D.nobj->D'.ver=D.ver->D.ntop<D'.ntop->K (sl id' (n+m) (xs++ys)) D')->Hy Tryz.prog t t (sl id n xs) (sl id2 m ys) (D.lay m') K:=fun h=>Bj ht hK hO hz hzc hx hy hf hm hb hl h
theorem Xu {t:TypeId}{z b:Nat}{zc:List Value}{D:St}{id2 m:Nat}{ys:List AV}{K:AV->St->Prop}(ht:Ma Tryz.prog t=some (z,b,zc):=by first|exact Oj|exact Ry|exact J7|exact Er|exact Xx|exact Ds|exact D5|exact Fj|exact jU|exact pR|exact jT|exact Dh|exact W9|exact M9|exact Qh)(hz0:zc.length=z:=by with_unfolding_all rfl)
  (hz:0<z:=by decide) (hy:ys.length=m*z:=by with_unfolding_all rfl) (hf:ys.all flat=true:=by with_unfolding_all rfl) (hm:0<m:=by decide) (hb:m*b<=140737488355328:=by omega) (hl:m<=1099511627776:=by omega):(K (sl (D.ntop+2) m ys) (D.lay m))->Hy Tryz.prog t t nilS (sl id2 m ys) D K:=fun h=>tK ht hz0 hz hy hf hm hb hl h
theorem Z1 {p q:Prop}(h:p)(w:p->q:=by with_reducible first|exact Xa|exact Xb|exact Xd|exact Xe|exact Xf|exact Xu):q:=w h
theorem Z2 {a b c:Prop}(h1:a)(h2:b)(w:a->b->c:=by with_reducible first|exact Xl|exact Xm|exact Xk):c:=w h1 h2
theorem Z3 {p q:Prop}(h:p)(w:p->q:=by first|exact Xr|with_reducible exact Xj):q:=w h
theorem Z7 {p q:Prop}(h:p)(w:p->q:=by first|exact Xw|with_reducible exact Xj):q:=w h
theorem Z4 {p q:Prop}(h:p)(w:p->q:=by with_reducible exact hκ.out _ _):q:=w h
theorem Z5 {p q:Prop}(h:p)(w:p->q:=by with_reducible exact Xh):q:=w h
theorem Z6 {p q:Prop}(h:p)(w:p->q:=by with_reducible exact Xt):q:=w h
theorem Z8 {p q:Prop}(h:p)(w:p->q:=by with_reducible exact Xc):q:=w h
theorem Z9 {P:Program}{f:FuncId}{fn:Func}{c:Code}{args:List AV}{D:St}{R:AV->St->Prop}(n:Nat)(rs:List ResultVar)(hf:P.funcs[f]?=some fn)(h:Jw P n c (qH P rs R) (initS args) D)(hb:fn.body=some c:=by rfl)(hn:fn.name≠ "runtime.NumGoroutine":=by decide)(hnt:fn.ntmps=n:=by rfl)(hrs:fn.results.toList=rs:=by rfl)(hl:args.length<=n:=by exact Nat.le_of_ble_eq_true rfl):ACalls P f args D R:=zO n rs hf hb hn hnt hrs hl h
theorem Ad3 {p:Prop}(h:p:=by simp[upd, *]):p:=h
theorem Ad4 {p:Prop}(h:p:=by simp[upd]):p:=h
theorem Ad5 {p:Prop}(h:p:=by kernel_rfl):p:=h
theorem Ad6 {p:Prop}(h:p:=by simp only[Aa];omega):p:=h
theorem Ad7 {p:Prop}(h:p:=by simp only[Ab,Aa];omega):p:=h
end Go.Abs
