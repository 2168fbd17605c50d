import Derived.Test.YtmoeoppbmhfbpabGreatDoorProg
import Derived.Test.YtmoeoppbmhfbpabGreatDoorLAbsWp
import Derived.KernelRfl
set_option maxRecDepth 100000
set_option linter.all false
namespace Go.Abs
open Go.Proofs
theorem vR:Kh Tryz.prog 3=some (false,1):=by kernel_rfl
theorem Adm:Kh Tryz.prog 4=some (false,1):=by kernel_rfl
theorem Adl:Kh Tryz.prog 9=some (false,1):=by kernel_rfl
theorem vQ:Kh Tryz.prog 42=some (false,1):=by kernel_rfl
theorem vP:Kh Tryz.prog 60=some (false,1):=by kernel_rfl
theorem vO:Kh Tryz.prog 62=some (true,2):=by kernel_rfl
theorem vN:Kh Tryz.prog 72=some (false,1):=by kernel_rfl
theorem vM:Kh Tryz.prog 75=some (false,1):=by kernel_rfl
theorem vL:Kh Tryz.prog 77=some (true,3):=by kernel_rfl
theorem pA:Kh Tryz.prog 120=some (false,1):=by kernel_rfl
theorem oZ:Kh Tryz.prog 122=some (true,2):=by kernel_rfl
theorem oY:Kh Tryz.prog 123=some (false,1):=by kernel_rfl
theorem oX:Kh Tryz.prog 125=some (true,4):=by kernel_rfl
theorem oU:Kh Tryz.prog 151=some (true,2):=by kernel_rfl
theorem oT:Kh Tryz.prog 154=some (true,78):=by kernel_rfl
theorem pB:Kh Tryz.prog 113=some (true,3):=by kernel_rfl
theorem oW:Kh Tryz.prog 138=some (false,1):=by kernel_rfl
theorem oV:Kh Tryz.prog 141=some (true,3):=by kernel_rfl
theorem oQ:Kh Tryz.prog 198=some (true,3):=by kernel_rfl
theorem oS:Kh Tryz.prog 189=some (false,1):=by kernel_rfl
theorem oR:Kh Tryz.prog 191=some (true,4):=by kernel_rfl
theorem oP:Kh Tryz.prog 227=some (false,1):=by kernel_rfl
theorem oO:Kh Tryz.prog 239=some (true,3):=by kernel_rfl
theorem dS:H2 Tryz.prog 62=some [Value.slice none 0 0,Value.slice none 0 0]:=by kernel_rfl
theorem dR:H2 Tryz.prog 77=some [Value.slice none 0 0,Value.int IntKind.i64 (0),Value.int IntKind.i64 (0)]:=by kernel_rfl
theorem Yq:H2 Tryz.prog 122=some [Value.int IntKind.i64 (0),Value.slice none 0 0]:=by kernel_rfl
theorem Yp:H2 Tryz.prog 125=some [Value.bool false,Value.int IntKind.i64 (0),Value.slice none 0 0,Value.slice none 0 0]:=by kernel_rfl
theorem Yn:H2 Tryz.prog 151=some [Value.bool false,Value.int IntKind.i64 (0)]:=by kernel_rfl
def swZ:List Value:=List.replicate 26 (.bool false)++(List.replicate 26 [Value.bool false,Value.int .i64 0]).flatten
theorem Ym:H2 Tryz.prog 154=some swZ:=by kernel_rfl
theorem Yr:H2 Tryz.prog 113=some [Value.string ⟨#[]⟩,Value.int IntKind.i64 (0),Value.slice none 0 0]:=by kernel_rfl
theorem Yo:H2 Tryz.prog 141=some [Value.int IntKind.i64 (0),Value.int IntKind.i64 (0),Value.int IntKind.i64 (0)]:=by kernel_rfl
theorem Yk:H2 Tryz.prog 198=some [Value.bool false,Value.int IntKind.i64 (0),Value.slice none 0 0]:=by kernel_rfl
theorem Yl:H2 Tryz.prog 191=some [Value.int IntKind.i64 (0),Value.slice none 0 0,Value.slice none 0 0,Value.slice none 0 0]:=by kernel_rfl
theorem Yj:H2 Tryz.prog 239=some [Value.int IntKind.i64 (0),Value.slice none 0 0,Value.slice none 0 0]:=by kernel_rfl
theorem Yh:H2 Tryz.prog 273=some (Aau 1026 (Value.bool false)):=by kernel_rfl
theorem Yg:H2 Tryz.prog 304=some (Aau 1026 (Value.int IntKind.i64 (0))):=by kernel_rfl
theorem eP:Gg Tryz.prog 48=some (1,8):=by kernel_rfl
theorem eQ:Gg Tryz.prog 42=some (1,16):=by kernel_rfl
theorem eO:Gg Tryz.prog 60=some (4,64):=by kernel_rfl
theorem eN:Gg Tryz.prog 72=some (2,32):=by kernel_rfl
theorem eM:Gg Tryz.prog 75=some (1,24):=by kernel_rfl
theorem Y5:Gg Tryz.prog 120=some (2,16):=by kernel_rfl
theorem Y4:Gg Tryz.prog 123=some (3,40):=by kernel_rfl
theorem Y3:Gg Tryz.prog 138=some (3,24):=by kernel_rfl
theorem Y2:Gg Tryz.prog 189=some (3,56):=by kernel_rfl
theorem Y1:Gg Tryz.prog 225=some (1,24):=by kernel_rfl
theorem Y0:Gg Tryz.prog 227=some (1,1):=by kernel_rfl
theorem eW:bG Tryz.prog 149=some (26,1):=by kernel_rfl
theorem eV:bG Tryz.prog 152=some (26,2):=by kernel_rfl
theorem eX:bG Tryz.prog 141=some (3,1):=by kernel_rfl
theorem eT:bG Tryz.prog 273=some (1026,1):=by kernel_rfl
theorem eS:bG Tryz.prog 304=some (1026,1):=by kernel_rfl
theorem pD:O4 Tryz.prog 62=some ([Value.slice none 0 0,Value.slice none 0 0],[(0,1),(1,1)]):=by kernel_rfl
theorem pC:O4 Tryz.prog 77=some ([Value.slice none 0 0,Value.int IntKind.i64 (0),Value.int IntKind.i64 (0)],[(0,1),(1,1),(2,1)]):=by kernel_rfl
theorem eH:O4 Tryz.prog 122=some ([Value.int IntKind.i64 (0),Value.slice none 0 0],[(0,1),(1,1)]):=by kernel_rfl
theorem eG:O4 Tryz.prog 125=some ([Value.bool false,Value.int IntKind.i64 (0),Value.slice none 0 0,Value.slice none 0 0],[(0,1),(1,2),(3,1)]):=by kernel_rfl
theorem eE:O4 Tryz.prog 151=some ([Value.bool false,Value.int IntKind.i64 (0)],[(0,1),(1,1)]):=by kernel_rfl
theorem eD:O4 Tryz.prog 154=some (swZ,[(0,26),(26,52)]):=by kernel_rfl
theorem eI:O4 Tryz.prog 113=some ([Value.string ⟨#[]⟩,Value.int IntKind.i64 (0),Value.slice none 0 0],[(0,1),(1,1),(2,1)]):=by kernel_rfl
theorem eF:O4 Tryz.prog 141=some ([Value.int IntKind.i64 (0),Value.int IntKind.i64 (0),Value.int IntKind.i64 (0)],[(0,1),(1,1),(2,1)]):=by kernel_rfl
theorem eB:O4 Tryz.prog 198=some ([Value.bool false,Value.int IntKind.i64 (0),Value.slice none 0 0],[(0,1),(1,2)]):=by kernel_rfl
theorem eC:O4 Tryz.prog 191=some ([Value.int IntKind.i64 (0),Value.slice none 0 0,Value.slice none 0 0,Value.slice none 0 0],[(0,2),(2,1),(3,1)]):=by kernel_rfl
theorem dZ:O4 Tryz.prog 239=some ([Value.int IntKind.i64 (0),Value.slice none 0 0,Value.slice none 0 0],[(0,2),(2,1)]):=by kernel_rfl
theorem Qm:Nm Tryz.prog 48=some (1,8,[Value.int IntKind.i64 (0)]):=by kernel_rfl
theorem Uf:Nm Tryz.prog 42=some (1,16,[Value.string ⟨#[]⟩]):=by kernel_rfl
theorem Ki:Nm Tryz.prog 60=some (4,64,[Value.bool false,Value.int IntKind.i64 (0),Value.slice none 0 0,Value.slice none 0 0]):=by kernel_rfl
theorem Er:Nm Tryz.prog 72=some (2,32,[Value.int IntKind.i64 (0),Value.slice none 0 0]):=by kernel_rfl
theorem bF:Nm Tryz.prog 75=some (1,24,[Value.slice none 0 0]):=by kernel_rfl
theorem Ea:Nm Tryz.prog 120=some (2,16,[Value.bool false,Value.int IntKind.i64 (0)]):=by kernel_rfl
theorem Ek:Nm Tryz.prog 123=some (3,40,[Value.bool false,Value.int IntKind.i64 (0),Value.slice none 0 0]):=by kernel_rfl
theorem Fw:Nm Tryz.prog 138=some (3,24,[Value.int IntKind.i64 (0),Value.int IntKind.i64 (0),Value.int IntKind.i64 (0)]):=by kernel_rfl
theorem pJ:Nm Tryz.prog 101=some (3,48,[Value.bool false,Value.string ⟨#[]⟩,Value.slice none 0 0]):=by kernel_rfl
theorem vT:Nm Tryz.prog 96=some (5,80,[Value.bool false,Value.bool false,Value.string ⟨#[]⟩,Value.slice none 0 0,Value.slice none 0 0]):=by kernel_rfl
theorem pI:Nm Tryz.prog 160=some (2,32,[Value.string ⟨#[]⟩,Value.string ⟨#[]⟩]):=by kernel_rfl
theorem D2:Nm Tryz.prog 189=some (3,56,[Value.int IntKind.i64 (0),Value.slice none 0 0,Value.slice none 0 0]):=by kernel_rfl
theorem bE:Nm Tryz.prog 87=some (1,1,[Value.int IntKind.u8 (0)]):=by kernel_rfl
theorem O6:Nm Tryz.prog 225=some (1,24,[Value.slice none 0 0]):=by kernel_rfl
theorem Ss:Nm Tryz.prog 227=some (1,1,[Value.bool false]):=by kernel_rfl
theorem Yy:Gu Tryz.prog 62 0=some (0,false,1):=by kernel_rfl
theorem Yx:Gu Tryz.prog 62 1=some (1,false,1):=by kernel_rfl
theorem Yw:Gu Tryz.prog 77 0=some (0,false,1):=by kernel_rfl
theorem Yv:Gu Tryz.prog 77 1=some (1,false,1):=by kernel_rfl
theorem Yu:Gu Tryz.prog 77 2=some (2,false,1):=by kernel_rfl
theorem Ub:Gu Tryz.prog 122 0=some (0,false,1):=by kernel_rfl
theorem Ua:Gu Tryz.prog 122 1=some (1,false,1):=by kernel_rfl
theorem T9:Gu Tryz.prog 125 0=some (0,false,1):=by kernel_rfl
theorem T8:Gu Tryz.prog 125 1=some (1,true,2):=by kernel_rfl
theorem T7:Gu Tryz.prog 125 2=some (3,false,1):=by kernel_rfl
theorem T6:Gu Tryz.prog 151 0=some (0,false,1):=by kernel_rfl
theorem T5:Gu Tryz.prog 151 1=some (1,false,1):=by kernel_rfl
theorem T4:Gu Tryz.prog 154 0=some (0,true,26):=by kernel_rfl
theorem T0:Gu Tryz.prog 154 1=some (26,true,52):=by kernel_rfl
theorem Ue:Gu Tryz.prog 113 0=some (0,false,1):=by kernel_rfl
theorem Ud:Gu Tryz.prog 113 1=some (1,false,1):=by kernel_rfl
theorem Uc:Gu Tryz.prog 113 2=some (2,false,1):=by kernel_rfl
theorem Tv:Gu Tryz.prog 198 0=some (0,false,1):=by kernel_rfl
theorem Tu:Gu Tryz.prog 198 1=some (1,true,2):=by kernel_rfl
theorem Tz:Gu Tryz.prog 191 0=some (0,true,2):=by kernel_rfl
theorem Ty:Gu Tryz.prog 191 1=some (2,false,1):=by kernel_rfl
theorem Tw:Gu Tryz.prog 191 2=some (3,false,1):=by kernel_rfl
theorem Tt:Gu Tryz.prog 239 0=some (0,true,2):=by kernel_rfl
theorem Ts:Gu Tryz.prog 239 1=some (2,false,1):=by kernel_rfl
theorem Yt:eK Tryz.prog 151=some .i64:=by kernel_rfl
theorem Ys:dV Tryz.prog 141=true:=by kernel_rfl
theorem Ai:Tryz.prog.follows .mixedOrders=true:=by kernel_rfl
theorem u_3:type_of% @Tryz.underlying3:=Tryz.underlying3
theorem u_4:type_of% @Tryz.underlying4:=Tryz.underlying4
theorem u_5:type_of% @Tryz.underlying5:=Tryz.underlying5
theorem u_9:type_of% @Tryz.underlying9:=Tryz.underlying9
theorem Adj:type_of% @Tryz.underlying123:=Tryz.underlying123
theorem Adi:type_of% @Tryz.underlying141:=Tryz.underlying141
theorem Afm:type_of% @Tryz.underlying87:=Tryz.underlying87
theorem oN:Kh Tryz.prog 260=some (true,104):=by kernel_rfl
theorem eU:bG Tryz.prog 260=some (52,2):=by kernel_rfl
def ptZ:List Value:=(List.replicate 52 [Value.bool false,Value.int .i64 0]).flatten
def ptP:List (Nat×Nat):=(List.range 52).map fun k=>(k*2,2)
theorem Yi:H2 Tryz.prog 260=some ptZ:=by kernel_rfl
theorem dY:O4 Tryz.prog 260=some (ptZ,ptP):=by kernel_rfl
theorem Xv {a b:Prop}(x:a)(y:b):a/\b:=⟨x,y⟩
theorem BF:type_of% (Xv @vR<|Xv @Adm<|Xv @Adl<|Xv @vQ<|Xv @vP<|Xv @vO<|Xv @vN<|Xv @vM<|Xv @vL<|Xv @pA<|Xv @oZ<|Xv @oY<|Xv @oX<|Xv @oU<|Xv @oT<|Xv @pB<|Xv @oW<|Xv @oV<|Xv @oQ<|Xv @oS<|Xv @oR<|Xv @oP<|Xv @oO<|Xv @dS<|Xv @dR<|Xv @Yq<|Xv @Yp<|Xv @Yn<|Xv @Ym<|Xv @Yr<|Xv @Yo<|Xv @Yk<|Xv @Yl<|Xv @Yj<|Xv @Yh<|Xv @Yg<|Xv @eP<|Xv @eQ<|Xv @eO<|Xv @eN<|Xv @eM<|Xv @Y5<|Xv @Y4<|Xv @Y3<|Xv @Y2<|Xv @Y1<|Xv @Y0<|Xv @eW<|Xv @eV<|Xv @eX<|Xv @eT<|Xv @eS<|Xv @pD<|Xv @pC<|Xv @eH<|Xv @eG<|Xv @eE<|Xv @eD<|Xv @eI<|Xv @eF<|Xv @eB<|Xv @eC<|Xv @dZ<|Xv @Qm<|Xv @Uf<|Xv @Ki<|Xv @Er<|Xv @bF<|Xv @Ea<|Xv @Ek<|Xv @Fw<|Xv @D2<|Xv @bE<|Xv @O6<|Xv @Ss<|Xv @Yy<|Xv @Yx<|Xv @Yw<|Xv @Yv<|Xv @Yu<|Xv @Ub<|Xv @Ua<|Xv @T9<|Xv @T8<|Xv @T7<|Xv @T6<|Xv @T5<|Xv @T4<|Xv @T0<|Xv @Ue<|Xv @Ud<|Xv @Uc<|Xv @Tv<|Xv @Tu<|Xv @Tz<|Xv @Ty<|Xv @Tw<|Xv @Tt<|Xv @Ts<|Xv @Yt<|Xv @Ys<|Xv @u_3<|Xv @u_4<|Xv @u_5<|Xv @u_9<|Xv @Adj<|Xv @Adi<|Xv @Afm<|Xv @oN<|Xv @eU<|Xv @Yi<|@dY):=Xv @vR<|Xv @Adm<|Xv @Adl<|Xv @vQ<|Xv @vP<|Xv @vO<|Xv @vN<|Xv @vM<|Xv @vL<|Xv @pA<|Xv @oZ<|Xv @oY<|Xv @oX<|Xv @oU<|Xv @oT<|Xv @pB<|Xv @oW<|Xv @oV<|Xv @oQ<|Xv @oS<|Xv @oR<|Xv @oP<|Xv @oO<|Xv @dS<|Xv @dR<|Xv @Yq<|Xv @Yp<|Xv @Yn<|Xv @Ym<|Xv @Yr<|Xv @Yo<|Xv @Yk<|Xv @Yl<|Xv @Yj<|Xv @Yh<|Xv @Yg<|Xv @eP<|Xv @eQ<|Xv @eO<|Xv @eN<|Xv @eM<|Xv @Y5<|Xv @Y4<|Xv @Y3<|Xv @Y2<|Xv @Y1<|Xv @Y0<|Xv @eW<|Xv @eV<|Xv @eX<|Xv @eT<|Xv @eS<|Xv @pD<|Xv @pC<|Xv @eH<|Xv @eG<|Xv @eE<|Xv @eD<|Xv @eI<|Xv @eF<|Xv @eB<|Xv @eC<|Xv @dZ<|Xv @Qm<|Xv @Uf<|Xv @Ki<|Xv @Er<|Xv @bF<|Xv @Ea<|Xv @Ek<|Xv @Fw<|Xv @D2<|Xv @bE<|Xv @O6<|Xv @Ss<|Xv @Yy<|Xv @Yx<|Xv @Yw<|Xv @Yv<|Xv @Yu<|Xv @Ub<|Xv @Ua<|Xv @T9<|Xv @T8<|Xv @T7<|Xv @T6<|Xv @T5<|Xv @T4<|Xv @T0<|Xv @Ue<|Xv @Ud<|Xv @Uc<|Xv @Tv<|Xv @Tu<|Xv @Tz<|Xv @Ty<|Xv @Tw<|Xv @Tt<|Xv @Ts<|Xv @Yt<|Xv @Ys<|Xv @u_3<|Xv @u_4<|Xv @u_5<|Xv @u_9<|Xv @Adj<|Xv @Adi<|Xv @Afm<|Xv @oN<|Xv @eU<|Xv @Yi<|@dY
theorem Xa:type_of% @cV:=@cV
theorem Xb:type_of% @aP:=@aP
theorem Xc:type_of% @P7:=@P7
theorem Xd:type_of% @jL:=@jL
theorem Xe:type_of% @jN:=@jN
theorem Xf:type_of% @qO:=@qO
theorem Xg:type_of% @Aad:=@Aad
theorem Xh:type_of% @aS:=@aS
theorem Xi:type_of% @ACalls.mono:=@ACalls.mono
theorem Xj {A:Nat->Bool}{F:Nat->Prop}{D D':St}{i:Nat}{b:Prop}(hk:Kept A F D i D':=by with_unfolding_all first|exact kept_refl|exact Br rfl|exact Ap (by assumption)):(b)->Kept A F D i D'/\b:=fun h=>⟨hk,h⟩
theorem Xn {p q:Prop}(e:p=q:=by ((try simp only[upd,↓reduceIte,Nat.reduceEqDiff,B2])<;>(try simp only[*,reduceCtorEq,decide_true,decide_false]))<;>rfl):p=q:=e
theorem Xo {p q:Prop}(e:p=q:=by (simp only[B3])<;>rfl):p->q:=e.mp
theorem Xp {p:Prop}(e:False:=by first|contradiction|omega|(simp at h<;>fail)):p:=e.elim
theorem Xk {P:Program}{n:Nat}{Q:Hg}{s:Sl}{D:St}{c:Operand}{x y:Code}{t:Bool}{q r u v:Prop}(hc:aev s c=sc (.bool t):=by with_unfolding_all rfl)(e1:(t=true)=q:=by exact Xn)(e2:(t=false)=r:=by exact Xn)(a1:q->u:=by first|exact Xo|exact fun _=>True.intro)(a2:r->v:=by first|exact Xo|exact fun _=>True.intro):(q->u->Kf P n x Q s D)->(r->v->Kf P n y Q s D)->Kf P n (.cond c x y) Q s D:=fun h1 h2=>Wa hc (fun h=>h1 (e1.mp h) (a1 (e1.mp h))) (fun h=>h2 (e2.mp h) (a2 (e2.mp h)))
theorem Xl {P:Program}{o:Oper}{s:Sl}{D:St}{k:Sl->St->Prop}{t:Bool}{q r u v:Prop}(e1:(t=true)=q:=by exact Xn)(e2:(t=false)=r:=by exact Xn)(a1:q->u:=by first|exact Xo|exact fun _=>True.intro)(a2:r->v:=by first|exact Xo|exact fun _=>True.intro):(q->u->aStep P o s D (nxt k s o.dst))->(r->v->k (aput s o.dst (sc undef)) D)->gd P o s D k (some t):=fun h1 h2=>yR (fun h=>gd_true.mpr (h1 (e1.mp h) (a1 (e1.mp h)))) (fun h=>gd_false.mpr (h2 (e2.mp h) (a2 (e2.mp h))))
theorem Xm {P:Program}{o:Oper}{s:Sl}{F:Nat->Prop}{σ0:St}{k:Sl->Prop}{t:Bool}{q r u v:Prop}(e1:(t=true)=q:=by exact Xn)(e2:(t=false)=r:=by exact Xn)(a1:q->u:=by first|exact Xo|exact fun _=>True.intro)(a2:r->v:=by first|exact Xo|exact fun _=>True.intro):(q->u->match aq P s σ0 o.op with
   |some x=>(∀p,rdo s o.op=some p->F p)/\k (aput s o.dst x)
   |none=>False)->(r->v->k (aput s o.dst (sc undef)))->gt P o s F σ0 k (some t):=fun h1 h2=>yP (fun h=>gt_true.mpr (h1 (e1.mp h) (a1 (e1.mp h)))) (fun h=>gt_false.mpr (h2 (e2.mp h) (a2 (e2.mp h))))
theorem Xq {p:Prop}(h:p:=by first|rfl|assumption|omega|(simp only[Aa,Ab,Aw];omega)|(simp;omega)|(simp<;>fail)):p:=h
theorem Xr {p q:Prop}(e:p=q:=by (simp (maxSteps:=3000000) (disch:=(first|omega|(simp only[B1, *];omega))) only[↓iG,↓Zx,B0,B4,Kd,undef,aq,al,cst,cst1,acells,flat,behind,uE,jY,Wl,pH,Acy,wT,rdo,pZ,Value.cells,Value.oneCell',Int.reduceToNat,↓reduceIte,Nat.reduceLT,Nat.reduceEqDiff,reduceCtorEq,Nat.reduceAdd,Nat.reduceMul,Nat.reduceLeDiff,BF, *])<;>rfl):(q)->p:=fun h=>e.mpr h
theorem Xw {p q:Prop}(e:p=q:=by (simp (maxSteps:=3000000) (disch:=(first|omega|(simp only[Aho,B1, *];omega))) only[Aho,↓iG,↓Zx,B0,B4,Kd,undef,aq,al,cst,cst1,acells,flat,behind,uE,jY,Wl,pH,Acy,wT,rdo,pZ,Value.cells,Value.oneCell',Int.reduceToNat,↓reduceIte,Nat.reduceLT,Nat.reduceEqDiff,reduceCtorEq,Nat.reduceAdd,Nat.reduceMul,Nat.reduceLeDiff,BF, *])<;>rfl):(q)->p:=fun h=>e.mpr h
theorem Xs {a b:St}(h:Keep a b:=by repeat (first|exact Keep.refl _|assumption|(refine Keep.put ?_ (by first|omega|(simp only[Aa,Ab,Aw, *];omega)) _)|(refine Keep.new ?_ _)|(refine Keep.lay ?_ _)|(refine Keep.trans ?_ (by assumption)))):Keep a b:=h
theorem Xt {t:TypeId}{z b:Nat}{zc:List Value}{σ0 D:St}{id id2 n m m':Nat}{xs ys:List AV}{K:AV->St->Prop}
  
  (ht:Nm Tryz.prog t=some (z,b,zc):=by first|exact Qm|exact Uf|exact Ki|exact Er|exact bF|exact Ea|exact Ek|exact Fw|exact pJ|exact vT|exact pI|exact D2|exact bE|exact O6|exact Ss) (hK:Keep σ0 D:=by assumption) (hO:Own σ0 D id n:=by assumption)
  (hz:0<z:=by decide) (hzc:zc.length=z:=by with_unfolding_all rfl) (hx:xs.length=n*z:=by first|assumption|(simp<;>fail)|(simp;omega)|omega) (hy:ys.length=m*z:=by with_unfolding_all rfl) (hf:ys.all flat=true:=by with_unfolding_all rfl) (hm:0<m:=by decide) (hb:(n+m)*b<=140737488355328:=by omega) (hl:n+m<=1099511627776:=by omega):(∀id' D',Own σ0 D' id' (n+m)->Keep σ0 D'->D'.obj=D.obj->D'.nobj=D.nobj->D'.ver=D.ver->D.ntop<D'.ntop->K (sl id' (n+m) (xs++ys)) D')->Ib Tryz.prog t t (sl id n xs) (sl id2 m ys) (D.lay m') K:=fun h=>Bg ht hK hO hz hzc hx hy hf hm hb hl h
theorem Xu {t:TypeId}{z b:Nat}{zc:List Value}{D:St}{id2 m:Nat}{ys:List AV}{K:AV->St->Prop}(ht:Nm Tryz.prog t=some (z,b,zc):=by first|exact Qm|exact Uf|exact Ki|exact Er|exact bF|exact Ea|exact Ek|exact Fw|exact pJ|exact vT|exact pI|exact D2|exact bE|exact O6|exact Ss)(hz0:zc.length=z:=by with_unfolding_all rfl)
  (hz:0<z:=by decide) (hy:ys.length=m*z:=by with_unfolding_all rfl) (hf:ys.all flat=true:=by with_unfolding_all rfl) (hm:0<m:=by decide) (hb:m*b<=140737488355328:=by omega) (hl:m<=1099511627776:=by omega):(K (sl (D.ntop+2) m ys) (D.lay m))->Ib Tryz.prog t t nilS (sl id2 m ys) D K:=fun h=>Aag ht hz0 hz hy hf hm hb hl h
theorem Z1 {p q:Prop}(h:p)(w:p->q:=by with_reducible first|exact Xa|exact Xb|exact Xd|exact Xe|exact Xf|exact Xu):q:=w h
theorem Z2 {a b c:Prop}(h1:a)(h2:b)(w:a->b->c:=by with_reducible first|exact Xl|exact Xm|exact Xk):c:=w h1 h2
theorem Z3 {p q:Prop}(h:p)(w:p->q:=by first|exact Xr|with_reducible exact Xj):q:=w h
theorem Z7 {p q:Prop}(h:p)(w:p->q:=by first|exact Xw|with_reducible exact Xj):q:=w h
theorem Z4 {p q:Prop}(h:p)(w:p->q:=by with_reducible exact ya.out _ _):q:=w h
theorem Z5 {p q:Prop}(h:p)(w:p->q:=by with_reducible exact Xh):q:=w h
theorem Z6 {p q:Prop}(h:p)(w:p->q:=by with_reducible exact Xt):q:=w h
theorem Z8 {p q:Prop}(h:p)(w:p->q:=by with_reducible exact Xc):q:=w h
theorem Zi {a b c:Prop}(h1:a)(h2:b)(w:a->b->c:=by with_reducible exact And.intro):c:=w h1 h2
theorem Zt:True:=⟨⟩
theorem Z9 {P:Program}{f:FuncId}{fn:Func}{c:Code}{args:List AV}{D:St}{R:AV->St->Prop}(n:Nat)(rs:List ResultVar)(hf:P.funcs[f]?=some fn)(h:Kf P n c (wT P rs R) (initS args) D)(hb:fn.body=some c:=by rfl)(hn:fn.name≠ "runtime.NumGoroutine":=by decide)(hnt:fn.ntmps=n:=by rfl)(hrs:fn.results.toList=rs:=by rfl)(hl:args.length<=n:=by exact Nat.le_of_ble_eq_true rfl):ACalls P f args D R:=Ae8 n rs hf hb hn hnt hrs hl h
theorem Aj7 {p:Prop}(h:p:=by simp[upd, *]):p:=h
theorem Aj8 {p:Prop}(h:p:=by simp[upd]):p:=h
theorem Aj9 {p:Prop}(h:p:=by kernel_rfl):p:=h
theorem Aka {p:Prop}(h:p:=by simp only[Aa];omega):p:=h
theorem Akb {p:Prop}(h:p:=by simp only[Ab,Aa];omega):p:=h
end Go.Abs
