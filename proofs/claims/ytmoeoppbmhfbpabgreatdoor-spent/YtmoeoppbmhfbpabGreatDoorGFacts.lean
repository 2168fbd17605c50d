import Derived.Test.YtmoeoppbmhfbpabGreatDoorProg
import Derived.Test.YtmoeoppbmhfbpabGreatDoorGAbsWp
import Derived.KernelRfl
set_option maxRecDepth 100000
set_option linter.all false
namespace Go.Abs
open Go.Proofs
theorem Aai:Jt Tryz.prog 3=some (false,1):=by kernel_rfl
theorem Aah:Jt Tryz.prog 4=some (false,1):=by kernel_rfl
theorem Aag:Jt Tryz.prog 9=some (false,1):=by kernel_rfl
theorem rT:Jt Tryz.prog 42=some (false,1):=by kernel_rfl
theorem rS:Jt Tryz.prog 60=some (false,1):=by kernel_rfl
theorem rR:Jt Tryz.prog 62=some (true,2):=by kernel_rfl
theorem rQ:Jt Tryz.prog 72=some (false,1):=by kernel_rfl
theorem rP:Jt Tryz.prog 75=some (false,1):=by kernel_rfl
theorem rO:Jt Tryz.prog 77=some (true,3):=by kernel_rfl
theorem lI:Jt Tryz.prog 120=some (false,1):=by kernel_rfl
theorem lH:Jt Tryz.prog 122=some (true,2):=by kernel_rfl
theorem lG:Jt Tryz.prog 123=some (false,1):=by kernel_rfl
theorem lF:Jt Tryz.prog 125=some (true,4):=by kernel_rfl
theorem lC:Jt Tryz.prog 151=some (true,2):=by kernel_rfl
theorem lB:Jt Tryz.prog 154=some (true,78):=by kernel_rfl
theorem lJ:Jt Tryz.prog 113=some (true,3):=by kernel_rfl
theorem lE:Jt Tryz.prog 138=some (false,1):=by kernel_rfl
theorem lD:Jt Tryz.prog 141=some (true,3):=by kernel_rfl
theorem kY:Jt Tryz.prog 198=some (true,3):=by kernel_rfl
theorem lA:Jt Tryz.prog 189=some (false,1):=by kernel_rfl
theorem kZ:Jt Tryz.prog 191=some (true,4):=by kernel_rfl
theorem kX:Jt Tryz.prog 227=some (false,1):=by kernel_rfl
theorem kW:Jt Tryz.prog 239=some (true,3):=by kernel_rfl
theorem aX:Hd Tryz.prog 62=some [Value.slice none 0 0,Value.slice none 0 0]:=by kernel_rfl
theorem aW:Hd Tryz.prog 77=some [Value.slice none 0 0,Value.int IntKind.i64 (0),Value.int IntKind.i64 (0)]:=by kernel_rfl
theorem Wh:Hd Tryz.prog 122=some [Value.int IntKind.i64 (0),Value.slice none 0 0]:=by kernel_rfl
theorem Wg:Hd Tryz.prog 125=some [Value.bool false,Value.int IntKind.i64 (0),Value.slice none 0 0,Value.slice none 0 0]:=by kernel_rfl
theorem Wc:Hd Tryz.prog 151=some [Value.bool false,Value.int IntKind.i64 (0)]:=by kernel_rfl
def swZ:List Value:=List.replicate 26 (.bool false)++(List.replicate 26 [Value.bool false,Value.int .i64 0]).flatten
theorem Wb:Hd Tryz.prog 154=some swZ:=by kernel_rfl
theorem Wi:Hd Tryz.prog 113=some [Value.string ⟨#[]⟩,Value.int IntKind.i64 (0),Value.slice none 0 0]:=by kernel_rfl
theorem We:Hd Tryz.prog 141=some [Value.int IntKind.i64 (0),Value.int IntKind.i64 (0),Value.int IntKind.i64 (0)]:=by kernel_rfl
theorem V9:Hd Tryz.prog 198=some [Value.bool false,Value.int IntKind.i64 (0),Value.slice none 0 0]:=by kernel_rfl
theorem Wa:Hd Tryz.prog 191=some [Value.int IntKind.i64 (0),Value.slice none 0 0,Value.slice none 0 0,Value.slice none 0 0]:=by kernel_rfl
theorem V8:Hd Tryz.prog 239=some [Value.int IntKind.i64 (0),Value.slice none 0 0,Value.slice none 0 0]:=by kernel_rfl
theorem V6:Hd Tryz.prog 273=some (wW 1026 (Value.bool false)):=by kernel_rfl
theorem V5:Hd Tryz.prog 304=some (wW 1026 (Value.int IntKind.i64 (0))):=by kernel_rfl
theorem bS:Fy Tryz.prog 48=some (1,8):=by kernel_rfl
theorem bU:Fy Tryz.prog 42=some (1,16):=by kernel_rfl
theorem bR:Fy Tryz.prog 60=some (4,64):=by kernel_rfl
theorem bQ:Fy Tryz.prog 72=some (2,32):=by kernel_rfl
theorem bP:Fy Tryz.prog 75=some (1,24):=by kernel_rfl
theorem Ww:Fy Tryz.prog 120=some (2,16):=by kernel_rfl
theorem Wv:Fy Tryz.prog 123=some (3,40):=by kernel_rfl
theorem Wu:Fy Tryz.prog 138=some (3,24):=by kernel_rfl
theorem Wt:Fy Tryz.prog 189=some (3,56):=by kernel_rfl
theorem Ws:Fy Tryz.prog 225=some (1,24):=by kernel_rfl
theorem Wr:Fy Tryz.prog 227=some (1,1):=by kernel_rfl
theorem cB:Y1 Tryz.prog 149=some (26,1):=by kernel_rfl
theorem cA:Y1 Tryz.prog 152=some (26,2):=by kernel_rfl
theorem cC:Y1 Tryz.prog 141=some (3,1):=by kernel_rfl
theorem bX:Y1 Tryz.prog 273=some (1026,1):=by kernel_rfl
theorem bW:Y1 Tryz.prog 304=some (1026,1):=by kernel_rfl
theorem lL:N9 Tryz.prog 62=some ([Value.slice none 0 0,Value.slice none 0 0],[(0,1),(1,1)]):=by kernel_rfl
theorem lK:N9 Tryz.prog 77=some ([Value.slice none 0 0,Value.int IntKind.i64 (0),Value.int IntKind.i64 (0)],[(0,1),(1,1),(2,1)]):=by kernel_rfl
theorem bK:N9 Tryz.prog 122=some ([Value.int IntKind.i64 (0),Value.slice none 0 0],[(0,1),(1,1)]):=by kernel_rfl
theorem bJ:N9 Tryz.prog 125=some ([Value.bool false,Value.int IntKind.i64 (0),Value.slice none 0 0,Value.slice none 0 0],[(0,1),(1,2),(3,1)]):=by kernel_rfl
theorem bH:N9 Tryz.prog 151=some ([Value.bool false,Value.int IntKind.i64 (0)],[(0,1),(1,1)]):=by kernel_rfl
theorem bG:N9 Tryz.prog 154=some (swZ,[(0,26),(26,52)]):=by kernel_rfl
theorem bL:N9 Tryz.prog 113=some ([Value.string ⟨#[]⟩,Value.int IntKind.i64 (0),Value.slice none 0 0],[(0,1),(1,1),(2,1)]):=by kernel_rfl
theorem bI:N9 Tryz.prog 141=some ([Value.int IntKind.i64 (0),Value.int IntKind.i64 (0),Value.int IntKind.i64 (0)],[(0,1),(1,1),(2,1)]):=by kernel_rfl
theorem bE:N9 Tryz.prog 198=some ([Value.bool false,Value.int IntKind.i64 (0),Value.slice none 0 0],[(0,1),(1,2)]):=by kernel_rfl
theorem bF:N9 Tryz.prog 191=some ([Value.int IntKind.i64 (0),Value.slice none 0 0,Value.slice none 0 0,Value.slice none 0 0],[(0,2),(2,1),(3,1)]):=by kernel_rfl
theorem bD:N9 Tryz.prog 239=some ([Value.int IntKind.i64 (0),Value.slice none 0 0,Value.slice none 0 0],[(0,2),(2,1)]):=by kernel_rfl
theorem Po:M6 Tryz.prog 48=some (1,8,[Value.int IntKind.i64 (0)]):=by kernel_rfl
theorem S4:M6 Tryz.prog 42=some (1,16,[Value.string ⟨#[]⟩]):=by kernel_rfl
theorem Kv:M6 Tryz.prog 60=some (4,64,[Value.bool false,Value.int IntKind.i64 (0),Value.slice none 0 0,Value.slice none 0 0]):=by kernel_rfl
theorem E5:M6 Tryz.prog 72=some (2,32,[Value.int IntKind.i64 (0),Value.slice none 0 0]):=by kernel_rfl
theorem Y0:M6 Tryz.prog 75=some (1,24,[Value.slice none 0 0]):=by kernel_rfl
theorem Dv:M6 Tryz.prog 120=some (2,16,[Value.bool false,Value.int IntKind.i64 (0)]):=by kernel_rfl
theorem Ed:M6 Tryz.prog 123=some (3,40,[Value.bool false,Value.int IntKind.i64 (0),Value.slice none 0 0]):=by kernel_rfl
theorem Fx:M6 Tryz.prog 138=some (3,24,[Value.int IntKind.i64 (0),Value.int IntKind.i64 (0),Value.int IntKind.i64 (0)]):=by kernel_rfl
theorem lP:M6 Tryz.prog 101=some (3,48,[Value.bool false,Value.string ⟨#[]⟩,Value.slice none 0 0]):=by kernel_rfl
theorem rX:M6 Tryz.prog 96=some (5,80,[Value.bool false,Value.bool false,Value.string ⟨#[]⟩,Value.slice none 0 0,Value.slice none 0 0]):=by kernel_rfl
theorem lO:M6 Tryz.prog 160=some (2,32,[Value.string ⟨#[]⟩,Value.string ⟨#[]⟩]):=by kernel_rfl
theorem Dl:M6 Tryz.prog 189=some (3,56,[Value.int IntKind.i64 (0),Value.slice none 0 0,Value.slice none 0 0]):=by kernel_rfl
theorem Yz:M6 Tryz.prog 87=some (1,1,[Value.int IntKind.u8 (0)]):=by kernel_rfl
theorem Ob:M6 Tryz.prog 225=some (1,24,[Value.slice none 0 0]):=by kernel_rfl
theorem Re:M6 Tryz.prog 227=some (1,1,[Value.bool false]):=by kernel_rfl
theorem Wq:F7 Tryz.prog 62 0=some (0,false,1):=by kernel_rfl
theorem Wp:F7 Tryz.prog 62 1=some (1,false,1):=by kernel_rfl
theorem Wo:F7 Tryz.prog 77 0=some (0,false,1):=by kernel_rfl
theorem Wn:F7 Tryz.prog 77 1=some (1,false,1):=by kernel_rfl
theorem Wm:F7 Tryz.prog 77 2=some (2,false,1):=by kernel_rfl
theorem S0:F7 Tryz.prog 122 0=some (0,false,1):=by kernel_rfl
theorem Sz:F7 Tryz.prog 122 1=some (1,false,1):=by kernel_rfl
theorem Sy:F7 Tryz.prog 125 0=some (0,false,1):=by kernel_rfl
theorem Sv:F7 Tryz.prog 125 1=some (1,true,2):=by kernel_rfl
theorem Su:F7 Tryz.prog 125 2=some (3,false,1):=by kernel_rfl
theorem Ss:F7 Tryz.prog 151 0=some (0,false,1):=by kernel_rfl
theorem Sr:F7 Tryz.prog 151 1=some (1,false,1):=by kernel_rfl
theorem Sq:F7 Tryz.prog 154 0=some (0,true,26):=by kernel_rfl
theorem Sp:F7 Tryz.prog 154 1=some (26,true,52):=by kernel_rfl
theorem S3:F7 Tryz.prog 113 0=some (0,false,1):=by kernel_rfl
theorem S2:F7 Tryz.prog 113 1=some (1,false,1):=by kernel_rfl
theorem S1:F7 Tryz.prog 113 2=some (2,false,1):=by kernel_rfl
theorem Sj:F7 Tryz.prog 198 0=some (0,false,1):=by kernel_rfl
theorem Si:F7 Tryz.prog 198 1=some (1,true,2):=by kernel_rfl
theorem Sn:F7 Tryz.prog 191 0=some (0,true,2):=by kernel_rfl
theorem Sm:F7 Tryz.prog 191 1=some (2,false,1):=by kernel_rfl
theorem Sk:F7 Tryz.prog 191 2=some (3,false,1):=by kernel_rfl
theorem Sg:F7 Tryz.prog 239 0=some (0,true,2):=by kernel_rfl
theorem Sf:F7 Tryz.prog 239 1=some (2,false,1):=by kernel_rfl
theorem Wl:bN Tryz.prog 151=some .i64:=by kernel_rfl
theorem Wk:aZ Tryz.prog 141=true:=by kernel_rfl
theorem Al:Tryz.prog.follows .mixedOrders=true:=by kernel_rfl
theorem u_3:type_of% @Tryz.underlying3:=Tryz.underlying3
theorem u_4:type_of% @Tryz.underlying4:=Tryz.underlying4
theorem u_5:type_of% @Tryz.underlying5:=Tryz.underlying5
theorem u_9:type_of% @Tryz.underlying9:=Tryz.underlying9
theorem Aad:type_of% @Tryz.underlying123:=Tryz.underlying123
theorem Ack:type_of% @Tryz.underlying87:=Tryz.underlying87
theorem kV:Jt Tryz.prog 260=some (true,104):=by kernel_rfl
theorem bZ:Y1 Tryz.prog 260=some (52,2):=by kernel_rfl
def ptZ:List Value:=(List.replicate 52 [Value.bool false,Value.int .i64 0]).flatten
def ptP:List (Nat×Nat):=(List.range 52).map fun k=>(k*2,2)
theorem V7:Hd Tryz.prog 260=some ptZ:=by kernel_rfl
theorem bC:N9 Tryz.prog 260=some (ptZ,ptP):=by kernel_rfl
theorem Xv {a b:Prop}(x:a)(y:b):a/\b:=⟨x,y⟩
theorem BF:type_of% (Xv @Aai<|Xv @Aah<|Xv @Aag<|Xv @rT<|Xv @rS<|Xv @rR<|Xv @rQ<|Xv @rP<|Xv @rO<|Xv @lI<|Xv @lH<|Xv @lG<|Xv @lF<|Xv @lC<|Xv @lB<|Xv @lJ<|Xv @lE<|Xv @lD<|Xv @kY<|Xv @lA<|Xv @kZ<|Xv @kX<|Xv @kW<|Xv @aX<|Xv @aW<|Xv @Wh<|Xv @Wg<|Xv @Wc<|Xv @Wb<|Xv @Wi<|Xv @We<|Xv @V9<|Xv @Wa<|Xv @V8<|Xv @V6<|Xv @V5<|Xv @bS<|Xv @bU<|Xv @bR<|Xv @bQ<|Xv @bP<|Xv @Ww<|Xv @Wv<|Xv @Wu<|Xv @Wt<|Xv @Ws<|Xv @Wr<|Xv @cB<|Xv @cA<|Xv @cC<|Xv @bX<|Xv @bW<|Xv @lL<|Xv @lK<|Xv @bK<|Xv @bJ<|Xv @bH<|Xv @bG<|Xv @bL<|Xv @bI<|Xv @bE<|Xv @bF<|Xv @bD<|Xv @Po<|Xv @S4<|Xv @Kv<|Xv @E5<|Xv @Y0<|Xv @Dv<|Xv @Ed<|Xv @Fx<|Xv @Dl<|Xv @Yz<|Xv @Ob<|Xv @Re<|Xv @Wq<|Xv @Wp<|Xv @Wo<|Xv @Wn<|Xv @Wm<|Xv @S0<|Xv @Sz<|Xv @Sy<|Xv @Sv<|Xv @Su<|Xv @Ss<|Xv @Sr<|Xv @Sq<|Xv @Sp<|Xv @S3<|Xv @S2<|Xv @S1<|Xv @Sj<|Xv @Si<|Xv @Sn<|Xv @Sm<|Xv @Sk<|Xv @Sg<|Xv @Sf<|Xv @Wl<|Xv @Wk<|Xv @u_3<|Xv @u_4<|Xv @u_5<|Xv @u_9<|Xv @Aad<|Xv @Ack<|Xv @kV<|Xv @bZ<|Xv @V7<|@bC):=Xv @Aai<|Xv @Aah<|Xv @Aag<|Xv @rT<|Xv @rS<|Xv @rR<|Xv @rQ<|Xv @rP<|Xv @rO<|Xv @lI<|Xv @lH<|Xv @lG<|Xv @lF<|Xv @lC<|Xv @lB<|Xv @lJ<|Xv @lE<|Xv @lD<|Xv @kY<|Xv @lA<|Xv @kZ<|Xv @kX<|Xv @kW<|Xv @aX<|Xv @aW<|Xv @Wh<|Xv @Wg<|Xv @Wc<|Xv @Wb<|Xv @Wi<|Xv @We<|Xv @V9<|Xv @Wa<|Xv @V8<|Xv @V6<|Xv @V5<|Xv @bS<|Xv @bU<|Xv @bR<|Xv @bQ<|Xv @bP<|Xv @Ww<|Xv @Wv<|Xv @Wu<|Xv @Wt<|Xv @Ws<|Xv @Wr<|Xv @cB<|Xv @cA<|Xv @cC<|Xv @bX<|Xv @bW<|Xv @lL<|Xv @lK<|Xv @bK<|Xv @bJ<|Xv @bH<|Xv @bG<|Xv @bL<|Xv @bI<|Xv @bE<|Xv @bF<|Xv @bD<|Xv @Po<|Xv @S4<|Xv @Kv<|Xv @E5<|Xv @Y0<|Xv @Dv<|Xv @Ed<|Xv @Fx<|Xv @Dl<|Xv @Yz<|Xv @Ob<|Xv @Re<|Xv @Wq<|Xv @Wp<|Xv @Wo<|Xv @Wn<|Xv @Wm<|Xv @S0<|Xv @Sz<|Xv @Sy<|Xv @Sv<|Xv @Su<|Xv @Ss<|Xv @Sr<|Xv @Sq<|Xv @Sp<|Xv @S3<|Xv @S2<|Xv @S1<|Xv @Sj<|Xv @Si<|Xv @Sn<|Xv @Sm<|Xv @Sk<|Xv @Sg<|Xv @Sf<|Xv @Wl<|Xv @Wk<|Xv @u_3<|Xv @u_4<|Xv @u_5<|Xv @u_9<|Xv @Aad<|Xv @Ack<|Xv @kV<|Xv @bZ<|Xv @V7<|@bC
theorem Xa:type_of% @Zz:=@Zz
theorem Xb:type_of% @Yp:=@Yp
theorem Xc:type_of% @Pd:=@Pd
theorem Xd:type_of% @fI:=@fI
theorem Xe:type_of% @fK:=@fK
theorem Xf:type_of% @nB:=@nB
theorem Xg:type_of% @wA:=@wA
theorem Xh:type_of% @Yt:=@Yt
theorem Xi:type_of% @ACalls.mono:=@ACalls.mono
theorem Xj {A:Nat->Bool}{F:Nat->Prop}{D D':St}{i:Nat}{b:Prop}(hk:Kept A F D i D':=by with_unfolding_all first|exact kept_refl|exact Bq rfl|exact Aq (by assumption)):(b)->Kept A F D i D'/\b:=fun h=>⟨hk,h⟩
theorem Xn {p q:Prop}(e:p=q:=by ((try simp only[upd,↓reduceIte,Nat.reduceEqDiff,B2])<;>(try simp only[*,reduceCtorEq,decide_true,decide_false]))<;>rfl):p=q:=e
theorem Xo {p q:Prop}(e:p=q:=by (simp only[B3])<;>rfl):p->q:=e.mp
theorem Xp {p:Prop}(e:False:=by first|contradiction|omega|(simp at h<;>fail)):p:=e.elim
theorem Xk {P:Program}{n:Nat}{Q:G7}{s:Sl}{D:St}{c:Operand}{x y:Code}{t:Bool}{q r u v:Prop}(hc:aev s c=sc (.bool t):=by with_unfolding_all rfl)(e1:(t=true)=q:=by exact Xn)(e2:(t=false)=r:=by exact Xn)(a1:q->u:=by first|exact Xo|exact fun _=>True.intro)(a2:r->v:=by first|exact Xo|exact fun _=>True.intro):(q->u->Kk P n x Q s D)->(r->v->Kk P n y Q s D)->Kk P n (.cond c x y) Q s D:=fun h1 h2=>Uz hc (fun h=>h1 (e1.mp h) (a1 (e1.mp h))) (fun h=>h2 (e2.mp h) (a2 (e2.mp h)))
theorem Xl {P:Program}{o:Oper}{s:Sl}{D:St}{k:Sl->St->Prop}{t:Bool}{q r u v:Prop}(e1:(t=true)=q:=by exact Xn)(e2:(t=false)=r:=by exact Xn)(a1:q->u:=by first|exact Xo|exact fun _=>True.intro)(a2:r->v:=by first|exact Xo|exact fun _=>True.intro):(q->u->aStep P o s D (nxt k s o.dst))->(r->v->k (aput s o.dst (sc undef)) D)->gd P o s D k (some t):=fun h1 h2=>uP (fun h=>gd_true.mpr (h1 (e1.mp h) (a1 (e1.mp h)))) (fun h=>gd_false.mpr (h2 (e2.mp h) (a2 (e2.mp h))))
theorem Xm {P:Program}{o:Oper}{s:Sl}{F:Nat->Prop}{σ0:St}{k:Sl->Prop}{t:Bool}{q r u v:Prop}(e1:(t=true)=q:=by exact Xn)(e2:(t=false)=r:=by exact Xn)(a1:q->u:=by first|exact Xo|exact fun _=>True.intro)(a2:r->v:=by first|exact Xo|exact fun _=>True.intro):(q->u->match aq P s σ0 o.op with
   |some x=>(∀p,rdo s o.op=some p->F p)/\k (aput s o.dst x)
   |none=>False)->(r->v->k (aput s o.dst (sc undef)))->gt P o s F σ0 k (some t):=fun h1 h2=>uN (fun h=>gt_true.mpr (h1 (e1.mp h) (a1 (e1.mp h)))) (fun h=>gt_false.mpr (h2 (e2.mp h) (a2 (e2.mp h))))
theorem Xq {p:Prop}(h:p:=by first|rfl|assumption|omega|(simp only[Aa,Ab,Ah];omega)|(simp;omega)|(simp<;>fail)):p:=h
theorem Xr {p q:Prop}(e:p=q:=by (simp (maxSteps:=3000000) (disch:=(first|omega|(simp only[B1, *];omega))) only[↓eG,↓X4,B0,B4,Jo,undef,aq,al,cst,cst1,acells,flat,behind,qK,fV,Vb,lN,zI,sN,rdo,mJ,Value.cells,Value.oneCell',Int.reduceToNat,↓reduceIte,Nat.reduceLT,Nat.reduceEqDiff,reduceCtorEq,Nat.reduceAdd,Nat.reduceMul,Nat.reduceLeDiff,BF, *])<;>rfl):(q)->p:=fun h=>e.mpr h
theorem Xw {p q:Prop}(e:p=q:=by (simp (maxSteps:=3000000) (disch:=(first|omega|(simp only[Aee,B1, *];omega))) only[Aee,↓eG,↓X4,B0,B4,Jo,undef,aq,al,cst,cst1,acells,flat,behind,qK,fV,Vb,lN,zI,sN,rdo,mJ,Value.cells,Value.oneCell',Int.reduceToNat,↓reduceIte,Nat.reduceLT,Nat.reduceEqDiff,reduceCtorEq,Nat.reduceAdd,Nat.reduceMul,Nat.reduceLeDiff,BF, *])<;>rfl):(q)->p:=fun h=>e.mpr h
theorem Xs {a b:St}(h:Keep a b:=by repeat (first|exact Keep.refl _|assumption|(refine Keep.put ?_ (by first|omega|(simp only[Aa,Ab,Ah, *];omega)) _)|(refine Keep.new ?_ _)|(refine Keep.lay ?_ _)|(refine Keep.trans ?_ (by assumption)))):Keep a b:=h
theorem Xt {t:TypeId}{z b:Nat}{zc:List Value}{σ0 D:St}{id id2 n m m':Nat}{xs ys:List AV}{K:AV->St->Prop}
  
  (ht:M6 Tryz.prog t=some (z,b,zc):=by first|exact Po|exact S4|exact Kv|exact E5|exact Y0|exact Dv|exact Ed|exact Fx|exact lP|exact rX|exact lO|exact Dl|exact Yz|exact Ob|exact Re) (hK:Keep σ0 D:=by assumption) (hO:Own σ0 D id n:=by assumption)
  (hz:0<z:=by decide) (hzc:zc.length=z:=by with_unfolding_all rfl) (hx:xs.length=n*z:=by first|assumption|(simp<;>fail)|(simp;omega)|omega) (hy:ys.length=m*z:=by with_unfolding_all rfl) (hf:ys.all flat=true:=by with_unfolding_all rfl) (hm:0<m:=by decide) (hb:(n+m)*b<=140737488355328:=by omega) (hl:n+m<=1099511627776:=by omega):(∀id' D',Own σ0 D' id' (n+m)->Keep σ0 D'->D'.obj=D.obj->D'.nobj=D.nobj->D'.ver=D.ver->D.ntop<D'.ntop->K (sl id' (n+m) (xs++ys)) D')->Ie Tryz.prog t t (sl id n xs) (sl id2 m ys) (D.lay m') K:=fun h=>Bm ht hK hO hz hzc hx hy hf hm hb hl h
theorem Xu {t:TypeId}{z b:Nat}{zc:List Value}{D:St}{id2 m:Nat}{ys:List AV}{K:AV->St->Prop}(ht:M6 Tryz.prog t=some (z,b,zc):=by first|exact Po|exact S4|exact Kv|exact E5|exact Y0|exact Dv|exact Ed|exact Fx|exact lP|exact rX|exact lO|exact Dl|exact Yz|exact Ob|exact Re)(hz0:zc.length=z:=by with_unfolding_all rfl)
  (hz:0<z:=by decide) (hy:ys.length=m*z:=by with_unfolding_all rfl) (hf:ys.all flat=true:=by with_unfolding_all rfl) (hm:0<m:=by decide) (hb:m*b<=140737488355328:=by omega) (hl:m<=1099511627776:=by omega):(K (sl (D.ntop+2) m ys) (D.lay m))->Ie Tryz.prog t t nilS (sl id2 m ys) D K:=fun h=>wE ht hz0 hz hy hf hm hb hl h
theorem Z1 {p q:Prop}(h:p)(w:p->q:=by with_reducible first|exact Xa|exact Xb|exact Xd|exact Xe|exact Xf|exact Xu):q:=w h
theorem Z2 {a b c:Prop}(h1:a)(h2:b)(w:a->b->c:=by with_reducible first|exact Xl|exact Xm|exact Xk):c:=w h1 h2
theorem Z3 {p q:Prop}(h:p)(w:p->q:=by first|exact Xr|with_reducible exact Xj):q:=w h
theorem Z7 {p q:Prop}(h:p)(w:p->q:=by first|exact Xw|with_reducible exact Xj):q:=w h
theorem Z4 {p q:Prop}(h:p)(w:p->q:=by with_reducible exact hκ.out _ _):q:=w h
theorem Z5 {p q:Prop}(h:p)(w:p->q:=by with_reducible exact Xh):q:=w h
theorem Z6 {p q:Prop}(h:p)(w:p->q:=by with_reducible exact Xt):q:=w h
theorem Z8 {p q:Prop}(h:p)(w:p->q:=by with_reducible exact Xc):q:=w h
theorem Z9 {P:Program}{f:FuncId}{fn:Func}{c:Code}{args:List AV}{D:St}{R:AV->St->Prop}(n:Nat)(rs:List ResultVar)(hf:P.funcs[f]?=some fn)(h:Kk P n c (sN P rs R) (initS args) D)(hb:fn.body=some c:=by rfl)(hn:fn.name≠ "runtime.NumGoroutine":=by decide)(hnt:fn.ntmps=n:=by rfl)(hrs:fn.results.toList=rs:=by rfl)(hl:args.length<=n:=by exact Nat.le_of_ble_eq_true rfl):ACalls P f args D R:=Ab5 n rs hf hb hn hnt hrs hl h
theorem Agn {p:Prop}(h:p:=by simp[upd, *]):p:=h
theorem Ago {p:Prop}(h:p:=by simp[upd]):p:=h
theorem Agp {p:Prop}(h:p:=by kernel_rfl):p:=h
theorem Agq {p:Prop}(h:p:=by simp only[Aa];omega):p:=h
theorem Ags {p:Prop}(h:p:=by simp only[Ab,Aa];omega):p:=h
end Go.Abs
