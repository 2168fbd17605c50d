import Derived.Test.YtmoeoppbmhfbpabGreatDoorDa
set_option maxHeartbeats 32000000
set_option maxRecDepth 100000
set_option linter.all false
open List
open List renaming length->Z
namespace Go.Proofs.YtmoeoppbmhfbpabGreatDoorJ
open Go.Abs Tryz
def J0 (rs:List Int)(a:Dx):Bool:=rs.any (Bm a.ts)
def Bc (q:AZ)(rs:List Int):AZ:=⟨q.h,q.A.filter λp=>J0 rs p.a,q.B.filter (J0 rs)⟩
def Ip (q:AZ)(rs:List Int):AZ:=⟨⟨0,[]⟩,q.A.filter λp=>!J0 rs p.a,q.B.filter λa=>!J0 rs a⟩
def Uf (q c ai b5)(hc:EQ q c)(hq:Qt q)(b6:Z ai<=200)(b):ni 188 [ag c,X2 b5 ai] b λao σ'=>(∃c1 c2 rs,ao=tp [ag c1,ag c2]/\EQ (Bc q rs) c1/\EQ (Ip q rs) c2/\Grown ai (Cs (atomsQ q)) rs/\F1 (atomsQ q) rs rs)/\W b σ':=by
 have br:=λb=>bB q c ai b5 hc hq b6 b;have ca:=N6 hq;have ci:=Jv hq;have b7:=Fs ca;obtain⟨z,ip,bj,pc,nc,rfl,hP,hN⟩:=hc;have bt:=r.length Ex hP;have ce:=r.length Iz hN;have hl:=hq.pl;have cg:=hq.nl;refine wl func188 ?_;refine mt br ?_;rintro yb ya _ _ ⟨⟨aw,rs,rfl,hG,hC⟩,a6⟩;have bb:=a6.B;have ap:=a6.C;have b9:=((((W.refl b).new _).new _).new _).trans a6;simp only[Aa]at bb ap;refine X ?_;rename_i ah;have bq:Z rs<=100000:=ny hG.le
 have HG:V _:=hG;have HC:V _:=hC;clear hG hC br b7;have o0:ah.C b.B=[Y q.h.p,X1 z q.h.ts,sl ip (Z q.A) pc,sl bj (Z q.B) nc]:=by rw[ap _ L,Ah AM,Ah AM,Ao]
 have o1:ah.C (b.B+1)=[Y 0,H,H,H]:=by rw[ap _ L,Ah AM,Be AM AM]
 have o2:ah.C (b.B+2)=[Y 0,H,H,H]:=by rw[ap _ L,Be AM AM]
 clear ap a6;generalize b8:ah.B=x at*
 refine wn [2,4,5,6,7,8,21,22] 23 (Z q.A) (λk au σ'=>∃(D P:Nat) (n u:List Part) (F e:oh),W b σ'/\x+1<σ'.B/\σ'.C b.B=[Y q.h.p,X1 z q.h.ts,sl ip (Z q.A) pc,sl bj (Z q.B) nc]/\σ'.C (b.B+1)=[Y 0,H,H,H]/\σ'.C (b.B+2)=[Y 0,H,H,H]/\σ'.C x=[Y q.h.p,X1 z q.h.ts,sl D (Z n) F,H]/\σ'.C (x+1)=[Y 0,H,sl P (Z u) e,H]/\J b σ' D (Z n)/\J b σ' P (Z u)/\(D=1\/D≠P)/\Z n<=k/\Z u<=k/\Z F=Z n*3/\Z e=Z u*3/\V (r Oa n F/\r Oa u e/\n=(q.A.take k).filter (λp=>J0 rs p.a)/\u=(q.A.take k).filter λp=>!J0 rs p.a)) ⟨1,1,[],[],[],[],Xs,BJ,?_,?_,?_,?_,?_,J.nil _ _,J.nil _ _,.inl rfl,nk,nk,nk,nk,⟨rfl,rfl,nk,nk⟩⟩ ?_
 ·rw[Aj L,Ah BJ,Aj L,Ah L,o0]
 ·rw[Aj L,Ah BJ,Aj L,Ah L,o1]
 ·rw[Aj L,Ah BJ,Aj L,Ah L,o2]
 ·rw[Aj L,Ah BJ,Ak];simp
 ·rw[Ak];simp
 clear o0 o1 o2 b9 b8;rintro k au σ' hk ⟨h2,h4,h5,h6,h7,h8,cd,cc⟩ cb ⟨D,P,n,u,F,e,i,bc,b0,ba,a9,a8,a7,bm,bi,a5,b3,bf,bp,bo,hX⟩;have bn:=i.B;by_cases a3:k<Z q.A
 ·obtain⟨w,K⟩:=gq a3;obtain⟨id,a2,ao,hd⟩:=F0 hP K;have bh:=hq.pa _ (AY K);have be:Z w.a.ts<=1000:=L;have m:=λb=>L5 w.a.p id w.a.ts rs aw be bq b;have a4:W b ((σ'.new [Y 0,H,H]).put σ'.B [Y w.a.p,X1 id w.a.ts,sl a2 (Z w.A) (Fg w.A)]):=(i.new _).put i.B _;have U:V ((q.A.take (k+1)).filter (λp=>J0 rs p.a)=(q.A.take k).filter (λp=>J0 rs p.a)++if J0 rs w.a=true then [w]else []):=by
   rw[V,AT,K,BN,Em]
  have s:V ((q.A.take (k+1)).filter (λp=>!J0 rs p.a)=(q.A.take k).filter (λp=>!J0 rs p.a)++if (!J0 rs w.a)=true then [w]else []):=by
   rw[V,AT,K,BN,Em]
  clear K;rw[show rs.any (Bm w.a.ts)=J0 rs w.a from rfl]at m;cases C:J0 rs w.a
  ·rw[C]at m;have y:V (r Oa n F/\r Oa (u++[w]) (e++[Y w.a.p,X1 id w.a.ts,sl a2 (Z w.A) (Fg w.A)])/\n=(q.A.take (k+1)).filter (λp=>J0 rs p.a)/\u++[w]=(q.A.take (k+1)).filter λp=>!J0 rs p.a):=by
    obtain⟨G,E,l,g⟩:=hX.o;exact⟨G,r.append E (r.single ⟨id,a2,rfl⟩),by rw[U.o,C,l];simp,by rw[s.o,C,g];simp⟩
   clear hX U s;refine m0 ?_;intro yb ya;refine Xi (m _) ?_;rintro _ _ ⟨rfl,d⟩;(have am:=d.B;have M:=d.C;have B:=a4.trans d;simp only[Ac,Aa]at am M);refine nh ?_;intro yb ya;refine Ie (by first|exact F5|exact Ee) B (J.keep (J.put (J.new bi _) _ _) d) nr (by rfl) bo (by rfl) (by rfl) nr L L ?_;intro f a1 A T R ab ad aa an;obtain⟨az,ax⟩:=an D (Z n) (J.keep (J.put (J.new bm _) _ _) d) L;have bd:D=1\/D≠f:=L;have aj:∀p,p<σ'.B->a1.C p=σ'.C p:=λp hp=>by rw[R,M _ L,Aj L,Ah L]
   refine Z3 ?_;refine X ?_;refine⟨D,f,n,u++[w],F,e++[Y w.a.p,X1 id w.a.ts,sl a2 (Z w.A) (Fg w.A)],?_⟩
   ((repeat' refine Zi ?_ ?_)<;>first|exact Xq|exact (T.put L _)|exact (nn (J.put A _ _))|exact (J.put az _ _)|exact y|exact Xs)
  rw[C]at m;have y:V (r Oa (n++[w]) (F++[Y w.a.p,X1 id w.a.ts,sl a2 (Z w.A) (Fg w.A)])/\r Oa u e/\n++[w]=(q.A.take (k+1)).filter (λp=>J0 rs p.a)/\u=(q.A.take (k+1)).filter λp=>!J0 rs p.a):=by
   obtain⟨G,E,l,g⟩:=hX.o;exact⟨r.append G (r.single ⟨id,a2,rfl⟩),E,by rw[U.o,if_pos C,l],by rw[s.o,C,g];simp⟩
  clear hX U s;refine m0 ?_;intro yb ya;refine Xi (m _) ?_;rintro _ _ ⟨rfl,d⟩;(have am:=d.B;have M:=d.C;have B:=a4.trans d;simp only[Ac,Aa]at am M);refine nh ?_;intro yb ya;refine Ie (by first|exact F5|exact Ee) B (J.keep (J.put (J.new bm _) _ _) d) nr (by rfl) bp (by rfl) (by rfl) nr L L ?_;intro f a1 A T R ab ad aa an;obtain⟨ay,ax⟩:=an P (Z u) (J.keep (J.put (J.new bi _) _ _) d) a5;have aj:∀p,p<σ'.B->a1.C p=σ'.C p:=λp hp=>by rw[R,M _ L,Aj L,Ah L]
  refine Z3 ?_;refine X ?_;refine⟨f,P,n++[w],u,F++[Y w.a.p,X1 id w.a.ts,sl a2 (Z w.A) (Fg w.A)],e,?_⟩
  ((repeat' refine Zi ?_ ?_)<;>first|exact Xq|exact (T.put L _)|exact (nn (J.put A _ _))|exact (J.put ay _ _)|exact y|exact Xs)
 obtain rfl:k=Z q.A:=L;let⟨G,E,l,g⟩:=hX.o;rw[AS]at l g;have y:V (r Oa (q.A.filter λp=>J0 rs p.a) F/\r Oa (q.A.filter λp=>!J0 rs p.a) e/\Z n=Z (q.A.filter λp=>J0 rs p.a)/\Z u=Z (q.A.filter λp=>!J0 rs p.a)):=⟨by rw[<-l];exact G,by rw[<-g];exact E,by rw[l],by rw[g]⟩;clear G E l g hX hk;generalize Z n=n1 at*
 generalize Z u=n2 at*
 refine X ?_
 refine wn [4,5,6,7,8,45,46] 47 (Z q.B) (λj au σ'=>∃(I S:Nat) (v t:List Dx) (o N:oh),W b σ'/\x+1<σ'.B/\σ'.C (b.B+1)=[Y 0,H,H,H]/\σ'.C (b.B+2)=[Y 0,H,H,H]/\σ'.C x=[Y q.h.p,X1 z q.h.ts,sl D n1 F,sl I (Z v) o]/\σ'.C (x+1)=[Y 0,H,sl P n2 e,sl S (Z t) N]/\J b σ' I (Z v)/\J b σ' S (Z t)/\(I=1\/I≠S)/\Z v<=j/\Z t<=j/\Z o=Z v*2/\Z N=Z t*2/\V (r O9 v o/\r O9 t N/\v=(q.B.take j).filter (J0 rs)/\t=(q.B.take j).filter λa=>!J0 rs a)) ⟨1,1,[],[],[],[],i,bc,ba,a9,by rw[a8];simp,by rw[a7];simp,J.nil _ _,J.nil _ _,.inl rfl,nk,nk,nk,nk,⟨rfl,rfl,nk,nk⟩⟩ ?_
 clear h2 h4 h5 h6 h7 h8 cd cc cb i bc b0 ba a9 a8 a7 bm bi a5 b3 bf bp bo a3 bn;rintro j au σ' _ ⟨h4,h5,_,_,_,_,_⟩ _ ⟨I,S,v,t,o,N,i,bc,ba,a9,a8,a7,bv,bu,a5,bl,cf,b2,b1,hY⟩;have bn:=i.B;by_cases a3:j<Z q.B
 ·obtain⟨w,K⟩:=gq a3;obtain⟨id,ao,hd⟩:=Ke hN K;have bh:=hq.na _ (AY K);have be:Z w.ts<=1000:=L;have m:=λb=>L5 w.p id w.ts rs aw be bq b;have a4:W b ((σ'.new [Y 0,H]).put σ'.B [Y w.p,X1 id w.ts]):=(i.new _).put i.B _;have U:V ((q.B.take (j+1)).filter (J0 rs)=(q.B.take j).filter (J0 rs)++if J0 rs w=true then [w]else []):=by
   rw[V,AT,K,BN,Em]
  have s:V ((q.B.take (j+1)).filter (λa=>!J0 rs a)=(q.B.take j).filter (λa=>!J0 rs a)++if (!J0 rs w)=true then [w]else []):=by
   rw[V,AT,K,BN,Em]
  clear K;rw[show rs.any (Bm w.ts)=J0 rs w from rfl]at m;cases C:J0 rs w
  ·rw[C]at m;have HY:V (r O9 v o/\r O9 (t++[w]) (N++[Y w.p,X1 id w.ts])/\v=(q.B.take (j+1)).filter (J0 rs)/\t++[w]=(q.B.take (j+1)).filter λa=>!J0 rs a):=by
    obtain⟨G,E,l,g⟩:=hY.o;exact⟨G,r.append E (r.single ⟨id,rfl⟩),by rw[U.o,C,l];simp,by rw[s.o,C,g];simp⟩
   clear hY U s;refine m0 ?_;intro yb ya;refine Xi (m _) ?_;rintro _ _ ⟨rfl,d⟩;(have am:=d.B;have M:=d.C;have B:=a4.trans d;simp only[Ac,Aa]at am M);refine nh ?_;intro yb ya;refine Ie (by first|exact F5|exact Ee) B (J.keep (J.put (J.new bu _) _ _) d) nr (by rfl) b1 (by rfl) (by rfl) nr L L ?_;intro f a1 A T R ab ad aa an;obtain⟨az,ax⟩:=an I (Z v) (J.keep (J.put (J.new bv _) _ _) d) L;have bd:I=1\/I≠f:=L;have aj:∀p,p<σ'.B->a1.C p=σ'.C p:=λp hp=>by rw[R,M _ L,Aj L,Ah L]
   refine Z3 ?_;refine X ?_;refine⟨I,f,v,t++[w],o,N++[Y w.p,X1 id w.ts],?_⟩
   ((repeat' refine Zi ?_ ?_)<;>first|exact Xq|exact (T.put L _)|exact (nn (J.put A _ _))|exact (J.put az _ _)|exact HY|exact Xs)
  rw[C]at m;have HY:V (r O9 (v++[w]) (o++[Y w.p,X1 id w.ts])/\r O9 t N/\v++[w]=(q.B.take (j+1)).filter (J0 rs)/\t=(q.B.take (j+1)).filter λa=>!J0 rs a):=by
   obtain⟨G,E,l,g⟩:=hY.o;exact⟨r.append G (r.single ⟨id,rfl⟩),E,by rw[U.o,if_pos C,l],by rw[s.o,C,g];simp⟩
  clear hY U s;refine m0 ?_;intro yb ya;refine Xi (m _) ?_;rintro _ _ ⟨rfl,d⟩;(have am:=d.B;have M:=d.C;have B:=a4.trans d;simp only[Ac,Aa]at am M);refine nh ?_;intro yb ya;refine Ie (by first|exact F5|exact Ee) B (J.keep (J.put (J.new bv _) _ _) d) nr (by rfl) b2 (by rfl) (by rfl) nr L L ?_;intro f a1 A T R ab ad aa an;obtain⟨ay,ax⟩:=an S (Z t) (J.keep (J.put (J.new bu _) _ _) d) a5;have aj:∀p,p<σ'.B->a1.C p=σ'.C p:=λp hp=>by rw[R,M _ L,Aj L,Ah L]
  refine Z3 ?_;refine X ?_;refine⟨f,S,v++[w],t,o++[Y w.p,X1 id w.ts],N,?_⟩
  ((repeat' refine Zi ?_ ?_)<;>first|exact Xq|exact (T.put L _)|exact (nn (J.put A _ _))|exact (J.put ay _ _)|exact HY|exact Xs)
 obtain rfl:j=Z q.B:=L;obtain⟨G,E,l,g⟩:=hY.o;rw[AS]at l g;have bz:=y.o.2.2.1;have bw:=y.o.2.2.2
 have HN:V (EQ (Bc q rs) [Y q.h.p,X1 z q.h.ts,sl D n1 F,sl I (Z v) o]/\EQ (Ip q rs) [Y 0,H,sl P n2 e,sl S (Z t) N]):=
  ⟨⟨z,D,I,F,o,by simp only[Bc];rw[bz,l],y.o.1,by simp only[Bc];rw[<-l];exact G⟩,⟨1,P,S,e,N,by simp only[Ip];rw[bw,g];rfl,y.o.2.1,by simp only[Ip];rw[<-g];exact E⟩⟩
 clear G E l g hY bz bw;refine X ?_;have c4:b.B+2<x:=L;refine A2 (Q:=λb4 s' af=>b4= .normal/\s' 4=ptr (b.B+1) 0/\s' 5=ptr (b.B+2) 0/\W b af/\af.C (b.B+1)=[Y q.h.p,X1 z q.h.ts,sl D n1 F,sl I (Z v) o]/\af.C (b.B+2)=[Y 0,H,sl P n2 e,sl S (Z t) N]) ?_ ?_
 ·refine Ar Ag (λp=>p=x\/p=x+1) [3] [0] 3 (nv 4 1) AH (λ_ _ _ h=>by cases h.1) ?_;intro yb ya;refine Z3 ?_;refine⟨λp h=>.inl (Gf h).symm,ya.o _ ?_⟩;clear ya yb;have bg:∀(av:Nat->Bool) (ae:Nat) (c:oh),Kept av (λp=>p=x\/p=x+1) σ' ae (σ'.put (b.B+1) c):=λav ae c _ bk ho hF=>by
   have:bk≠b.B+1:=by rcases hF with h|h<;>omega
   simp[St.put,this]
  refine D8 (rs:=[1,2]) AH nk ?_;intro ae hi;simp only[BD,EK,DZ]at hi;obtain rfl|rfl:=hi
  ·refine ta ?_;refine Ai (i:=2) AH ?_;refine Am ?_;intro yb ya;refine Z3 ?_;refine ya.o _ _ ⟨bg _ _ _,?_⟩;clear ya yb;refine rl 3 ?_;refine Aw AH ⟨rfl,by simp[upd,h4],by simp[upd,h5],(i.put L _).put L _,?_,?_⟩
   ·rw[Aj L,Ak]
   rw[Ak]
  refine Am ?_;intro yb ya;refine Z3 ?_;refine ya.o _ _ ⟨bg _ _ _,?_⟩;clear ya yb;refine Ai (i:=1) AH ?_;refine Am ?_;intro yb ya;refine Z3 ?_;refine ya.o _ _ ⟨bg _ _ _,?_⟩;clear ya yb;refine rl 3 ?_;refine Aw AH ⟨rfl,by simp[upd,h4],by simp[upd,h5],(i.put L _).put L _,?_,?_⟩
  ·rw[Aj L,Ak]
  rw[Ak]
 rintro b4 s' af ⟨rfl,g4,g5,ch,bx,c3⟩;refine X ?_;exact⟨_,rfl,⟨_,_,rs,rfl,HN.o.1,HN.o.2,HG.o,HC.o⟩⟩
abbrev MM:=List (Nat×List Ck)
def Gp (M:MM):oh:=M.map λx=>sl x.1 (Z x.2) (Fg x.2)
def Live (a:St)(id n:Nat):Prop:=(id=1/\n=0)\/∃k,id=k+2/\k<a.D/\a.top k=n/\0<n
def Live.keep {a σ' id n}(h:Live a id n)(k:W a σ'):Live σ' id n:=by obtain h|⟨j,c,b,d,e⟩:=h;exact .inl h;exact .inr ⟨j,c,BZ b k.D,(k.top j b).trans d,e⟩
structure BL (σ:St)(om ot:Nat)(M:MM)(d b:Int):Prop where
 ob:σ.C om=[fx ot 0 (Z M),Y d,Y b]
 oc:σ.C ot=Gp M
 lo:om<σ.B
 lt:ot<σ.B
 ne:om≠ot
 live:∀x∈M,Live σ x.1 (Z x.2)
 inj:∀(i j:Nat) (x y:Nat×List Ck),M[i]?=some x->M[j]?=some y->i≠j->x.1=1\/x.1≠y.1
 t3:∀x∈M,T3 x.2
 ln:∀x∈M,Z x.2<=5000
 pl:Z M<=5000
def BL.keep {a σ' e c M d b}(h:BL a e c M d b)(k:W a σ'):BL σ' e c M d b:=
 ⟨(k.C _ h.lo).trans h.ob,(k.C _ h.lt).trans h.oc,BZ h.lo k.B,BZ h.lt k.B,h.ne,λx f=>(h.live x f).keep k,h.inj,h.t3,h.ln,h.pl⟩
def Jj {M}{k:Nat}{x}(h:M[k]?=some x):(Gp M)[k]?=some (sl x.1 (Z x.2) (Fg x.2)):=by grind[Gp]
def Ji (M):Z (Gp M)=Z M:=by simp[Gp]
def Qm (g i M d b f)(a:BL f g i M d b):ni 51 [ptr g 0] f λj σ'=>j=my (decide (b<d))/\σ'=f:=by
 have e:=a.ob;have c:decide (d>b)=decide (b<d):=rfl;refine wl func51 ?_;refine X ?_;refine Ax Ag (λ_=>True) [9] [0,1,2,3,4,5,6,7,8] [9] AH (λ_ _ _ h=>h) ?_;intro yb ya;refine X ?_
 first|exact⟨_,rfl,rfl⟩|exact⟨_,rfl,rfl,rfl⟩|exact⟨_,rfl⟩
def C4 (a:Dx):Ck:=Ej (a.ts.map (·.2))
def Jq (o s M d b a)(id k:Nat)(x)(ha:Z a.ts<=3)(R:a.p=(k:Int))(z:M[k]?=some x)(l)(n:BL l o s M d b):ni 81 [ptr o 0,ag [Y a.p,X1 id a.ts]] l λm σ'=>m=my (decide (C4 a∈x.2))/\W l σ':=by
 have a7:Z a.ts<=1000:=L;have D:=λl=>Ue a.p id a.ts a7 l;have F:=AY z;have I:=n.t3 x F;have az:=n.ln x F;have aw:=J4 I;have a3:k<Z M:=(BA.1 z).1;have ad:=n.pl;have ay:=Ji M;have a4:=Jj z;have aa:=n.lo;have a2:=n.lt;have a8:=n.ob;have a0:=n.oc;rw[R];rw[R]at D;have U:Z (Ej (a.ts.map (·.2)))=3:=rfl;have E:V (C4 a=Ej (a.ts.map (·.2))):=rfl;generalize C4 a=T at*
 generalize Ej (a.ts.map (·.2))=S at*
 obtain⟨f,g,j,rfl⟩:∃f g j,S=[f,g,j]:=by
  match S,U with
  |[f,g,j],_=>exact⟨f,g,j,rfl⟩
 simp only[As,CC,IK]at D;refine wl func81 ?_;refine mt D ?_;rintro yb ya _ _ ⟨rfl,v⟩;have a6:=v.B;have B:=v.C;have C:=((W.refl l).new _).trans v;simp only[Aa]at a6 B;refine X ?_;rename_i c;have K:W l ((c.new [Y 0,Y 0,Y 0]).put c.B [Y f,Y g,Y j]):=(C.new _).put L _;have a9:c.C l.B=[Y (k:Int),X1 id a.ts]:=by rw[B _ L,Ao]
 have P:c.C o=[fx s 0 (Z M),Y d,Y b]:=by rw[C.C _ aa,a8]
 have e2:c.C s=Gp M:=by rw[C.C _ a2,a0]
 clear B v;refine Ax Ag (λ_=>True) [] [0,1,2,3,4,5,6,7,8,9] [] AH (λ_ _ _ h=>h) ?_;intro yb ya;refine X ?_;clear a9 P e2
 refine wn [5,17,18] 19 (Z x.2) (λi ac σ'=>W l σ'/\c.B<σ'.B/\σ'.C c.B=[Y f,Y g,Y j]/\V ([f,g,j]∉x.2.take i)) ⟨K,BJ,by rw[Ak],by simp[V]⟩ ?_
 clear K;rintro i ac σ' _ _ _ ⟨A,ax,au,u⟩;have av:=A.B;by_cases a1:i<Z x.2
 ·have t:=AK a1;let⟨p,q,m,rr,N,hd⟩:=uQ I t;rw[N]at t;clear N;have G:V (x.2[i]?=some [p,q,m]):=t;clear t;by_cases y:p=f/\q=g/\m=j
  ·obtain⟨rfl,rfl,rfl⟩:=y;have ab:decide (T∈x.2):=by rw[E.o];simpa using AY G.o
   refine X ?_
   exact⟨_,rfl,rfl,Xs⟩
  have a5:(p==f&&q==g&&m==j)=false:=by
   cases h:(p==f&&q==g&&m==j)
   ·rfl
   simp at h;exact absurd ⟨h.1.1,h.1.2,h.2⟩ y
  have Q:V ([f,g,j]∉x.2.take (i+1)):=Yl u.o G.o (λe=>by simp at e;exact y ⟨e.1,e.2.1,e.2.2⟩);clear y u;refine X ?_;skip;exact m9 Q
 obtain rfl:i=Z x.2:=L;rw[AS]at u;have ab:decide (T∈x.2)=false:=by rw[E.o];simpa using u.o
 refine X ?_
 exact⟨_,rfl,rfl⟩
structure KM (om ot:Nat)(M M':MM)(σ σ':St):Prop where
 B:σ.B<=σ'.B
 C:∀o,o<σ.B->o≠om->o≠ot->σ'.C o=σ.C o
 ver:∀o,o<σ.B->o≠om->o≠ot->σ'.ver o=σ.ver o
 D:σ.D<=σ'.D
 top:∀k,k<σ.D->(∀x∈M,x.1≠k+2)->σ'.top k=σ.top k
 mid:∀x∈M',(∃y∈M,y.1=x.1)\/x.1=1\/σ.D+2<=x.1
def KM.ofKeep {f c M b σ'}(h:W b σ'):KM f c M M b σ':=
 ⟨h.B,λo a _ _=>h.C o a,λo a _ _=>h.ver o a,h.D,λk e _=>h.top k e,λx d=>.inl ⟨x,d,rfl⟩⟩
def KM.trans {j i M p M2 m a c}(h:KM j i M p m a)(g:KM j i p M2 a c):KM j i M M2 m c where
 B:=BI h.B g.B
 C:=λo b d h2=>(g.C o (BZ b h.B) d h2).trans (h.C o b d h2)
 ver:=λo b d h2=>(g.ver o (BZ b h.B) d h2).trans (h.ver o b d h2)
 D:=BI h.D g.D
 top:=λk n f=>(g.top k (BZ n h.D) (λx s e=>by
  obtain⟨y,l,e2⟩|e2|e2:=h.mid x s;exact f y l (e2.trans e);omega
  omega)).trans (h.top k n f)
 mid:=λx f=>by obtain⟨y,l,e⟩|e|e:=g.mid x f;obtain⟨z,q,e2⟩|e2|e2:=h.mid y l;exact .inl ⟨z,q,e2.trans e⟩;exact .inr (.inl L);exact .inr (.inr L);exact .inr (.inl e);exact .inr (.inr (ny h.D))
def Ty {P t z b i a id f n m c xs d K}(v:P0 P t=some (z,b,i))(p:Live a id n)
  (D:0<z) (e:Z i=z) (g:Z xs=n*z) (u:Z d=m*z) (x:d.all flat) (l:0<m) (y:(n+m)*b<=140737488355328) (s:n+m<=1099511627776)
  (h:∀id' σ',Live σ' id' (n+m)->(id'=id\/a.D+2<=id')->id'≠1->σ'.C=a.C->σ'.B=a.B->σ'.ver=a.ver->a.D<σ'.D->(∀k,k<a.D->k+2≠id->σ'.top k=a.top k)->K (sl id' (n+m) (xs++d)) σ'):Jx P t t (sl id n xs) (sl f m d) (a.lay c) K:=by
 unfold Jx iK;left;simp only[v];rw[if_pos ⟨trivial,D,e,g,u,x,l,y,s⟩];obtain⟨rfl,rfl⟩|⟨k,rfl,E,F,A⟩:=p;obtain rfl:xs=[]:=GG (nn g);have:=h ((a.lay c).D+2) ((a.lay c).lay m) (.inr ⟨(a.lay c).D,rfl,by simp[St.lay],by simp[St.lay],L⟩) (.inr (by simp[St.lay])) nk rfl rfl rfl (by grind[St.lay]) (λk q _=>(((W.refl a).lay c).lay m).top k q);simpa using this;have o:(a.lay c).top k=n:=by grind[St.lay]
 simp only;rw[if_pos ⟨o,A⟩]
 exact h (k+2) _ (.inr ⟨k,rfl,by grind[St.raise,St.lay],by simp[St.raise],L⟩) (.inl rfl) L rfl rfl rfl (by simp[St.raise,St.lay]) (λj C B=>by grind[St.raise,St.lay])
def BL.grow {f σ' v p M d b k id' x t}(c:BL f v p M d b)(A:M[k]?=some x)(P:Z t=3)(T:Z x.2<5000)
  (Lqx:Live σ' id' (Z x.2+1)) (s:id'=x.1\/f.D+2<=id') (S:id'≠1) (R:∀o,o<f.B->o≠p->σ'.C o=f.C o) (K:∀o,o<f.B->o≠p->σ'.ver o=f.ver o) (D:σ'.C p=(Gp M).set k (sl id' (Z x.2+1) (Fg x.2++As t))) (m:f.B<=σ'.B) (g:f.D<=σ'.D)
  (l:∀j,j<f.D->j+2≠x.1->σ'.top j=f.top j):BL σ' v p (M.set k (id',x.2++[t])) d b/\KM v p M (M.set k (id',x.2++[t])) f σ':=by
 have C:=AY A;have a4:=(BA.1 A).1;have B:∀(i:Nat) (y:Nat×List Ck),M[i]?=some y->i≠k->Live σ' y.1 (Z y.2)/\(y.1=1\/y.1≠id'):=λi y a q=>by
  have a2:=AY a;rcases c.live y a2 with h|⟨j,e1,e2,e3,e4⟩;exact⟨.inl h,.inl h.1⟩;have a5:y.1≠x.1:=by obtain h|h:=c.inj i k y x a A q;omega;exact h
  refine⟨.inr ⟨j,e1,BZ e2 g,(l j e2 L).trans e3,e4⟩,.inr ?_⟩;grind
 have z:∀(i:Nat) (y:Nat×List Ck),(M.set k (id',x.2++[t]))[i]?=some y->(i=k/\y=(id',x.2++[t]))\/(i≠k/\M[i]?=some y):=λi y a=>gp
 have F:∀y∈M.set k (id',x.2++[t]),y=(id',x.2++[t])\/y∈M:=λy a=>(NI a).symm;have U:∀y∈M.set k (id',x.2++[t]),∃i,(M.set k (id',x.2++[t]))[i]?=some y:=λy a=>CL a;refine⟨⟨?_,?_,BZ c.lo m,BZ c.lt m,c.ne,?_,?_,?_,?_,by simp;exact c.pl⟩,⟨m,λo G E n=>R o G n,λo G E n=>K o G n,g,λj N h=>l j N (λe=>h x C e.symm),?_⟩⟩;rw[R v c.lo c.ne,c.ob];simp;rw[D];unfold Gp;rw[map_set];congr 1;simp[Fg];intro y a;let⟨i,a1⟩:=U y a;obtain⟨-,rfl⟩|⟨q,u⟩:=z i y a1;simpa using Lqx;exact (B i y u q).1;intro i j y w a Q q;obtain⟨rfl,rfl⟩|⟨E,u⟩:=z i y a;obtain⟨rfl,rfl⟩|⟨n,I⟩:=z j w Q;cases q rfl;have:=(B j w I n).2;simp only;by_cases e:id'=w.1;obtain h|h:=this;omega;omega;exact .inr e;obtain⟨rfl,rfl⟩|⟨n,I⟩:=z j w Q;exact (B i y u E).2;exact c.inj i j y w u I q;intro y a;obtain rfl|a:=F y a;intro a3 a0;obtain h|h:=AW.1 a0;exact c.t3 x C a3 h;simp at h;subst h;exact P;exact c.t3 y a;intro y a;obtain rfl|a:=F y a;simp;omega;exact c.ln y a;intro y a;obtain rfl|a:=F y a;obtain h|h:=s;exact .inl ⟨x,C,h.symm⟩;exact .inr (.inr h);exact .inl ⟨y,a,rfl⟩
def Y4 (A t M d b a)(id k:Nat)(x)(ha:Z a.ts<=3)(D:a.p=(k:Int))(u:M[k]?=some x)(hn:Z x.2<5000)(g)(l:BL g A t M d b):ni 82 [ptr A 0,ag [Y a.p,X1 id a.ts]] g λaf σ'=>∃id',BL σ' A t (M.set k (id',x.2++[C4 a])) d b/\KM A t M (M.set k (id',x.2++[C4 a])) g σ':=by
 have a4:Z a.ts<=1000:=L;have I:=λg=>Ue a.p id a.ts a4 g;have G:=AY u;have z:=l.t3 x G;have a8:=l.live x G;have au:=J4 z;have a0:k<Z M:=(BA.1 u).1;have ac:=l.pl;have az:=Ji M;have a3:=Jj u;have lo:=l.lo;have a5:=l.lt;have a7:=l.ob;have U:=l.oc;rw[D];rw[D]at I;have v:Z (Ej (a.ts.map (·.2)))=3:=rfl;have K:V (C4 a=Ej (a.ts.map (·.2))):=rfl;generalize C4 a=R at*
 generalize Ej (a.ts.map (·.2))=P at*
 have w1:=Io v;have a2:=Fo P;have w4:=Qj v;refine wl func82 ?_;refine X ?_;refine A2 (Q:=λe T σ'=>e= .normal/\∃id',BL σ' A t (M.set k (id',x.2++[R])) d b/\KM A t M (M.set k (id',x.2++[R])) g σ') ?_ ?_;refine bT [19] [0,1,2,3,4,5,6,7,8,9,10,11,12,13,14] 5 (nv 20 32767) ?_;refine tn 15 I ?_;rintro yb ya _ m ⟨rfl,q⟩;refine ux ?_;have a6:=q.B;simp only[Aa]at a6;have f:W g m:=((W.refl g).new _).trans q;have e1:m.C A=[fx t 0 (Z M),Y d,Y b]:=by rw[f.C _ lo,a7]
 have e2:m.C t=Gp M:=by rw[f.C _ a5,U]
 refine rl 16 ?_;refine Ai (i:=17) AH ?_;refine Am ?_;intro yb ya;refine Z3 ?_;refine Ty (by exact G6) (a8.keep f) nr (by rfl) au (by rw[w1]) a2 nr L L ?_;intro p aa ax a1 N E ae B ad a9
 refine Z3 ?_;refine ya.o _ _ ⟨λ_ o n _=>by rw[B];exact q.ver o n,?_⟩;clear ya yb;refine Ai (i:=18) AH ?_;refine Am ?_;intro yb ya;refine Z3 ?_;refine ya.o _ _ ⟨λ_ o n _=>by rw[B];exact q.ver o n,?_⟩;clear ya yb;refine rl 19 ?_;refine Aw AH ⟨rfl,p,?_⟩;rw[K.o];refine BL.grow l u v hn ?_ ?_ N ?_ ?_ ?_ ?_ ?_ ?_;obtain h|⟨j,C,y,z,h4⟩:=ax;exact .inl h;exact .inr ⟨j,C,y,z,h4⟩;have:=f.D;obtain h|h:=a1;exact .inl h;exact .inr L;intro o n s;rw[show∀(S:St) c,(S.put t c).C o=S.C o from λS c=>by simp[St.put,s],E,f.C o n];intro o n s;rw[show∀(S:St) c,(S.put t c).ver o=S.ver o from λS c=>by simp[St.put,s],B,f.ver o n];rw[Ak];have:=f.B;simp only[Ac];omega;have:=f.D;simp only[Nc];omega;intro j F s;rw[Og,a9 j (BZ F f.D) s,f.top j F];rintro e T ab ⟨rfl,p,C,y⟩;refine X ?_;exact⟨_,rfl,p,C,y⟩
def H1 (M:MM):List Int:=M.map λx=>(Z x.2:Int)
def Sc (n K M d b m)(f:BL m n K M d b):ni 137 [ptr n 0] m λN σ'=>(∃id,N=sl id (Z M) (As (H1 M)))/\W m σ':=by
 have v:=f.pl;have o:=f.lt;have F:=f.ob;have t:=f.oc;refine wl func137 ?_;refine X ?_
 refine wn [10,11] 12 (Z M) (λi s σ'=>∃(e:Nat) (a:oh),s 3=sl e i a/\W m σ'/\J m σ' e i/\Z a=i/\V (a=As (H1 (M.take i)))) ⟨1,[],AG,Xs,J.nil _ _,nk,by simp[V,H1,As]⟩ ?_
 rintro i s σ' _ _ _ ⟨e,a,E,j,D,R,c⟩;have e2:σ'.C K=Gp M:=by rw[j.C _ o,t]
 by_cases l:i<Z M;obtain⟨x,g⟩:=gq l;have p:=Jj g;have y:=f.ln _ (AY g);have q:V (a++[Y (Z x.2:Int)]=As (H1 (M.take (i+1)))):=by rw[V,AT,g,c.o];simp[H1,As]
 clear g c;have P:Z a=i*1:=L;refine m5 ?_;intro yb ya;intro k u z B A I C G;refine X ?_;refine⟨k,a++[Y (Z x.2:Int)],?_⟩;exact m9 q;obtain rfl:i=Z M:=L;have c:=c.o;rw[AS]at c;refine X ?_
 exact⟨_,rfl,⟨e,rfl⟩⟩
structure Lit where
 neg:Bool
 a:Dx
structure E3 where
 h:Dx
 A:List Lit
def Sq (l:Lit)(c:oh):Prop:=∃id,c=[my l.neg,Y l.a.p,X1 id l.a.ts]
def Hk (a c)(h:Sq a c):Z c=3:=by obtain⟨id,rfl⟩:=h;rfl
def H8 {l cs i p}(h:r Sq l cs)(a:l[i]?=some p):∃id b,cs.drop (i*3)=my p.neg::Y p.a.p::X1 id p.a.ts::b:=by obtain⟨c,b,⟨id,rfl⟩,e⟩:=r.get Hk h a;exact⟨id,b,e⟩
def pK (e:E3)(c:oh):Prop:=∃o b d a,c=[my o,Y e.h.p,X1 b e.h.ts,sl d (Z e.A) a]/\r Sq e.A a
def Ba (M:MM)(p:Int):List Ck:=((M[p.toNat]?).map (·.2)).getD []
def Zq (M:MM)(a:Int)(b:Nat)(i:Nat)(l:Lit):List Ck:=if (i:Int)=a then (Ba M l.a.p).drop b else Ba M l.a.p
def oR (M:MM)(b:Int)(a:Nat)(x:Lit×Nat):Part:=⟨x.1.a,(Zq M b a x.2 x.1).filter (Mp x.1.a.ts)⟩
def Pf (M:MM)(a:Int)(b:Nat)(l:List Lit):List Part:=(l.zipIdx.filter λx=>!x.1.neg).map (oR M a b)
def Tv (l:List Lit):List Dx:=(l.filter (·.neg)).map (·.a)
def Mc (M:MM)(b:Int)(a:Nat)(c:E3):AZ:=⟨c.h,Pf M b a c.A,Tv c.A⟩
structure TS (np:Nat)(rqx:E3):Prop where
 hd:Z rqx.h.ts<=3
 hp:∃k:Nat,rqx.h.p=(k:Int)/\k<np
 bl:Z rqx.A<=64
 ba:∀l∈rqx.A,Z l.a.ts<=3
 bp:∀l∈rqx.A,∃k:Nat,l.a.p=(k:Int)/\k<np
def zL (M b a l w):Pf M b a (l++[w])=Pf M b a l++if w.neg=true then []else [oR M b a (w,Z l)]:=by rw[Pf];rw[zipIdx_append,IR,EU];congr 1;grind
def zK (l w):Tv (l++[w])=Tv l++if w.neg=true then [w.a]else []:=by rw[Tv];rw[IR,EU];congr 1;grind
def Y8 {α:Type}(l:List α)(c k){x}(a:l[k]?=some x):(l.take (k+1)).drop c=(l.take k).drop c++if c<=k then [x]else []:=by have b:=(BA.1 a).1;rw[AT,a,BN,drop_append,CN,ER L];congr 1;by_cases h:c<=k;rw[if_pos h,show c-k=0 by omega];rfl;rw[if_neg h,JU (gp)]
def Zv (i:Nat)(a:Int)(b:Nat)(c:List Tm)(l:List Ck)(j:Nat):List Ck:=(if (i:Int)=a then (l.take j).drop b else l.take j).filter (Mp c)
def zM {i b c a l j t}(f:l[j]?=some t):Zv i b c a l (j+1)=Zv i b c a l j++if (((i:Int)≠b\/c<=j)/\Mp a t)then [t]else []:=by unfold Zv;by_cases e:(i:Int)=b;rw[if_pos e,if_pos e,Y8 _ _ _ f,IR];congr 1;by_cases g:c<=j;cases d:Mp a t<;>simp[g,d];simp[g,e];rw[if_neg e,if_neg e,AT,f,BN,Em];grind
def eV (om ot M d b o c m)(f:Nat)(hc:pK o c)(hr:TS (Z M) o)(cq:f<=100000)(g)(R:BL g om ot M d b):ni 138 [ptr om 0,ag c,Y m,Y f] g λx σ'=>(∃c',x=ag c'/\EQ (Mc M m f o) c')/\W g σ':=by
 obtain⟨av,ih,ib,bc,rfl,hB⟩:=hc;have cr:=r.length Hk hB;have hl:=hr.bl;have au:=R.pl;have ci:=Ji M;have lo:=R.lo;have lt:=R.lt;have an:=R.ob;have ao:=R.oc;refine Z9 82 [.cell 8 191] func138 ?_;refine X ?_
 refine wn [0,2,3,8,9,19,20] 21 (Z o.A) (λi ak σ'=>∃(u E:Nat) (n:List Part) (q:List Dx) (F G:oh),W g σ'/\g.B+2<σ'.B/\σ'.C (g.B+1)=[Y 0,H,H,H]/\σ'.C (g.B+2)=[Y o.h.p,X1 ih o.h.ts,sl u (Z n) F,sl E (Z q) G]/\J g σ' u (Z n)/\J g σ' E (Z q)/\(u=1\/u≠E)/\Z n<=i/\Z q<=i/\Z F=Z n*3/\Z G=Z q*2/\V (r Oa n F/\r O9 q G/\n=Pf M m f (o.A.take i)/\q=Tv (o.A.take i))) ⟨1,1,[],[],[],[],Xs,BJ,?_,?_,J.nil _ _,J.nil _ _,.inl rfl,nk,nk,nk,nk,⟨rfl,rfl,by simp[Pf],by simp[Tv]⟩⟩ ?_
 ·rw[Aj L,Ah AM,Be AM AM]
 ·rw[show g.B+2=g.B+1+1 from rfl,Ak];simp
 rintro i ak σ' _ ⟨h0,h2,h3,h8,h9,b0,bz⟩ bw ⟨u,E,n,q,F,G,v,ch,a8,a7,K,N,b9,cn,cm,b6,b5,hX⟩;have cf:=v.B;have em:σ'.C om=[fx ot 0 (Z M),Y d,Y b]:=by rw[v.C _ lo,an]
 have et:σ'.C ot=Gp M:=by rw[v.C _ lt,ao]
 by_cases bh:i<Z o.A
 ·have s:=AK bh;obtain⟨id,rr,hd⟩:=H8 hB s;have bq:=hr.ba _ (AR bh);obtain⟨k,hk,ca⟩:=hr.bp _ (AR bh);generalize o.A[i]=w at hd s bq hk;have a2:V (Pf M m f (o.A.take (i+1))=Pf M m f (o.A.take i)++(if w.neg=true then []else [oR M m f (w,i)])/\Tv (o.A.take (i+1))=Tv (o.A.take i)++if w.neg=true then [w.a]else []):=by
   rw[V,AT,s,BN,zL,zK,CN,ER L];exact⟨rfl,rfl⟩
  clear s;cases S:w.neg with
  |true=>
   rw[S]at hd;have HX:V (r Oa n F/\r O9 (q++[w.a]) (G++[Y w.a.p,X1 id w.a.ts])/\n=Pf M m f (o.A.take (i+1))/\q++[w.a]=Tv (o.A.take (i+1))):=by
    obtain⟨D,C,P,U⟩:=hX.o;exact⟨D,r.append C (r.single ⟨id,rfl⟩),by rw[a2.o.1,if_pos S,EJ,P],by rw[a2.o.2,if_pos S,U]⟩
   clear hX a2;refine nh ?_;intro yb ya;refine Ie (by first|exact F5|exact G6|exact Ee) ((v.new _).put v.B _) (J.put (J.new N _) _ _) nr (by rfl) b5 (by rfl) (by rfl) nr L L ?_;intro ae aj ai af ac aa ad ab T;obtain⟨az,b8⟩:=T u (Z n) (J.put (J.new K _) _ _) L;have bd:u=1\/u≠ae:=L;simp only[Ac,Aa]at aa;have am:∀p,p<σ'.B->aj.C p=σ'.C p:=λp hp=>by rw[ac,Aj L,Ah L]
   refine Z3 ?_;refine X ?_;refine⟨u,ae,n,q++[w.a],F,G++[Y w.a.p,X1 id w.a.ts],?_⟩
   ((repeat' refine Zi ?_ ?_)<;>first|exact Xq|exact (af.put L _)|exact (nn (J.put ai _ _))|exact (J.put az _ _)|exact HX|exact Xs)
  |false=>
   rw[S]at hd;have ap:M[k]?=some M[k]:=AK ca;generalize M[k]=x at ap;have bn:=AY ap;have cp:=Jj ap;have bv:=R.t3 x bn;have cj:=R.ln x bn;have cg:=J4 bv;have HT:V (Ba M w.a.p=x.2):=by rw[V,Ba,hk];simp[ap]
   rw[hk]at hd;have br:V _:=hX;refine X ?_;refine Ax Ag (λ_=>True) [] [0,1,2,3,4,5,6,7,8,9,10] [] AH (λ_ _ _ h=>h) ?_;intro yb ya;refine X ?_
   refine wn [0,2,3,8,9,10,11,12,19,20,21,46,47] 48 (Z x.2) (λj ak a=>∃(A:Nat) (l:List Ck) (B:oh),W g a/\σ'.B+1<a.B/\a.C (g.B+1)=[Y 0,H,H,H]/\a.C (g.B+2)=[Y o.h.p,X1 ih o.h.ts,sl u (Z n) F,sl E (Z q) G]/\a.C σ'.B=[my false,Y (k:Int),X1 id w.a.ts]/\a.C (σ'.B+1)=[Y (k:Int),X1 id w.a.ts,sl A (Z l) B]/\J g a u (Z n)/\J g a E (Z q)/\J g a A (Z l)/\(A=1\/A≠u)/\(A=1\/A≠E)/\Z l<=j/\Z B=Z l*3/\V (B=Fg l/\l=Zv i m f w.a.ts x.2 j)) ⟨1,[],[],Xs,BJ,?_,?_,?_,?_,J.put (J.new (J.put (J.new K _) _ _) _) _ _,J.put (J.new (J.put (J.new N _) _ _) _) _ _,J.nil _ _,.inl rfl,.inl rfl,nk,nk,⟨rfl,by simp[Zv]⟩⟩ ?_
   ·rw[Aj L,Ah BJ,Aj L,Ah L,a8]
   ·rw[Aj L,Ah BJ,Aj L,Ah L,a7]
   ·rw[Aj L,Ah BJ,Ak]
   ·rw[Ak];simp
   generalize bm:σ'.B=ax at*
   clear bm h0 h2 h3 h8 h9 b0 bz bw v a8 a7 K N em et hX;rintro j ak a _ _ _ ⟨A,l,B,v,b7,a8,a7,b2,b1,K,N,bi,bf,be,ck,b4,y⟩;have b3:=v.B;by_cases bg:j<Z x.2
   ·have s:=AK bg;obtain⟨Q,r2,cd⟩:=Kw bv s;generalize x.2[j]=t at cd s Q;have a1:V (Zv i m f w.a.ts x.2 (j+1)=Zv i m f w.a.ts x.2 j++if (((i:Int)≠m\/f<=j)/\Mp w.a.ts t=true)then [t]else []):=zM s;clear s;have f1:=Io Q;have f2:=Ow Q;have f3:=Jm Q;have f4:=Qj Q;have f5:=Fo t;have f6:=eM Q;have a6:=λg=>sI k id w.a.ts t Q bq g;by_cases I:(i:Int)≠m\/f<=j
    ·cases hf:Mp w.a.ts t with
     |true=>
      rw[hf]at a6;have HZ:V (B++As t=Fg (l++[t])/\l++[t]=Zv i m f w.a.ts x.2 (j+1)):=by
       obtain⟨D,C⟩:=y.o;exact⟨by rw[D,Q9],by rw[a1.o,if_pos ⟨I,hf⟩,C]⟩
      clear y a1;have hs:((i:Int) !=m)=true\/(((i:Int) !=m)=false/\decide ((j:Int)>=(f:Int))=true):=by
       by_cases e:(i:Int)=m
       ·right;have:f<=j:=by rcases I with h|h;exact absurd e h;exact h
        exact⟨by simp[e],by simp;omega⟩
       left;simpa using e
      clear I;rcases hs with a5|⟨a5,bo⟩
      all_goals
       refine m0 ?_;intro yb ya;refine Xi (a6 _) ?_;rintro _ _ ⟨rfl,z⟩;(have aw:=z.B;have ah:=z.C;have bu:=((v.new _).put v.B _).trans z;have a4:=J.keep (J.put (J.new K _) _ _) z;have a3:=J.keep (J.put (J.new N _) _ _) z;have a0:=J.keep (J.put (J.new bi _) _ _) z;simp only[Ac,Aa]at aw ah;have a9:=ah a.B L;rw[Ak]at a9);refine nh ?_;intro yb ya;refine Ie (by first|exact F5|exact G6|exact Ee) bu a0 nr (by rfl) b4 (by rw[f1]) f5 nr L L ?_;intro ae aj ai af ac aa ad ab T;obtain⟨az,bd⟩:=T u (Z n) a4 bf;obtain⟨ay,bb⟩:=T E (Z q) a3 be;have am:∀p,p<a.B->aj.C p=a.C p:=λp hp=>by rw[ac,ah _ L,Aj L,Ah L]
       refine Z3 ?_;refine X ?_;refine⟨ae,l++[t],B++As t,?_⟩
       ((repeat' refine Zi ?_ ?_)<;>first|exact Xq|exact (af.put L _)|exact (nn (J.put ai _ _))|exact (J.put az _ _)|exact (J.put ay _ _)|exact HZ|exact Xs)
     |false=>
      rw[hf]at a6;have HZ:V (B=Fg l/\l=Zv i m f w.a.ts x.2 (j+1)):=by
       obtain⟨D,C⟩:=y.o;exact⟨D,by rw[a1.o,if_neg (λh=>by rw[hf]at h;cases h.2),C,EJ]⟩
      clear y a1;have hs:((i:Int) !=m)=true\/(((i:Int) !=m)=false/\decide ((j:Int)>=(f:Int))=true):=by
       by_cases e:(i:Int)=m
       ·right;have:f<=j:=by rcases I with h|h;exact absurd e h;exact h
        exact⟨by simp[e],by simp;omega⟩
       left;simpa using e
      clear I;rcases hs with a5|⟨a5,bo⟩
      all_goals
       refine m0 ?_;intro yb ya;refine Xi (a6 _) ?_;rintro _ _ ⟨rfl,z⟩;(have aw:=z.B;have ah:=z.C;have bu:=((v.new _).put v.B _).trans z;have a4:=J.keep (J.put (J.new K _) _ _) z;have a3:=J.keep (J.put (J.new N _) _ _) z;have a0:=J.keep (J.put (J.new bi _) _ _) z;simp only[Ac,Aa]at aw ah);refine X ?_;refine⟨A,l,B,?_⟩;exact m9 HZ
    have HZ:V (B=Fg l/\l=Zv i m f w.a.ts x.2 (j+1)):=by
     obtain⟨D,C⟩:=y.o;exact⟨D,by rw[a1.o,if_neg (λh=>I h.1),C,EJ]⟩
    have a5:((i:Int) !=m)=false:=by
     cases h:(i:Int) !=m with
     |false=>rfl
     |true=>exact absurd (.inl (nn h)) I
    have bo:decide ((j:Int)>=(f:Int))=false:=by
     have:¬f<=j:=λh=>I (.inr h);simp;omega
    clear y a1 I;refine X ?_;refine⟨A,l,B,?_⟩
    ((repeat' refine Zi ?_ ?_)<;>first|exact Xq|exact (J.put (J.new K _) _ _)|exact (J.put (J.new N _) _ _)|exact (J.put (J.new bi _) _ _)|exact HZ|exact Xs)
   have cb:j=Z x.2:=L;subst cb;have HX:V (r Oa (n++[⟨w.a,l⟩]) (F++[Y (k:Int),X1 id w.a.ts,sl A (Z l) B])/\r O9 q G/\n++[⟨w.a,l⟩]=Pf M m f (o.A.take (i+1))/\q=Tv (o.A.take (i+1))):=by
    obtain⟨D,C,P,U⟩:=br.o;obtain⟨z1,z2⟩:=y.o;refine⟨r.append D (r.single ⟨id,A,by rw[hk,z1]⟩),C,?_,by rw[a2.o.2,if_neg (by rw[S];simp),EJ,U]⟩;rw[a2.o.1,if_neg (by rw[S];simp),P];congr 2;unfold oR Zq;simp only[HT.o];rw[z2];unfold Zv;rw[AS]
   clear y br a2;have ce:True->J g a u (Z n):=λ_=>K;clear K;refine nh ?_;intro yb ya;refine Ie (by first|exact F5|exact G6|exact Ee) v (ce trivial) nr (by rfl) b6 (by rfl) (by rfl) nr L L ?_;intro ae aj ai af ac aa ad ab T;obtain⟨ay,bb⟩:=T E (Z q) N b9;refine Z3 ?_;refine X ?_;refine⟨ae,E,n++[⟨w.a,l⟩],q,F++[Y (k:Int),X1 id w.a.ts,sl A (Z l) B],G,?_⟩
   ((repeat' refine Zi ?_ ?_)<;>first|exact Xq|exact (af.put L _)|exact (nn (J.put ai _ _))|exact (J.put ay _ _)|exact HX|exact Xs)
 have cc:i=Z o.A:=L;subst cc;obtain⟨D,C,P,U⟩:=hX.o;rw[AS]at P U;refine X ?_;exact⟨_,rfl,⟨_,rfl,ih,u,E,F,G,by first|(simp only[Mc];done)|(simp only[Mc];rw[P,U]),by simp only[Mc];rw[<-P];exact D,by simp only[Mc];rw[<-U];exact C⟩,v.put L _⟩
abbrev Nu:=Int->Int
def Ei (ν:Nu)(t:Tm):Int:=if t.1=true then ν t.2 else t.2
def B8 (a:Dx)(ν:Nu):Ck:=Ej (a.ts.map (Ei ν))
def Pd (ν:Nu)(v n:Int):Nu:=λw=>if w=v then n else ν w
theorem AO {a v}:Bm a v↔(true,v)∈a:=by simp[Bm]
def Ft {a ν ν'}(h:∀v,Bm a.ts v->ν v=ν' v):B8 a ν=B8 a ν':=by rw[B8];congr 1;apply CG;intro t c;unfold Ei;split;rename_i b;exact h t.2 (AO.2 (gp));rfl
theorem Ku {l i}(h:i<Z l)(d:Z l<=3):(Ej l)[i]?=some l[i]:=by
 match l,d with
 |[],_=>simp at h
 |[a],_=>simp at h;subst h;rfl
 |[a,b],_=>
  rcases (show i=0\/i=1 by simp at h;omega)with rfl|rfl<;>rfl
 |[a,b,c],_=>
  rcases (show i=0\/i=1\/i=2 by simp at h;omega)with rfl|rfl|rfl<;>rfl
def J5 {a ν v}(c:Z a.ts<=3)(d:Bm a.ts v):Iu (B8 a ν) (Jp a.ts v)=ν v:=by have b:=AO.1 d;have e:=idxOf_lt_length_iff.2 b;rw[Iu,Jp];rw[if_pos b,DK,B8,Ku (nn e) (nn c)];simp[Ei]
def Lq (a v n ν):B8 (Gg v n a) ν=B8 a (Pd ν v n):=by
 unfold B8 Gg Bt;congr 1;rw[BH];apply CG;intro t c;obtain⟨b,w⟩:=t;show Ei ν (aS v n (b,w))=Ei (Pd ν v n) (b,w);by_cases h:(b,w)=(true,v);cases h;simp[aS,Ei,Pd];rw[show aS v n (b,w)=(b,w)from if_neg h];cases b
 ·simp[Ei]
 have:w≠v:=λe=>h (gp);simp[Ei,Pd,this]
def CP {a v n w}:Bm (Gg v n a).ts w↔Bm a.ts w/\w≠v:=by rw[AO,AO];rw[Gg,Bt];rw[AN];constructor;rintro⟨t,c,e⟩;rw[aS]at e;split at e;cases e;rename_i b;subst e;exact⟨c,λe=>b (gp)⟩;rintro⟨h,b⟩;refine⟨(true,w),h,?_⟩;rw[aS];rw[if_neg (λe=>b (gp))]
def Mq (neg:Int->Ck->Prop)(q:AZ)(ν:Nu):Prop:=(∀p∈q.A,B8 p.a ν∈p.A)/\∀a∈q.B,¬neg a.p (B8 a ν)
def WP (q:AZ):Prop:=∀p∈q.A,Z p.a.ts<=3/\∀t∈p.A,∃a,t=B8 p.a a
def U7 {neg q v n ν}(i:WP q):Mq neg (Dl v n q) ν↔Mq neg q (Pd ν v n):=by
 have d:∀p∈q.A,(B8 (Iv v n p).a ν∈(Iv v n p).A↔B8 p.a (Pd ν v n)∈p.A):=λp d=>by
  rw[Iv];by_cases c:Bm p.a.ts v=true;rw[if_pos c];show B8 (Gg v n p.a) ν∈_↔_;rw[Lq,BP];constructor;exact λh=>h.1;intro h;refine⟨h,?_⟩;rw[J5 (i p d).1 c];simp[Pd];rw[if_neg c]
  rw[Ft (ν:=ν) (ν':=Pd ν v n) (λw j=>by grind[Pd])]
 rw[Mq,Dl];simp only[AN,forall_exists_index,and_imp,forall_apply_eq_imp_iff₂];constructor;rintro⟨g,f⟩;exact⟨λp b=>(d p b).1 (g p b),λa e=>by have:=f a e;rwa[Lq]at this⟩;rintro⟨g,f⟩;exact⟨λp b=>(d p b).2 (g p b),λa e=>by rw[Lq];exact f a e⟩
def gj {q v n}(j:WP q):WP (Dl v n q):=by intro p l;obtain⟨a,k,rfl⟩:=AN.1 l;let⟨d,g⟩:=j a k;rw[Iv];by_cases c:Bm a.a.ts v=true;rw[if_pos c];refine⟨by grind[Bt],λt b=>?_⟩;let⟨b,f⟩:=BP.1 b;obtain⟨i,rfl⟩:=g t b;refine⟨i,?_⟩;show _=B8 (Gg v n a.a) i;rw[Lq];apply Ft;intro w m;rw[Pd];by_cases e:w=v;subst e;rw[if_pos rfl];rw[J5 d c]at f;simpa using f;rw[if_neg e];rw[if_neg c];exact⟨d,g⟩
def XI {neg q v ν}(i:WP q):Mq neg (Ge q v) ν↔Mq neg q ν:=by rw[Mq,Ge];simp only[AN,forall_exists_index,and_imp,forall_apply_eq_imp_iff₂];constructor;rintro⟨b,e⟩;exact⟨λp a=>by have:=b p a;rw[Ti]at this;exact Rq _ _ _ _ this,e⟩;rintro⟨b,e⟩;refine⟨λp a=>?_,e⟩;rw[Ti];rw[G1];by_cases d:Bm p.a.ts v=true;rw[if_pos d,BP];refine⟨b p a,?_⟩;rw[J5 (i p a).1 d];rw[Eb];rw[CX];intro c g;by_cases f:Bm c.a.ts v=true;simp only[f,IY,MA,NZ,CU];exact⟨_,b c g,by rw[J5 (i c g).1 f];simp⟩;simp[f];rw[if_neg d];exact b p a
def gk {q v}(b:WP q):WP (Ge q v):=by intro p d;obtain⟨a,c,rfl⟩:=AN.1 d;rw[Ti];exact⟨(b a c).1,λt e=>(b a c).2 t (Rq _ _ _ t e)⟩
def CF.wp {q a}(h:CF q a)(c:WP q):WP a:=by
 induction h with
 |refl=>exact c
 |tail v _ b=>exact gk b
def CF.sol {neg q a}(h:CF q a)(c:WP q)(ν):Mq neg a ν↔Mq neg q ν:=by
 induction h with
 |refl=>exact Iff.rfl
 |tail v h b=>exact (XI (h.wp c)).trans b
def mY (q v):(Ge q v).A.map (·.a)=q.A.map (·.a):=by simp_all[Ge,BH,CG,Ti]
def CF.atoms {q a}(h:CF q a):a.A.map (·.a)=q.A.map (·.a)/\a.h=q.h/\a.B=q.B:=by
 induction h with
 |refl=>exact⟨rfl,rfl,rfl⟩
 |tail v _ b=>exact⟨(mY _ _).trans b.1,b.2.1,b.2.2⟩
def CF.atomsQ {q a}(h:CF q a):atomsQ a=atomsQ q:=by
 obtain⟨c,d,b⟩:=h.atoms;unfold Go.Proofs.YtmoeoppbmhfbpabGreatDoorJ.atomsQ;rw[c,d,b]
def NM (q:AZ):Prop:=∀v,∀a∈q.A,∀b∈q.A,Bm a.a.ts v->Bm b.a.ts v->∀t∈a.A,∃u∈b.A,Iu u (Jp b.a.ts v)=Iu t (Jp a.a.ts v)
def W1 (p l):Da (p::l)=Z p.A+Da l:=by simp[Da]
def Ub (Lqx v):∀l:List Part,Da (l.map (G1 Lqx v))<=Da l/\(Da l<=Da (l.map (G1 Lqx v))->l.map (G1 Lqx v)=l)
 |[]=>gp
 |p::l=>by
  let⟨g,e⟩:=Ub Lqx v l;have f:=mX Lqx v p;rw[CC,W1,W1];refine⟨L,λh=>?_⟩;rw[e L];congr 1;have b:Z p.A<=Z (G1 Lqx v p).A:=L;rw[G1]at b⊢;split;rename_i d;rw[if_pos d]at b;simp only at b
  have:=filter_eq_self.2 (λa c=>by
   have:=length_filter_eq_length_iff.1 (Nat.le_antisymm (IS _ _) b)
   exact this a c)
  rw[this];rfl
def xF (q v):Da (S9 q v).A<=Da q.A/\(Da q.A<=Da (S9 q v).A->S9 q v=q):=by rw[S9];split;let⟨a,b⟩:=Ub q.A v q.A;refine⟨a,λh=>?_⟩;rw[Ge];rw[b h];grind
def lJ:∀(vs:List Int) (q:AZ),Da (pH q vs).A<=Da q.A/\(Da q.A<=Da (pH q vs).A->pH q vs=q/\∀v∈vs,S9 q v=q)
 |[],q=>⟨AU _,λ_=>⟨rfl,nk⟩⟩
 |v::vs,q=>by let⟨i,d⟩:=xF q v;let⟨g,b⟩:=lJ vs (S9 q v);have e:pH q (v::vs)=pH (S9 q v) vs:=rfl;grind
def N4 {l v a}(b:a∈l)(c:Bm a.ts v):0<Dt l v:=MK.2 ⟨a,b,c⟩
def eX {α:Type}{f}:∀{l:List α} {x y:α},l.countP f<=1->x∈l->y∈l->f x->f y->x=y
 |[],x,y,_,a,_,_,_=>gp
 |z::l,x,y,h,a,c,fx,b=>by rw[MJ]at h;obtain d|g:=BD.1 a;obtain e2|e:=BD.1 c;rw[d,e2];rw[<-d,if_pos fx]at h;have:0<l.countP f:=MK.2 ⟨y,e,b⟩;omega;obtain e2|e:=BD.1 c;rw[<-e2,if_pos b]at h;have:0<l.countP f:=MK.2 ⟨x,g,fx⟩;omega;exact eX L g e fx b
def ft {q}(h:∀v∈Cs (atomsQ q),S9 q v=q):NM q:=by
 intro v b g x n f k t l;by_cases j:1<Dt (q.A.map (·.a)) v;have s:v∈Cs (atomsQ q):=(Dn _ _).2 ⟨b.a,by rw[Go.Proofs.YtmoeoppbmhfbpabGreatDoorJ.atomsQ];grind,AO.1 f⟩;have d:=h v s;rw[S9]at d;rw[if_pos j]at d;have p:q.A.map (G1 q.A v)=q.A:=congrArg AZ.A d;have y:G1 q.A v b=b:=by
  let⟨i,m⟩:=CL g;grind
 have c:t∈(G1 q.A v b).A:=gp
 rw[G1]at c;rw[if_pos f]at c;have:=(BP.1 c).2;rw[Eb]at this;rw[CX]at this;have:=this x n;simp only[k,IY,MA,NZ,CU]at this;let⟨u,z,e⟩:=this;exact⟨u,z,nn e⟩;have o:(q.A.map (·.a)).countP (λa=>Bm a.ts v)<=1:=by grind[Dt]
 rw[countP_map]at o;have:=eX o g n f k;subst this;exact⟨t,l,rfl⟩
end Go.Proofs.YtmoeoppbmhfbpabGreatDoorJ
