import Derived.Test.YtmoeoppbmhfbpabGreatDoorJPrtP
import Derived.Test.YtmoeoppbmhfbpabGreatDoorJAbsWp
import Derived.Test.YtmoeoppbmhfbpabGreatDoorJProgR
set_option maxHeartbeats 32000000
set_option maxRecDepth 100000
set_option linter.all false
open List renaming length->Z
namespace Go.Proofs.YtmoeoppbmhfbpabGreatDoorJ
open Go.Abs
def C8 (x:AB)(k:Nat):AB:={o:=false,h:=x.h,A:=x.A.eraseIdx k}
def Pi (a:oq)(k n:Nat):oq:=(a.take n).eraseIdx k
def tK {b k n a}(h:b[n]?=some a)(d:n≠k):Pi b k (n+1)=Pi b k n++[a]:=by
 have f:=(BA.1 h).1;have c:Z (b.take n)=n:=by rw[CN];omega
 unfold Pi;rw[AT,h,BN];by_cases e:k<n;rw[List.eraseIdx_append_of_lt_length AA];rw[LG (by rw[AX,c];simp;omega),LG AA]
def iV {b k a}(h:b[k]?=some a):Pi b k (k+1)=Pi b k k:=by
 have d:=(BA.1 h).1;have c:Z (b.take k)=k:=by rw[CN];omega
 unfold Pi;have e:(b.take k).eraseIdx k=b.take k:=LG AA;rw[e,AT,h,BN,List.eraseIdx_append_of_length_le AA,c,GX];simp
def tI (ls k n):Z (Pi ls k n)<=n:=by
 unfold Pi;have a:=JF (ls.take n) k;rw[CN]at a;omega
def tJ (ls k):Pi ls k (Z ls)=ls.eraseIdx k:=by unfold Pi;rw[AS]
def Pm (N x c)(k:Nat)(L:PI N x c)(hn:Z x.A<=1000)(σ):ni 145 [ag c,ic k] σ λr σ'=>∃y,r=ag y/\PI N (C8 x k) y/\AD σ σ':=by
 obtain⟨I,v,id,b,D,rfl⟩:=L;have T:=EL.length Eh D;refine Z9 30 [.cell 4 125] Tryz.func145 ?_;refine mr ?_
 refine Ae (λm s σ'=>∃(n i:Nat) (e:oh),m=Z x.A-n/\n<=Z x.A/\s 1=ic k/\s 4=ptr (σ.B+1) 0/\s 5=ptr (σ.B+2) 0/\s 12=sl id (Z x.A) b/\s 13=ic (Z x.A)/\s 14=ic n/\AD σ σ'/\σ.B+2<σ'.B/\σ'.C (σ.B+1)=[my false,ic 0,nilS,nilS]/\σ'.C (σ.B+2)=[my false,ic (N.idxOf x.h.B:Nat),sl v (Z x.h.A) (A0 x.h.A),sl i (Z (Pi x.A k n)) e]/\Own σ σ' i (Z (Pi x.A k n))/\Z e=Z (Pi x.A k n)*3/\AC (EL (PL N) (Pi x.A k n) e)) (Z x.A)
  ⟨0,1,[],AA,AA,by simp[upd,AL],AG,AG,AG,AG,rfl,Xs,BJ,?_,?_,Own.nil _ _,by simp[Pi],by simp[AC,Pi,EL]⟩ ?_
 rw[Aj AA,Ah AM,Be AM AM];rw[show σ.B+2=σ.B+1+1 by omega,Ak];simp[Pi];rintro m s σ' ⟨n,i,e,rfl,U,W,h4,S,a8,a7,a6,g,X,V,E,p,o,j⟩;have a0:=g.B;have G:=tI x.A k n;by_cases K:n<Z x.A;have l:=AK K;obtain⟨z,B,r,O⟩:=Pu D l;generalize x.A[n]=a at O l z;have A:AC (x.A[n]?=some a):=l;clear l;generalize F:Pi x.A k n=t at E p o j G;have C:AC _:=F;clear F;by_cases f:n=k;have R:((n:Int) !=(k:Int))=false:=by simp[f]
 have d:AC (Pi x.A k (n+1)=t):=by
  rw[AC,<-C.o,f];exact iV (by rw[<-f];exact A.o)
 clear f;refine mr ?_;exact⟨Z x.A-(n+1),AA,n+1,i,e,rfl,AA,nk,(g.new _).put g.B _,AA,by rw[d.o],by rw[d.o];exact Own.put (Own.new p _) _ _,by rw[d.o];exact o,by rw[AC,d.o];exact j.o⟩;have R:((n:Int) !=(k:Int))=true:=by simp;omega
 have d:AC (Pi x.A k (n+1)=t++[a]):=by
  rw[AC,<-C.o];exact tK A.o f
 clear f;refine nh ?_;intro yb ya;refine Bo (by first|exact G5) ((g.new _).put g.B _) (Own.put (Own.new p _) _ _) nr (by rfl) o (by rfl) (by rfl) nr AA AA ?_;intro u M J P ad Q ac Y;simp only[Ac,Aa]at Q;have q:AC (Z (Pi x.A k (n+1))=Z t+1):=by rw[AC,d.o];simp
 refine Z3 ?_;refine mr ?_;refine⟨Z x.A-(n+1),AA,n+1,u,e++[my a.nt,ic (N.idxOf a.B:Nat),sl B (Z a.A) (A0 a.A)],rfl,AA,nk,P.put AA _,AA,by rw[q.o],by rw[q.o];exact Own.put J _ _,by rw[q.o];simp;omega,?_⟩;rw[AC,d.o];exact EL.append j.o (EL.single ⟨z,B,rfl⟩);have H:n=Z x.A:=AA;subst H;rw[tJ]at E j;refine mr ?_;exact⟨_,rfl,_,rfl,⟨I,v,i,e,j.o,rfl⟩,g.put AA _⟩
def bH (o):∃s b,Q3 o=tp [ag (D5 s),my b]/\(b=false->o=none)/\(b=true->∃a,o=some a):=by
 cases o with
 |none=>exact⟨Mx,false,rfl,λ_=>rfl,λh=>by cases h⟩
 |some s=>exact⟨s,true,rfl,(λh=>by cases h),λ_=>⟨s,rfl⟩⟩
def fB (L:List Lt)(rest:List Lt)(s:Sw)(x b:Lt):Option Sw:=if b.nt=x.nt/\x.pr=b.pr then (C9 s x.es b.es).bind (Hp L rest)else none
def VS {α d:Type}{f}{l:List α}{i:Nat}{b}{r:d}(g:∀j,j<i->∀c,l[j]?=some c->f c=none)(n:l[i]?=some b)(k:f b=some r):l.findSome? f=some r:=by
 rw[List.findSome?_eq_some_iff];obtain⟨m,rfl⟩:=BA.1 n;refine⟨l.take i,l[i],l.drop (i+1),by rw[<-ET m,KD],k,λc e=>?_⟩;obtain⟨j,a⟩:=CL e;rw[GF]at a;split at a;rename_i o;exact g j o c a;cases a
def yQ {α b:Type}{f:α->Option b}{l}(e:∀j,j<Z l->∀c,l[j]?=some c->f c=none):l.findSome? f=none:=by
 rw[List.findSome?_eq_none_iff];intro c d;obtain⟨j,a⟩:=CL d;exact e j (BA.1 a).1 c a
def PO (left:oq)(a:AE):Prop:=Z a.A<=1000/\(∀t∈a.A,varOk t)/\∀b∈left,a.B=b.B->Z a.A=Z b.A
def xS (N left cl idl)(hL:EL (PL N) left cl)(hll:Z left<=1000):∀(f:oq) (cs:oh) (y:Nat) (s:Sw) (k:St),EL (PL N) f cs->Z f<=1000->(∀a∈f,PO left a)->
  ni 148 [ag (D5 s),sl y (Z f) cs,sl idl (Z left) cl] k λr σ'=>r=Q3 (Hp (left.map (Hc Aq N)) (f.map (Hc Aq N)) s)/\AD k σ':=by
 have b9:=Di;have b8:=Rb;have b7:∀s,List.take 78 (D5 s)=D5 s:=λs=>FZ (by rw[Di];exact AU _);have cd:∀s p,lsp (D5 s) 0 (D5 p)=D5 p:=λs p=>I8 (by rw[Di,Di]);have ce:∀s,(D5 s).all flat=true:=λs=>by
  rw[CX];intro x hx;obtain⟨n,-,rfl⟩:=AN.1 hx;unfold lA;split;rfl;split<;>rfl
 have bw:=EL.length Eh hL;intro f;induction f with
 |nil=>
  intro cs y s k hE _ _;have bv:cs=[]:=hE;subst bv;have M:Q3 (Hp (left.map (Hc Aq N)) (([]:oq).map (Hc Aq N)) s)=tp [ag (D5 s),my true]:=rfl;rw[M];clear M;refine Z9 55 [.cell 6 154,.tmp 7] Tryz.func148 ?_;refine mr ?_;exact⟨_,rfl,rfl,Xs⟩
 |cons a f P=>
  intro cs y s k hE hn a4;have a6:=EL.length Eh hE;obtain⟨c0,d,⟨b1,K,rfl⟩,hd,rfl⟩:=hE;have cf:=EL.length Eh hd;obtain⟨b0,bz,b2⟩:=a4 a nk;have ak:∀a∈f,PO left a:=λa' h=>a4 a' (by simp[h]);have bq:Z f<=1000:=by simp at hn;omega
  have P:=λs k=>P d 0 s k hd bq ak;clear a4 ak hn;have M:AC (Hp (left.map (Hc Aq N)) ((a::f).map (Hc Aq N)) s=(left.map (Hc Aq N)).findSome? (fB (left.map (Hc Aq N)) (f.map (Hc Aq N)) s (Hc Aq N a))):=rfl;rw[M.o];generalize bh:fB (left.map (Hc Aq N)) (f.map (Hc Aq N)) s (Hc Aq N a)=C;have bm:AC _:=bh;clear bh M;simp only[BQ,EW,FE]at a6⊢;refine Z9 55 [.cell 6 154,.tmp 7] Tryz.func148 ?_;refine mr ?_
  refine Ae (λm E σ'=>∃i:Nat,m=Z left-i/\i<=Z left/\E 1=sl y (Z f+1) (my a.nt::ic (N.idxOf a.B:Nat)::sl K (Z a.A) (A0 a.A)::d)/\E 2=sl idl (Z left) cl/\E 3=ptr k.B 0/\E 6=ptr (k.B+1) 0/\E 8=ptr (k.B+2) 0/\E 21=sl idl (Z left) cl/\E 22=ic (Z left)/\E 23=ic i/\AD k σ'/\k.B+2<σ'.B/\σ'.C k.B=D5 s/\σ'.C (k.B+1)=D5 Mx/\σ'.C (k.B+2)=[my a.nt,ic (N.idxOf a.B:Nat),sl K (Z a.A) (A0 a.A)]/\AC (∀j,j<i->∀c,(left.map (Hc Aq N))[j]?=some c->C c=none)) (Z left)
   ⟨0,AA,AA,by simp[upd,AL],by simp[upd,AL],AG,AG,AG,AG,AG,rfl,Xs,by simp only[Aa,Ac];omega,?_,?_,?_,λj hj=>AA⟩ ?_
  rw[Aj AA,Ah AM,Ah AM,Ao];rw[Aj AA,Ah AM,Be AM AM];rw[show k.B+2=k.B+1+1 by omega,Ak];rintro m E σ' ⟨i,rfl,hi,h1,X,Y,U,h8,av,V,ap,D,cc,ay,ax,aw,a8⟩;have b5:=D.B;by_cases bf:i<Z left;have ae:=AK bf;have a7:=AR bf;have bg:=b2 left[i] a7;obtain⟨hb,ib,r,bu⟩:=Pu hL ae;have a9:(left.map (Hc Aq N))[i]?=some (Hc Aq N left[i]):=by rw[DC,ae];rfl
  generalize left[i]=b at bu ae hb bg a9 a7;have bi:AC _:=a9;clear ae a9 a7;have ac:AC (C (Hc Aq N b)=none->∀j,j<i+1->∀c,(left.map (Hc Aq N))[j]?=some c->C c=none):=λh j hj c hc=>by
   by_cases e:j=i;subst e;rw[bi.o]at hc;cases hc;exact h;exact a8.o j AA c hc
  have bo:N.idxOf a.B=N.idxOf b.B->Z a.A=Z b.A:=λh=>bg (E9 b1 hb h);by_cases v:b.nt=a.nt;have bp:(b.nt==a.nt)=true:=by simp[v]
  have J:=λk=>bE s (N.idxOf a.B:Nat) (N.idxOf b.B:Nat) a.A b.A K ib (λh=>bo AA) b0 bz k;have W:AC (C (Hc Aq N b)=(if ((N.idxOf a.B:Nat):Int)=((N.idxOf b.B:Nat):Int)then C9 s (a.A.map Aq) (b.A.map Aq)else none).bind (Hp (left.map (Hc Aq N)) (f.map (Hc Aq N)))):=by
   rw[AC,<-bm.o];unfold fB Hc;dsimp only;by_cases hp:N.idxOf a.B=N.idxOf b.B;rw[if_pos ⟨v,hp⟩,if_pos AA];rw[if_neg (λh=>hp h.2),if_neg AA];rfl
  generalize (if ((N.idxOf a.B:Nat):Int)=((N.idxOf b.B:Nat):Int)then C9 s (a.A.map Aq) (b.A.map Aq)else none)=ow at J W;cases ow with
  |none=>
   simp only[Q3]at J;have a5:AC (C (Hc Aq N b)=none):=W;refine m0 ?_;intro yb ya;refine Xi (J _) ?_;rintro _ _ ⟨rfl,F⟩;(have L:=F.C;have ah:=F.B;simp only[Aa,Ac]at ah);refine mr ?_;exact⟨Z left-(i+1),AA,i+1,rfl,AA,nk,(((((D.new _).put D.B _).trans F).new _).put AA _),AA,ac.o a5.o⟩
  |some B=>
   simp only[Q3]at J;have S:=P B;obtain⟨I,l,a0,bd,bc⟩:=bH (Hp (left.map (Hc Aq N)) (f.map (Hc Aq N)) B);rw[a0]at S;have HW:AC (Q3 (C (Hc Aq N b))=tp [ag (D5 I),my l]/\(l=false->C (Hc Aq N b)=none)/\(l=true->∃p,C (Hc Aq N b)=some p)):=by
    rw[AC,W.o];exact⟨a0,bd,bc⟩
   clear a0 bd bc W;refine m0 ?_;intro yb ya;refine Xi (J _) ?_;rintro _ _ ⟨rfl,F⟩;(have L:=F.C;have ah:=F.B;simp only[Aa,Ac]at ah);refine mr ?_;rename_i g;have ba:AD k ((g.new (D5 Mx)).put g.B (D5 B)):=((((D.new _).put D.B _).trans F).new _).put AA _;have tno:((g.new (D5 Mx)).put g.B (D5 B)).B=g.B+1:=rfl;have O:((g.new (D5 Mx)).put g.B (D5 B)).C g.B=D5 B:=Ak;have z:((g.new (D5 Mx)).put g.B (D5 B)).C k.B=D5 s:=by rw[Aj AA,Ah AA,L _ BJ,Aj AA,Ah AA,ay]
   have A:((g.new (D5 Mx)).put g.B (D5 B)).C (k.B+1)=D5 Mx:=by rw[Aj AA,Ah AA,L _ BJ,Aj AA,Ah AA,ax]
   have t:((g.new (D5 Mx)).put g.B (D5 B)).C (k.B+2)=[my a.nt,ic (N.idxOf a.B:Nat),sl K (Z a.A) (A0 a.A)]:=by rw[Aj AA,Ah AA,L _ BJ,Aj AA,Ah AA,aw]
   generalize (g.new (D5 Mx)).put g.B (D5 B)=R at ba tno O z A t;clear F L J ay ax aw D;refine A2 (Q:=λe p σ'=>e= .normal/\∃o:Nat,p 1=sl y (Z f+1) (my a.nt::ic (N.idxOf a.B:Nat)::sl K (Z a.A) (A0 a.A)::d)/\p 2=sl idl (Z left) cl/\p 3=ptr k.B 0/\p 6=ptr (k.B+1) 0/\p 8=ptr (k.B+2) 0/\p 21=sl idl (Z left) cl/\p 22=ic (Z left)/\p 23=ic i/\p 12=my l/\p 13=ptr o 0/\R.B<=o/\o<σ'.B/\σ'.C o=D5 I/\AD R σ') ?_ ?_;refine Ar Ag (λ_=>True) [10] [0,1,2,3] 7 (nv 11 15) AH (λ_ _ _ h=>by cases h.1) ?_;intro yb ya;refine Z3 ?_;refine ya.o _ ?_;clear ya yb;refine D8 (rs:=[4,8]) AH nk ?_;intro j hj;simp only[BD,EK,DZ]at hj;rcases hj with rfl|rfl;refine Am ?_;intro yb ya;refine Z3 ?_;refine AF.mono (S _) ?_;rintro _ H ⟨rfl,q⟩;have aj:=q.B;refine Z3 ?_;refine ya.o _ _ ⟨Al q,?_⟩;clear ya yb;refine Bu (i:=5) _ (tp [ag (D5 I),my l]) rfl rfl rfl rfl rfl AH AH (λ_ _ _ h=>by cases h.1) (λo u _=>q.ver o u) ?_;refine Bu (i:=6) _ (ag (D5 I)) rfl rfl rfl rfl rfl AH AH (λ_ _ _ h=>by cases h.1) (λo u _=>q.ver o u) ?_;refine Bu (i:=7) _ (my l) rfl rfl rfl rfl rfl AH AH (λ_ _ _ h=>by cases h.1) (λo u _=>q.ver o u) ?_;refine Ai (i:=8) AH ?_;refine Am ?_;intro yb ya;refine Z3 ?_;refine ya.o _ _ ⟨Al (q.new _),?_⟩;clear ya yb;refine Ai (i:=9) AH ?_;refine Am ?_;intro yb ya;refine Z3 ?_;refine ya.o _ _ ⟨Al ((q.new _).put AA _),?_⟩;clear ya yb;refine Ai (i:=10) AH ?_;refine Am ?_;intro yb ya;refine Z3 ?_;refine ya.o _ _ ⟨A3 rfl,?_⟩;clear ya yb;refine Aw AH ⟨rfl,H.B,by simp[upd,BC,h1],by simp[upd,BC,X],by simp[upd,BC,Y],by simp[upd,BC,U],by simp[upd,BC,h8],by simp[upd,BC,av],by simp[upd,BC,V],by simp[upd,BC,ap],by simp[upd,BC],by simp[upd,BC],AA,BJ,Ak,(q.new _).put AA _⟩;refine Am ?_;intro yb ya;refine Z3 ?_;refine ya.o _ _ ⟨Al ((AD.refl _).new _),?_⟩;clear ya yb;refine Ai (i:=4) AH ?_;refine Am ?_;intro yb ya;refine Z3 ?_;refine AF.mono (S _) ?_;rintro _ H ⟨rfl,bb⟩;have az:=bb.C;have aj:=bb.B;simp only[Aa]at aj;have b4:H.C R.B=D5 Mx:=by rw[az _ (by rw[Aa];omega),Ao]
   have q:=((AD.refl R).new (D5 Mx)).trans bb;refine Z3 ?_;refine ya.o _ _ ⟨Al q,?_⟩;clear ya yb;refine Bu (i:=5) _ (tp [ag (D5 I),my l]) rfl rfl rfl rfl rfl AH AH (λ_ _ _ h=>by cases h.1) (λo u _=>q.ver o u) ?_;refine Bu (i:=6) _ (ag (D5 I)) rfl rfl rfl rfl rfl AH AH (λ_ _ _ h=>by cases h.1) (λo u _=>q.ver o u) ?_;refine Bu (i:=7) _ (my l) rfl rfl rfl rfl rfl AH AH (λ_ _ _ h=>by cases h.1) (λo u _=>q.ver o u) ?_;refine Ai (i:=9) AH ?_;refine Am ?_;intro yb ya;refine Z3 ?_;refine ya.o _ _ ⟨Al (q.put AA _),?_⟩;clear ya yb;refine Ai (i:=10) AH ?_;refine Am ?_;intro yb ya;refine Z3 ?_;refine ya.o _ _ ⟨A3 rfl,?_⟩;clear ya yb;refine Aw AH ⟨rfl,g.B+1,by simp[upd,BC,h1],by simp[upd,BC,X],by simp[upd,BC,Y],by simp[upd,BC,U],by simp[upd,BC,h8],by simp[upd,BC,av],by simp[upd,BC,V],by simp[upd,BC,ap],by simp[upd,BC],by simp[upd,BC],AA,by simp only[Ac];omega,Ak,q.put AA _⟩;clear h1 X Y U h8 av V ap;rintro e p G ⟨rfl,o,h1,X,Y,U,h8,av,V,ap,ch,cg,b6,ca,cb,an⟩;have T:=an.C;have bn:=an.B;have b3:=ba.trans an;have ay:G.C k.B=D5 s:=by rw[T _ AA,z]
   have ax:G.C (k.B+1)=D5 Mx:=by rw[T _ AA,A]
   have aw:G.C (k.B+2)=[my a.nt,ic (N.idxOf a.B:Nat),sl K (Z a.A) (A0 a.A)]:=by rw[T _ AA,t]
   clear T O z A t an ba S P;cases l with
   |true=>
    refine mr ?_;obtain⟨s2,be⟩:=HW.o.2.2 rfl;refine⟨_,rfl,?_,b3.put AA _⟩;rw[VS a8.o bi.o be,<-be,HW.o.1]
   |false=>
    refine mr ?_;exact⟨Z left-(i+1),AA,i+1,rfl,AA,nk,AA,ac.o (HW.o.2.1 rfl)⟩
  have bp:(b.nt==a.nt)=false:=nn v;have a5:AC (C (Hc Aq N b)=none):=by
   rw[AC,<-bm.o];unfold fB Hc;exact if_neg (λh=>v h.1)
  clear v;refine mr ?_;exact⟨Z left-(i+1),AA,i+1,rfl,AA,nk,(D.new _).put D.B _,AA,ac.o a5.o⟩;have br:i=Z left:=AA;subst br;have a3:AC ((left.map (Hc Aq N)).findSome? C=none):=yQ (by rw[BV];exact a8.o);refine mr ?_;exact⟨_,rfl,by rw[a3.o];rfl,D.put AA _⟩
def Km (e:Bool×Int):Tx:=if e.1=true then [UInt8.ofNat (IntKind.u8.wrap (65+e.2)).toNat]else Lib.itoa e.2
def TW (e:Bool×Int):Prop:=0<=e.2/\(e.1=true->e.2<26)/\e.2<=999/\Z (Km e)<=1000
def jR (e)(h:TW e)(a):ni 149 [ag [my e.1,ic e.2]] a λr σ'=>r=str (Km e)/\AD a σ':=by
 have j:∀z:UInt8,({data:=#[z]}:ByteArray)=bs [z]:=λ_=>rfl;obtain⟨b,v⟩:=e;obtain⟨f,d,i,-⟩:=h;dsimp only at f d i⊢;cases b with
 |true=>
  have d:=d rfl;have c:AC (Km (true,v)=[UInt8.ofNat (IntKind.u8.wrap (65+v)).toNat]):=rfl;refine Z9 14 [.tmp 2] Tryz.func149 ?_;refine mu ?_;exact⟨_,rfl,by rw[c.o],Xs⟩
 |false=>
  have g:=λa=>eJ v f AA a;have c:AC (Km (false,v)=Lib.itoa v):=rfl;generalize Lib.itoa v=w at g c;refine Z9 14 [.tmp 2] Tryz.func149 ?_
  repeat' first|refine Z1 ?_|refine Z8 λyb ya=>?_|refine Z4 ?_;clear ya yb|refine Z2 ?_ ?_<;>intro h k<;>try exact Xp|refine Z5 ?_;refine Xi (g _) ?_;rintro _ _ ⟨rfl,rfl⟩|refine Z7 ?_|exact Zt|apply ya.o;clear ya yb
  exact⟨_,rfl,by rw[c.o],Xs⟩
def Vw (a t):Bp (a++[t])=Bp a++((if a=[]then []else [44])++t):=by
 cases a with
 |nil=>simp[Bp,Ch]
 |cons u a=>simp[Bp,Ch]
def Mz (N:ol)(y:AB)(k:Nat)(a:Sw):Option Sw:=if Fi (C8 y k)=true then Hp ((y.A.eraseIdx k).map (Hc Aq N)) (y.A.map (Hc Aq N)) a else none
def Ms {y k}(h:y.fits):(C8 y k).fits:=
 ⟨BI (JF _ _) h.1,h.2.1,λa b=>h.2.2 a (EE b)⟩
def lV (N y c k s0)(J:PI N y c)(o:y.fits)(R:C9 Mx (y.h.A.map Aq) (y.h.A.map Aq)=some s0)(hv:∀t∈y.h.A,varOk t)(U:∀a∈y.A,PO (y.A.eraseIdx k) a)(d):
  ni 94 [ag c,ic k] d λr σ'=>r=Q3 (Mz N y k s0)/\AD d σ':=by
 have bb:=Di;have ba:=Rb;have a9:∀s,List.take 78 (D5 s)=D5 s:=λs=>FZ (by rw[Di];exact AU _);have bc:∀s p,lsp (D5 s) 0 (D5 p)=D5 p:=λs p=>I8 (by rw[Di,Di]);have bd:∀s,(D5 s).all flat=true:=λs=>by
  rw[CX];intro x O;obtain⟨n,-,rfl⟩:=AN.1 O;unfold lA;split
  ·rfl
  split<;>rfl
 have M:=λd=>Pm N y c k J o.1 d;have i:=λc' W d=>Xy N (C8 y k) c' W (λh=>by cases h) (Ms o) d;have K:=o.1;obtain⟨hm,ih,id,b,hb,rfl⟩:=J;have j:=λP T d=>bE Mx (N.idxOf y.h.B:Nat) (N.idxOf y.h.B:Nat) y.h.A y.h.A P T (λ_=>rfl) o.2.1 hv d;rw[if_pos rfl,R]at j;simp only[Q3]at j;have F:=λcl D hL C d=>xS N (y.A.eraseIdx k) cl D hL (BI (JF _ _) K) y.A b C s0 d hb K U;obtain⟨X,u,l,-,-⟩:=bH (Hp ((y.A.eraseIdx k).map (Hc Aq N)) (y.A.map (Hc Aq N)) s0);rw[l]at F;cases m:Fi (C8 y k)with
 |false=>
  have E:AC (Q3 (Mz N y k s0)=tp [ag (D5 Mx),my false]):=by rw[AC,Mz,if_neg (by rw[m];simp)];rfl
  rw[m]at i;clear F j l;refine Z9 33 [.cell 4 154,.tmp 5] Tryz.func94 ?_
  repeat' first|refine Z1 ?_|refine Z8 λyb ya=>?_|refine Z4 ?_;clear ya yb|refine Z2 ?_ ?_<;>intro h Y<;>try exact Xp|(refine Z5 ?_;first|(refine Xi (M _) ?_;rintro _ _ ⟨B,rfl,e,g⟩;(have Q:=g.C;have q:=g.B;simp only[Aa]at q;have G:=i B e;obtain⟨a7,z,v,S,L,rfl⟩:=e))|(refine Xi (G _) ?_;rintro _ _ ⟨rfl,f⟩;(have V:=f.C;have A:=f.B;simp only[Aa,Ac]at A)))|refine Z7 ?_|exact Zt|apply ya.o;clear ya yb
  exact⟨_,rfl,by rw[E.o],Xs⟩
 |true=>
  have E:AC (Q3 (Mz N y k s0)=tp [ag (D5 X),my u]):=by rw[AC,Mz,if_pos m];exact l
  rw[m]at i;clear l;refine Z9 33 [.cell 4 154,.tmp 5] Tryz.func94 ?_
  repeat' first|refine Z1 ?_|refine Z8 λyb ya=>?_|refine Z4 ?_;clear ya yb|refine Z2 ?_ ?_<;>intro h Y<;>try exact Xp|(refine Z5 ?_;first|(refine Xi (M _) ?_;rintro _ _ ⟨B,rfl,e,g⟩;(have Q:=g.C;have q:=g.B;simp only[Aa]at q;have G:=i B e;obtain⟨a7,z,v,S,L,rfl⟩:=e))|(refine Xi (G _) ?_;rintro _ _ ⟨rfl,f⟩;(have V:=f.C;have A:=f.B;simp only[Aa,Ac]at A))|(refine Xi (j _ _ _) ?_;rintro _ _ ⟨rfl,H⟩;(have a3:=H.C;have a4:=H.B))|(refine Xi (F _ _ L _ _) ?_;rintro _ _ ⟨rfl,I⟩;(have a0:=I.C;have an:=I.B;simp only[Aa,Ac]at an)))|refine Z7 ?_|exact Zt|apply ya.o;clear ya yb
  exact⟨_,rfl,by rw[E.o],Xs⟩
def Cb (t):(Aq t).1=Ab t:=by
 cases t with
 |nil=>rfl
 |cons b r=>
  unfold Aq Ab;dsimp only;split;rename_i h;rw[h];rename_i h;simp at h;rw[h]
def UT (t:Tx):Prop:=DT t/\Mm t/\Z t<=1000/\(Ab t=true->∃k:Nat,k<26/\t=[Im k])
def UT.enc {t}(h:UT t)(a:Ab t=true):∃k:Nat,k<26/\t=[Im k]/\Aq t=(true,(k:Int)):=by
 obtain⟨k,b,rfl⟩:=h.2.2.2 a;refine⟨k,b,rfl,?_⟩;rw[Et (E4 AA AA),Fv AA AA];congr 1;omega
def DJ:GU Aq UT where
 var:=λt _=>Cb t
 inj:=λt u a f h=>by
  have c:Ab t=Ab u:=by rw[<-Cb,<-Cb,h]
  cases b:Ab t with
  |true=>
   obtain⟨k,l,rfl,g⟩:=a.enc b;obtain⟨j,i,rfl,e2⟩:=f.enc (by rw[<-c];exact b);rw[g,e2]at h;have:(k:Int)=j:=congrArg (·.2) h;rw[this]
  |false=>
   rcases a.1 with d|⟨-,d,-⟩;rw[b]at d;cases d;rcases f.1 with h2|⟨-,h2,-⟩;rw[<-c,b]at h2;cases h2;rw[<-d,<-h2,h]
 pos:=λt a c=>by
  obtain⟨k,-,-,e⟩:=a.enc c;rw[e];exact KA _
def UT.varOk {t}(h:UT t):varOk t:=λa=>by
 rw[Cb]at a;obtain⟨k,b,-,e⟩:=h.enc a;exact⟨k,b,by rw[e]⟩
def UT.dec {t}(h:UT t):Km (Aq t)=t/\TW (Aq t):=by
 have f:Km (Aq t)=t:=by
  cases b:Ab t with
  |true=>
   obtain⟨k,c,rfl,e⟩:=h.enc b;rw[e];unfold Km;rw[if_pos rfl,L1 AA AA]
  |false=>
   rcases h.1 with a|⟨-,a,-⟩;rw[b]at a;cases a;unfold Km;rw[if_neg (by rw[Cb,b];simp),a]
 refine⟨f,?_,?_,?_,by rw[f];exact h.2.2.1⟩;cases b:Ab t with
 |true=>obtain⟨k,c,-,e⟩:=h.enc b;rw[e];exact KA _
 |false=>
  rcases h.1 with a|a;rw[b]at a;cases a;exact a.2.2.1
 intro d;rw[Cb]at d;obtain⟨k,c,-,e⟩:=h.enc d;rw[e];show (k:Int)<26;omega;cases b:Ab t with
 |true=>obtain⟨k,c,-,e⟩:=h.enc b;rw[e];show (k:Int)<=999;omega
 |false=>
  rcases h.1 with a|a;rw[b]at a;cases a;exact a.2.2.2
structure lr (y:AB):Prop where
 ut:∀a∈Af y,∀t∈a.A,UT t
 o:y.o=false
 ord:Au y=(List.range (Z (Au y))).map fun i=>[Im (i:Nat)]
 len:Z (Au y)<=26
def K8 {acc t u}(h:∀v∈acc,Ab v=true)(a:u∈Er acc t):Ab u=true/\(u∈acc\/u=t):=by
 unfold Er at a;split at a;rename_i b;rcases AW.1 a with q|q;exact⟨h u q,.inl q⟩;simp at q;subst q;exact⟨b.1,.inr rfl⟩;exact⟨h u a,.inl a⟩
def K7:∀(f acc:ol),(∀v∈acc,Ab v=true)->acc.Nodup->(∀v∈Fu acc f,Ab v=true/\(v∈acc\/v∈f))/\(Fu acc f).Nodup
 |[],acc,h,g=>⟨λv c=>⟨h v c,.inl c⟩,g⟩
 |t::f,acc,h,g=>by
  have n:(Er acc t).Nodup:=by
   unfold Er;split;rename_i j;rw[IP];refine⟨g,nk,λa l b i=>?_⟩;simp at i;subst i;exact λe=>j.2 (e ▸ l);exact g
  obtain⟨o,m⟩:=K7 f (Er acc t) (λv c=>(K8 h c).1) n;refine⟨λv c=>?_,m⟩;obtain⟨k,d⟩:=o v c;refine⟨k,?_⟩;rcases d with d|d;rcases (K8 h d).2 with q|q;exact .inl q;exact .inr (by simp[q]);exact .inr (by simp[d])
def Yi (w):∀(c acc:ol),(∀v∈acc,Ab v=true)->(∀t∈c,Ab (w t)=Ab t)->(∀t u,(t∈acc\/t∈c)->(u∈acc\/u∈c)->Ab t=true->Ab u=true->w t=w u->t=u)->Fu (acc.map w) (c.map w)=(Fu acc c).map w
 |[],acc,_,_,_=>rfl
 |t::c,acc,i,m,l=>by
  show Fu (Er (acc.map w) (w t)) (c.map w)=(Fu (Er acc t) c).map w;have e:Er (acc.map w) (w t)=(Er acc t).map w:=by
   unfold Er;rw[m t nk];by_cases d:Ab t=true/\t∉acc;have o:w t∉acc.map w:=λj=>by
    obtain⟨u,k,e⟩:=AN.1 j;have:=l u t (.inl k) (.inr nk) (i u k) d.1 e;exact d.2 (this ▸ k)
   rw[if_pos d,if_pos ⟨d.1,o⟩,EU,CC,IK];rw[if_neg d,if_neg (λh=>d ⟨h.1,λj=>h.2 (AN.2 ⟨t,j,rfl⟩)⟩)]
  rw[e];refine Yi w c (Er acc t) (λv h=>(K8 i h).1) (λn h=>m n (by simp[h])) (λa b g f=>l a b ?_ ?_);rcases g with g|g;rcases (K8 i g).2 with q|q;exact .inl q;exact .inr (by simp[q]);exact .inr (by simp[g]);rcases f with f|f;rcases (K8 i f).2 with q|q;exact .inl q;exact .inr (by simp[q]);exact .inr (by simp[f])
def Hz {α b:Type}(f:α->b):∀(l:List α) (k:Nat),(l.map f).eraseIdx k=(l.eraseIdx k).map f
 |[],k=>rfl
 |a::l,0=>rfl
 |a::l,k+1=>by simp[Hz f l k]
structure XR (x:AB):Prop where
 dt:∀a∈Af x,∀t∈a.A,DT t/\Mm t/\Z t<=1000
 o:x.o=false
 few:Z (Au x)<=26
section
variable {x:AB} (hx:XR x)
include hx
theorem XR.mem {a}(b:a∈Af x){t}(d:t∈a.A)(c:Ab t=true):t∈Au x:=No _ _ _ (.inr ⟨EX.2 ⟨a,b,d⟩,c⟩)
theorem XR.which {t}(h:t∈Au x):Bv (Au x) t=((Au x).idxOf t:Nat)/\(Au x).idxOf t<Z (Au x):=⟨by unfold Bv;rw[if_pos h],CS h⟩
theorem XR.rng {a}(b:a∈Af x){t}(d:t∈a.A)(c:Ab t=true):0<=Bv (Au x) t/\Bv (Au x) t<26:=by
 obtain⟨e,e2⟩:=hx.which (hx.mem b d c);have:=hx.few;rw[e];omega
theorem XR.inj {a b}(i:a∈Af x)(g:b∈Af x){t u}(f:t∈a.A)(e:u∈b.A)(h:C6 (Au x) t=C6 (Au x) u):t=u:=by
 have q:=Hu (l:=Au x) (λc=>hx.rng i f c);have p:=Hu (l:=Au x) (λc=>hx.rng g e c);have k:Ab t=Ab u:=by rw[<-q,<-p,h]
 cases c:Ab t with
 |true=>
  have d:Ab u=true:=by rw[<-k];exact c
  have m:=hx.rng i f c;have n:=hx.rng g e d;unfold C6 at h;rw[if_pos c,if_pos d]at h;have r:Im (Bv (Au x) t)=Im (Bv (Au x) u):=nn h;have s:((Im (Bv (Au x) t)).toNat:Int)=(Im (Bv (Au x) u)).toNat:=by rw[r]
  rw[Fv m.1 m.2,Fv n.1 n.2]at s;have j:=hx.mem i f c;have o:=hx.mem g e d;have v:=(hx.which j).1;have e2:=(hx.which o).1;exact E9 j o AA
 |false=>
  have d:Ab u=false:=by rw[<-k];exact c
  unfold C6 at h;rwa[if_neg (by rw[c];simp),if_neg (by rw[d];simp)]at h
theorem XR.ut {a}(f:a∈Af x){t}(g:t∈a.A):UT (C6 (Au x) t):=by
 obtain⟨j,k,l⟩:=hx.dt a f t g;cases c:Ab t with
 |true=>
  obtain⟨i,m⟩:=hx.rng f g c;have e:C6 (Au x) t=[Im ((Bv (Au x) t).toNat:Nat)]:=by
   unfold C6;rw[if_pos c,Int.toNat_of_nonneg i]
  rw[e];exact⟨.inl (E4 AA AA),⟨nk,λb d=>by simp at d;subst d;exact .inl (E4 AA AA)⟩,nk,λ_=>⟨_,AA,rfl⟩⟩
 |false=>
  have e:C6 (Au x) t=t:=by unfold C6;rw[if_neg (by rw[c];simp)]
  rw[e];exact⟨j,k,l,λh=>by rw[c]at h;cases h⟩
theorem XR.atoms:Af (ren x)=(Af x).map (Br (Au x)):=by
 unfold Af ren;simp[hx.o]
theorem XR.ord:Au (ren x)=(Au x).map (C6 (Au x)):=by
 have d:(Af (ren x)).flatMap (·.A)=((Af x).flatMap (·.A)).map (C6 (Au x)):=by
  rw[hx.atoms,JG,LH];rfl
 have c:∀t,t∈(Af x).flatMap (·.A)->∃a∈Af x,t∈a.A:=λt i=>by
  obtain⟨a,e,g⟩:=EX.1 i;exact⟨a,e,g⟩
 have:=Yi (C6 (Au x)) ((Af x).flatMap (·.A)) [] nk (λt i=>by
  obtain⟨a,e,g⟩:=c t i;exact Hu (λk=>hx.rng e g k)) (λt u d f _ _ h=>by
  rcases d with d|d;cases d;rcases f with f|f;cases f;obtain⟨a,e,g⟩:=c t d;obtain⟨b,j,l⟩:=c u f
  exact hx.inj e j g l h)
 show Fu [] ((Af (ren x)).flatMap (·.A))=_;rw[d];exact this
theorem XR.inO:lr (ren x) where
 ut:=λa d t f=>by
  rw[hx.atoms]at d;obtain⟨l,g,rfl⟩:=AN.1 d;simp only[Br,AN]at f;obtain⟨m,k,rfl⟩:=f;exact hx.ut g k
 o:=hx.o
 ord:=by
  rw[hx.ord,BV];have b:=(K7 ((Af x).flatMap (·.A)) [] nk GN);apply FL;intro i;rw[DC,DC];by_cases c:i<Z (Au x);rw[AK c,List.getElem?_range c];simp only[GJ];congr 1;have e:=AR c;have j:=(b.1 _ e).1;unfold C6;rw[if_pos j];have:(Au x).idxOf (Au x)[i]=i:=List.Nodup.idxOf_getElem b.2 i c;rw[(hx.which e).1,this];rw[FD AA,FD (nn c)];rfl
 len:=by rw[hx.ord,BV];exact hx.few
theorem XR.tell:GU (λt=>Aq (C6 (Au x) t)) (λt=>∃a∈Af x,t∈a.A) where
 var:=λt ⟨a,c,d⟩=>by rw[Cb];exact Hu (λe=>hx.rng c d e)
 inj:=λt u ⟨a,c,d⟩ ⟨b,f,g⟩ h=>hx.inj c f d g (DJ.inj _ _ (hx.ut c d) (hx.ut f g) h)
 pos:=λt ⟨a,c,d⟩ e=>DJ.pos _ (hx.ut c d) (by rw[Hu (λe=>hx.rng c d e)];exact e)
theorem XR.search {N k}(o:∀a∈x.A,a.B∈N)(c:∀a∈x.A,∀b∈x.A,a.B=b.B->Z a.A=Z b.A):
  ∃e,C9 Mx ((ren x).h.A.map Aq) ((ren x).h.A.map Aq)=some e/\((∃g,Hp (((ren x).A.eraseIdx k).map (Hc Aq N)) ((ren x).A.map (Hc Aq N)) e=some g)↔Hj x k):=by
 obtain⟨e,i,p⟩:=P1 hx.tell N x k o (λt d=>⟨x.h,Ap (.inl ⟨hx.o,rfl⟩),d⟩) (λa n t d=>⟨a,Ap (.inr n),d⟩) c (λt d u j h=>hx.tell.inj t u d j h);have l:(ren x).h.A.map Aq=x.h.A.map λt=>Aq (C6 (Au x) t):=by simp[ren,Br]
 have e2:∀f:oq,(f.map (Br (Au x))).map (Hc Aq N)=f.map (Hc (λt=>Aq (C6 (Au x) t)) N):=λf=>by
  rw[BH];apply CG;intro a _;simp[Hc,Br]
 have m:(ren x).A.eraseIdx k=(x.A.eraseIdx k).map (Br (Au x)):=by simp[ren,Hz]
 refine⟨e,by rw[l];exact i,?_⟩;rw[m,show (ren x).A=x.A.map (Br (Au x))from rfl,e2,e2];exact p
theorem XR.safe (k):Fi (C8 (ren x) k)=Db (C8 x k):=by
 unfold Fi Db;congr 1;have r:(C8 (ren x) k).A=(x.A.eraseIdx k).map (Br (Au x)):=by simp[C8,ren,Hz]
 have m:Af (C8 (ren x) k)=(Af (C8 x k)).map (Br (Au x)):=by simp[Af,C8,ren,Hz]
 have l:∀b∈x.A.eraseIdx k,b∈Af x:=λb g=>Ap (.inr (EE g));rw[m,List.any_map];apply Ev;intro a f;have d:a∈Af x:=by
  simp[Af,C8]at f;rcases f with rfl|f;exact Ap (.inl ⟨hx.o,rfl⟩);exact l a f
 unfold zI bC;simp only[Function.comp,Br,List.any_map];apply Ev;intro t e;simp only[Function.comp];rw[Cb,Hu (λc=>hx.rng d e c)];cases c:Ab t with
 |false=>rfl
 |true=>
  congr 2;unfold Ga Ma;rw[r,List.any_map];show _=(x.A.eraseIdx k).any _;apply Ev;intro b g;have i:=l b g;simp only[Function.comp,Br,List.any_map];have n:∀u∈b.A,Ql (Aq (C6 (Au x) t)).2 (C6 (Au x) u)=(u==t):=λu j=>by
   unfold Ql;rw[GI];simp only[BM,DO];constructor;rintro⟨s,o⟩;exact hx.inj i d j e (DJ.inj _ _ (hx.ut i j) (hx.ut d e) (GB (by rw[s,Cb,Hu (λc=>hx.rng d e c),c]) o));rintro rfl;exact⟨by rw[Cb,Hu (λc=>hx.rng d e c),c],rfl⟩
  rw[Ev (p:=Ql (Aq (C6 (Au x) t)).2∘C6 (Au x)) (q:=λu=>u==t) n];cases b.nt<;>simp
end
structure CW (t:Tx)(N:ol)(l:n0)(cs:oh):Prop where
 ok:(Av t).1=0
 len:Z t<=600
 parse:Cc 16 t= .got l []
 bk:Bk N l cs
 wit:∀x∈l,Dc x
def CW.items {t N l cs}(h:CW t N l cs):Bl t=l:=(Ep (by have:=h.len;omega) h.parse).2.1
def CW.wi {t N l cs}(h:CW t N l cs):∀x∈l,WI N x:=j6 (by have:=h.len;omega) h.parse h.bk h.wit
def jk {x}(g:Dc x):Z (Au x)<=18:=by
 have i:=Ro ((Af x).flatMap (·.A)) [];obtain⟨n,d,j⟩:=g;have k:Z (Af x)<=6/\∀b∈Af x,Z b.A<=3:=by
  cases a:x.o with
  |true=>
   obtain⟨-,-,e⟩:=d a;simp[Af,a,e]
  |false=>
   obtain⟨l,-,e2,f⟩:=j a;refine⟨by simp[Af,a];omega,λb c=>?_⟩;simp[Af,a]at c;rcases c with rfl|c;exact l.2.2.1;exact (f b c).2.2.1
 have m:=nX k.2;unfold Au;rw[CQ,DY]at i;omega
def Jo {p n}(h:¬0<=Bn p n):∀i,i<n->p i=false:=by
 intro i b;unfold Bn at h;split at h;rename_i j c;exact absurd (KA j) h;rename_i a;rw[KB]at a;simpa using a i (nn b)
def dM {t}(h:(Av t).1=0):∀x∈Bl t,∀a∈Af x,∀b∈Af x,a.B=b.B->Z a.A=Z b.A:=by
 have s:∀i,i<Z (Bl t)->Gn (Bl t) i=false:=by
  unfold Av at h;split at h;simp at h;split at h;simp at h;unfold Co at h;split at h;simp at h;rename_i c;exact Jo c
 intro x p a r b q f;obtain⟨i,o⟩:=CL p;have l:=s i (BA.1 o).1;unfold Gn at l;rw[o]at l;simp only[EV,List.mem_range]at l;obtain⟨j,d⟩:=CL r;obtain⟨k,c⟩:=CL q;have u:=(BA.1 d).1;have v:=(BA.1 c).1;have e:∀(j k:Nat) (a b:AE),(Af x)[j]?=some a->(Af x)[k]?=some b->k<j->a.B=b.B->Z a.A=Z b.A:=by
  intro j k a b d c m f;have g:=l j (BA.1 d).1;unfold Mh at g;rw[d]at g;simp only[CU,not_exists,not_and]at g
  have n:=g b (by
   unfold Ct
   exact AW.2 (.inr (AY (i:=k) (by rw[GF,if_pos m];exact c))))
  unfold clash at n;simp[f]at n;exact n.symm
 rcases KE j k with m|rfl|ac;exact (e k j b a c d m f.symm).symm;rw[d]at c;cases c;rfl;exact e j k a b d c ac f
def Me {t}(h:UT t):VT t:=by
 cases i:Ab t with
 |true=>
  obtain⟨k,m,rfl,-⟩:=h.enc i;exact .inl ⟨_,rfl,E4 AA AA⟩
 |false=>
  refine .inr ⟨h.2.1.1,λb g=>?_⟩;rcases h.2.1.2 b g with q|q;exfalso;rcases h.1 with d|⟨-,d,h2,h3⟩;rw[i]at d;cases d;have l:∀(u:Nat),∀c∈Lib.decDigits u,c.toNat<=57:=by
   intro u;induction u using Nat.strongRecOn with
   |_ u j=>
    intro c a;by_cases f:u<10;rw[Lib.decDigits_one f]at a;simp only[FY]at a;subst a;rw[UInt8.toNat_ofNat_of_lt' (by show 48+u<256;omega)];omega;rw[Lib.decDigits,dif_neg f]at a;rcases AW.1 a with q|q;exact j (u / 10) AA c q;simp only[FY]at q;subst q;rw[UInt8.toNat_ofNat_of_lt' (by show 48+u % 10<256;omega)];omega
  have e:b∈Lib.itoa (Aq t).2:=by rw[d];exact g
  unfold Lib.itoa at e;rw[if_neg AA]at e;have:=l _ b e;simp[Bs]at q;omega;exact q
def jC {α:Type}(g h):∀l:List α,(∀a∈l,Z (g a)<=Z (h a))->Z (Ch (l.map g))<=Z (Ch (l.map h))
 |[],_=>by simp[Ch]
 |a::l,c=>by
  have e:=jC g h l λb d=>c b (by simp[d]);have f:=c a nk;unfold Ch at*
  simp only[CC,DN,AX,BQ];omega
def Q5 {α:Type}(g h):∀l:List α,(∀a∈l,Z (g a)<=Z (h a))->Z (Bp (l.map g))<=Z (Bp (l.map h))
 |[],_=>by simp[Bp]
 |a::l,c=>by
  have e:=jC g h l λb d=>c b (by simp[d]);have f:=c a nk;simp only[CC,Bp,AX];omega
def gh {l t}(h:Mm t):Z (C6 l t)<=Z t:=by
 unfold C6;split;have:=List.length_pos_iff.2 h.1;simp only[BQ,CQ];omega;exact AU _
def jH {l a}(h:En a):Z (Bh (Br l a))<=Z (Bh a):=by
 have b:=Q5 (C6 l) id a.A λt c=>gh (h.2.2.2 t c);rw[IE]at b;unfold Bh Br;simp only[AX,BQ,CQ];omega
def YC {l a}(h:En a):Z (Cl (Br l a))<=Z (Cl a):=by
 have b:=jH (l:=l) h;unfold Cl;rw[AX,AX];show Z (if a.nt=true then [33]else ([]:Tx))+_<=_;omega
def jF {x}(h:Dc x):Z (Bz (ren x))<=Z (Bz x):=by
 unfold Bz;cases c:x.o with
 |true=>
  rw[if_pos (by simp[ren,c]),if_pos rfl];simp[ren,Br]
 |false=>
  obtain⟨g,-,-,f⟩:=h.2.2 c;rw[if_neg (by simp[ren,c]),if_neg nk];have i:=jH (l:=Au x) g;have e:=Q5 (λa=>Cl (Br (Au x) a)) Cl x.A λa d=>YC (f a d);unfold D1;show Z (Bh (Br (Au x) x.h)++(if x.A.map (Br (Au x))=[]then []else 58::45::Bp ((x.A.map (Br (Au x))).map Cl)))<=_;rw[BH,AX,AX];by_cases b:x.A=[];rw[if_pos (by simp[b]),if_pos b];simpa using i;rw[if_neg (nn b),if_neg b];simp only[BQ];have j:Z (Bp (x.A.map (Cl∘Br (Au x))))<=Z (Bp (x.A.map Cl)):=e;omega
def bM:∀l:n0,(∀x∈l,Dc x)->Z (Cr (l.map ren))<=Z (Cr l)
 |[],_=>by simp[Cr]
 |x::l,h=>by
  have c:=bM l λy a=>h y (by simp[a]);have b:=jF (h x nk);unfold Cr at*
  simp only[CC,DN,AX,BQ,CQ];omega
def mC (p:Tx×Tx):oh:=[str p.1,str p.2]
def Ds (l:List (Tx×Tx)):oh:=l.flatMap mC
def Qa (l):Z (Ds l)=Z l*2:=by
 induction l with
 |nil=>rfl
 |cons a l b=>unfold Ds at*;rw[DN,AX,b];simp[mC];omega
def mB (l p):Ds (l++[p])=Ds l++[str p.1,str p.2]:=by simp[Ds,mC]
def X6 {l k p}(h:l[k]?=some p):∃r,(Ds l).drop (k*2)=str p.1::str p.2::r:=by
 have d:∀l:List (Tx×Tx),EL (λp c=>c=mC p) l (Ds l):=by
  intro l;induction l with
  |nil=>rfl
  |cons a l b=>exact⟨mC a,Ds l,rfl,b,by simp[Ds]⟩
 obtain⟨c,r,rfl,e⟩:=EL.get (z:=2) (λa c h=>by rw[h];rfl) (d l) h;exact⟨r,e⟩
structure CE (σ σ':St):Prop where
 B:σ.B<=σ'.B
 C:∀o,o<σ.B->σ'.C o=σ.C o
 ver:∀o,o<σ.B->σ'.ver o=σ.ver o
def CE.refl (σ):CE σ σ:=⟨AU _,λ_ _=>rfl,λ_ _=>rfl⟩
def CE.new {a b}(h:CE a b)(cs):CE a (b.new cs):=by
 obtain⟨f,d,e⟩:=h;exact⟨by simp[St.new];omega,λo c=>by rw[Ah AA];exact d o c,λo c=>e o c⟩
def CE.of {a b c}(h:CE a b)(f:c.C=b.C)(h2:c.B=b.B)(e:c.ver=b.ver):CE a c:=⟨by rw[h2];exact h.B,λo d=>by rw[f];exact h.C o d,λo d=>by rw[e];exact h.ver o d⟩
def rB (l:List (Tx×Tx)):Option (List (Tx×Tx))->List (Tx×Tx)->Bool->Prop
 |some a,r,b=>r=a/\b=true
 |none,r,b=>b=false
def mH {l}{b a:ol}{k t u}(f:b[k]?=some t)(d:a[k]?=some u):Dg l (b.drop k) (a.drop k)=if Ab t=true then Dg (l++[(t,u)]) (b.drop (k+1)) (a.drop (k+1))else if t=u then Dg l (b.drop (k+1)) (a.drop (k+1))else none:=by
 obtain⟨c,g⟩:=BA.1 f;obtain⟨e,e2⟩:=BA.1 d;rw[ET c,ET e,g,e2];rfl
def X8 (σ0 l id a b ca cb)(U:Bf a ca)(X:Bf b cb)(hl:Z l<=1000000)(bb:Z a.A<=1000)(e)(y:AD σ0 e)(x:Own σ0 e id (Z l)):
  ni 233 [sl id (Z l) (Ds l),ag ca,ag cb] e λr σ'=>∃id' d ok,r=tp [sl id' (Z d) (Ds d),my ok]/\rB l (Dh l a b) d ok/\Z d<=Z l+1000/\Own σ0 σ' id' (Z d)/\AD σ0 σ'/\CE e σ':=by
 obtain⟨V,rfl⟩:=U;obtain⟨H,rfl⟩:=X;have W:=Qa l;by_cases f:a.nt=b.nt;have K:(a.nt==b.nt)=true:=by simp[f]
 by_cases n:a.B=b.B;have N:(a.B==b.B)=true:=by simp[n]
 by_cases q:Z a.A=Z b.A;have F:((Z a.A:Int) !=(Z b.A:Int))=false:=by simp[q]
 have i:AC (Dh l a b=Dg l a.A b.A):=by rw[AC,Dh,if_pos ⟨f,n,q⟩]
 have Y:AC _:=q;clear f n q;refine Z9 71 [.tmp 6,.tmp 7] Tryz.func233 ?_;refine mr ?_
 refine Ae (λm s σ'=>∃(k id':Nat) (d:List (Tx×Tx)),m=Z a.A-k/\k<=Z a.A/\s 0=sl id' (Z d) (Ds d)/\s 4=ptr e.B 0/\s 5=ptr (e.B+1) 0/\s 8=ic k/\AD σ0 σ'/\CE e σ'/\e.B+1<σ'.B/\σ'.C e.B=[my a.nt,str a.B,sl V (Z a.A) (a.A.map str)]/\σ'.C (e.B+1)=[my b.nt,str b.B,sl H (Z b.A) (b.A.map str)]/\Own σ0 σ' id' (Z d)/\Z d<=Z l+k/\AC (Dg l a.A b.A=Dg d (a.A.drop k) (b.A.drop k))) (Z a.A)
  ⟨0,id,l,AA,AA,by simp[upd,AL],AG,AG,rfl,(y.new _).new _,((CE.refl e).new _).new _,AM,?_,?_,Own.new (Own.new x _) _,AA,by simp[AC]⟩ ?_
 rw[Ah AM,Ao];rw[Be AM AM];rintro m s σ' ⟨k,id',d,rfl,hk,h0,h4,h5,h8,hK,L,ba,a9,a8,B,P,z⟩;have az:=Qa d;by_cases D:k<Z a.A;have C:k<Z b.A:=by have:=Y.o;omega
 have I:=A1 D;have S:=A1 C;have g:AC (Dg l a.A b.A=if Ab a.A[k]=true then Dg (d++[(a.A[k],b.A[k])]) (a.A.drop (k+1)) (b.A.drop (k+1))else if a.A[k]=b.A[k]then Dg d (a.A.drop (k+1)) (b.A.drop (k+1))else none):=by
  rw[AC,z.o,mH (AK D) (AK C)]
 generalize a.A[k]=t at I g;generalize b.A[k]=u at S g;clear z;cases j:Ab t with
 |true=>
  have g:AC (Dg l a.A b.A=Dg (d++[(t,u)]) (a.A.drop (k+1)) (b.A.drop (k+1))):=by rw[AC,g.o,if_pos j]
  have p:=λe=>Cg t e;rw[j]at p;clear j;refine m0 ?_;intro yb ya;refine Xi (p _) ?_;rintro _ _ ⟨rfl,c⟩;(replace c:=c.symm;subst c);refine mr ?_;refine Ax Ag (λ_=>True) [13,14] [0,1,2,3,4,5,6,7,8,9,10,11] [12,13,14] AH (λ_ _ _ h=>h) ?_;have bc:AD σ' (σ'.lay 1):=(AD.refl _).lay 1;intro yb ya;refine m4 ?_;intro A M T aj R Q O ab;refine mr ?_;exact⟨Z a.A-(k+1),AA,k+1,A,d++[(t,u)],rfl,AA,by rw[mB];simp,nk,L.of R Q O,nn T,by simp;omega,g⟩
 |false=>
  have p:=λe=>Cg t e;rw[j]at p;by_cases o:t=u;have J:(t==u)=true:=by simp[o]
  have g:AC (Dg l a.A b.A=Dg d (a.A.drop (k+1)) (b.A.drop (k+1))):=by rw[AC,g.o,if_neg (by rw[j];simp),if_pos o]
  clear j o;refine m0 ?_;intro yb ya;refine Xi (p _) ?_;rintro _ _ ⟨rfl,c⟩;(replace c:=c.symm;subst c);refine mr ?_;refine Ax Ag (λ_=>True) [] [0,1,2,3,4,5,6,7,8,9,10] [] AH (λ_ _ _ h=>h) ?_;intro yb ya;refine mr ?_;exact⟨Z a.A-(k+1),AA,k+1,id',d,rfl,AA,rfl,nk,B,AA,g⟩;have J:(t==u)=false:=nn o;have g:AC (Dg l a.A b.A=none):=by rw[AC,g.o,if_neg (by rw[j];simp),if_neg o]
  clear j o;refine m0 ?_;intro yb ya;refine Xi (p _) ?_;rintro _ _ ⟨rfl,c⟩;(replace c:=c.symm;subst c);refine mr ?_;refine Ax Ag (λ_=>True) [] [0,1,2,3,4,5,6,7,8,9,10] [] AH (λ_ _ _ h=>h) ?_;intro yb ya;refine mr ?_;exact⟨_,rfl,id',d,false,rfl,by rw[i.o,g.o];rfl,AA,B⟩
 have E:k=Z a.A:=AA;subst E;have G:AC (Dh l a b=some d):=by rw[AC,i.o,z.o,IZ];simp[Dg]
 refine mr ?_;exact⟨_,rfl,id',d,true,rfl,by rw[G.o];exact⟨rfl,rfl⟩,AA,B⟩;have F:((Z a.A:Int) !=(Z b.A:Int))=true:=nn (show¬(Z a.A:Int)=(Z b.A:Int)by omega);have i:Dh l a b=none:=by rw[Dh,if_neg (λh=>q h.2.2)]
 have v:AC _:=i;clear f n q i;refine Z9 71 [.tmp 6,.tmp 7] Tryz.func233 ?_;refine mr ?_;refine⟨_,rfl,id,l,false,rfl,by rw[v.o];rfl,AA,Own.new (Own.new x _) _,(y.new _).new _,((CE.refl e).new _).new _⟩;have N:(a.B==b.B)=false:=nn n;have i:Dh l a b=none:=by rw[Dh,if_neg (λh=>n h.2.1)]
 have v:AC _:=i;clear f n i;refine Z9 71 [.tmp 6,.tmp 7] Tryz.func233 ?_;refine mr ?_;refine⟨_,rfl,id,l,false,rfl,by rw[v.o];rfl,AA,Own.new (Own.new x _) _,(y.new _).new _,((CE.refl e).new _).new _⟩;have K:(a.nt==b.nt)=false:=nn f;have i:Dh l a b=none:=by rw[Dh,if_neg (λh=>f h.1)]
 have v:AC _:=i;clear f i;refine Z9 71 [.tmp 6,.tmp 7] Tryz.func233 ?_;refine mr ?_;refine⟨_,rfl,id,l,false,rfl,by rw[v.o];rfl,AA,Own.new (Own.new x _) _,(y.new _).new _,((CE.refl e).new _).new _⟩
def zT (l:List (Tx×Tx))(i k:Nat):Prop:=∀b,b<k->∀p q,l[i]?=some p->l[b]?=some q->p.1=q.1->p.2=q.2
def XH {l}(h:∀i,i<Z l->zT l i i):Agree l:=by
 intro p f q d c;obtain⟨i,b⟩:=CL f;obtain⟨k,a⟩:=CL d;have j:=(BA.1 b).1;have e:=(BA.1 a).1;rcases KE i k with g|rfl|ad;exact (h k e i g q p a b c.symm).symm;rw[b]at a;cases a;rfl;exact h i j k ad p q b a c
def sY (l id)(hl:Z l<=1000000)(σ):ni 234 [sl id (Z l) (Ds l)] σ λr σ'=>∃b,r=my b/\(b=true↔Agree l)/\σ'=σ:=by
 have R:=Qa l;refine Z9 40 [.tmp 2] Tryz.func234 ?_;refine mr ?_
 refine Ae (λm s σ'=>∃i:Nat,m=Z l-i/\i<=Z l/\s 0=sl id (Z l) (Ds l)/\s 3=ic i/\σ'=σ/\AC (∀j,j<i->zT l j j)) (Z l)
  ⟨0,AA,AA,rfl,rfl,rfl,λj Q=>AA⟩ ?_
 rintro m s σ' ⟨i,rfl,hi,C,y,d,o⟩;subst d;by_cases L:i<Z l;refine mr ?_
 refine Ae (λm s c=>∃k:Nat,m=i-k/\k<=i/\s 0=sl id (Z l) (Ds l)/\s 3=ic i/\s 4=ic k/\c=σ'/\AC (zT l i k)) i
  ⟨0,AA,AA,by simp[upd,C],by simp[upd,y],rfl,rfl,λb S=>AA⟩ ?_
 clear C y;rintro m s c ⟨k,rfl,hk,C,y,h4,d,J⟩;subst d;by_cases Y:k<i;have x:=AK L;have u:=AK (show k<Z l by omega);obtain⟨r1,H⟩:=X6 x;obtain⟨X,I⟩:=X6 u;have G:AC _:=x;have D:AC _:=u;clear x u;generalize l[i]=p at H G;generalize l[k]=q at I D;have f:AC ((p.1=q.1->p.2=q.2)->zT l i (k+1)):=λh b S T W F t a=>by
  by_cases e:b=k;subst e;rw[G.o]at F;rw[D.o]at t;cases F;cases t;exact h a;exact J.o b AA T W F t a
 have n:AC (p.1=q.1->p.2≠q.2->¬Agree l):=λP N o=>N (o p (AY G.o) q (AY D.o) P);obtain⟨z,E⟩:=p;obtain⟨v,A⟩:=q;dsimp only at H I f n;by_cases a:z=v;have O:(z==v)=true:=by simp[a]
 by_cases g:E=A;have K:(E==A)=true:=by simp[g]
 have B:AC (zT l i (k+1)):=f.o λ_=>g;clear f n a g;refine mr ?_;refine Ax Ag (λ_=>True) [] [0,1,2,3,4,5,6,7,8,9,10,11,12,13,14,15,16,17,18,19,20,21,22,23] [] AH (λ_ _ _ h=>h) ?_;intro yb ya;refine mr ?_;exact⟨i-(k+1),AA,k+1,rfl,AA,nk,B⟩;have K:(E==A)=false:=nn g;have V:AC (¬Agree l):=n.o a g;clear f n a g;refine mr ?_;refine Ax Ag (λ_=>True) [] [0,1,2,3,4,5,6,7,8,9,10,11,12,13,14,15,16,17,18,19,20,21,22,23] [] AH (λ_ _ _ h=>h) ?_;intro yb ya;refine mr ?_;exact⟨_,rfl,false,rfl,(λh=>by cases h),λh=>absurd h V.o⟩;have O:(z==v)=false:=nn a;have B:AC (zT l i (k+1)):=f.o λh=>absurd h a;clear f n a;refine mr ?_;refine Ax Ag (λ_=>True) [] [0,1,2,3,4,5,6,7,8,9,10,11,12,13,14,15,16,17,18,19,20,21,22,23] [] AH (λ_ _ _ h=>h) ?_;intro yb ya;refine mr ?_;exact⟨i-(k+1),AA,k+1,rfl,AA,nk,B⟩;have M:k=i:=AA;subst M;refine mr ?_
 exact⟨Z l-(k+1),AA,k+1,rfl,AA,nk,λj Q=>by
  by_cases e:j=k;subst e;exact J.o
  exact o.o j AA⟩
 have U:i=Z l:=AA;subst U;have ap:=XH o.o;refine mr ?_;exact⟨_,rfl,true,rfl,nk⟩
def dR {n i}(a:1<=n)(c:n<=5)(b:i<=n):(n-1)^i<=1024:=by
 have:∀n,n<6->∀i,i<6->i<=n->1<=n->(n-1)^i<=1024:=nr;exact this n AA i AA b a
def wK (n:Nat)(u:1<=n)(q:n<=5)(σ):ni 193 [ic n] σ λr σ'=>r=ic ((n-1)^n:Nat)/\σ'=σ:=by
 obtain⟨M,v⟩:∃M:Nat,n=M+1:=⟨n-1,AA⟩;have y:(n:Int)-1=(M:Int):=AA;have e:n-1=M:=AA;clear v;have c:=λi d=>dR (n:=n) (i:=i) u q d;rw[e]at c⊢;clear e;refine Z9 15 [.tmp 2] Tryz.func193 ?_;refine mr ?_
 refine Ae (λm s σ'=>∃(i p:Nat),m=n-i/\i<=n/\s 0=ic n/\s 3=ic p/\s 4=ic i/\σ'=σ/\AC (p=M^i)/\p<=1024) n
  ⟨0,1,AA,AA,rfl,rfl,rfl,rfl,by simp[AC],AA⟩ ?_
 rintro m s σ' ⟨i,p,rfl,d,x,z,A,b,a,j⟩;subst b;by_cases l:i<n;have k:(p:Int)*(M:Int)=((p*M:Nat):Int):=nk;have f:p*M<=1024:=by rw[a.o,<-Nat.pow_succ];exact c (i+1) l
 have g:AC (p*M=M^(i+1)):=by rw[AC,Nat.pow_succ,a.o]
 generalize p*M=t at k f g;refine mr ?_;exact⟨n-(i+1),AA,i+1,t,rfl,AA,rfl,nk,g,f⟩;have o:i=n:=AA;subst o;refine mr ?_
 first
 |exact⟨_,rfl,by rw[a.o],rfl⟩
 |exact⟨_,rfl,by rw[a.o]⟩
end Go.Proofs.YtmoeoppbmhfbpabGreatDoorJ
