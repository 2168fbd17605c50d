import Derived.Test.YtmoeoppbmhfbpabGreatDoorJOptE
set_option maxHeartbeats 64000000
set_option maxRecDepth 100000
set_option linter.all false
open List renaming length->Z
namespace Go.Proofs.YtmoeoppbmhfbpabGreatDoorJ
open Go.Abs
def qV (a:Dx)(p:Part):Bool:=(Cs [a]).all (Bm p.a.ts)
def JR {a p}:qV a p=true↔∀v,Bm a.ts v=true->Bm p.a.ts v=true:=by
 unfold qV;rw[CX];constructor;intro h v c;exact h v ((Dn _ _).2 ⟨a,nk,AO.1 c⟩);intro h v c;obtain⟨b,d,e⟩:=(Dn _ _).1 c;simp at d;subst d;exact h v (AO.2 e)
def oC (h0 h1 h3)(b:([h0,h1,h3]:oh).all flat=true)(a:Dx)(ida σ):ni 218 [ag [h0,h1,nilS,h3],ag [ic a.p,sl ida (Z a.ts) (Ad a.ts)]] σ λr σ'=>r=ic (-1)/\AD σ σ':=by
 simp only[List.all_cons,List.all_nil,Bool.and_true,BM]at b;obtain⟨g,i,f⟩:=b;refine Z9 23 [.tmp 4] Tryz.func218 ?_;refine mr ?_
 refine Ae (λm s σ'=>m=0/\s 9=ic 0/\s 10=ic 0/\AD σ σ') 0
  ⟨rfl,AG,AG,Xs⟩ ?_
 rintro m s σ' ⟨rfl,e,d,c⟩;refine mr ?_
 first|exact⟨_,rfl,rfl⟩|exact⟨_,rfl,rfl,c⟩
def oB (h0 h1 h3)(N:([h0,h1,h3]:oh).all flat=true)(L)(hL:∀p∈L,Z p.a.ts<=3)(hLl:Z L<=64)(o cap pc)(E:EL Oa L pc)(a ida)(K:Z a.ts<=3)(b)(V:o<b.B)(av:Z L<=cap)(a6:Z (b.C o)=cap*3)(an:(b.C o).take (Z L*3)=pc):ni 218 [ag [h0,h1,gx o (Z L) cap,h3],ag [ic a.p,sl ida (Z a.ts) (Ad a.ts)]] b λr σ'=>((∃(i:Nat) (p:Part),r=ic i/\L[i]?=some p/\qV a p=true)\/(r=ic (-1)/\∀p∈L,qV a p=false))/\AD b σ':=by
 simp only[List.all_cons,List.all_nil,Bool.and_true,BM]at N;obtain⟨f0,f1,f3⟩:=N;have G:=λ(i:Nat) (b:St)=>Hy [a] [ic a.p,sl ida (Z a.ts) (Ad a.ts)] i (EL.single ⟨ida,rfl⟩) (by simp;exact K) nk b;have P:=Fs (l:=[a]) (by simp;exact K);have O:AC (∀p,qV a p=(Cs [a]).all (Bm p.a.ts)):=λp=>rfl;generalize Cs [a]=vs at*
 simp only[BQ,CQ]at P G;have A:=EL.length Ex E;refine Z9 23 [.tmp 4] Tryz.func218 ?_;refine mr ?_
 refine Ae (λm s σ'=>∃i:Nat,m=Z L-i/\i<=Z L/\s 2=ptr b.B 0/\s 3=ptr (b.B+1) 0/\s 8=gx o (Z L) cap/\s 9=ic (Z L)/\s 10=ic i/\AD b σ'/\b.B+1<σ'.B/\σ'.C (b.B+1)=[ic a.p,sl ida (Z a.ts) (Ad a.ts)]/\AC (∀p∈L.take i,qV a p=false)) (Z L)
  ⟨0,AA,AA,AG,AG,AG,AG,rfl,Xs,BJ,?_,by simp[AC]⟩ ?_
 rw[Be AM AM];rintro m s σ' ⟨i,rfl,hi,T,U,X,Y,S,t,a5,I,k⟩;have a3:=t.B;by_cases D:i<Z L;have u:=AK D;obtain⟨id,c,r,z⟩:=F0 E u;have ak:=hL _ (AR D);generalize L[i]=w at z u ak;have F:σ'.C o=b.C o:=t.C o V;have ao:(σ'.C o).drop (i*3)=ic w.a.p::sl id (Z w.a.ts) (Ad w.a.ts)::sl c (Z w.A) (Fg w.A)::(r++(b.C o).drop (Z L*3)):=by
  rw[F]
  conv=>lhs;rw[<-KD (Z L*3) (b.C o),an]
  rw[NG (by rw[A];omega),z];rfl
 have ap:o≠σ'.B:=AA;have M:AC (qV a w=false->∀p∈L.take (i+1),qV a p=false):=λhw p B=>by
  rw[AT,u,BN]at B;rcases AW.1 B with h|h;exact k.o p h;simp at h;subst h;exact hw
 have H:AC (L[i]?=some w):=u;have J:=λ(i:Nat) (b:St)=>gV w.a.p id w.a.ts vs i AA AA b;rw[<-O.o w]at J;have a4:σ'.B≠o:=λe=>ap e.symm;clear u k F;refine mw ?_;intro h W;have ax:AD b ((σ'.new [ic 0,nilS,nilS]).put σ'.B [ic w.a.p,sl id (Z w.a.ts) (Ad w.a.ts),sl c (Z w.A) (Fg w.A)]):=(t.new _).put t.B _;have kv:∀p,p<σ'.B->((σ'.new [ic 0,nilS,nilS]).put σ'.B [ic w.a.p,sl id (Z w.a.ts) (Ad w.a.ts),sl c (Z w.A) (Fg w.A)]).C p=σ'.C p:=λp B=>by rw[Aj AA,Ah AA]
 generalize d:(σ'.new [ic 0,nilS,nilS]).put σ'.B [ic w.a.p,sl id (Z w.a.ts) (Ad w.a.ts),sl c (Z w.A) (Fg w.A)]=f at*
 have nb:f.B=σ'.B+1:=by rw[<-d];rfl
 have o6:f.C σ'.B=[ic w.a.p,sl id (Z w.a.ts) (Ad w.a.ts),sl c (Z w.A) (Fg w.A)]:=by rw[<-d,Ak]
 have o3:f.C (b.B+1)=[ic a.p,sl ida (Z a.ts) (Ad a.ts)]:=by rw[kv _ AA,I]
 clear d;refine A2 (Q:=λe j v=>e= .normal/\j 20=my (qV a w)/\j 2=ptr b.B 0/\j 3=ptr (b.B+1) 0/\j 5=ic i/\j 8=gx o (Z L) cap/\j 9=ic (Z L)/\j 10=ic i/\AD f v) ?_ ?_;refine Ar Ag (λ_=>True) [] [0,1,2] 3 (nv 6 7) AH (λ_ _ _ h=>by cases h.1) ?_;intro yb ya;refine Z3 ?_;refine ya.o _ ?_;clear ya yb;refine Ai (i:=3) AH ?_;refine Am ?_;intro yb ya;refine Z3 ?_;refine ya.o _ _ ⟨Al ((AD.refl _).lay 1),?_⟩;clear ya yb;refine Ai (i:=4) AH ?_;refine Am ?_;intro yb ya;refine Z3 ?_;refine AF.mono (G _ _) ?_;rintro _ σc ⟨⟨R,rfl⟩,y⟩;have knc:=y.B;refine Z3 ?_;refine ya.o _ _ ⟨Al (((AD.refl _).lay 1).trans y),?_⟩;clear ya yb;refine Ai (i:=5) AH ?_;refine Am ?_;intro yb ya;refine Z3 ?_;refine AF.mono (J _ _) ?_;rintro _ x ⟨rfl,q⟩;refine Z3 ?_;refine ya.o _ _ ⟨Al ((((AD.refl _).lay 1).trans y).trans q),?_⟩;clear ya yb;refine Aw AH ⟨rfl,AI,AI,AI,AI,AI,AI,AI,(((AD.refl _).lay 1).trans y).trans q⟩;rintro e j x ⟨rfl,g,g2,g3,g5,g8,g9,g10,q⟩;have aw:=ax.trans q;have knd:=q.B;have oe:x.C (b.B+1)=[ic a.p,sl ida (Z a.ts) (Ad a.ts)]:=by rw[q.C _ AA,o3]
 clear T U X Y S h W I z ao;cases n:qV a w with
 |true=>
  have C:AC (qV a w=true):=n;rw[n]at g;clear n;refine Cj g ?_;refine mr ?_
  first|exact⟨_,rfl,.inl ⟨i,w,rfl,H.o,C.o⟩⟩|exact⟨_,rfl,.inl ⟨i,w,rfl,H.o,C.o⟩,aw⟩
 |false=>
  have a0:AC (∀p∈L.take (i+1),qV a p=false):=M.o n;rw[n]at g;clear n M;refine De g ?_;refine mr ?_;refine⟨Z L-(i+1),AA,i+1,?_⟩;exact m9 a0
 have au:i=Z L:=AA;subst au;rw[AS]at k;refine mr ?_
 first|exact⟨_,rfl,.inr ⟨rfl,k.o⟩,t⟩|exact .inr ⟨rfl,k.o⟩|exact⟨_,rfl,.inr ⟨rfl,k.o⟩⟩
def PS (lo:Nat)(b:St)(x:AV)(n:Nat)(c:oh):Prop:=(x=nilS/\n=0/\c=[])\/∃o a,x=gx o n a/\0<n/\n<=a/\Z (b.C o)=a*3/\(b.C o).take (n*3)=c/\lo<=o/\o<b.B
def Dz {a:St}{p o c}(h:o≠p):(a.put p c).C o=a.C o:=by simp[St.put,h]
def PS.flat {lo a x n b}(h:PS lo a x n b):flat x=true:=by
 rcases h with⟨rfl,-,-⟩|⟨o,cap,rfl,-⟩<;>rfl
def PS.keep {lo a σ' x n b}(h:PS lo a x n b)(k:AD a σ'):PS lo σ' x n b:=by
 rcases h with h|⟨o,cap,h1,h2,h3,h4,h5,h6,h7⟩;exact .inl h;have:=k.C o h7;exact .inr ⟨o,cap,h1,h2,h3,by rw[this];exact h4,by rw[this];exact h5,h6,BZ h7 k.B⟩
def PS.put {lo a x n b}(h:PS lo a x n b){p}(d:p<lo)(c):PS lo (a.put p c) x n b:=by
 rcases h with h|⟨o,cap,h1,h2,h3,h4,h5,h6,h7⟩;exact .inl h;have:(a.put p c).C o=a.C o:=Dz AA;exact .inr ⟨o,cap,h1,h2,h3,by rw[this];exact h4,by rw[this];exact h5,h6,h7⟩
def wA {P t b l σ0 c i n lo x xs d K}(z:P0 P t=some (3,b,l))(e:Z l=3)(D:Z d=3)(y:d.all Abs.flat=true)(A:(n+1)*b<=140737488355328)(u:n+1<=1099511627776)
  (v:lo<=c.B) (C:σ0.B<=lo) (m:AD σ0 c) (k:PS lo c x n xs) (h:∀q σ',PS lo σ' q (n+1) (xs++d)->c.B<=σ'.B->(∀p,p<lo->σ'.C p=c.C p)->AD σ0 σ'->K q σ'):Jx P t t x (sl i 1 d) c K:=by
 refine WR (xs:=xs) z AA e AA y AA A u ?_ ?_ ?_;rcases k with h|⟨o,a,h1,h2,h3,h4,h5,-,-⟩;exact .inl h;exact .inr ⟨o,a,h1,h2,h3,h4,h5⟩;rintro o a r ⟨E,f,e2,rfl⟩ g j;rcases k with⟨rfl,-,-⟩|⟨o',cap',rfl,h2,h3,h4,h5,h6,h7⟩;simp at f;simp at f;obtain⟨rfl,rfl⟩:=f;refine h _ _ (.inr ⟨_,_,rfl,AA,e2,by rw[Ak];exact g,by rw[Ak];exact j,h6,h7⟩) (AU _) (λp B=>Dz AA) (m.put AA _);intro a r g s j;exact h _ _ (.inr ⟨_,_,rfl,AA,s,by rw[Ao];exact g,by rw[Ao];exact j,v,AM⟩) AM (λp B=>Ah AA) (m.new _)
def oK {P N c Q s σ0 a lo p j n b l x}(f:AD σ0 a)(y:σ0.B<=lo)(r:σ0.B<=p)(A:p<lo)(z:lo<=a.B)(m:PS lo a x n l)(g:a.C p=b)(d:b[j]?=some x)
  (h:∀(t:Nat) (σ':St),AD σ0 σ'->σ'.B=a.B->σ'.C p=b.set j (sl t n l)->(∀o,o<lo->o≠p->σ'.C o=a.C o)->Mn P N c Q s σ'):Mn P N c Q s a:=by
 rcases m with⟨rfl,rfl,rfl⟩|⟨o,cap,rfl,h2,h3,h4,h5,h6,h7⟩;refine h 1 a f rfl ?_ (λ_ _ _=>rfl);rw[g];apply FL;intro i;by_cases e:j=i;subst e;rw[List.getElem?_set_self (BA.1 d).1,d];rw[NH e];refine Zk (o:=o) (p:=p) (k:=n*3) h7 AA AA g d (by rw[h4];omega) ?_;rw[h5];exact h 0 _ ((f.put AA _).put r _) rfl Ak (λq v u=>by rw[Dz u,Dz AA])
def WB {l c a m}(b:a+Z c<=m)(h2:m<=Z l):(lsp l a c).take m=lsp (l.take m) a c:=by
 rw[Hw _ _ _ AA,Hw _ _ _ (by rw[CN];omega),List.take_take,ER AA,List.drop_take,List.take_append];rw[AX,CN,ER AA,FZ (by rw[AX,CN];omega)]
def SJ {α:Type}{E z}(f:∀a c,E a c->Z c=z):∀{l:List α} {cs:oh} {i:Nat} {a:α} {c:oh},EL E l cs->i<Z l->E a c->EL E (l.set i a) (lsp cs (i*z) c)
 |[],_,i,_,_,_,j,_=>by simp at j
 |b::l,cs,0,a,c,⟨d,r,m,k,e⟩,j,g=>by
  subst e;have n:=f _ _ m;have e2:=f _ _ g;refine⟨c,r,g,k,?_⟩;rw[KY,Hw _ _ _ (by simp;omega)];simp[show Z c=Z d by omega]
 |b::l,cs,i+1,a,c,⟨d,r,m,k,e⟩,j,g=>by
  subst e;have n:=f _ _ m;have e2:=f _ _ g;have p:=EL.length f k;have o:i<Z l:=nn j;have q:i*z+z<=Z r:=by rw[p,<-If];exact GW _ o
  refine⟨d,lsp r (i*z) c,m,SJ f k o g,?_⟩;rw[Hw c (d++r) _ (by rw[AX,If,n,e2];omega),Hw c r _ (by rw[e2];omega)];rw[If,<-n,Nat.add_comm (i*Z d),List.take_length_add_append,ID,List.drop_length_add_append];simp
def PS.set {lo b o a n i d c}(h:PS lo b (gx o n a) n d)(g:i<n)(f:Z c=3):PS lo (b.put o (lsp (b.C o) (i*3) c)) (gx o n a) n (lsp d (i*3) c):=by
 rcases h with⟨h,-,-⟩|⟨o',cap',e,h2,h3,h4,h5,h6,h7⟩;simp at h;simp at e;obtain⟨rfl,rfl⟩:=e;refine .inr ⟨o,a,rfl,h2,h3,by rw[Ak,L0];exact h4,?_,h6,h7⟩;rw[Ak,WB (by rw[f];omega) (by rw[h4];omega),h5]
def sF (lo h0 h1 h3)(c:([h0,h1,h3]:oh).all flat=true)(L)(e:∀p∈L,Z p.a.ts<=3)(b:Z L<=64)(X pc)(g:EL Oa L pc)(a ida)(f:Z a.ts<=3)(σ)(k:PS lo σ X (Z L) pc):ni 218 [ag [h0,h1,X,h3],ag [ic a.p,sl ida (Z a.ts) (Ad a.ts)]] σ λr σ'=>((∃(i:Nat) (p:Part),r=ic i/\L[i]?=some p/\qV a p=true)\/(r=ic (-1)/\∀p∈L,qV a p=false))/\AD σ σ':=by
 rcases k with⟨rfl,j,-⟩|⟨o,cap,rfl,h2,hc,h4,h5,h6,h7⟩;refine AF.mono (oC h0 h1 h3 c a ida σ) ?_;rintro r σ' ⟨rfl,d⟩;have:L=[]:=GG j;subst this;exact⟨.inr ⟨rfl,nk⟩,d⟩;exact oB h0 h1 h3 c L e b o cap pc g a ida f σ h7 hc h4 h5
structure FP (neg:Int->Ck->Prop)(q:AZ)(k:Nat)(L:List Part)(Nn:List Dx):Prop where
 atm:L.map (·.a)=q.A.map (·.a)
 sub:∀p∈L,∃p0∈q.A,p.a=p0.a/\p.A.Sublist p0.A
 nsub:Nn.Sublist (q.B.take k)
 uns:∀a∈Nn,Jz a.ts=false
 sol:∀ν,((∀p∈q.A,B8 p.a ν∈p.A)/\∀a∈q.B.take k,¬neg a.p (B8 a ν))↔((∀p∈L,B8 p.a ν∈p.A)/\∀a∈Nn,¬neg a.p (B8 a ν))
def FP.start (neg q):FP neg q 0 q.A []:=
 ⟨rfl,λp a=>⟨p,a,rfl,MF _⟩,nk,nk,λb=>nk⟩
def I0 {α:Type}{l:List α}{k a}(h:l[k]?=some a):l.take (k+1)=l.take k++[a]:=by rw[AT,h,BN]
def FP.keepN {neg q k L e a}(h:FP neg q k L e)(d:q.B[k]?=some a)(g:Jz a.ts=false):FP neg q (k+1) L (e++[a]):=by
 refine⟨h.atm,h.sub,by rw[I0 d];exact h.nsub.append (MF _),λb c=>?_,λf=>?_⟩;rcases AW.1 c with c|c;exact h.uns b c;simp at c;subst c;exact g;have:=h.sol f;rw[I0 d];simp only[AW,FY,or_imp,forall_and,forall_eq];rw[<-and_assoc,this,and_assoc]
def FP.drop {neg q k L c a}(h:FP neg q k L c)(b:q.B[k]?=some a)(d:∀ν,¬neg a.p (B8 a ν)):FP neg q (k+1) L c:=by
 refine⟨h.atm,h.sub,by rw[I0 b];exact h.nsub.trans (List.sublist_append_left _ _),h.uns,λν=>?_⟩;have:=h.sol ν;rw[I0 b];simp only[AW,FY,or_imp,forall_and,forall_eq];rw[<-and_assoc,this];exact and_iff_left (d ν)
def FP.bar {neg q k i L s a p l}(h:FP neg q k L s)(u:q.B[k]?=some a)(j:L[i]?=some p)(C:Z p.a.ts<=3)(H:qV a p=true)(I:∀t,neg a.p t↔t∈l):FP neg q (k+1) (L.set i (Qp l a p)) s:=by
 have A:=(BA.1 j).1;have v:=AY j;refine⟨?_,λb f=>?_,by rw[I0 u];exact h.nsub.trans (List.sublist_append_left _ _),h.uns,λd=>?_⟩;rw[<-h.atm];apply FL;intro n;rw[DC,DC];by_cases e:i=n;subst e;rw[List.getElem?_set_self A,j];rfl;rw[NH e];rcases NI f with o|rfl;exact h.sub b o;obtain⟨G,c,m,D⟩:=h.sub p v;exact⟨G,c,m,LD.trans D⟩;have E:=h.sol d;rw[I0 u];simp only[AW,FY,or_imp,forall_and,forall_eq];rw[<-and_assoc,E,I];have B:=ZQ (l:=l) (a:=a) (p:=p) (ν:=d) C (JR.1 H);have F:(∀b∈L.set i (Qp l a p),B8 b.a d∈b.A)↔(∀b∈L,B8 b.a d∈b.A)/\B8 a d∉l:=by
  constructor;intro g;have c:=B.1 (g (Qp l a p) (List.mem_set A _));refine⟨λb f=>?_,c.2⟩;obtain⟨n,r⟩:=CL f;by_cases e:i=n;subst e;rw[j]at r;cases r;exact c.1;exact g b (AY (by rw[NH e];exact r));rintro⟨c,m⟩ b f;rcases NI f with o|rfl;exact c b o;exact B.2 ⟨c p v,m⟩
 rw[F];constructor;rintro⟨⟨x,y⟩,z⟩;exact⟨⟨x,z⟩,y⟩;rintro⟨⟨x,z⟩,y⟩;exact⟨⟨x,y⟩,z⟩
structure Tz (q:AZ):Prop where
 ok:Qt q
 n:QN q
 w:WP q
 wf:pA q
def EA.ok {q a}(h:EA q a)(d:Qt q):Qt a/\a.B=q.B/\∀p∈a.A,p∈q.A:=by
 induction h with
 |refl=>exact⟨d,rfl,λp b=>b⟩
 |tail h c=>exact⟨kF c.1,c.2.1,λp b=>c.2.2 p (List.mem_of_mem_eraseP b)⟩
def XW {q a}(h:CF q a)(e:pA q):pA a:=λv b=>by
 obtain⟨k,e2,c⟩:=h.atoms;rw[e2,c]at b;obtain⟨p,f,i⟩:=e v b;have:p.a∈a.A.map (·.a):=by rw[k];exact AN.2 ⟨p,f,rfl⟩
 obtain⟨d,j,g⟩:=AN.1 this;exact⟨d,j,by rw[g];exact i⟩
def FP.fin {neg q L o}(h:FP neg q (Z q.B) L o)(d:Tz q):Tz ⟨q.h,L,o⟩/\GP neg q ⟨q.h,L,o⟩:=by
 have r:∀a∈o,a∈q.B:=λa b=>by
  have:=h.nsub.subset b;rwa[AS]at this
 have u:=h.sol;rw[AS]at u;have y:∀p∈q.A,∃l∈L,l.a=p.a:=λp c=>by
  have:p.a∈L.map (·.a):=by rw[h.atm];exact AN.2 ⟨p,c,rfl⟩
  obtain⟨l,x,s⟩:=AN.1 this;exact⟨l,x,s⟩
 refine⟨⟨⟨d.ok.hd,?_,?_,λp c=>?_,λp c=>?_,λp c=>?_,λa b=>d.ok.na a (r a b)⟩,λp c t k=>?_,λp c=>?_,λv m=>?_⟩,rfl,λa b=>?_,λn j=>(u n).1 j,λn j=>⟨n,(u n).2 j,λ_ _=>rfl⟩⟩;have:=congrArg List.length h.atm;simp at this;rw[this];exact d.ok.pl;have:=h.nsub.length_le;rw[AS]at this;exact BI this d.ok.nl;obtain⟨e,f,i,g⟩:=h.sub p c;rw[i];exact d.ok.pa e f;obtain⟨e,f,i,g⟩:=h.sub p c;exact BI g.length_le (d.ok.pt e f);obtain⟨e,f,i,g⟩:=h.sub p c;exact λt k=>d.ok.p3 e f t (g.subset k);obtain⟨e,f,i,g⟩:=h.sub p c;rw[i];exact d.n e f t (g.subset k);obtain⟨e,f,i,g⟩:=h.sub p c;rw[i];exact⟨(d.w e f).1,λt k=>(d.w e f).2 t (g.subset k)⟩
 obtain⟨p,c,z⟩:=d.wf v (by
  rcases m with m|⟨a,b,m⟩;exact .inl m
  exact .inr ⟨a,r a b,m⟩)
 obtain⟨l,x,s⟩:=y p c;exact⟨l,x,by rw[s];exact z⟩;unfold atomsQ at b⊢;simp only[BD,AW]at b⊢;rcases b with b|b|b;exact .inl b;rw[h.atm]at b;exact .inr (.inl b);exact .inr (.inr (r a b))
def PS.gx {lo b x n c}(h:PS lo b x n c)(d:0<n):∃o a,x=Abs.gx o n a/\lo<=o/\o<b.B/\Z (b.C o)=a*3/\n<=a/\(b.C o).take (n*3)=c:=by
 rcases h with⟨-,h,-⟩|⟨o,a,h1,h2,h3,h4,h5,h6,h7⟩;omega;exact⟨o,a,h1,h6,h7,h4,h3,h5⟩
def BO (neg:Int->Ck->Prop)(M:MM)(q:AZ):Prop:=∀a∈q.B,∃(k:Nat) (x:Nat×List Ck),a.p=(k:Int)/\M[k]?=some x/\∀t,neg a.p t↔t∈x.2
def lp (neg:Int->Ck->Prop)(q:AZ)(x:AV):Prop:=∃b,(x=tp [ag b,my false]/\Z b=4/\b.all flat=true/\∀d,¬Mq neg q d)\/∃c,x=tp [ag b,my true]/\EQ c b/\Tz c/\NE c/\GP neg q c/\∀a∈c.B,a∈q.B/\Jz a.ts=false
def eR (neg q c om ot M d b)(hc:EQ q c)(hA:Tz q)(dw:BO neg M q)(f)(hM:BL f om ot M d b):ni 186 [ptr om 0,ag c] f λr σ'=>lp neg q r/\AD f σ':=by
 obtain⟨T,ip,inn,pc,nc,rfl,hP,cp⟩:=hc;have hpl:=EL.length Ex hP;have d6:=EL.length Iz cp;have hl:=hA.ok.pl;have ea:=hA.ok.nl;have dh:=hA.ok.na;have HM:AC (BL f om ot M d b):=hM;clear hM;refine Z9 86 [.cell 4 191,.tmp 5] Tryz.func186 ?_;refine mr ?_
 refine Ae (λm s σ'=>∃(i:Nat) (X:AV) (z:oh),m=Z q.A-i/\i<=Z q.A/\s 0=ptr om 0/\s 3=ptr f.B 0/\s 4=ptr (f.B+1) 0/\s 6=ptr (f.B+2) 0/\s 18=sl ip (Z q.A) pc/\s 19=ic (Z q.A)/\s 20=ic i/\AD f σ'/\f.B+2<σ'.B/\σ'.C f.B=[ic q.h.p,sl T (Z q.h.ts) (Ad q.h.ts),sl ip (Z q.A) pc,sl inn (Z q.B) nc]/\σ'.C (f.B+1)=[ic 0,nilS,nilS,nilS]/\σ'.C (f.B+2)=[ic q.h.p,sl T (Z q.h.ts) (Ad q.h.ts),X,nilS]/\PS (f.B+3) σ' X i z/\AC (EL Oa (q.A.take i) z)) (Z q.A)
  ⟨0,nilS,[],AA,AA,by simp[upd,AL],AG,AG,AG,AG,AG,rfl,Xs,BJ,?_,?_,?_,.inl ⟨rfl,rfl,rfl⟩,rfl⟩ ?_
 ·rw[Aj AA,Ah AM,Ah AM,Ao]
 ·rw[Aj AA,Ah AM,Be AM AM]
 ·rw[show f.B+2=f.B+1+1 from rfl,Ak]
 rintro m s σ' ⟨i,X,z,rfl,hi,h0,h3,h4,h6,d3,d2,d1,D,az,cz,U,V,O,hE⟩;have a8:=D.B;have ci:=O.flat;by_cases av:i<Z q.A
 ·have J:=AK av;obtain⟨id,Y,r,hd⟩:=F0 hP J;generalize q.A[i]=w at hd J;have HX:AC (EL Oa (q.A.take (i+1)) (z++[ic w.a.p,sl id (Z w.a.ts) (Ad w.a.ts),sl Y (Z w.A) (Fg w.A)])):=by
   rw[AC,AT,J,BN];exact EL.append hE.o (EL.single ⟨id,Y,rfl⟩)
  clear J hE;refine nh ?_;intro yb ya;refine wA (lo:=f.B+3) (σ0:=f) (by first|exact F5|exact Ee) (by rfl) (by rfl) (by rfl) AA AA (by simp only[Az,Ac,Aa];omega) AA (((D.new _).put D.B _).lay 1) (O.keep ((((AD.refl _).new _).put (AU _) _).lay 1)) ?_;intro X' σn cn di ba am;simp only[Az,Ac,Aa]at di;have eob:∀p,p<f.B+3->σn.C p=σ'.C p:=λp F=>by rw[ba p F,H6,Aj AA,Ah AA]
  obtain⟨og,cg,rfl,-⟩:=cn.gx AA;clear ba O;refine Z3 ?_;refine mr ?_;refine⟨Z q.A-(i+1),AA,i+1,gx og (i+1) cg,z++[ic w.a.p,sl id (Z w.a.ts) (Ad w.a.ts),sl Y (Z w.A) (Fg w.A)],?_⟩
  ((repeat' refine Zi ?_ ?_)<;>first|exact Xq|exact (am.put AA _)|exact (cn.put AA _)|exact HX|exact Xs)
 have dl:i=Z q.A:=AA;subst dl;rw[AS]at hE;have ds:=hA.ok.pa;have bg:=hA.ok.pt;have dt:=hA.ok.p3;have ca:AC (EL Oa q.A z/\EL O9 [] []/\FP neg q 0 q.A []):=⟨hE.o,rfl,FP.start neg q⟩;clear hE hi;refine mr ?_
 refine Ae (λm s σ'=>∃(k I:Nat) (X:AV) (L:List Part) (v:List Dx) (z g:oh),m=Z q.B-k/\k<=Z q.B/\s 0=ptr om 0/\s 4=ptr (f.B+1) 0/\s 6=ptr (f.B+2) 0/\s 32=sl inn (Z q.B) nc/\s 33=ic (Z q.B)/\s 34=ic k/\AD f σ'/\f.B+2<σ'.B/\σ'.C (f.B+1)=[ic 0,nilS,nilS,nilS]/\σ'.C (f.B+2)=[ic q.h.p,sl T (Z q.h.ts) (Ad q.h.ts),X,sl I (Z v) g]/\PS (f.B+3) σ' X (Z L) z/\Own f σ' I (Z v)/\Z g=Z v*2/\Z v<=k/\Z L<=64/\AC (EL Oa L z/\EL O9 v g/\FP neg q k L v)) (Z q.B)
  ⟨0,1,X,q.A,[],z,[],AA,AA,AI,AI,AI,AI,AI,AG,D,az,U,V,O,Own.nil _ _,nk,nk,hl,ca⟩ ?_
 clear h0 h3 h4 h6 d3 d2 d1 D az cz U V O ci a8 av ca;rintro m s σ' ⟨k,I,X,L,v,z,g,rfl,hk,h0,h4,h6,d0,cw,cv,D,az,U,V,O,hO,de,ee,hLl,A⟩;have a8:=D.B;have ci:=O.flat;by_cases av:k<Z q.B
 ·have J:=AK av;obtain⟨K,r,hd⟩:=Ke cp J;have W:=AR av;have bq:=dh _ W;obtain⟨ka,x,bd,hx,b2⟩:=dw _ W;generalize q.B[k]=a at hd J W bq bd b2;have cq:∀p∈L,Z p.a.ts<=3/\Z p.A<=5000/\T3 p.A:=λp F=>by
   obtain⟨p0,g1,g2,g3⟩:=A.o.2.2.sub p F;exact⟨by rw[g2];exact ds p0 g1,BI g3.length_le (bg p0 g1),λt ht=>dt p0 g1 t (g3.subset ht)⟩
  have HG:AC (q.B[k]?=some a/\a∈q.B/\a.p=(ka:Int)/\M[ka]?=some x/\∀t,neg a.p t↔t∈x.2):=⟨J,W,bd,hx,b2⟩;have bg:=λ(y:St) (hh:PS (f.B+3) y X (Z L) z)=>sF (f.B+3) (ic q.h.p) (sl T (Z q.h.ts) (Ad q.h.ts)) (sl I (Z v) g) rfl L (λp F=>(cq p F).1) hLl X z A.o.1 a K bq y hh;have bf:=λ(y:St)=>Pq a.p K a.ts AA y;have ct:=λ(y:St) (hh:AD f y)=>Jq om ot M d b a K ka x bq bd hx y (HM.o.keep hh);have bm:=λ(p:Part) (E N:Nat) (g1:Z p.a.ts<=3) (g2:Z p.A<=5000) (g3:T3 p.A) (y:St) (hh:AD f y)=>gY om ot M d b p a E N K ka x g1 g2 g3 bq bd hx y (HM.o.keep hh);have ay:AC _:=bm;clear J W bd hx b2 bm
  repeat' first|refine Z1 ?_|refine Z8 λyb ya=>?_|refine Z4 ?_;clear ya yb|refine Z2 ?_ ?_<;>intro h ae<;>try exact Xp|refine Z6 ?_;intro u σn ao am af aa ah ab|(refine Z5 ?_;refine Xi (bg _ (O.keep (((AD.refl _).new _).put (AU _) _))) ?_;rintro _ _ ⟨(⟨i,p,rfl,F,cc⟩|⟨rfl,d5⟩),C⟩)|refine Z3 ?_|exact Zt|apply ya.o;clear ya yb
  ·rename_i l;have ak:=C.B;have G:=C.C;simp only[Ac,Aa]at ak G;have bv:=((D.new _).put D.B _).trans C;have S:=G σ'.B AA;rw[Ak]at S;have hi:i<Z L:=(BA.1 F).1;obtain⟨cd,b0,db⟩:=cq p (AY F);have be:=(O.keep (((AD.refl _).new _).put (AU _) _)).keep C;obtain⟨o,P,rfl,d9,ch,ck,ed,b9⟩:=be.gx AA;obtain⟨E,N,rp,cj⟩:=F0 A.o.1 F;have b6:=EL.length Ex A.o.1;have dd:(l.C o).drop (i*3)=ic p.a.p::sl E (Z p.a.ts) (Ad p.a.ts)::sl N (Z p.A) (Fg p.A)::(rp++(l.C o).drop (Z L*3)):=by
    conv=>lhs;rw[<-KD (Z L*3) (l.C o),b9]
    rw[NG (by rw[b6];omega),cj];rfl
   have o6:l.C (f.B+2)=[ic q.h.p,sl T (Z q.h.ts) (Ad q.h.ts),gx o (Z L) P,sl I (Z v) g]:=by rw[G _ AA,Aj AA,Ah AA,V]
   have o4:l.C (f.B+1)=[ic 0,nilS,nilS,nilS]:=by rw[G _ AA,Aj AA,Ah AA,U]
   have br:Own f l I (Z v):=Own.keep (Own.put (Own.new hO _) _ _) C;have cu:=ay.o p E N cd b0 db;have a0:AC (∀u,EL Oa (L.set i (Qp x.2 a p)) (lsp z (i*3) [ic p.a.p,sl E (Z p.a.ts) (Ad p.a.ts),sl u (Z (Qp x.2 a p).A) (Fg (Qp x.2 a p).A)])/\EL O9 v g/\FP neg q (k+1) (L.set i (Qp x.2 a p)) v):=λu=>⟨SJ Ex A.o.1 hi ⟨E,u,rfl⟩,A.o.2.1,A.o.2.2.bar HG.o.1 F cd cc HG.o.2.2.2.2⟩;have ec:i*3+3<=P*3:=AA;have dc:o≠f.B+2:=AA;have b1:o≠f.B+1:=AA;clear b9 cj b6 ay A U V O bg bf ct G D az hO cc F h ae;generalize Qp x.2 a p=bp at*
   refine A2 (Q:=λe s' B=>e= .normal/\s' 0=ptr om 0/\s' 4=ptr (f.B+1) 0/\s' 6=ptr (f.B+2) 0/\s' 32=sl inn (Z q.B) nc/\s' 33=ic (Z q.B)/\s' 34=ic k/\AD f B/\f.B+2<B.B/\B.C (f.B+1)=[ic 0,nilS,nilS,nilS]/\B.C (f.B+2)=[ic q.h.p,sl T (Z q.h.ts) (Ad q.h.ts),gx o (Z L) P,sl I (Z v) g]/\Own f B I (Z v)/\∃u,PS (f.B+3) B (gx o (Z L) P) (Z L) (lsp z (i*3) [ic p.a.p,sl E (Z p.a.ts) (Ad p.a.ts),sl u (Z bp.A) (Fg bp.A)])) ?_ ?_
   ·refine Ar Ag (λ_=>True) [12] [0,1,2,3,4,5,6,7,8,9] 3 (nv 13 1023) AH (λ_ _ _ h=>by cases h.1) ?_;intro yb ya;refine Z3 ?_;refine ya.o _ ?_;clear ya yb;refine Ai (i:=10) AH ?_;refine Am ?_;intro yb ya;refine Z3 ?_;refine AF.mono (cu _ bv) ?_;rintro _ σ5 ⟨⟨u,rfl⟩,R⟩;have knb:=R.B;have bn:=R.C;have dm:Z (σ5.C o)=P*3:=by rw[bn o ch,ck]
    refine Z3 ?_;refine ya.o _ _ ⟨Al R,?_⟩;clear ya yb;refine Ai (i:=11) AH ?_;refine Am ?_;intro yb ya;refine Z3 ?_;refine ya.o _ _ ⟨Al R,?_⟩;clear ya yb;refine Ai (i:=12) AH ?_;refine Am ?_;intro yb ya;refine Z3 ?_;refine ya.o _ _ ⟨A3 rfl,?_⟩;clear ya yb;refine Aw AH ⟨rfl,AI,AI,AI,AI,AI,AI,(bv.trans R).put AA _,by simp only[Ac];omega,by rw[Dz b1.symm,bn _ AA,o4],by rw[Dz dc.symm,bn _ AA,o6],Own.put (Own.keep br R) _ _,u,by rw[<-bn o ch];exact PS.set (c:=[ic p.a.p,sl E (Z p.a.ts) (Ad p.a.ts),sl u (Z bp.A) (Fg bp.A)]) (be.keep R) hi rfl⟩
   rintro e s2 σ3 ⟨rfl,g0,g4,g6,g32,g33,g34,ef,d8,oc1,oc2,hOc,u,dr⟩;have cx:=a0.o u;have d4:AC _:=cx;clear h0 h4 h6 d0 cw cv be br o6 o4 dd a0 cx cu ck S;refine mr ?_;refine⟨Z q.B-(k+1),AA,k+1,I,gx o (Z L) P,L.set i bp,v,lsp z (i*3) [ic p.a.p,sl E (Z p.a.ts) (Ad p.a.ts),sl u (Z bp.A) (Fg bp.A)],g,?_⟩
   ((repeat' refine Zi ?_ ?_)<;>first|exact Xq|exact (by rw[LC];exact dr)|exact (by rw[LC];exact hLl)|exact d4|exact hOc|exact Xs)
  rename_i l;have ak:=C.B;have G:=C.C;simp only[Ac,Aa]at ak G;have bv:=((D.new _).put D.B _).trans C;have S:=G σ'.B AA;rw[Ak]at S;have o6:l.C (f.B+2)=[ic q.h.p,sl T (Z q.h.ts) (Ad q.h.ts),X,sl I (Z v) g]:=by rw[G _ AA,Aj AA,Ah AA,V]
  have o4:l.C (f.B+1)=[ic 0,nilS,nilS,nilS]:=by rw[G _ AA,Aj AA,Ah AA,U]
  have br:Own f l I (Z v):=Own.keep (Own.put (Own.new hO _) _ _) C;have be:=(O.keep (((AD.refl _).new _).put (AU _) _)).keep C;clear ay U V O bg G D hO C
  repeat' first|refine Z1 ?_|refine Z8 λyb ya=>?_|refine Z4 ?_;clear ya yb|refine Z2 ?_ ?_<;>intro h ae<;>try exact Xp|refine Z6 ?_;intro u σn ao am af aa ah ab|(refine Z5 ?_;first|(refine Xi (bf _) ?_;rintro _ _ ⟨rfl,R⟩;(have c6:=R.B;have aw:=R.C;have cr:=bv.trans R;have o11:=aw σ'.B AA;rw[S]at o11;have o12:=aw (f.B+2) AA;rw[o6]at o12;have o13:=aw (f.B+1) AA;rw[o4]at o13;have dv:=Own.keep br R;have cm:=be.keep R))|(refine Xi (ct _ cr) ?_;rintro _ _ ⟨rfl,bi⟩;(have c5:=bi.B;have bw:=bi.C;have dz:=cr.trans bi)))|refine Z3 ?_|exact Zt|apply ya.o;clear ya yb
  ·have a0:AC (EL Oa L z/\EL O9 (v++[a]) (g++[ic a.p,sl K (Z a.ts) (Ad a.ts)])/\FP neg q (k+1) L (v++[a])):=⟨A.o.1,EL.append A.o.2.1 (EL.single ⟨K,rfl⟩),A.o.2.2.keepN HG.o.1 nu⟩;have dn:PS (f.B+3) σn X (Z L) z:=by
    have:=cm;unfold PS at this⊢;rw[af,aa];exact this
   refine⟨Z q.B-(k+1),AA,k+1,u,X,L,v++[a],z,g++[ic a.p,sl K (Z a.ts) (Ad a.ts)],?_⟩
   ((repeat' refine Zi ?_ ?_)<;>first|exact Xq|exact (am.put AA _)|exact (dn.put AA _)|exact (nn (Own.put ao _ _))|exact a0|exact Xs)
  ·have bz:Jz a.ts=true:=nu
   exact⟨_,rfl,⟨_,.inl ⟨rfl,rfl,rfl,λν hν=>hν.2 a HG.o.2.1 ((HG.o.2.2.2.2 _).2 (by rw[Rf bz];simpa using h))⟩⟩,dz.put AA _⟩
  have bz:Jz a.ts=true:=nu
  have a0:AC (EL Oa L z/\EL O9 v g/\FP neg q (k+1) L v):=⟨A.o.1,A.o.2.1,A.o.2.2.drop HG.o.1 (λν hn=>by
   have:=(HG.o.2.2.2.2 _).1 hn;rw[Rf bz]at this
   simp[this]at h)⟩
  refine⟨Z q.B-(k+1),AA,k+1,I,X,L,v,z,g,?_⟩
  ((repeat' refine Zi ?_ ?_)<;>first|exact Xq|exact (cm.keep bi)|exact (Own.keep dv bi)|exact a0|exact (by rw[bw _ AA];assumption)|exact Xs)
 have dj:k=Z q.B:=AA;subst dj;obtain⟨ax,dq⟩:=A.o.2.2.fin hA;have HU:AC (∀a∈v,a∈q.B/\Jz a.ts=false):=λa ha=>⟨by have:=A.o.2.2.nsub.subset ha;rwa[AS]at this,A.o.2.2.uns a ha⟩;refine oK (lo:=f.B+3) (p:=f.B+2) (j:=2) D AA AA AA AA O V rfl ?_;intro H σf b4 d7 obf ce;have obf2:σf.C (f.B+2)=[ic q.h.p,sl T (Z q.h.ts) (Ad q.h.ts),sl H (Z L) z,sl I (Z v) g]:=obf;have o1f:σf.C (f.B+1)=[ic 0,nilS,nilS,nilS]:=by rw[ce _ AA AA,U]
 have df:f.B+2<σf.B:=AA;have bh:=λf=>yV ⟨q.h,L,v⟩ [ic q.h.p,sl T (Z q.h.ts) (Ad q.h.ts),sl H (Z L) z,sl I (Z v) g] ⟨T,H,I,z,g,rfl,A.o.1,A.o.2.1⟩ ax.ok ax.n f;clear O U V D A hO de hk ce obf az av a8;have a8:=b4.B;refine m0 ?_;intro yb ya;refine Xi (bh _) ?_;rintro _ _ ⟨⟨_,n,qp,rfl,⟨ih1,H,in1,pc1,nc1,rfl,b3,dy⟩,n1,n2,n3,n4⟩,C⟩;(have N3:AC (n=pH qp (Cs (atomsQ qp))):=n3;clear n3;have ak:=C.B;have G:=C.C;have bu:=b4.trans C);refine mr ?_;rename_i y;have o1:y.C (f.B+1)=[ic 0,nilS,nilS,nilS]:=by rw[G _ AA,o1f]
 have b7:WP n:=n2.wp ax.w;have bo:Qt n:=n2.ok ax.ok;have cf:QN n:=n2.n ax.n;have bb:n.B=v:=n2.atoms.2.2;have cb:GP neg q n:=dq.trans (n2.red ax.w);have a9:pA n:=XW n2 ax.wf;have bc:NM n:=by
  obtain⟨g1,g2⟩:=(lJ (Cs (atomsQ qp)) qp).2 (by rw[<-N3.o];exact n4);rw[N3.o,g1];exact ft g2
 have b5:AC (WP n/\Qt n/\QN n/\n.B=v/\GP neg q n/\pA n/\NM n):=⟨b7,bo,cf,bb,cb,a9,bc⟩;clear b7 cf bb cb a9 bc n1 n2 N3 n4 G C bh;have eb:=bo.pl;have c8:=bo.pt;clear bo;have da:=EL.length Ex b3
 refine Ae (λm s l=>∃j:Nat,m=Z n.A-j/\j<=Z n.A/\s 4=ptr (f.B+1) 0/\s 6=ptr (f.B+2) 0/\s 72=sl H (Z n.A) pc1/\s 73=ic (Z n.A)/\s 74=ic j/\AD f l/\f.B+2<l.B/\l.C (f.B+1)=[ic 0,nilS,nilS,nilS]/\l.C (f.B+2)=[ic n.h.p,sl ih1 (Z n.h.ts) (Ad n.h.ts),sl H (Z n.A) pc1,sl in1 (Z n.B) nc1]/\AC (∀p∈n.A.take j,p.A≠[])) (Z n.A)
  ⟨0,AA,AA,AI,AI,AG,AG,rfl,bu.put AA _,by simp only[Ac];omega,by rw[Aj AA,o1],by rw[Ak],by simp[AC]⟩ ?_
 clear h4 h6 cw cv o1 bu ak b4;rintro m s l ⟨j,rfl,hj,h4,h6,ei,eh,eg,D,az,U,V,hJ⟩;have a8:=D.B;by_cases av:j<Z n.A
 ·have J:=AK av;obtain⟨id,Y,r,hd⟩:=F0 b3 J;have W:=AR av;have c7:=c8 _ W;generalize n.A[j]=w at hd J W c7;by_cases he:w.A=[]
  ·have b8:Z w.A=0:=by rw[he];rfl
   have HF:AC (∀ν,¬Mq neg q ν):=λν hν=>by
    have h1:=(b5.o.2.2.2.2.1.to ν hν).1 w W;rw[he]at h1;cases h1
   have hb:((Z w.A:Int)==0)=true:=by rw[b8];rfl
   clear J b8 he hJ;refine mr ?_;exact⟨_,rfl,⟨_,.inl ⟨rfl,rfl,rfl,HF.o⟩⟩,((D.new _).put D.B _).put AA _⟩
  have hb:((Z w.A:Int)==0)=false:=by
   have:Z w.A≠0:=λh=>he (GG h);simp;exact he
  have HJ:AC (∀p∈n.A.take (j+1),p.A≠[]):=by
   rw[AC,AT,J,BN];intro p F;rcases AW.1 F with h|h
   ·exact hJ.o p h
   simp at h;subst h;exact he
  clear J he hJ;refine mr ?_;refine⟨Z n.A-(j+1),AA,j+1,?_⟩;exact m9 HJ
 have dk:j=Z n.A:=AA;subst dk;rw[AS]at hJ;obtain⟨a1,a2,a3,a4,a5,a6,a7⟩:=b5.o;have dp:=λf=>sD n _ ⟨ih1,H,in1,pc1,nc1,rfl,b3,dy⟩ a2 f;have cy:AC (NE n):=hJ.o;clear a1 a2 a3 a4 a5 a6 a7 hJ;refine m0 ?_;intro yb ya;refine Xi (dp _) ?_;rintro _ _ ⟨⟨_,q2,rfl,⟨ih2,ip2,in2,pc2,nc2,rfl,du,dx⟩,c9,hR2⟩,C⟩;(have ak:=C.B;have G:=C.C;have bu:=D.trans C);refine mr ?_;obtain⟨a1,a2,a3,a4,a5,a6,a7⟩:=b5.o;obtain⟨t1,t2,t3⟩:=hR2.red (neg:=neg) a1 cy.o a7;obtain⟨-,u2,u3⟩:=hR2.ok a2;exact⟨_,rfl,⟨_,.inr ⟨q2,rfl,⟨ih2,ip2,in2,pc2,nc2,rfl,du,dx⟩,⟨c9,λp F=>a3 p (u3 p F),λp F=>a1 p (u3 p F),t3 a6⟩,λp F=>cy.o p (u3 p F),a5.trans t1,λa ha=>HU.o a (by rw[<-a4,<-u2];exact ha)⟩⟩,bu.put AA _⟩
def Nf (v n p):Z (Iv v n p).a.ts=Z p.a.ts/\Z (Iv v n p).A<=Z p.A/\∀t∈(Iv v n p).A,t∈p.A:=by
 unfold Iv;split;exact⟨by simp[Bt],IS _ _,λt a=>(BP.1 a).1⟩;exact⟨rfl,AU _,λt a=>a⟩
def GE {v n p w}:Bm (Iv v n p).a.ts w=true↔Bm p.a.ts w=true/\w≠v:=by
 unfold Iv;by_cases h:Bm p.a.ts v=true;rw[if_pos h];exact CP (a:=p.a);rw[if_neg h];exact⟨λb=>⟨b,λe=>h (e ▸ b)⟩,λb=>b.1⟩
def Vg {q v n w}(h:FA (Dl v n q) w):FA q w/\w≠v:=by
 obtain⟨a,c,d⟩:=h;unfold atomsQ Dl at c;simp only[BD,AW,AN]at c;rcases c with rfl|⟨p',⟨p,hp,rfl⟩,rfl⟩|⟨b,hb,rfl⟩;have:=CP.1 d;exact⟨⟨q.h,by simp[atomsQ],this.1⟩,this.2⟩;have:=GE.1 d;exact⟨⟨p.a,Lv hp,this.1⟩,this.2⟩;have:=CP.1 d;exact⟨⟨b,by simp[atomsQ,hb],this.1⟩,this.2⟩
def lQ {q v n}(h:Tz q):Tz (Dl v n q):=by
 have i:∀p∈(Dl v n q).A,∃b∈q.A,Iv v n b=p:=λp d=>AN.1 d;have k:∀a∈(Dl v n q).B,∃e∈q.B,Gg v n e=a:=λa f=>AN.1 f;refine⟨⟨by simp[Dl,Gg,Bt];exact h.ok.hd,by simp[Dl];exact h.ok.pl,by simp[Dl];exact h.ok.nl,λp d=>?_,λp d=>?_,λp d=>?_,?_⟩,λp d t j=>?_,gj h.w,λw g=>?_⟩;obtain⟨b,c,rfl⟩:=i p d;rw[(Nf v n b).1];exact h.ok.pa b c;obtain⟨b,c,rfl⟩:=i p d;exact BI (Nf v n b).2.1 (h.ok.pt b c);obtain⟨b,c,rfl⟩:=i p d;exact λt j=>h.ok.p3 b c t ((Nf v n b).2.2 t j);intro a f;obtain⟨e,c,rfl⟩:=k a f;simp[Gg,Bt];exact h.ok.na e c;obtain⟨b,c,rfl⟩:=i p d;rw[(Nf v n b).1];exact h.n b c t ((Nf v n b).2.2 t j);have l:(Bm q.h.ts w=true\/∃a∈q.B,Bm a.ts w=true)/\w≠v:=by
  rcases g with g|⟨a,f,g⟩;have:=CP.1 g;exact⟨.inl this.1,this.2⟩;obtain⟨e,c,rfl⟩:=k a f;have:=CP.1 g;exact⟨.inr ⟨e,c,this.1⟩,this.2⟩
 obtain⟨p,d,m⟩:=h.wf w l.1;exact⟨Iv v n p,AN.2 ⟨p,d,rfl⟩,GE.2 ⟨m,l.2⟩⟩
def Na {q d}(h:Tz q)(i:Z d.h.ts<=3)(c:d.A.Sublist q.A)(e:d.B.Sublist q.B)(g:pA d):Tz d:=
 ⟨⟨i,BI c.length_le h.ok.pl,BI e.length_le h.ok.nl,λp b=>h.ok.pa p (c.subset b),λp b=>h.ok.pt p (c.subset b),λp b=>h.ok.p3 p (c.subset b),λa f=>h.ok.na a (e.subset f)⟩,
  λp b=>h.n p (c.subset b),λp b=>h.w p (c.subset b),g⟩
def Yt {q}(d:pA q){v}(h:FA q v):∃p∈q.A,Bm p.a.ts v=true:=by
 obtain⟨a,b,c⟩:=h;unfold atomsQ at b;simp only[BD,AW,AN]at b;rcases b with rfl|⟨p,hp,rfl⟩|b;exact d v (.inl c);exact⟨p,hp,c⟩;exact d v (.inr ⟨a,b,c⟩)
def iX {q rs}(c:pA q)(k:F1 (atomsQ q) rs rs)(j:∀v,Bm q.h.ts v=true->v∈rs):pA (Bc q rs):=λv f=>by
 have e:v∈rs/\∃p∈q.A,Bm p.a.ts v=true:=by
  rcases f with h|⟨a,ha,h⟩;exact⟨j v h,c v (.inl h)⟩;obtain⟨b,g⟩:=BP.1 ha;exact⟨k a (by unfold atomsQ;simp[b]) g v (AO.1 h),c v (.inr ⟨a,b,h⟩)⟩
 obtain⟨b,p,i,d⟩:=e;exact⟨p,BP.2 ⟨i,CU.2 ⟨v,b,d⟩⟩,d⟩
def XX {q rs}(f:pA q)(i:F1 (atomsQ q) rs rs):pA (Ip q rs):=λv g=>by
 rcases g with h|⟨a,ha,h⟩;simp[Ip,Bm]at h;obtain⟨j,b⟩:=BP.1 ha;obtain⟨p,c,d⟩:=f v (.inr ⟨a,j,h⟩);refine⟨p,BP.2 ⟨c,?_⟩,d⟩;cases e:J0 rs p.a with
 |false=>rfl
 |true=>
  have:=i p.a (Lv c) e v (AO.1 d);have:J0 rs a=true:=CU.2 ⟨v,this,h⟩;rw[this]at b;cases b
def BO.sub {neg M q c}(h:BO neg M q)(g:∀a∈c.B,∃b∈q.B,a.p=b.p):BO neg M c:=λa d=>by
 obtain⟨b,f,e⟩:=g a d;rw[e];exact h b f
def BO.put {neg M q}(h:BO neg M q)(v n):BO neg M (Dl v n q):=h.sub λa c=>by
 obtain⟨b,d,rfl⟩:=AN.1 c;exact⟨b,d,rfl⟩
def BO.near {neg M q}(h:BO neg M q)(rs):BO neg M (Bc q rs):=h.sub λa b=>⟨a,(BP.1 b).1,rfl⟩
def BO.far {neg M q}(h:BO neg M q)(rs):BO neg M (Ip q rs):=h.sub λa b=>⟨a,(BP.1 b).1,rfl⟩
def VE {a:Dx}(h:Jz a.ts=false):∃v,Bm a.ts v=true:=by
 unfold Jz at h;rw[IQ]at h;obtain⟨⟨b,w⟩,d,c⟩:=h;cases b with
 |false=>simp at c
 |true=>exact⟨w,AO.2 d⟩
def Vk (neg:Int->Ck->Prop)(f i:Nat)(M:MM)(d b:Int)(V:List Int):Prop:=∀(q:AZ) (c:oh),EQ q c->Tz q->BO neg M q->QV q->q.h.ts=[]->(∀v,FA q v->v∈V)->∀a,BL a f i M d b->ni 187 [ptr f 0,ag c] a λr e=>(∃b,r=my b/\(b=true↔∃g,Mq neg q g))/\AD a e
def Y6 (neg om ot M d b V)(hH:Vk neg om ot M d b V)(q c v)(P:EQ q c)(k:Tz q)(a5:BO neg M q)(hV:QV q)(T:q.h.ts=[])(a0:∀w,FA q w->w≠v->w∈V)(f)(hM:BL f om ot M d b):ni 223 [ptr om 0,ag c,ic v] f λr σ'=>(∃b,r=my b/\(b=true↔∃n∈Mo q v,∃ν,Mq neg (Dl v n q) ν))/\AD f σ':=by
 have au:=λf=>L4 q c v P k.ok k.n f;have ba:=Vv k.n v;have K:=λn f=>Y0 q c v n P k.ok f;have HM:AC (BL f om ot M d b):=hM;clear hM;have a7:∀(n:Int) (z:oh),EQ (Dl v n q) z->∀e,AD f e->ni 187 [ptr om 0,ag z] e λr σ'=>(∃b,r=my b/\(b=true↔∃ν,Mq neg (Dl v n q) ν))/\AD e σ':=λn z i e ay=>
  hH _ z i (lQ k) (a5.put v n) (λa ha w J=>by
   obtain⟨⟨b,hb,a3⟩,-⟩:=Vg (q:=q) (v:=v) (n:=n) (w:=w) ⟨a,ha,AO.2 J⟩;exact hV b hb w (AO.1 a3)) (by simp[Dl,Gg,Bt,T]) (λw J=>by
   obtain⟨p,i⟩:=Vg J
   exact a0 w p i) e (HM.o.keep ay)
 clear T;obtain⟨R,ip,l,pc,U,rfl,-,-⟩:=P;generalize Mo q v=g at*
 have bc:=B9 g;refine Z9 26 [.tmp 6] Tryz.func223 ?_;refine m0 ?_;intro yb ya;refine Xi (au _) ?_;rintro _ _ ⟨⟨C,rfl⟩,y⟩;(have Y:=y.B;have E:=y.C;have o:=((AD.refl f).new _).trans y;simp only[Aa]at Y E);refine mr ?_;rename_i e;have W:e.C f.B=[ic q.h.p,sl R (Z q.h.ts) (Ad q.h.ts),sl ip (Z q.A) pc,sl l (Z q.B) U]:=by rw[E _ AA,Ao]
 clear E y au
 refine Ae (λm s σ'=>∃j:Nat,m=Z g-j/\j<=Z g/\s 0=ptr om 0/\s 2=ic v/\s 4=ptr f.B 0/\s 12=sl C (Z g) (As g)/\s 13=ic (Z g)/\s 14=ic j/\AD f σ'/\f.B<σ'.B/\σ'.C f.B=[ic q.h.p,sl R (Z q.h.ts) (Ad q.h.ts),sl ip (Z q.A) pc,sl l (Z q.B) U]/\AC (∀n∈g.take j,¬ ∃ν,Mq neg (Dl v n q) ν)) (Z g)
  ⟨0,AA,AA,by simp[upd,AL],by simp[upd,AL],AG,AG,AG,rfl,o,AA,W,by simp[AC]⟩ ?_
 clear o W Y;rintro m s σ' ⟨j,rfl,hj,h0,i,h4,bh,bg,bf,D,bd,ob,A⟩;have a9:=D.B;by_cases X:j<Z g;have t:=AK X;obtain⟨r,hd⟩:=D2 t;have H:=AR X;generalize g[j]=n at hd t H;have S:AC (n∈g/\g[j]?=some n):=⟨H,t⟩;clear t H;have K:=K n
 (repeat (refine m0 ?_;intro yb ya;(first|(refine Xi (K _) ?_;rintro _ _ ⟨⟨_,rfl,I,G,L,N,Q,rfl,a4,a6⟩,O⟩;(have ax:=O.B;have aw:=O.C;have o:=D.trans O;have a8:=a7 n _ ⟨I,G,L,N,Q,rfl,a4,a6⟩))|(refine Xi (a8 _ ((o.new _).put AA _)) ?_;rintro _ _ ⟨⟨bb,rfl,ap⟩,B⟩;(have aj:=B.B;have ai:=B.C;have be:=((o.new _).put AA _).trans B;have av:AC _:=ap;clear ap;simp only[Ac,Aa]at aj ai)))));refine m6 ?_ ?_<;>intro h ae
 exact⟨_,rfl,⟨true,rfl,λ_=>⟨n,S.o.1,av.o.1 nu⟩,λ_=>rfl⟩⟩;have HN:AC (∀n∈g.take (j+1),¬ ∃ν,Mq neg (Dl v n q) ν):=by
  rw[AC,AT,S.o.2,BN];intro u hu;rcases AW.1 hu with x|x;exact A.o u x;simp at x;subst x;intro F;have:=av.o.2 F;rw[this]at h;cases h
 refine⟨Z g-(j+1),AA,j+1,?_⟩;exact m9 HN;have az:j=Z g:=AA;subst az;rw[AS]at A;refine mr ?_
 first|exact⟨_,rfl,⟨false,rfl,(λh=>by cases h),λ⟨n,p,i⟩=>absurd i (A.o n p)⟩,D⟩|exact⟨_,rfl,⟨false,rfl,(λh=>by cases h),λ⟨n,p,i⟩=>absurd i (A.o n p)⟩⟩
def Rx {q rs v}(h:FA (Bc q rs) v):FA q v:=by
 obtain⟨a,b,c⟩:=h;refine⟨a,?_,c⟩;unfold atomsQ Bc at b;unfold atomsQ;simp only[BD,AW,AN]at b⊢;rcases b with h|⟨p,hp,h⟩|h;exact .inl h;exact .inr (.inl ⟨p,(BP.1 hp).1,h⟩);exact .inr (.inr (BP.1 h).1)
def vN {q rs v}(h:FA (Ip q rs) v):FA q v/\v∉rs:=by
 obtain⟨a,d,e⟩:=h;unfold atomsQ Ip at d;simp only[BD,AW,AN]at d
 have c:∀b:Dx,b∈atomsQ q->(!J0 rs b)=true->Bm b.ts v=true->FA q v/\v∉rs:=λb i g f=>⟨⟨b,i,f⟩,λj=>by
  have:J0 rs b=true:=CU.2 ⟨v,j,f⟩;rw[this]at g
  cases g⟩
 rcases d with rfl|⟨p,hp,rfl⟩|h;simp[Bm]at e;exact c p.a (Lv (BP.1 hp).1) (BP.1 hp).2 e;exact c a (by unfold atomsQ;simp[(BP.1 h).1]) (BP.1 h).2 e
def Uh (neg om ot M d bg V)(IH:∀V':List Int,Z V'<Z V->Vk neg om ot M d bg V'):Vk neg om ot M d bg V:=by
 intro q c hc hA bn hV hh b2 x hM;have bi:=λg hk=>eR neg q c om ot M d bg hc hA bn g (BL.keep hM (show AD x g from hk));have HM:AC (BL x om ot M d bg):=hM;clear hM;obtain⟨ih,ip,inn,pc,nc,rfl,-,-⟩:=hc;have HH:AC (q.h.ts=[]):=hh;clear hh;refine Z9 36 [.tmp 4] Tryz.func187 ?_
 repeat' first|refine Z1 ?_|refine Z8 λyb ya=>?_|refine Z4 ?_;clear ya yb|refine Z2 ?_ ?_<;>intro h ae<;>try exact Xp|(refine Z5 ?_;refine Xi (bi _ ((AD.refl _).new _)) ?_;rintro _ _ ⟨⟨c',(⟨rfl,cn,cp,a8⟩|⟨f,rfl,⟨O,N,R,H,K,rfl,bm,bo⟩,t,a5,o,ai⟩)⟩,F⟩)|refine Z3 ?_|exact Zt|apply ya.o;clear ya yb
 ·rename_i g;have ab:=F.B;have o0:=F.C x.B AM;rw[Ao]at o0;simp only[Aa]at ab;have P:=(((AD.refl x).new _).trans F);have ci:AC (∀j,¬Mq neg q j):=a8;clear a8
  refine mr ?_;exact⟨_,rfl,⟨false,rfl,(λh=>by cases h),λ⟨j,m⟩=>absurd m (ci.o j)⟩,P.put AA _⟩
 have ab:=F.B;have av:=F.C;simp only[Aa]at ab av;have cc:=((AD.refl x).new _).trans F;have ba:f.h.ts=[]:=by rw[o.hd];exact HH.o
 have aj:BO neg M f:=bn.sub λa k=>⟨a,(ai a k).1,rfl⟩;have S:QV f:=λa k v u=>hV a (o.at_ a k) v u;have ac:∀v,FA f v->v∈V:=λv u=>b2 v (u.sub o.at_);have bv:=λx=>gX f _ ⟨O,N,R,H,K,rfl,bm,bo⟩ t.ok t.n S x;have bw:AC _:=ba;clear ba
 repeat' first|refine Z1 ?_|refine Z8 λyb ya=>?_|refine Z4 ?_;clear ya yb|refine Z2 ?_ ?_<;>intro h ae<;>try exact Xp|refine Z5 ?_;refine Xi (bv _) ?_;rintro _ _ ⟨⟨b,rfl,hb⟩,P⟩;(have HB:AC _:=hb;clear hb;have ay:=P.B;have au:=P.C;have bq:=(cc.put AA _).trans P)|refine Z3 ?_|exact Zt|apply ya.o;clear ya yb
 ·have bc:b= -1:=nn h
  have a9:∀v∈Cs (atomsQ f),Dq f v=false:=by
   rcases HB.o with⟨-,D⟩|⟨z,-⟩
   ·exact D
   obtain⟨a,k,u⟩:=(Dn _ _).1 z;have:=S a k b u;omega
  have b3:∀v,Dt (f.A.map (·.a)) v<=1:=λv=>by
   have cm:Dt (f.A.map (·.a)) v<=Dt (atomsQ f) v:=by
    unfold atomsQ;rw[H2,Fp];omega
   by_cases W:v∈Cs (atomsQ f)
   ·have:=a9 v W;unfold Dq at this;rw[decide_eq_false_iff_not]at this;omega
   have:Dt (atomsQ f) v=0:=by
    rcases Nat.eq_zero_or_pos (Dt (atomsQ f) v)with h0|h0
    ·exact h0
    obtain⟨a,k,b6⟩:=MK.1 h0;exact absurd ((Dn _ _).2 ⟨a,k,AO.1 b6⟩) W
   omega
  obtain⟨j,m⟩:=mZ (l:=f.A) (λp y=>⟨a5 p y,(t.w p y).2⟩) b3
  have hS:Mq neg f j:=⟨m,λa k=>by
   exfalso;obtain⟨v,u⟩:=VE (ai a k).2;obtain⟨p,y,I⟩:=t.wf v (.inr ⟨a,k,u⟩);have z:0<Dt (f.A.map (·.a)) v:=N4 (AN.2 ⟨p,y,rfl⟩) I;have D:=N4 k u;have h3:Dt (atomsQ f) v=Dt (f.A.map (·.a)) v+Dt f.B v+if Bm f.h.ts v=true then 1 else 0:=by
    unfold atomsQ;rw[H2,Fp]
   have W:v∈Cs (atomsQ f):=(Dn _ _).2 ⟨p.a,Lv y,AO.1 I⟩;have:=a9 v W;unfold Dq at this;rw[decide_eq_false_iff_not]at this
   omega⟩
  obtain⟨A,s,-⟩:=o.back j hS
  first|exact⟨_,rfl,⟨true,rfl,λ_=>⟨A,s⟩,λ_=>rfl⟩,bq⟩|exact⟨_,rfl,⟨true,rfl,λ_=>⟨A,s⟩,λ_=>rfl⟩⟩
 have bc:b≠ -1:=nn h;have b4:b∈Cs (atomsQ f):=by
  rcases HB.o with⟨z,-⟩|⟨z,-⟩
  ·exact absurd z bc
  exact z
 have bd:FA f b:=by
  obtain⟨a,k,u⟩:=(Dn _ _).1 b4;exact⟨a,k,AO.2 u⟩
 have a3:=ac b bd;have bf:Z (V.erase b)<Z V:=by
  rw[List.length_erase_of_mem a3];have:=List.length_pos_of_mem a3;omega
 have C:=IH (V.erase b) bf;have bh:=λ(id:Nat) x=>Uf f _ [b] id ⟨O,N,R,H,K,rfl,bm,bo⟩ t.ok nk x;simp only[BQ,CQ,As,CC,IK,DY]at bh;have cj:AC (∀(i:List Int) (Y:oh),F1 (atomsQ f) i i->EQ (Bc f i) Y->∀g,AD x g->ni 223 [ptr om 0,ag Y,ic b] g λr E=>(∃Q,r=my Q/\(Q=true↔∃n∈Mo (Bc f i) b,∃j,Mq neg (Dl b n (Bc f i)) j))/\AD g E):=λi Y a7 ch g a0=>
  Y6 neg om ot M d bg (V.erase b) C (Bc f i) Y b ch (Na t t.ok.hd LD LD (iX t.wf a7 (λv u=>by rw[bw.o]at u;simp[Bm]at u))) (aj.near i)
   (λa k w B=>by
    obtain⟨a',a4,az⟩:=Rx (rs:=i) ⟨a,k,AO.2 B⟩
    exact S a' a4 w (AO.1 az)) bw.o (λw B b1=>(List.mem_erase_of_ne b1).2 (ac w (Rx B))) g (HM.o.keep a0)
 have ck:AC (∀(i:List Int) (T:oh),b∈i->F1 (atomsQ f) i i->EQ (Ip f i) T->∀g,AD x g->ni 187 [ptr om 0,ag T] g λr E=>(∃Q,r=my Q/\(Q=true↔∃j,Mq neg (Ip f i) j))/\AD g E):=λi T an a7 cg g a0=>
  C (Ip f i) T cg (Na t (by simp[Ip]) LD LD (XX t.wf a7)) (aj.far i)
   (λa k w B=>by
    obtain⟨⟨a',a4,az⟩,-⟩:=vN (rs:=i) ⟨a,k,AO.2 B⟩;exact S a' a4 w (AO.1 az)) rfl (λw B=>by
    obtain⟨z,D⟩:=vN B
    exact (List.mem_erase_of_ne (λe=>D (by rw[e];exact an))).2 (ac w z)) g (HM.o.keep a0)
 clear C IH bi bv a3 bf;have o3:=au x.B (by simp only[Ac];omega);rw[Ak]at o3;simp only[Ac]at ay
 repeat' first|refine Z1 ?_|refine Z8 λyb ya=>?_|refine Z4 ?_;clear ya yb|refine Z2 ?_ ?_<;>intro h ae<;>try exact Xp|(refine Z5 ?_;first|(refine Xi (bh _ _) ?_;rintro _ _ ⟨⟨_,_,i,rfl,⟨ih3,ip3,in3,pc3,nc3,rfl,b9,cb⟩,⟨ih4,ip4,in4,pc4,nc4,rfl,b8,ca⟩,hG,U⟩,bu⟩;(have an:b∈i:=(by obtain⟨ad,e,-,-⟩:=hG;rw[e];simp);have ce:=cj.o i _ U ⟨ih3,ip3,in3,pc3,nc3,rfl,b9,cb⟩;have cf:=ck.o i _ an U ⟨ih4,ip4,in4,pc4,nc4,rfl,b8,ca⟩;have HC:AC _:=U;clear U hG;have ax:=bu.B;simp only[Az]at ax;have bp:=(bq.lay 1).trans bu))|(refine Xi (ce _ ((((bp.new _).new _).put AA _).put AA _)) ?_;rintro _ _ ⟨⟨b5,rfl,J⟩,a6⟩;(have b0:AC _:=J;clear J;have aw:=a6.B;have ap:=a6.C;simp only[Ac,Aa]at aw ap;have br:=((((bp.new _).new _).put AA _).put AA _).trans a6))|(refine Xi (cf _ br) ?_;rintro _ _ ⟨⟨b7,rfl,be⟩,cd⟩;(have bz:AC _:=be;clear be;have cq:=br.trans cd)))|refine Z3 ?_|exact Zt|apply ya.o;clear ya yb
 ·refine⟨_,rfl,false,rfl,(λh=>by cases h),λ⟨j,m⟩=>?_⟩;have z:=o.to j m;have D:=lD (rs:=i) z;have X:WP (Bc f i):=λp y=>t.w p (BP.1 y).1;obtain⟨p,y,I⟩:=Yt t.wf bd;have h3:=tN (v:=b) X D ⟨p,BP.2 ⟨y,CU.2 ⟨b,an,I⟩⟩,I⟩
  have h4:Mq neg (Dl b (j b) (Bc f i)) j:=(U7 X).2 (by
   have:Pd j b (j b)=j:=by
    funext w;unfold Pd;split
    ·rename_i e;rw[e]
    rfl
   rw[this];exact D)
  have:=b0.o.2 ⟨j b,h3,j,h4⟩;rw[this]at h;cases h
 refine⟨_,rfl,b7,rfl,λh7=>?_,λ⟨j,m⟩=>bz.o.2 ⟨j,uV (o.to j m)⟩⟩;obtain⟨n,-,ν1,G⟩:=b0.o.1 h;obtain⟨ν2,L⟩:=bz.o.1 h7;have X:WP (Bc f i):=λp y=>t.w p (BP.1 y).1;obtain⟨A,s,-⟩:=o.back _ (dG HC.o ((U7 X).1 G) L);exact⟨A,s⟩
def Ui (neg om ot M d b):∀(k:Nat) (V:List Int),Z V<=k->Vk neg om ot M d b V:=by
 intro k;induction k with
 |zero=>exact λV c=>Uh neg om ot M d b V (λa h=>AA)
 |succ k e=>exact λV c=>Uh neg om ot M d b V (λa h=>e a AA)
end Go.Proofs.YtmoeoppbmhfbpabGreatDoorJ
