import Derived.Test.YtmoeoppbmhfbpaaGreatDoorHTelB
import Derived.Test.YtmoeoppbmhfbpaaGreatDoorHDocI
import Derived.Test.YtmoeoppbmhfbpaaGreatDoorHEngA
import Derived.Test.YtmoeoppbmhfbpaaGreatDoorHRefG
import Derived.Test.YtmoeoppbmhfbpaaGreatDoorHGramD
import Derived.Test.YtmoeoppbmhfbpaaGreatDoorHFacts
import Derived.Test.YtmoeoppbmhfbpaaGreatDoorHEngR
import Derived.Test.YtmoeoppbmhfbpaaGreatDoorHFolD
import Derived.Test.YtmoeoppbmhfbpaaGreatDoorHFolA
import Derived.Test.YtmoeoppbmhfbpaaGreatDoorHStrC
import Derived.Test.YtmoeoppbmhfbpaaGreatDoorHShelf
import Derived.Test.YtmoeoppbmhfbpaaGreatDoorHEngW
import Derived.KernelRfl
set_option maxHeartbeats 64000000
set_option maxRecDepth 100000
set_option linter.all false
namespace Go.Proofs.YtmoeoppbmhfbpaaGreatDoorH
open Go.Abs
theorem sA {t:Tx}{l:List RItem}(ht:t.length<=600)(h:Bf 16 t= .got l []):∀x∈l,x.head.pred.length<=600:=fun x hx=>by
 obtain⟨h1,-,-,-⟩:=El _ _ _ _ h;have hl:(Co x).length<=(Da l).length:=by
  unfold Da;obtain⟨a,b,rfl⟩:=List.append_of_mem hx;simp;omega
 have h2:x.head.pred.length<=(Co x).length:=by
  unfold Co;split
  ·simp
  ·simp[D7,A4]
 rw[<-h1]at hl;omega
theorem qT (t f:Tx)(n:Int)(m:St):ACalls Tryz.prog 18 [str t,str f,ic n] m fun r m'=>∃x k e,r=tp [str x,ic k,ic e]/\Qu t f n x k e/\Keep m m':=by
 have cq:({data:=#[]}:ByteArray)=bs []:=rfl;by_cases hL:600<t.length
 ·have cj:decide ((t.length:Int)>600)=true:=by rw[Adw];omega
  have HP:Ad8 (Qu t f n [] 0 1):=by rw[Ad8,Qu,if_pos (.inl hL)];exact⟨rfl,rfl,rfl⟩
  clear hL;refine Z9 59 [.tmp 6,.tmp 7,.tmp 8] Tryz.func18 ?_
  repeat' (first|refine Z1 ?_|(refine Z8 ?_;intro ya J)|(refine Z4 ?_;clear J ya)|(refine Z2 ?_ ?_<;>intro h aa<;>try exact Xp)|refine Z7 ?_|exact Zt|(apply J.out;clear J ya))
  exact⟨_,rfl,[],0,1,rfl,HP.out,Keep.refl _⟩
 ·have cj:decide ((t.length:Int)>600)=false:=by rw[decide_eq_false_iff_not];omega
  by_cases hF:400<f.length
  ·have bw:decide ((f.length:Int)>400)=true:=by rw[Adw];omega
   have HP:Ad8 (Qu t f n [] 0 1):=by rw[Ad8,Qu,if_pos (.inr hF)];exact⟨rfl,rfl,rfl⟩
   clear hL hF;refine Z9 59 [.tmp 6,.tmp 7,.tmp 8] Tryz.func18 ?_
   repeat' (first|refine Z1 ?_|(refine Z8 ?_;intro ya J)|(refine Z4 ?_;clear J ya)|(refine Z2 ?_ ?_<;>intro h aa<;>try exact Xp)|refine Z7 ?_|exact Zt|(apply J.out;clear J ya))
   exact⟨_,rfl,[],0,1,rfl,HP.out,Keep.refl _⟩
  ·have bw:decide ((f.length:Int)>400)=false:=by rw[decide_eq_false_iff_not];omega
   have HP:Ad8 (∀x k e,Qu t f n x k e↔if (A3 t).1≠0 then x=[]/\k=0/\e=(A3 t).1
 else if n<0\/200<n then x=[]/\k=0/\e=6
 else∃l,Bf 16 t= .got l []/\if F1 l f≠0 then x=[]/\k=0/\e=F1 l f else∃F,Bw 400 f= .got F []/\tD l F n x k e):=fun x k e=>by rw[Qu,if_neg (by simp[hL,hF])]
   have bq:=fun m=>iE t m;have be:Ad8 ((A3 t).1=0->∀n1 c1 n2 c2,n1<=600/\rW t n1 c1 n2 c2->∃N l,Bf 16 t= .got l []/\BkT N l c2/\n1=N.length/\c1=N.map str/\n2=l.length):=fun h0 n1 c1 n2 c2 ⟨h6,N,l,hp,hB,e1,e2,e3,ce,cd⟩=>by
    obtain⟨cf,hw⟩:=Zq h0 hp;refine⟨N,l,hp,⟨hB,Ad2,qX hw,ce,Jt (T:=DT) Nt 16 t l [] hp,cd,sA cf hp⟩,e1,e2,e3⟩
   clear hL hF;generalize A3 t=rc at*
   obtain⟨e0,p0⟩:=rc;simp only at bq HP be;refine Z9 59 [.tmp 6,.tmp 7,.tmp 8] Tryz.func18 ?_
   repeat' (first|refine Z1 ?_|(refine Z8 ?_;intro ya J)|(refine Z4 ?_;clear J ya)|(refine Z2 ?_ ?_<;>intro h aa<;>try exact Xp)|(refine Z5 ?_;refine Xi (bq _) ?_;rintro _ _ ⟨idn,n1,c1,idi,n2,c2,rfl,ac,hb⟩;(have HB:Ad8 _:=hb;clear hb;have cc:=ac.nobj))|refine Z7 ?_|exact Zt|(apply J.out;clear J ya))
   ·have he:e0≠0:=by simpa using h
    exact⟨_,rfl,[],0,e0,rfl,(HP.out _ _ _).2 (by rw[if_pos he];exact⟨rfl,rfl,rfl⟩),(ac.new _).put ac.nobj _⟩
   ·skip
    have he:¬e0≠0:=by
     have:(e0 !=0)=false:=by assumption
     simpa using this
    exact⟨_,rfl,[],0,6,rfl,(HP.out _ _ _).2 (by rw[if_neg he,if_pos (.inr (by assumption))];exact⟨rfl,rfl,rfl⟩),(ac.new _).put ac.nobj _⟩
   ·rename St=>m1;have he:e0=0:=by
     have:(e0 !=0)=false:=by assumption
     simpa using this
    have ch:0<=n:=by assumption
    have cp:n<=200:=by assumption
    obtain⟨N,l,hp,hT,rfl,rfl,rfl⟩:=be.out he _ _ _ _ (HB.out he);have bc:Ad8 (∀x k e,(if F1 l f≠0 then x=[]/\k=0/\e=F1 l f else∃F,Bw 400 f= .got F []/\tD l F n x k e)->Qu t f n x k e):=fun x k e h=>(HP.out x k e).2 (by rw[if_neg (by simp[he]),if_neg Ad2];exact⟨l,hp,h⟩);have a9:=fun m=>Tc N l c2 idn idi hT.bk hT.nl (sQ hT.cons) f (by have:decide ((f.length:Int)>400)=false:=bw;rw[decide_eq_false_iff_not]at this;omega) m;unfold Fa at a9;have HT:Ad8 _:=hT;clear hT hp HP be HB;have br:=(ac.new [nilS,nilS]).put ac.nobj [sl idn N.length (N.map str),sl idi l.length c2]
    repeat' (first|refine Z1 ?_|(refine Z8 ?_;intro ya J)|(refine Z4 ?_;clear J ya)|(refine Z2 ?_ ?_<;>intro h aa<;>try exact Xp)|(refine Z5 ?_;refine Xi (a9 _) ?_;rintro _ _ ⟨idf,nf,np,fc,rfl,a0,bj⟩;(have b6:Ad8 _:=bj;clear bj;have a6:=a0.nobj;have af:=a0.obj;simp only[Ac,Aa]at a6 af;have ba:=br.trans a0;have a5:=af m1.nobj Ad2;rw[Ak]at a5))|refine Z7 ?_|exact Zt|(apply J.out;clear J ya))
    ·have ab:F1 l f≠0:=by simpa using h
     exact⟨_,rfl,[],0,F1 l f,rfl,bc.out _ _ _ (by rw[if_pos ab];exact⟨rfl,rfl,rfl⟩)⟩
    ·rename St=>m2;have ab:F1 l f=0:=by simpa using h
     obtain⟨F,N',ak,rfl,rfl,ad,cr,hE⟩:=b6.out ab;have b3:Ad8 (∀x k e,tD l F n x k e->Qu t f n x k e):=fun x k e h=>bc.out x k e (by rw[if_neg (by simp[ab])];exact⟨F,ak,h⟩);obtain⟨-,b0,-,a3⟩:=Ct _ _ _ _ ak;have a4:∀a∈F,a.pred∈N':=fun a ha=>by
      obtain⟨i,hi⟩:=Acp ha;exact (Uj hE hi).1
     have ap:Gr (l.flatMap Af) F=false:=by
      unfold F1 at ab;rw[ak]at ab;simp only at ab;cases ho:Gr (l.flatMap Af) F with
      |false=>rfl
      |true=>rw[ho]at ab;simp at ab
     have ao:∀a∈F,0<a.terms.length:=fun a ha=>by
      have:=(a3 a ha).1.2.1;cases hh:a.terms with
      |nil=>exact absurd hh this
      |cons y ys=>simp
     have hS:=Mx HT.out.cons ao ap;have b1:=HT.out.bkr ad hS;have bl:∀a∈F,∀w∈a.terms,VT w/\DT w:=fun a ha w hw=>⟨Hs (T:=VT) (fun _ _ _ h=>Ss h) _ _ _ _ ak a ha w hw,Hs (T:=DT) Nt _ _ _ _ ak a ha w hw⟩
     have a7:=fun m=>To N'.length (F.map (Dv N')) fc idf n (xL hE) Ad2 (by rw[Ace];omega) (fun a ha=>by
      obtain⟨b,hb,rfl⟩:=Acf.1 ha
      exact⟨by simp[Dv];exact (a3 b hb).1.2.2.1,_,rfl,Acw (a4 b hb)⟩) m
     rw[Ace]at a7;have bb:Ad8 (∀M,MkM N'.length (F.map (Dv N')) M->yX (xE N' (l.flatMap Af++F)) M):=fun M ae k u hu=>by
      obtain⟨a,ha,e1,e2⟩:=(ae.mem k u).1 hu;obtain⟨b,hb,rfl⟩:=Acf.1 ha;have:=wC hS (Ab2.2 (.inr hb)) (a4 b hb) (a3 b hb).2.2 (bl b hb);rw[e2];have e3:k=N'.idxOf b.pred:=by simp only[Dv]at e1;omega
      rw[e3];exact this
     have b5:Ad8 _:=b1;have b4:Ad8 _:=a4;have cn:F.length<=400:=b0;clear ak a3 a4 ap ao hS b1 bl b6 bc ab hE a9 b0
     repeat' (first|refine Z1 ?_|(refine Z8 ?_;intro ya J)|(refine Z4 ?_;clear J ya)|(refine Z2 ?_ ?_<;>intro h aa<;>try exact Xp)|(refine Z5 ?_;refine Xi (a7 _) ?_;rintro _ _ ⟨ot,M,rfl,ae,az,co,a8,av⟩;(have cb:=az.nobj;have an:=az.obj))|refine Z7 ?_|exact Zt|(apply J.out;clear J ya))
     rename St=>m3;obtain⟨m4,au⟩:∃τ,τ=((m3.new [nilS,ic 0,ic 0]).put m3.nobj [fx ot 0 N'.length,ic 0,ic n]):=⟨_,rfl⟩;rw[<-au];have aj:Keep m3 m4:=by rw[au];exact ((Keep.refl m3).new _).put (Aak _) _
     have cm:Keep m m4:=(ba.trans az).trans aj;have n4:m4.nobj=m3.nobj+1:=by rw[au];rfl
     have b8:m4.obj m1.nobj=[sl idn N.length (N.map str),sl idi l.length c2]:=by rw[aj.obj _ Ad2,an _ Ad2,a5]
     have cg:=a8.lt;have bn:=ae.len;have bp:MOb m4 m3.nobj ot M 0 n:=(a8.keep aj).mob (by rw[au,Ak,bn]) Ad2 Ad2;have bm:∀y∈M,y.1=1\/m.ntop+2<=y.1:=fun y hy=>by have:=ba.ntop;rcases av y hy with h|h<;>omega
     have bf:tot M<=1000:=by have:=ae.tot;rw[Ace]at this;omega
     have bv:=Y2 N l c2 idn idi N'.length (xE N' (l.flatMap Af++F)) HT.out.bk b5.out m3.nobj ot n ch Ad2 M bn (bb.out M ae) ae.nd bf m4 bp;have bg:=gV b5.out (B:=MD M) (bb.out M ae);unfold Fa at bv;have bd:Ad8 _:=ae;have b2:Ad8 _:=bg;clear au a8 av ae bp bg bb a7 az a0 br ba af an a5 ac
     repeat' (first|refine Z1 ?_|(refine Z8 ?_;intro ya J)|(refine Z4 ?_;clear J ya)|(refine Z2 ?_ ?_<;>intro h aa<;>try exact Xp)|(refine Z5 ?_;first|(refine Xi (bv) ?_;rintro _ _ ⟨M',d',am,ai,bu⟩;(have ax:Ad8 _:=bu;clear bu;have ca:=ai.nobj;have ck:=vR cm ai Ad2 Ad2 bm;have ci:=Mw m3.nobj ot M' d' n _ am;have b7:=ai.obj m1.nobj Ad2 Ad2 Ad2;rw[b8]at b7))|(refine Xi (ci) ?_;rintro _ _ ⟨rfl,rfl⟩))|refine Z7 ?_|exact Zt|(apply J.out;clear J ya))
     ·refine⟨_,rfl,[],0,9,rfl,b3.out _ _ _ ⟨N',M,M',d',fun y hy=>⟨ad.subset ((Gv HT.out.bk.el y hy).1),fun a ha=>ad.subset ((Gv HT.out.bk.el y hy).2 a ha)⟩,b4.out,bd.out,am.t3,?_,by rw[if_pos (by assumption)];exact⟨rfl,rfl,rfl⟩⟩⟩;unfold FolI;rw[Zj ad (Gv HT.out.bk.el)];exact ax.out
     ·rename St=>m5;have bh:¬n<d':=Ad2;have bz:FolI N' l M n (l.length+1) M' d':=by
       unfold FolI;rw[Zj ad (Gv HT.out.bk.el)];exact ax.out
      have bo:∀k u,MD M' k u->Sh (xE N' (l.flatMap Af++F)) k u:=fun k u hu=>by
       rcases ax.out.2.2 with⟨-,g,-⟩|⟨g,-⟩
       ·exact b2.out _ _ _ ((g k u).1 hu)
       ·exact absurd g bh
      have ah:∀x∈M',∀u∈x.2,∀y∈u,-1<=y/\y<=9999:=fun x hx u hu=>by
       obtain⟨k,hk⟩:=Acp hx;exact xU (bo k u (by unfold MD;rw[B9 hk];exact hu))
      have bi:N.length<=M'.length:=by
       have:=ax.out.1;have:=ad.length_le;omega
      have ay:=Qs N l c2 idn idi HT.out.bk HT.out.nn m3.nobj ot M' d' n bi ah m5 am;have e1:Sc N (fun j=>D2 (Au M' (j:Int))) l=Sc N' (fun j=>D2 (Au M' (j:Int))) l:=by
       unfold Sc Fo;rw[V2 ad _ _ (fun x hx=>(Gv HT.out.bk.el x hx).1)]
      rw[e1]at ay;have HR:Ad8 (Qu t f n (Sc N' (fun j=>D2 (Au M' (j:Int))) l) d' 0):=b3.out _ _ _ ⟨N',M,M',d',fun y hy=>⟨ad.subset ((Gv HT.out.bk.el y hy).1),fun a ha=>ad.subset ((Gv HT.out.bk.el y hy).2 a ha)⟩,b4.out,bd.out,am.t3,bz,by rw[if_neg bh];exact⟨rfl,rfl,rfl,ah⟩⟩;generalize Sc N' (fun j=>D2 (Au M' (j:Int))) l=tx at ay HR;unfold Fa at ay;have b9:=am.ob;have lo14:=am.lo;clear e1 bz bo ah bi ax b2 bd bm bf;refine A6 (Q:=fun e s' m''=>e= .normal/\s' 6=str tx/\s' 7=ic d'/\s' 8=ic 0/\Keep m5 m'') ?_ ?_
      ·refine As Ad (fun _=>True) [] [0,2,3] 4 #[true,false,true,true,false,false,false] Ad5 (fun _ _ _ h=>by cases h.1) ?_;intro ya J;refine Z7 ?_;refine J.out _ ?_;clear J ya;refine Ah (i:=1) Ad5 ?_;refine Ao ?_;intro ya J;refine Z7 ?_;refine ACalls.mono ay ?_;rintro _ m6 ⟨rfl,aw⟩;refine Z7 ?_;refine J.out _ _ ⟨Ap aw,?_⟩;clear J ya;refine Bs [4,5,6] Ad5 Ad5 (fun _ _ _ h=>by cases h.1) aw.nobj (fun o ho _=>aw.ver o ho) ?_;intro ya J;refine Z7 ?_;refine J.out _ _ ⟨rfl,?_⟩;simp[upd, *]
      ·rintro e s' m6 ⟨rfl,g6,g7,g8,aw⟩
       repeat' (first|refine Z1 ?_|(refine Z8 ?_;intro ya J)|(refine Z4 ?_;clear J ya)|(refine Z2 ?_ ?_<;>intro h aa<;>try exact Xp)|refine Z7 ?_|exact Zt|(apply J.out;clear J ya))
       first|exact⟨_,rfl,tx,d',0,rfl,HR.out,ck.trans aw⟩|exact⟨_,rfl,tx,d',0,rfl,HR.out⟩
   ·skip
    have he:¬e0≠0:=by
     have:(e0 !=0)=false:=by assumption
     simpa using this
    exact⟨_,rfl,[],0,6,rfl,(HP.out _ _ _).2 (by rw[if_neg he,if_pos (.inl (by assumption))];exact⟨rfl,rfl,rfl⟩),(ac.new _).put ac.nobj _⟩
set_option maxRecDepth 1000000
theorem rJ {a:RAtom}(h:pE a)(hn:a.nt=false)(hs:Nq a=true)(r:Tx):G5 (A4 a++46::r)= .got a r:=by
 unfold G5;have:=S3 h (46::r);rw[hn]at this;rw[this,Dm,if_pos hs];rfl
theorem Ws:∀(n:Nat) (F:List RAtom),(∀a∈F,pE a/\a.nt=false/\Nq a=true)->F.length<=n->Bw n (F.flatMap fun a=>A4 a++[46])= .got F []
 |n,[],_,_=>by rw[Ab8,F5]
 |0,a::F,_,h=>by simp at h
 |n+1,a::F,hF,h=>by
  obtain⟨g1,g2,g3⟩:=hF a (by simp);have ih:=Ws n F (fun b hb=>hF b (by simp[hb])) (by simpa using h);rw[Aca];have e:(A4 a++[46])++F.flatMap (fun a=>A4 a++[46])=A4 a++46::F.flatMap (fun a=>A4 a++[46]):=by simp
  rw[e];have hc:∃b r,A4 a++46::F.flatMap (fun a=>A4 a++[46])=b::r:=by
   cases hh:A4 a++46::F.flatMap (fun a=>A4 a++[46])with
   |nil=>simp at hh
   |cons b r=>exact⟨b,r,rfl⟩
  have hp:=rJ g1 g2 g3 (F.flatMap fun a=>A4 a++[46]);obtain⟨b,r,aa⟩:=hc;rw[aa]at hp⊢;rw[Fp,hp,Dm,ih];rfl
def zT (l:List RItem):Prop:=∀x∈l,x.out=true->x.body=[]
structure xJ (l:List RItem):Prop where
 out:zT l
 loo:fG l
 len:l.length<=16
section
variable {l l':List RItem}
theorem Wc (hr:xJ l)(p:Tx):Ay l p<=l.length:=fI hr.loo ((Eh hr.out hr.loo hr.len p _).2 (Aak _))
theorem I5 {s:Nat}{x:RItem}(hx:x∈Ix l s):x∈l/\x.out=false/\Ay l x.head.pred=s:=by
 obtain⟨h1,h2⟩:=Ac7.1 hx;unfold Pi at h2;simp only[Aaz,Bool.not_eq_true',Adx]at h2;exact⟨h1,h2.1,h2.2⟩
variable {N N':List Tx} {F F':List RAtom} {M M':MM}
end
def xB:List Tx->MM->List (Tx×Bj)
 |_,[]=>[]
 |N,x::M=>x.2.map (fun t=>(N.headD [],t))++xB N.tail M
theorem Qz:∀(N:List Tx) (M:MM),((xB N M).length:Int)=tot M
 |_,[]=>rfl
 |N,x::M=>by
  have:=Qz N.tail M;rw[D8];unfold xB;rw[Abj,Ace];omega
theorem Jf (N:List Tx)(k:Nat):N.tail.getD k []=N.getD (k+1) []:=by cases N<;>simp
theorem prsF_mem {p:Tx}{t:Bj}:∀{N:List Tx} {M:MM},(p,t)∈xB N M↔∃k:Nat,N.getD k []=p/\MD M k t
 |N,[]=>by
  constructor
  ·intro h;cases h
  ·rintro⟨k,-,h⟩;simp[MD,Au]at h
 |N,x::M=>by
  unfold xB;rw[Ab2,Acf,prsF_mem];constructor
  ·rintro (⟨u,hu,e⟩|⟨k,e,h⟩)
   ·cases e;exact⟨0,by cases N<;>rfl,hu⟩
   ·exact⟨k+1,by rw[<-Jf];exact e,by unfold MD Au at*;simpa using h⟩
  ·rintro⟨k,e,h⟩;cases k with
   |zero=>exact .inl ⟨t,h,by rw[<-e];cases N<;>rfl⟩
   |succ k=>exact .inr ⟨k,by rw[Jf];exact e,by unfold MD Au at*;simpa using h⟩
theorem Wl:∀{N:List Tx} {M:MM},(∀x∈M,x.2.Nodup)->(∀k k' t t',MD M k t->MD M k' t'->N.getD k []=N.getD k' []->k=k')->(xB N M).Nodup
 |N,[],_,_=>Ac3
 |N,x::M,h,hd=>by
  unfold xB;have shf:∀k t,MD M k t->MD (x::M) (k+1) t:=fun k t g=>by unfold MD Au at*;simpa using g
  refine Adf.2 ⟨?_,Wl (fun y hy=>h y (by simp[hy])) (fun k k' t t' g g' e=>?_),?_⟩
  ·have:=h x (by simp);unfold List.Nodup at*
   rw[Ads];exact this.imp (fun aa e=>aa (by cases e;rfl))
  ·have:=hd (k+1) (k'+1) t t' (shf k t g) (shf k' t' g') (by rw[<-Jf,<-Jf];exact e);omega
  ·rintro⟨p,t⟩ h1 ⟨q,u⟩ h2 e;cases e;obtain⟨v,hv,e⟩:=Acf.1 h1;cases e;obtain⟨k,e,g⟩:=prsF_mem.1 h2;have:=hd 0 (k+1) t t hv (shf k t g) (by rw[<-Jf,e];cases N<;>rfl);omega
def Nk (T:Tx->List Bj)(acc:Tx×List Tx)(x:RItem):Tx×List Tx:=if x.out=true/\x.head.pred∉acc.2 then (acc.1++(T x.head.pred).flatMap (Cs x.head.pred),acc.2++[x.head.pred])else acc
def V3 (T:Tx->List Bj)(l:List RItem):Tx:=(l.foldl (Nk T) ([],[])).1
theorem Sd {N:List Tx}{rk:Nat->List Bj}{T:Tx->List Bj}:∀{l:List RItem} (a:Tx) (ps:List Tx),(∀x∈l,x.head.pred∈N/\rk (N.idxOf x.head.pred)=T x.head.pred)->(∀p∈ps,p∈N)->
  (l.foldl (Hq N rk) (a,ps.map fun p=>((N.idxOf p:Nat):Int))).1=(l.foldl (Nk T) (a,ps)).1
 |[],a,ps,_,_=>rfl
 |x::l,a,ps,h,hp=>by
  rw[Aa2,Aa2];obtain⟨h1,h2⟩:=h x (by simp);have hm:(((N.idxOf x.head.pred:Nat):Int)∈ps.map fun p=>((N.idxOf p:Nat):Int))↔x.head.pred∈ps:=by
   rw[Acf];constructor
   ·rintro⟨q,hq,e⟩;have:N.idxOf q=N.idxOf x.head.pred:=Ad2;rw[<-Eb (hp q hq) h1 this];exact hq
   ·exact fun g=>⟨_,g,rfl⟩
  have hl:=fun y hy=>h y (Acj x hy);by_cases c:x.out=true/\x.head.pred∉ps
  ·have e1:Hq N rk (a,ps.map fun p=>((N.idxOf p:Nat):Int)) x=(a++(T x.head.pred).flatMap (Cs x.head.pred),(ps++[x.head.pred]).map fun p=>((N.idxOf p:Nat):Int)):=by
    unfold Hq;rw[if_pos ⟨c.1,by rw[hm];exact c.2⟩,h2];simp
   have e2:Nk T (a,ps) x=(a++(T x.head.pred).flatMap (Cs x.head.pred),ps++[x.head.pred]):=if_pos c;rw[e1,e2];refine Sd _ _ hl (fun p aa=>?_);rcases Ab2.1 aa with g|g
   ·exact hp p g
   ·rw[Acx.1 g];exact h1
  ·have e1:Hq N rk (a,ps.map fun p=>((N.idxOf p:Nat):Int)) x=(a,ps.map fun p=>((N.idxOf p:Nat):Int)):=by
    unfold Hq;rw[if_neg (fun g=>c ⟨g.1,by have:=g.2;rw[hm]at this;exact this⟩)]
   have e2:Nk T (a,ps) x=(a,ps):=if_neg c;rw[e1,e2];exact Sd _ _ hl hp
section
variable {l l':List RItem} {N N':List Tx} {F F':List RAtom} {M M':MM}
theorem PMi.has {B:Cq}:∀{s:Nat} {k:Nat} {t:Bj},B k t->PMi N l B s k t
 |0,_,_,h=>h
 |s+1,_,_,h=>LstG.base (PMi.has h)
theorem Aad {M:MM}(h:∀x∈M,x.2.Nodup)(k:Nat):(Au M (k:Int)).Nodup:=by
 unfold Au;cases hk:M[(k:Int).toNat]? with
 |none=>simp
 |some x=>exact h x (Aax hk)
theorem Aac {M:MM}(h:∀x∈M,T3 x.2)(k:Nat):T3 (Au M (k:Int)):=by
 unfold Au;cases hk:M[(k:Int).toNat]? with
 |none=>intro t ht;simp at ht
 |some x=>exact h x (Aax hk)
theorem Wk {a b:List Bj}(ha:a.Nodup)(hb:b.Nodup)(ta:T3 a)(tb:T3 b)(h:∀t,t∈a↔t∈b):D2 a=D2 b:=
 Yp tb ((F4 a).trans ((List.perm_ext_iff_of_nodup ha hb).2 h)) (Mg ta)
end
structure jQ (t f:Tx)(n:Int)(l:List RItem)(F:List RAtom):Prop where
 tl:t.length<=600
 fl:f.length<=400
 ck:(A3 t).1=0
 n0:0<=n
 n1:n<=200
 par:Bf 16 t= .got l []
 fac:Bw 400 f= .got F []
 fe:F1 l f=0
section
variable {t f x:Tx} {n k e:Int} {l:List RItem} {F:List RAtom}
theorem qZ (hK:jQ t f n l F):RtI l:=qX (Zq hK.ck hK.par).2
theorem gK (hK:jQ t f n l F):xJ l:=by
 have ho:zT l:=fun x hx ho=>(((Ll _ _ _ _ hK.par) x hx).out ho).2.2;exact⟨ho,Tb ho (qZ hK).kn,(El _ _ _ _ hK.par).2.2.1⟩
theorem uR (hK:jQ t f n l F):Dd (l.flatMap Af++F):=by
 have hg:=Ll _ _ _ _ hK.par
 have h1:Dd (l.flatMap Af):=Tw (qZ hK).odd (fun x hx a ha=>by
  unfold Af at ha;rcases Ab2.1 ha with h|h
  ·cases ho:x.out with
   |true=>rw[ho]at h;simp at h
   |false=>
    rw[ho]at h;simp at h;rw[h];exact Adt.2 ((hg x hx).rule ho).1.ne
  ·cases ho:x.out with
   |true=>rw[((hg x hx).out ho).2.2]at h;cases h
   |false=>exact Adt.2 (((hg x hx).rule ho).2.2.2 a h).ne)
 have aa:=hK.fe;unfold F1 at aa;rw[hK.fac]at aa;simp only at aa;refine Mx h1 (fun a ha=>Adt.2 ((Ct _ _ _ _ hK.fac).2.2.2 a ha).1.2.1) ?_;split at aa
 ·cases aa
 ·rename_i h;simpa using h
end
theorem sH {a:RAtom}(h:Fb a):46∉A4 a:=fun hb=>by
 rcases mS h hb with h|h|h|h
 ·exact yZ h (by simp)
 all_goals exact absurd h (by decide)
theorem O8:∀(n:Nat) (s:Tx) (F:List RAtom) (r:Tx),Bw n s= .got F r->∀a∈F,pE a
 |n,[],F,r,h=>by
  rw[F5]at h;cases h;simp
 |0,b::s,F,r,h=>by cases h
 |n+1,b::s,F,r,h=>by
  rw[Fp]at h;obtain⟨x,r1,h1,h⟩:=Ax h;obtain⟨xs,r2,h2,h⟩:=Ax h;cases h;intro a ha;rcases Acd.1 ha with rfl|ha
  ·unfold G5 at h1;obtain⟨a2,r3,h3,h1⟩:=Ax h1;split at h1
   ·obtain⟨u,r4,h4,h1⟩:=Ax h1;cases h1;exact Nv h3
   ·cases h1
  ·exact O8 n r1 xs r h2 a ha
theorem xN {t:Tx}(h:Ag t=false)(l:List Tx):Ou l t=t:=if_neg (by simp[h])
abbrev Hf:=Tx->Bj->Prop
def wT (ν:Tx->Int)(t:Tx):Int:=if Ag t=true then ν t else (Bu t).2
def kA (ν:Tx->Int)(a:RAtom):Bj:=C8 (a.terms.map (wT ν))
def HoL (M D:Hf)(ν:Tx->Int)(a:RAtom):Prop:=if a.nt=true then¬M a.pred (kA ν a)else D a.pred (kA ν a)
def Clo (l:List RItem)(M D:Hf):Prop:=∀x∈l,x.out=false->∀ν,(∀a∈x.body,HoL M D ν a)->D x.head.pred (kA ν x.head)
def LstM (l:List RItem)(B M:Hf):Hf:=fun p t=>∀D:Hf,(∀p t,B p t->D p t)->Clo l M D->D p t
def Stb (l:List RItem)(B M:Hf):Prop:=∀p t,M p t↔LstM l B M p t
theorem HoL.mono {M D D':Hf}{ν:Tx->Int}{a:RAtom}(h:HoL M D ν a)(hD:∀p t,D p t->D' p t):HoL M D' ν a:=by
 unfold HoL at h⊢;split
 ·rename_i e;rw[if_pos e]at h;exact h
 ·rename_i e;rw[if_neg e]at h;exact hD _ _ h
theorem LstM.base {l:List RItem}{B M:Hf}{p:Tx}{t:Bj}(h:B p t):LstM l B M p t:=fun D hB _=>hB p t h
theorem LstM.clo (l:List RItem)(B M:Hf):Clo l M (LstM l B M):=fun x hx ho ν h D hB hC=>hC x hx ho ν fun a ha=>(h a ha).mono fun p t g=>g D hB hC
section
variable {l:List RItem} (hr:xJ l)
include hr
theorem Yh {x:RItem}(hx:x∈l){a:RAtom}(ha:a∈x.body):Ay l a.pred<=Ay l x.head.pred:=
 (Eh hr.out hr.loo hr.len _ _).1 (Oq (.inr (.one ⟨x,hx,rfl,a,ha,rfl⟩)) ((Eh hr.out hr.loo hr.len _ _).2 (Aak _)))
theorem Yi {x:RItem}(hx:x∈l){a:RAtom}(ha:a∈x.body)(hn:a.nt=true):Ay l a.pred<Ay l x.head.pred:=
 (Eh hr.out hr.loo hr.len _ _).1 ⟨x,hx,.inl rfl,a,ha,hn,(Eh hr.out hr.loo hr.len _ _).2 (Aak _)⟩
theorem Yj {B:Hf}:∀{M M':Hf},Stb l B M->Stb l B M'->∀s p t,Ay l p<s->M p t->M' p t
 |M,M',h,h',0,p,t,hp,_=>absurd hp (Ac0 _)
 |M,M',h,h',s+1,p,t,hp,g=>by
  have:=(h p t).1 g (fun p t=>Ay l p<s+1->LstM l B M' p t) (fun p t hb _=>LstM.base hb) fun x hx ho ν hb aa=>
   LstM.clo l B M' x hx ho ν fun a ha=>by
    have h1:=hb a ha;unfold HoL at h1⊢;by_cases e:a.nt=true
    ·rw[if_pos e]at h1⊢;have:=Yi hr hx ha e;exact fun g=>h1 (Yj h' h s _ _ Ad2 g)
    ·rw[if_neg e]at h1⊢;have:=Yh hr hx ha;exact h1 Ad2
  exact (h' p t).2 (this hp)
theorem Stb.uniq {B M M':Hf}(h:Stb l B M)(h':Stb l B M')(p:Tx)(t:Bj):M p t↔M' p t:=⟨Yj hr h h' _ p t (Nat.lt_succ_self _),Yj hr h' h _ p t (Nat.lt_succ_self _)⟩
end
def vE (N:List Tx)(D:Cq):Hf:=fun p t=>p∈N/\D (N.idxOf p) t
theorem lU {N:List Tx}{a:RAtom}(ν:Nu):Bp (Dv N a) ν=kA (fun w=>ν (Bu w).2) a:=by
 unfold Bp kA Dv;simp only[Abb];congr 1;refine Acn fun t _=>?_;simp only[Function.comp,H5,wT,Ig]
theorem jZ {N:List Tx}{a:RAtom}(hu:∀t∈a.terms,UT t)(ν:Tx->Int):kA ν a=Bp (Dv N a) fun v=>ν (Tv (true,v)):=by
 unfold Bp kA Dv;simp only[Abb];congr 1;refine Acn fun t ht=>?_;simp only[Function.comp,H5,wT,Ig];cases hv:Ag t with
 |false=>rfl
 |true=>
  have e:(true,(Bu t).2)=Bu t:=Prod.ext (by rw[Ig];exact hv.symm) rfl;simp only[if_true];rw[e,(hu t ht).dec.1]
theorem Ys {N:List Tx}{l:List RItem}{B:Cq}(hN:∀x∈l,x.head.pred∈N){p:Tx}(hp:p∈N){t:Bj}{s:Nat}(hs:Ay l p<s):∀{s':Nat},s<=s'->PMi N l B s' (N.idxOf p) t->PMi N l B s (N.idxOf p) t
 |0,h,g=>absurd hs Ad2
 |s'+1,h,g=>by
  by_cases e:s=s'+1
  ·subst e;exact g
  ·refine Ys hN hp hs (s':=s') Ad2 (LstG.nonhead (fun r hr e2=>?_) g);obtain⟨x,hx,rfl⟩:=Acf.1 hr;obtain⟨h1,h2,h3⟩:=I5 hx;simp only[Fg,Dv,Adi]at e2;rw[Eb (hN x h1) hp e2]at h3;omega
theorem rC {N:List Tx}{l:List RItem}(hr:xJ l)(hN:∀x∈l,x.head.pred∈N/\∀a∈x.body,a.pred∈N)(hu:∀x∈l,x.out=false->∀a,a=x.head\/a∈x.body->∀t∈a.terms,UT t){B:Cq}(hB:∀k t,B k t->∃p∈N,k=N.idxOf p):Stb l (vE N B) (vE N (PMi N l B (l.length+1))):=by
 intro p t;constructor
 ·rintro⟨hp,g⟩;have key:∀s,s<=l.length+1->∀k t,PMi N l B s k t->∃p∈N,k=N.idxOf p/\LstM l (vE N B) (vE N (PMi N l B (l.length+1))) p t:=fun s=>by
   induction s with
   |zero=>
    intro _ k t g;obtain⟨q,hq,rfl⟩:=hB k t g;exact⟨q,hq,rfl,LstM.base ⟨hq,g⟩⟩
   |succ s ih=>
    intro hs k t g;refine LstG.least (ih Ad2) (fun r aa ν hl=>?_) g;obtain⟨x,hx,rfl⟩:=Acf.1 aa;obtain⟨h1,h2,h3⟩:=I5 hx;refine⟨x.head.pred,(hN x h1).1,rfl,?_⟩;show LstM _ _ _ _ (Bp (Dv N x.head) ν);rw[lU];refine LstM.clo l _ _ x h1 h2 _ fun a ha=>?_;have hh:=hl (Pd N a) (Acf.2 ⟨a,ha,rfl⟩);unfold LitH Pd at hh;dsimp only at hh;rw[lU]at hh;unfold HoL;by_cases e:a.nt=true
    ·rw[if_pos e]at hh⊢;rintro⟨hq,g⟩;have:=Yi hr h1 ha e;exact hh (Ys (fun x hx=>(hN x hx).1) hq (s:=s) Ad2 Ad2 g)
    ·rw[if_neg e]at hh⊢;obtain⟨q,hq,e2,g⟩:=hh;have:a.pred=q:=Eb ((hN x h1).2 a ha) hq e2;subst this;exact g
  obtain⟨q,hq,e,g⟩:=key _ (Aak _) _ _ g;rw[Eb hp hq e];exact g
 ·intro h;refine h _ (fun p t g=>⟨g.1,PMi.has g.2⟩) fun x hx ho ν hb=>⟨(hN x hx).1,?_⟩;have hs:=Wc hr x.head.pred;refine PMi.up (s:=Ay l x.head.pred+1) Ad2 ?_;rw[jZ (N:=N) (hu x hx ho _ (.inl rfl))];have hm:x∈Ix l (Ay l x.head.pred):=Ac7.2 ⟨hx,by unfold Pi;rw[ho];simp⟩;refine LstG.cl ((Ix l (Ay l x.head.pred)).map (Fg N)) (PMi N l B (Ay l x.head.pred)) (Fg N x) (Acf.2 ⟨x,hm,rfl⟩) (fun v=>ν (Tv (true,v))) fun k hk=>?_;obtain⟨a,ha,rfl⟩:=Acf.1 hk;have h1:=hb a ha;unfold HoL at h1;rw[jZ (N:=N) (hu x hx ho a (.inr ha))]at h1;unfold LitH Pd;dsimp only;by_cases e:a.nt=true
  ·rw[if_pos e]at h1⊢;exact fun g=>h1 ⟨(hN x hx).2 a ha,PMi.up Ad2 g⟩
  ·rw[if_neg e]at h1⊢;have:=Yh hr hx ha;exact Ys (fun x hx=>(hN x hx).1) h1.1 (s:=Ay l x.head.pred+1) Ad2 Ad2 h1.2
def Tk (F:List RAtom):Hf:=fun p t=>∃a∈F,a.pred=p/\t=Cx (Dv [] a)
theorem yO {N:List Tx}{F:List RAtom}{M:MM}(hN:∀a∈F,a.pred∈N)(hM:MkM N.length (F.map (Dv N)) M):vE N (MD M)=Tk F:=by
 funext p t;refine propext ⟨?_,?_⟩
 ·rintro⟨hp,h⟩;obtain⟨b,hb,e1,e2⟩:=(hM.mem _ t).1 h;obtain⟨a,ha,rfl⟩:=Acf.1 hb;have e3:N.idxOf a.pred=N.idxOf p:=by simp only[Dv]at e1;omega
  exact⟨a,ha,Eb (hN a ha) hp e3,e2⟩
 ·rintro⟨a,ha,rfl,rfl⟩;exact⟨hN a ha,(hM.mem _ _).2 ⟨Dv N a,Acf.2 ⟨a,ha,rfl⟩,rfl,rfl⟩⟩
theorem yP {N:List Tx}{F:List RAtom}{M:MM}(hN:∀a∈F,a.pred∈N)(hM:MkM N.length (F.map (Dv N)) M)(k:Nat)(t:Bj)(h:MD M k t):∃p∈N,k=N.idxOf p:=by
 obtain⟨b,hb,e1,-⟩:=(hM.mem _ t).1 h;obtain⟨a,ha,rfl⟩:=Acf.1 hb;exact⟨a.pred,hN a ha,by simp only[Dv]at e1;omega⟩
theorem xC {N:List Tx}{l:List RItem}(hN:∀x∈l,x.head.pred∈N/\∀a∈x.body,a.pred∈N){B:Cq}(hB:∀k t,B k t->∃p∈N,k=N.idxOf p):∀s k t,PMi N l B s k t->∃p∈N,k=N.idxOf p
 |0,k,t,g=>hB k t g
 |s+1,k,t,g=>LstG.least (xC hN hB s) (fun r hr ν _=>by
  obtain⟨x,hx,rfl⟩:=Acf.1 hr
  exact⟨x.head.pred,(hN x (I5 hx).1).1,rfl⟩) g
end Go.Proofs.YtmoeoppbmhfbpaaGreatDoorH
