import Derived.Test.YtmoeoppbmhfbpabGreatDoorLTelB
import Derived.Test.YtmoeoppbmhfbpabGreatDoorLOptE
import Derived.Test.YtmoeoppbmhfbpabGreatDoorLEngA
import Derived.Test.YtmoeoppbmhfbpabGreatDoorLRefA
import Derived.Test.YtmoeoppbmhfbpabGreatDoorLGramD
import Derived.Test.YtmoeoppbmhfbpabGreatDoorLFacts
import Derived.Test.YtmoeoppbmhfbpabGreatDoorLEngR
set_option maxHeartbeats 64000000
set_option maxRecDepth 100000
set_option linter.all false
namespace Go.Proofs.YtmoeoppbmhfbpabGreatDoorL
open Go.Abs
theorem yJ {t:Tx}{l:List RItem}(ht:t.length<=600)(h:Br 16 t= .got l []):∀x∈l,x.head.pred.length<=600:=fun x hx=>by
 obtain⟨h1,-,-,-⟩:=Ey _ _ _ _ h;have hl:(Be x).length<=(Bv l).length:=by
  unfold Bv;obtain⟨a,b,rfl⟩:=List.append_of_mem hx;simp;omega
 have h2:x.head.pred.length<=(Be x).length:=by
  unfold Be;split
  ·simp
  ·simp[Di,A7]
 rw[<-h1]at hl;omega
theorem fE (t f:Tx)(n:Int)(z:St):ACalls Tryz.prog 25 [str t,str f,ic n] z fun r z'=>∃x k e,r=tp [str x,ic k,ic e]/\K5 t f n x k e/\Keep z z':=by
 have ct:({data:=#[]}:ByteArray)=bs []:=rfl;by_cases hL:600<t.length
 ·have cm:decide ((t.length:Int)>600)=true:=by rw[Ajj];omega
  have HP:Ajs (K5 t f n [] 0 1):=by rw[Ajs,K5,if_pos (.inl hL)];exact⟨rfl,rfl,rfl⟩
  clear hL;refine Z9 59 [.tmp 6,.tmp 7,.tmp 8] Tryz.func25 ?_
  repeat' (first|refine Z1 ?_|(refine Z8 ?_;intro κ hκ)|(refine Z4 ?_;clear hκ κ)|(refine Z2 ?_ ?_<;>intro h aa<;>try exact Xp)|refine Z7 ?_|exact⟨⟩|(apply hκ.out;clear hκ κ))
  exact⟨_,rfl,[],0,1,rfl,HP.out,Keep.refl _⟩
 ·have cm:decide ((t.length:Int)>600)=false:=by rw[decide_eq_false_iff_not];omega
  by_cases hF:400<f.length
  ·have bz:decide ((f.length:Int)>400)=true:=by rw[Ajj];omega
   have HP:Ajs (K5 t f n [] 0 1):=by rw[Ajs,K5,if_pos (.inr hF)];exact⟨rfl,rfl,rfl⟩
   clear hL hF;refine Z9 59 [.tmp 6,.tmp 7,.tmp 8] Tryz.func25 ?_
   repeat' (first|refine Z1 ?_|(refine Z8 ?_;intro κ hκ)|(refine Z4 ?_;clear hκ κ)|(refine Z2 ?_ ?_<;>intro h aa<;>try exact Xp)|refine Z7 ?_|exact⟨⟩|(apply hκ.out;clear hκ κ))
   exact⟨_,rfl,[],0,1,rfl,HP.out,Keep.refl _⟩
  ·have bz:decide ((f.length:Int)>400)=false:=by rw[decide_eq_false_iff_not];omega
   have HP:Ajs (∀x k e,K5 t f n x k e↔if (Av t).1≠0 then x=[]/\k=0/\e=(Av t).1
 else if n<0\/200<n then x=[]/\k=0/\e=6
 else∃l,Br 16 t= .got l []/\if Hp l f≠0 then x=[]/\k=0/\e=Hp l f else∃F,C0 400 f= .got F []/\jZ l F n x k e):=fun x k e=>by rw[K5,if_neg (by simp[hL,hF])]
   have br:=fun z=>Vi t z;have be:Ajs ((Av t).1=0->∀n1 c1 n2 c2,n1<=600/\mL t n1 c1 n2 c2->∃N l,Br 16 t= .got l []/\BkT N l c2/\n1=N.length/\c1=N.map str/\n2=l.length):=fun h0 n1 c1 n2 c2 ⟨h6,N,l,hp,hB,e1,e2,e3,cg,cf⟩=>by
    obtain⟨ch,hw⟩:=dA h0 hp;refine⟨N,l,hp,⟨hB,Ajm,wJ hw,cg,Iv (T:=DT) Pm 16 t l [] hp,cf,yJ ch hp⟩,e1,e2,e3⟩
   clear hL hF;generalize Av t=rc at*
   obtain⟨e0,p0⟩:=rc;simp only at br HP be;refine Z9 59 [.tmp 6,.tmp 7,.tmp 8] Tryz.func25 ?_
   repeat' (first|refine Z1 ?_|(refine Z8 ?_;intro κ hκ)|(refine Z4 ?_;clear hκ κ)|(refine Z2 ?_ ?_<;>intro h aa<;>try exact Xp)|(refine Z5 ?_;refine Xi (br _) ?_;rintro _ _ ⟨idn,n1,c1,idi,n2,c2,rfl,ac,hb⟩;(have HB:Ajs _:=hb;clear hb;have ce:=ac.nobj))|refine Z7 ?_|exact⟨⟩|(apply hκ.out;clear hκ κ))
   ·have he:e0≠0:=by simpa using h
    exact⟨_,rfl,[],0,e0,rfl,(HP.out _ _ _).2 (by rw[if_pos he];exact⟨rfl,rfl,rfl⟩),(ac.new _).put ac.nobj _⟩
   ·skip
    have he:¬e0≠0:=by
     have:(e0 !=0)=false:=by assumption
     simpa using this
    exact⟨_,rfl,[],0,6,rfl,(HP.out _ _ _).2 (by rw[if_neg he,if_pos (.inr (by assumption))];exact⟨rfl,rfl,rfl⟩),(ac.new _).put ac.nobj _⟩
   ·rename St=>z1;have he:e0=0:=by
     have:(e0 !=0)=false:=by assumption
     simpa using this
    have cj:0<=n:=by assumption
    have cr:n<=200:=by assumption
    obtain⟨N,l,hp,hT,rfl,rfl,rfl⟩:=be.out he _ _ _ _ (HB.out he);have bc:Ajs (∀x k e,(if Hp l f≠0 then x=[]/\k=0/\e=Hp l f else∃F,C0 400 f= .got F []/\jZ l F n x k e)->K5 t f n x k e):=fun x k e h=>(HP.out x k e).2 (by rw[if_neg (by simp[he]),if_neg Ajm];exact⟨l,hp,h⟩);have a9:=fun z=>Vj N l c2 idn idi hT.bk hT.nl (zE hT.cons) f (by have:decide ((f.length:Int)>400)=false:=bz;rw[decide_eq_false_iff_not]at this;omega) z;unfold Bo at a9;have HT:Ajs _:=hT;clear hT hp HP be HB;have bu:=(ac.new [nilS,nilS]).put ac.nobj [sl idn N.length (N.map str),sl idi l.length c2]
    repeat' (first|refine Z1 ?_|(refine Z8 ?_;intro κ hκ)|(refine Z4 ?_;clear hκ κ)|(refine Z2 ?_ ?_<;>intro h aa<;>try exact Xp)|(refine Z5 ?_;refine Xi (a9 _) ?_;rintro _ _ ⟨idf,nf,np,fc,rfl,a0,bl⟩;(have b7:Ajs _:=bl;clear bl;have a6:=a0.nobj;have af:=a0.obj;simp only[Ab,Aa]at a6 af;have ba:=bu.trans a0;have a5:=af z1.nobj Ajm;rw[Ak]at a5))|refine Z7 ?_|exact⟨⟩|(apply hκ.out;clear hκ κ))
    ·have ab:Hp l f≠0:=by simpa using h
     exact⟨_,rfl,[],0,Hp l f,rfl,bc.out _ _ _ (by rw[if_pos ab];exact⟨rfl,rfl,rfl⟩)⟩
    ·rename St=>z2;have ab:Hp l f=0:=by simpa using h
     obtain⟨F,N',ak,rfl,rfl,ad,cu,hE⟩:=b7.out ab;have b4:Ajs (∀x k e,jZ l F n x k e->K5 t f n x k e):=fun x k e h=>bc.out x k e (by rw[if_neg (by simp[ab])];exact⟨F,ak,h⟩);obtain⟨-,b1,-,a3⟩:=Jg _ _ _ _ ak;have a4:∀a∈F,a.pred∈N':=fun a ha=>by
      obtain⟨i,hi⟩:=List.getElem?_of_mem ha;exact (Wn hE hi).1
     have au:L2 (l.flatMap Ae) F=false:=by
      unfold Hp at ab;rw[ak]at ab;simp only at ab;cases ho:L2 (l.flatMap Ae) F with
      |false=>rfl
      |true=>rw[ho]at ab;simp at ab
     have ap:∀a∈F,0<a.terms.length:=fun a ha=>by
      have:=(a3 a ha).1.2.1;cases hh:a.terms with
      |nil=>exact absurd hh this
      |cons y ys=>simp
     have hS:=Om HT.out.cons ap au;have b2:=HT.out.bkr ad hS;have bm:∀a∈F,∀w∈a.terms,VT w/\DT w:=fun a ha w hw=>⟨Oa (T:=VT) (fun _ _ _ h=>gE h) _ _ _ _ ak a ha w hw,Oa (T:=DT) Pm _ _ _ _ ak a ha w hw⟩
     have a7:=fun z=>Ma N'.length (F.map (Ca N')) fc idf n (Adt hE) Ajm (by rw[Aij];omega) (fun a ha=>by
      obtain⟨b,hb,rfl⟩:=Ahv.1 ha
      exact⟨by simp[Ca];exact (a3 b hb).1.2.2.1,_,rfl,Ah9 (a4 b hb)⟩) z
     rw[Aij]at a7;have bb:Ajs (∀M,MkM N'.length (F.map (Ca N')) M->MSh (arA N' (l.flatMap Ae++F)) M):=fun M ae k u hu=>by
      obtain⟨a,ha,e1,e2⟩:=(ae.mem k u).1 hu;obtain⟨b,hb,rfl⟩:=Ahv.1 ha;have:=Ach hS (Ahs.2 (.inr hb)) (a4 b hb) (a3 b hb).2.2 (bm b hb);rw[e2];have e3:k=N'.idxOf b.pred:=by simp only[Ca]at e1;omega
      rw[e3];exact this
     have b6:Ajs _:=b2;have b5:Ajs _:=a4;have cp:F.length<=400:=b1;clear ak a3 a4 au ap hS b2 bm b7 bc ab hE a9 b1
     repeat' (first|refine Z1 ?_|(refine Z8 ?_;intro κ hκ)|(refine Z4 ?_;clear hκ κ)|(refine Z2 ?_ ?_<;>intro h aa<;>try exact Xp)|(refine Z5 ?_;refine Xi (a7 _) ?_;rintro _ _ ⟨ot,M,rfl,ae,az,cq,a8,av⟩;(have cd:=az.nobj;have an:=az.obj))|refine Z7 ?_|exact⟨⟩|(apply hκ.out;clear hκ κ))
     rename St=>z3;obtain⟨z4,ao⟩:∃τ,τ=((z3.new [nilS,ic 0,ic 0]).put z3.nobj [fx ot 0 N'.length,ic 0,ic n]):=⟨_,rfl⟩;rw[<-ao];have aj:Keep z3 z4:=by rw[ao];exact ((Keep.refl z3).new _).put (Agi _) _
     have co:Keep z z4:=(ba.trans az).trans aj;have n4:z4.nobj=z3.nobj+1:=by rw[ao];rfl
     have b9:z4.obj z1.nobj=[sl idn N.length (N.map str),sl idi l.length c2]:=by rw[aj.obj _ Ajm,an _ Ajm,a5]
     have ci:=a8.lt;have bo:=ae.len;have bq:MOb z4 z3.nobj ot M 0 n:=(a8.keep aj).mob (by rw[ao,Ak,bo]) Ajm Ajm;have bn:∀y∈M,y.1=1\/z.ntop+2<=y.1:=fun y hy=>by have:=ba.ntop;rcases av y hy with h|h<;>omega
     have bf:tot M<=1000:=by have:=ae.tot;rw[Aij]at this;omega
     have bw:=cH N l c2 idn idi N'.length (arA N' (l.flatMap Ae++F)) HT.out.bk b6.out z3.nobj ot n cj Ajm M bo (bb.out M ae) ae.nd bf z4 bq;have bg:=lQ b6.out (B:=MD M) (bb.out M ae);unfold Bo at bw;have bd:Ajs _:=ae;have b3:Ajs _:=bg;clear ao a8 av ae bq bg bb a7 az a0 bu ba af an a5 ac
     repeat' (first|refine Z1 ?_|(refine Z8 ?_;intro κ hκ)|(refine Z4 ?_;clear hκ κ)|(refine Z2 ?_ ?_<;>intro h aa<;>try exact Xp)|(refine Z5 ?_;first|(refine Xi (bw) ?_;rintro _ _ ⟨M',d',am,ai,bv⟩;(have ax:Ajs _:=bv;clear bv;have cb:=ai.nobj;have cn:=Acb co ai Ajm Ajm bn;have ck:=Kz z3.nobj ot M' d' n _ am;have b8:=ai.obj z1.nobj Ajm Ajm Ajm;rw[b9]at b8))|(refine Xi (ck) ?_;rintro _ _ ⟨rfl,rfl⟩))|refine Z7 ?_|exact⟨⟩|(apply hκ.out;clear hκ κ))
     ·refine⟨_,rfl,[],0,9,rfl,b4.out _ _ _ ⟨N',M,M',d',fun y hy=>⟨ad.subset ((Ht HT.out.bk.el y hy).1),fun a ha=>ad.subset ((Ht HT.out.bk.el y hy).2 a ha)⟩,b5.out,bd.out,am.t3,?_,by rw[if_pos (by assumption)];exact⟨rfl,rfl,rfl⟩⟩⟩;unfold FolI;rw[cW ad (Ht HT.out.bk.el)];exact ax.out
     ·rename St=>z5;have bh:¬n<d':=Ajm;have b0:FolI N' l M n (l.length+1) M' d':=by
       unfold FolI;rw[cW ad (Ht HT.out.bk.el)];exact ax.out
      have bp:∀k u,MD M' k u->Sh (arA N' (l.flatMap Ae++F)) k u:=fun k u hu=>by
       rcases ax.out.2.2 with⟨-,g,-⟩|⟨g,-⟩
       ·exact b3.out _ _ _ ((g k u).1 hu)
       ·exact absurd g bh
      have ah:∀x∈M',∀u∈x.2,∀y∈u,-1<=y/\y<=9999:=fun x hx u hu=>by
       obtain⟨k,hk⟩:=List.getElem?_of_mem hx;exact Ad6 (bp k u (by unfold MD;rw[B8 hk];exact hu))
      have bi:N.length<=M'.length:=by
       have:=ax.out.1;have:=ad.length_le;omega
      have ay:=Sm N l c2 idn idi HT.out.bk HT.out.nn z3.nobj ot M' d' n bi ah z5 am;have e1:O7 N (fun j=>Gx (Ay M' (j:Int))) l=O7 N' (fun j=>Gx (Ay M' (j:Int))) l:=by
       unfold O7 F6;rw[Yz ad _ _ (fun x hx=>(Ht HT.out.bk.el x hx).1)]
      rw[e1]at ay;have HR:Ajs (K5 t f n (O7 N' (fun j=>Gx (Ay M' (j:Int))) l) d' 0):=b4.out _ _ _ ⟨N',M,M',d',fun y hy=>⟨ad.subset ((Ht HT.out.bk.el y hy).1),fun a ha=>ad.subset ((Ht HT.out.bk.el y hy).2 a ha)⟩,b5.out,bd.out,am.t3,b0,by rw[if_neg bh];exact⟨rfl,rfl,rfl,ah⟩⟩;generalize O7 N' (fun j=>Gx (Ay M' (j:Int))) l=tx at ay HR;unfold Bo at ay;have ca:=am.ob;have lo14:=am.lo;clear e1 b0 bp ah bi ax b3 bd bn bf;refine Bu (Q:=fun e s' z''=>e= .normal/\s' 6=str tx/\s' 7=ic d'/\s' 8=ic 0/\Keep z5 z'') ?_ ?_
      ·refine A2 Aj (fun _=>True) [] [0,2,3] 4 #[true,false,true,true,false,false,false] Ajp (fun _ _ _ h=>by cases h.1) ?_;intro κ hκ;refine Z7 ?_;refine hκ.out _ ?_;clear hκ κ;refine Ao (i:=1) Ajp ?_;refine Ar ?_;intro κ hκ;refine Z7 ?_;refine ACalls.mono ay ?_;rintro _ z6 ⟨rfl,aw⟩;refine Z7 ?_;refine hκ.out _ _ ⟨Aq aw,?_⟩;clear hκ κ;refine E6 [4,5,6] Ajp Ajp (fun _ _ _ h=>by cases h.1) aw.nobj (fun o ho _=>aw.ver o ho) ?_;intro κ hκ;refine Z7 ?_;refine hκ.out _ _ ⟨rfl,?_⟩;simp[upd, *]
      ·rintro e s' z6 ⟨rfl,g6,g7,g8,aw⟩
       repeat' (first|refine Z1 ?_|(refine Z8 ?_;intro κ hκ)|(refine Z4 ?_;clear hκ κ)|(refine Z2 ?_ ?_<;>intro h aa<;>try exact Xp)|refine Z7 ?_|exact⟨⟩|(apply hκ.out;clear hκ κ))
       first|exact⟨_,rfl,tx,d',0,rfl,HR.out,cn.trans aw⟩|exact⟨_,rfl,tx,d',0,rfl,HR.out⟩
   ·skip
    have he:¬e0≠0:=by
     have:(e0 !=0)=false:=by assumption
     simpa using this
    exact⟨_,rfl,[],0,6,rfl,(HP.out _ _ _).2 (by rw[if_neg he,if_pos (.inl (by assumption))];exact⟨rfl,rfl,rfl⟩),(ac.new _).put ac.nobj _⟩
set_option maxRecDepth 1000000
section
variable {N:List Tx} {Ng B D:Cu}
end
section
variable {E:List Int} {base:Int} {N:List Tx} {M:MM}
end
section
variable {E:List Int} {base:Int} {N:List Tx} {M:MM}
end
theorem zF {S:List RAtom}{f:Tx->Nat}(hf:∀p,0<f p)(h:∀a∈S,a.terms.length=f a.pred):Dc S:=fun b hb=>by
 refine⟨by rw[h b hb];exact hf _,?_⟩;rw[h b hb];unfold Fw;cases hh:S.find? (fun a=>a.pred==b.pred)with
 |none=>
  have:=List.find?_eq_none.1 hh b hb;simp at this
 |some a=>
  have h1:=List.find?_some hh;have e:a.pred=b.pred:=by simpa using h1
  show f b.pred=a.terms.length;rw[h a (List.mem_of_find?_eq_some hh),e]
def Af7 (l:List RItem):Prop:=∀x∈l,x.out=true->x.body=[]
structure Rgt (l:List RItem):Prop where
 out:Af7 l
 loo:kC l
 len:l.length<=16
section
variable {l l':List RItem}
theorem rK (hr:Rgt l)(p:Tx):B7 l p<=l.length:=kE hr.loo ((Ev hr.out hr.loo hr.len p _).2 (Agi _))
theorem Uo {s:Nat}{x:RItem}(hx:x∈Qd l s):x∈l/\x.out=false/\B7 l x.head.pred=s:=by
 obtain⟨h1,h2⟩:=Aip.1 hx;unfold mO at h2;simp only[Ags,Ai5,Ajk]at h2;exact⟨h1,h2.1,h2.2⟩
structure Af8 (N:List Tx)(l:List RItem)(F:List RAtom):Prop where
 it:∀y∈l,y.head.pred∈N/\∀a∈y.body,a.pred∈N
 fa:∀a∈F,a.pred∈N
variable {N N':List Tx} {F F':List RAtom} {M M':MM}
theorem xT (hN:Af8 N l F)(aa:Af8 N' l' F')(hF:∀a,a∈F↔a∈F')(hM:MkM N.length (F.map (Ca N)) M)(ab:MkM N'.length (F'.map (Ca N')) M'){k:Nat}{t:Bc}(h:MD M k t):∃p,p∈N/\p∈N'/\k=N.idxOf p/\MD M' (N'.idxOf p) t:=by
 obtain⟨b,hb,e1,e2⟩:=(hM.mem k t).1 h;obtain⟨a,ha,rfl⟩:=Ahv.1 hb;have e3:k=N.idxOf a.pred:=by simp only[Ca]at e1;omega
 exact⟨a.pred,hN.fa a ha,aa.fa a ((hF a).1 ha),e3,(ab.mem _ t).2 ⟨Ca N' a,Ahv.2 ⟨a,(hF a).1 ha,rfl⟩,rfl,e2⟩⟩
end
def prs:List Tx->MM->List (Tx×Bc)
 |_,[]=>[]
 |N,x::M=>x.2.map (fun t=>(N.headD [],t))++prs N.tail M
theorem bJ:∀(N:List Tx) (M:MM),((prs N M).length:Int)=tot M
 |_,[]=>rfl
 |N,x::M=>by
  have:=bJ N.tail M;rw[Dj];unfold prs;rw[Aha,Aij];omega
theorem Kb (N:List Tx)(k:Nat):N.tail.getD k []=N.getD (k+1) []:=by cases N<;>simp
theorem prsF_mem {p:Tx}{t:Bc}:∀{N:List Tx} {M:MM},(p,t)∈prs N M↔∃k:Nat,N.getD k []=p/\MD M k t
 |N,[]=>by
  constructor
  ·intro h;cases h
  ·rintro⟨k,-,h⟩;simp[MD,Ay]at h
 |N,x::M=>by
  unfold prs;rw[Ahs,Ahv,prsF_mem];constructor
  ·rintro (⟨u,hu,e⟩|⟨k,e,h⟩)
   ·cases e;exact⟨0,by cases N<;>rfl,hu⟩
   ·exact⟨k+1,by rw[<-Kb];exact e,by unfold MD Ay at*;simpa using h⟩
  ·rintro⟨k,e,h⟩;cases k with
   |zero=>exact .inl ⟨t,h,by rw[<-e];cases N<;>rfl⟩
   |succ k=>exact .inr ⟨k,by rw[Kb];exact e,by unfold MD Ay at*;simpa using h⟩
theorem Zf:∀{N:List Tx} {M:MM},(∀x∈M,x.2.Nodup)->(∀k k' t t',MD M k t->MD M k' t'->N.getD k []=N.getD k' []->k=k')->(prs N M).Nodup
 |N,[],_,_=>Aii
 |N,x::M,h,hd=>by
  unfold prs;have shf:∀k t,MD M k t->MD (x::M) (k+1) t:=fun k t g=>by unfold MD Ay at*;simpa using g
  refine Aiw.2 ⟨?_,Zf (fun y hy=>h y (by simp[hy])) (fun k k' t t' g g' e=>?_),?_⟩
  ·have:=h x (by simp);unfold List.Nodup at*
   rw[List.pairwise_map];exact this.imp (fun aa e=>aa (by cases e;rfl))
  ·have:=hd (k+1) (k'+1) t t' (shf k t g) (shf k' t' g') (by rw[<-Kb,<-Kb];exact e);omega
  ·rintro⟨p,t⟩ h1 ⟨q,u⟩ h2 e;cases e;obtain⟨v,hv,e⟩:=Ahv.1 h1;cases e;obtain⟨k,e,g⟩:=prsF_mem.1 h2;have:=hd 0 (k+1) t t hv (shf k t g) (by rw[<-Kb,e];cases N<;>rfl);omega
theorem nF {N N':List Tx}{M M':MM}(aa:∀x∈M,x.2.Nodup)(hs:∀k t,MD M k t->∃p,p∈N/\p∈N'/\k=N.idxOf p/\MD M' (N'.idxOf p) t):tot M<=tot M':=by
 rw[<-bJ N M,<-bJ N' M'];have:=lU (prs N M) (prs N' M') (Zf aa (fun k k' t t' g g' e=>?_)) (fun⟨p,t⟩ h=>?_)
 ·omega
 ·obtain⟨p,h1,-,rfl,-⟩:=hs k t g;obtain⟨q,h2,-,rfl,-⟩:=hs k' t' g';rw[L6 h1,L6 h2]at e;rw[e]
 ·obtain⟨k,e,g⟩:=prsF_mem.1 h;obtain⟨q,h1,h2,rfl,g'⟩:=hs k t g;rw[L6 h1]at e;subst e;exact prsF_mem.2 ⟨_,L6 h2,g'⟩
def R6 (T:Tx->List Bc)(acc:Tx×List Tx)(x:RItem):Tx×List Tx:=if x.out=true/\x.head.pred∉acc.2 then (acc.1++(T x.head.pred).flatMap (Hy x.head.pred),acc.2++[x.head.pred])else acc
def vP (T:Tx->List Bc)(l:List RItem):Tx:=(l.foldl (R6 T) ([],[])).1
theorem O8 {N:List Tx}{rk:Nat->List Bc}{T:Tx->List Bc}:∀{l:List RItem} (a:Tx) (ps:List Tx),(∀x∈l,x.head.pred∈N/\rk (N.idxOf x.head.pred)=T x.head.pred)->(∀p∈ps,p∈N)->
  (l.foldl (Iq N rk) (a,ps.map fun p=>((N.idxOf p:Nat):Int))).1=(l.foldl (R6 T) (a,ps)).1
 |[],a,ps,_,_=>rfl
 |x::l,a,ps,h,hp=>by
  rw[Agv,Agv];obtain⟨h1,h2⟩:=h x (by simp);have hm:(((N.idxOf x.head.pred:Nat):Int)∈ps.map fun p=>((N.idxOf p:Nat):Int))↔x.head.pred∈ps:=by
   rw[Ahv];constructor
   ·rintro⟨q,hq,e⟩;have:N.idxOf q=N.idxOf x.head.pred:=Ajm;rw[<-C2 (hp q hq) h1 this];exact hq
   ·exact fun g=>⟨_,g,rfl⟩
  have hl:=fun y hy=>h y (Ahp x hy);by_cases c:x.out=true/\x.head.pred∉ps
  ·have e1:Iq N rk (a,ps.map fun p=>((N.idxOf p:Nat):Int)) x=(a++(T x.head.pred).flatMap (Hy x.head.pred),(ps++[x.head.pred]).map fun p=>((N.idxOf p:Nat):Int)):=by
    unfold Iq;rw[if_pos ⟨c.1,by rw[hm];exact c.2⟩,h2];simp
   have e2:R6 T (a,ps) x=(a++(T x.head.pred).flatMap (Hy x.head.pred),ps++[x.head.pred]):=if_pos c;rw[e1,e2];refine O8 _ _ hl (fun p aa=>?_);rcases Ahs.1 aa with g|g
   ·exact hp p g
   ·rw[Aib.1 g];exact h1
  ·have e1:Iq N rk (a,ps.map fun p=>((N.idxOf p:Nat):Int)) x=(a,ps.map fun p=>((N.idxOf p:Nat):Int)):=by
    unfold Iq;rw[if_neg (fun g=>c ⟨g.1,by have:=g.2;rw[hm]at this;exact this⟩)]
   have e2:R6 T (a,ps) x=(a,ps):=if_neg c;rw[e1,e2];exact O8 _ _ hl hp
theorem Ug (T:Tx->List Bc):∀(l:List RItem) (acc:Tx×List Tx),l.foldl (R6 T) acc=(l.filter fun x=>x.out).foldl (R6 T) acc
 |[],_=>rfl
 |x::l,acc=>by
  rw[Agv,Ain,Ug T l];cases h:x.out with
  |true=>simp
  |false=>
   have:R6 T acc x=acc:=if_neg (by simp[h]);rw[this];simp
section
variable {l l':List RItem} {N N':List Tx} {F F':List RAtom} {M M':MM}
theorem PMi.has {B:Cu}:∀{s:Nat} {k:Nat} {t:Bc},B k t->PMi N l B s k t
 |0,_,_,h=>h
 |s+1,_,_,h=>LstG.base (PMi.has h)
theorem Afp {M:MM}(h:∀x∈M,x.2.Nodup)(k:Nat):(Ay M (k:Int)).Nodup:=by
 unfold Ay;cases hk:M[(k:Int).toNat]? with
 |none=>simp
 |some x=>exact h x (Agp hk)
theorem Afo {M:MM}(h:∀x∈M,T3 x.2)(k:Nat):T3 (Ay M (k:Int)):=by
 unfold Ay;cases hk:M[(k:Int).toNat]? with
 |none=>intro t ht;simp at ht
 |some x=>exact h x (Agp hk)
theorem rR {a b:List Bc}(ha:a.Nodup)(hb:b.Nodup)(ta:T3 a)(tb:T3 b)(h:∀t,t∈a↔t∈b):Gx a=Gx b:=
 pO tb ((Km a).trans ((List.perm_ext_iff_of_nodup ha hb).2 h)) (Nz ta)
end
theorem Abm (t:Tx):(Av t).1<=5:=by
 unfold Av;split
 ·simp
 split
 ·simp
 unfold Ce;split
 ·simp
 split
 ·simp
 split
 ·simp
 ·simp
theorem Acj (l:List RItem)(f:Tx):Hp l f=7\/Hp l f=3\/Hp l f=8\/Hp l f=0:=by
 unfold Hp;split
 ·exact .inl rfl
 split
 ·exact .inr (.inl rfl)
 split
 ·exact .inr (.inr (.inl rfl))
 ·exact .inr (.inr (.inr rfl))
structure nV (t f:Tx)(n:Int)(l:List RItem)(F:List RAtom):Prop where
 tl:t.length<=600
 fl:f.length<=400
 ck:(Av t).1=0
 n0:0<=n
 n1:n<=200
 par:Br 16 t= .got l []
 fac:C0 400 f= .got F []
 fe:Hp l f=0
section
variable {t f x:Tx} {n k e:Int} {l:List RItem} {F:List RAtom}
theorem wG (h:K5 t f n x k e):(e≠0/\e≠9/\x=[]/\k=0)\/∃l F,nV t f n l F/\jZ l F n x k e:=by
 unfold K5 at h;split at h
 ·obtain⟨rfl,rfl,rfl⟩:=h;exact .inl ⟨by decide,by decide,rfl,rfl⟩
 rename_i h1;split at h
 ·rename_i h2;obtain⟨rfl,rfl,rfl⟩:=h;have:=Abm t;exact .inl ⟨h2,Ajm,rfl,rfl⟩
 rename_i h2;split at h
 ·obtain⟨rfl,rfl,rfl⟩:=h;exact .inl ⟨by decide,by decide,rfl,rfl⟩
 rename_i h3;obtain⟨l,hl,h⟩:=h;split at h
 ·rename_i h4;obtain⟨rfl,rfl,rfl⟩:=h;have:=Acj l f;exact .inl ⟨h4,Ajm,rfl,rfl⟩
 rename_i h4;obtain⟨F,hF,h⟩:=h;exact .inr ⟨l,F,⟨Ajm,Ajm,Ajm,Ajm,Ajm,hl,hF,Ajm⟩,h⟩
theorem Aea (hK:nV t f n l F)(h:K5 t f n x k e):jZ l F n x k e:=by
 have h1:=hK.tl;have h2:=hK.fl;have h3:=hK.n0;have h4:=hK.n1;have h5:=hK.ck;unfold K5 at h;rw[if_neg Ajm,if_neg Ajm,if_neg Ajm]at h;obtain⟨l',hl,h⟩:=h;rw[hK.par]at hl;cases hl;rw[if_neg (by rw[hK.fe];decide)]at h;obtain⟨F',hF,h⟩:=h;rw[hK.fac]at hF;cases hF;exact h
theorem wM (hK:nV t f n l F):RtI l:=wJ (dA hK.ck hK.par).2
theorem wN (hK:nV t f n l F):Rgt l:=by
 have ho:Af7 l:=fun x hx ho=>(((Mt _ _ _ _ hK.par) x hx).out ho).2.2;exact⟨ho,Vh ho (wM hK).kn,(Ey _ _ _ _ hK.par).2.2.1⟩
theorem Abk (hK:nV t f n l F):Dc (l.flatMap Ae++F):=by
 have hg:=Mt _ _ _ _ hK.par
 have h1:Dc (l.flatMap Ae):=Vz (wM hK).odd (fun x hx a ha=>by
  unfold Ae at ha;rcases Ahs.1 ha with h|h
  ·cases ho:x.out with
   |true=>rw[ho]at h;simp at h
   |false=>
    rw[ho]at h;simp at h;rw[h];exact Aie.2 ((hg x hx).rule ho).1.ne
  ·cases ho:x.out with
   |true=>rw[((hg x hx).out ho).2.2]at h;cases h
   |false=>exact Aie.2 (((hg x hx).rule ho).2.2.2 a h).ne)
 have aa:=hK.fe;unfold Hp at aa;rw[hK.fac]at aa;simp only at aa;refine Om h1 (fun a ha=>Aie.2 ((Jg _ _ _ _ hK.fac).2.2.2 a ha).1.2.1) ?_;split at aa
 ·cases aa
 ·rename_i h;simpa using h
theorem lF (hK:nV t f n l F):∀a∈F,bE l a.pred=false:=by
 have aa:=hK.fe;unfold Hp at aa;rw[hK.fac]at aa;simp only at aa;split at aa
 ·cases aa
 split at aa
 ·cases aa
 rename_i h;simp only[Bool.not_eq_true]at h;intro a ha;have:=Ah5.1 h a ha;simpa using this
end
theorem nB {l:List Tm}{i:Nat}(hi:i<l.length)(b:Bool)(v:Int):lsp (Ac l) (i*2) [sc (.bool b),ic v]=Ac (l.set i (b,v)):=by
 have hl:=Ci l;rw[Gl _ _ _ (by rw[hl];simp;omega)];have e:l=l.take i++l[i]::l.drop (i+1):=by rw[<-Ahl hi,Aiv]
 have e2:l.set i (b,v)=l.take i++(b,v)::l.drop (i+1):=by
  rw[List.set_eq_take_append_cons_drop,if_pos hi]
 have aa:(Ac (l.take i)).length=i*2:=by
  rw[Ci,Ahb,Ahf (Nat.le_of_lt hi)]
 have e3:Ac l=Ac (l.take i)++(I3 l[i]++Ac (l.drop (i+1))):=by
  unfold Ac
  conv=>lhs;rw[e]
  rw[List.flatMap_append,Ah3]
 have e4:Ac (l.set i (b,v))=Ac (l.take i)++(I3 (b,v)++Ac (l.drop (i+1))):=by
  rw[e2];simp[Ac]
 rw[e4,e3,<-aa,List.take_left,Ahc];congr 1;congr 1;rw[show (Ac (l.take i)).length+[sc (.bool b),ic v].length=(Ac (l.take i)).length+(I3 l[i]).length by rfl,List.drop_length_add_append,List.drop_left]
theorem Mc {l:List Tm}{i:Nat}(hi:i<l.length)(b:Bool)(v:Int):((Ac l).set (i*2) (sc (.bool b))).set (i*2+1) (ic v)=Ac (l.set i (b,v)):=nB hi b v
theorem Gb (l:List Tm):(Ac l).all flat=true:=by
 rw[Ago];intro x hx;obtain⟨t,-,ht⟩:=Ahr.1 hx;simp[I3]at ht;rcases ht with rfl|rfl<;>rfl
def pt0:List Tm:=List.replicate 52 (false,0)
theorem Mr:ptZ.map cst1=Ac pt0:=rfl
theorem Gk {P:List Tm}(h:P.length=52):(Ac P).length=104:=by rw[Ci,h]
theorem Hj {P:List Tm}(h:P.length=52):List.take 104 (Ac P)=Ac P:=Ahu (by rw[Gk h];exact Agi _)
theorem Ab1 {l xs:List AV}(h:xs.length=l.length):lsp l 0 xs=xs:=by
 rw[Gl _ _ _ Ajm,Ag9,h,List.drop_length];simp
theorem N4 {P Q:List Tm}(hP:P.length=52)(hQ:Q.length=52):lsp (Ac P) 0 (Ac Q)=Ac Q:=Ab1 (by rw[Gk hP,Gk hQ])
theorem S1:(Ac pt0).length=104:=Gk (by simp[pt0])
def D7 (P:List Tm)(t:Tm):Tm:=if t.1=true then (P[t.2.toNat]?).getD t else t
def Sa (P:List Tm)(v t:Tm):List Tm:=P.map fun x=>if x=v then t else x
theorem kV {α:Type}{A P:List α}{k:Nat}{x:α}(hP:k<P.length)(hx:A[k]?=some x):(A.take k++P.drop k).set k x=A.take (k+1)++P.drop (k+1):=by
 have hk:=(List.getElem?_eq_some_iff.1 hx).1;rw[List.set_append,if_neg (by rw[Ahb];omega),Ahb,Ahf Ajm,Ahz,Ahl hP,List.set_cons_zero,Agz,hx];simp
def Wm (t:Tm):Prop:=t.1=true->∃k:Nat,k<52/\t.2=(k:Int)
theorem Ux (P:List Tm)(hP:P.length=52)(t:Tm)(ht:Wm t)(z:St):ACalls Tryz.prog 245 [ag (Ac P),ag [sc (.bool t.1),ic t.2]] z fun r z'=>r=ag [sc (.bool (D7 P t).1),ic (D7 P t).2]/\Keep z z':=by
 have hl:=Gk hP;have ac:=Gb P;obtain⟨b,v⟩:=t;cases b with
 |true=>
  obtain⟨k,hk,e⟩:=ht rfl;dsimp only at e;subst e;have aa:=List.getElem?_eq_getElem (show k<P.length by omega);obtain⟨r,hd⟩:=Cm aa;have HP:Ajs (D7 P (true,(k:Int))=P[k]):=by
   rw[Ajs,D7,if_pos rfl];simp only[Ai4];rw[aa];rfl
  generalize P[k]=w at hd HP;clear aa;refine Z9 12 [.cell 4 151] Tryz.func245 ?_
  repeat' (first|refine Z1 ?_|(refine Z8 ?_;intro κ hκ)|(refine Z4 ?_;clear hκ κ)|(refine Z2 ?_ ?_<;>intro h ab<;>try exact Xp)|refine Z3 ?_|exact⟨⟩|(apply hκ.out;clear hκ κ))
  exact⟨_,rfl,by rw[HP.out],Xs⟩
 |false=>
  refine Z9 12 [.cell 4 151] Tryz.func245 ?_
  repeat' (first|refine Z1 ?_|(refine Z8 ?_;intro κ hκ)|(refine Z4 ?_;clear hκ κ)|(refine Z2 ?_ ?_<;>intro h ab<;>try exact Xp)|refine Z3 ?_|exact⟨⟩|(apply hκ.out;clear hκ κ))
  exact⟨_,rfl,rfl,Xs⟩
theorem fT (P:List Tm)(hP:P.length=52)(v t:Tm)(z:St):ACalls Tryz.prog 246 [ag (Ac P),ag [sc (.bool v.1),ic v.2],ag [sc (.bool t.1),ic t.2]] z fun r z'=>r=ag (Ac (Sa P v t))/\Keep z z':=by
 have az:=S1;have a0:=Gb;have hz:=Mr;obtain⟨v1,v2⟩:=v;obtain⟨t1,t2⟩:=t;refine Z9 21 [.cell 6 260] Tryz.func246 ?_
 repeat' (first|refine Z1 ?_|(refine Z8 ?_;intro κ hκ)|(refine Z4 ?_;clear hκ κ)|(refine Z2 ?_ ?_<;>intro h aa<;>try exact Xp)|refine Z3 ?_|exact⟨⟩|(apply hκ.out;clear hκ κ))
 refine Af (fun m s z'=>∃(k:Nat) (Q:List Tm),m=52-k/\k<=52/\s 3=ptr z.nobj 0/\s 4=ptr (z.nobj+1) 0/\s 5=ptr (z.nobj+2) 0/\s 6=ptr (z.nobj+3) 0/\s 8=ic k/\Keep z z'/\z.nobj+3<z'.nobj/\z'.obj z.nobj=Ac Q/\z'.obj (z.nobj+1)=[sc (.bool v1),ic v2]/\z'.obj (z.nobj+2)=[sc (.bool t1),ic t2]/\z'.obj (z.nobj+3)=Ac pt0/\Q.length=52/\Ajs (Q=(Sa P (v1,v2) (t1,t2)).take k++P.drop k)) 52
  ⟨0,P,Ajm,Ajm,Ajo,Ajo,Ajo,Ajo,Ajo,Xs,Ajq,?_,?_,?_,?_,hP,by simp[Ajs]⟩ ?_
 ·rw[Ag Ajq,Ag Ajq,Ag Ajq,Ap]
 ·rw[Ag Ajq,Ag Ajq,Bt Ajq Ajq]
 ·rw[Ag Ajq,Bt Ajq Ajq]
 ·rw[Bt Ajq Ajq]
 rintro m s z' ⟨k,Q,rfl,hk,h3,h4,h5,h6,h8,hK,aw,an,am,ak,aj,hQ,hA⟩;have ao:=hK.nobj;have ay:=Gk hQ;have ap:=Hj hQ;have av:=N4 (P:=pt0) (by simp[pt0]) hQ;by_cases ax:k<52
 ·have af:k<P.length:=Ajm;have ab:P[k]?=some P[k]:=List.getElem?_eq_getElem af;have hpl:(Sa P (v1,v2) (t1,t2)).length=52:=by simp[Sa,hP]
  have ad:Q[k]?=some P[k]:=by
   rw[hA.out,List.getElem?_append_right (by rw[Ahb];omega),Ahb,Ahf Ajm,Ahz,List.getElem?_drop,Agq,ab]
  have ac:Ajs (Q.set k (if P[k]=(v1,v2)then (t1,t2)else P[k])=(Sa P (v1,v2) (t1,t2)).take (k+1)++P.drop (k+1)):=by
   have e1:(Sa P (v1,v2) (t1,t2))[k]?=some (if P[k]=(v1,v2)then (t1,t2)else P[k]):=by rw[Sa,List.getElem?_map,ab];rfl
   rw[Ajs,hA.out,kV af e1]
  obtain⟨r,hd⟩:=Cm ad;have au:=fun b v=>Mc (l:=Q) (i:=k) Ajm b v;have ae:Ajs (Q.set k P[k]=Q):=by
   have:=(List.getElem?_eq_some_iff.1 ad).2;rw[Ajs,<-this,List.set_getElem_self]
  generalize P[k]=w at hd ac ae;obtain⟨w1,w2⟩:=w;have ah:∀x,(Q.set k x).length=52:=fun x=>by rw[Ai8,hQ]
  clear ab ad hA
  repeat' (first|refine Z1 ?_|(refine Z8 ?_;intro κ hκ)|(refine Z4 ?_;clear hκ κ)|(refine Z2 ?_ ?_<;>intro h aa<;>try exact Xp)|refine Z3 ?_|exact⟨⟩|(apply hκ.out;clear hκ κ))
  refine Bu (Q:=fun e s' z''=>e= .normal/\s' 15=sc (.bool (w1==v1&&w2==v2))/\s' 3=ptr z.nobj 0/\s' 4=ptr (z.nobj+1) 0/\s' 5=ptr (z.nobj+2) 0/\s' 6=ptr (z.nobj+3) 0/\s' 7=ic k/\s' 8=ic k/\z''=z') ?_ ?_
  ·refine A2 Aj (fun _=>True) [] [0,1,2,3,4] 0 #[true,true,true,true,true] Ajp (fun _ _ _ h=>by cases h.1) ?_;intro κ hκ;refine Z3 ?_;refine hκ.out _ ?_;clear hκ κ;exact A3 Ajp ⟨rfl,Ajn,Ajn,Ajn,Ajn,Ajn,Ajn,Ajn,rfl⟩
  clear h3 h4 h5 h6 h8;rintro e s' z'' ⟨rfl,g15,g3,g4,g5,g6,g7,g8,rfl⟩;by_cases hw:(w1,w2)=(v1,v2)
  ·rw[if_pos hw]at ac;have hc:(w1==v1&&w2==v2)=true:=by simp at hw;simp[hw]
   rw[hc]at g15;clear hw;refine F4 g15 ?_
   repeat' (first|refine Z1 ?_|(refine Z8 ?_;intro κ hκ)|(refine Z4 ?_;clear hκ κ)|(refine Z2 ?_ ?_<;>intro h aa<;>try exact Xp)|refine Z3 ?_|exact⟨⟩|(apply hκ.out;clear hκ κ))
   refine⟨52-(k+1),Ajm,k+1,Q.set k (t1,t2),?_⟩
   ((repeat' with_reducible refine And.intro ?_ ?_)<;>first|exact Xq|exact (ac)|exact (ah _)|exact Xs)
  ·rw[if_neg hw,ae.out]at ac;have hc:(w1==v1&&w2==v2)=false:=by
    cases h:(w1==v1&&w2==v2)with
    |false=>rfl
    |true=>simp at h;exact absurd (by rw[h.1,h.2]) hw
   rw[hc]at g15;clear hw;refine E4 g15 ?_
   repeat' (first|refine Z1 ?_|(refine Z8 ?_;intro κ hκ)|(refine Z4 ?_;clear hκ κ)|(refine Z2 ?_ ?_<;>intro h aa<;>try exact Xp)|refine Z3 ?_|exact⟨⟩|(apply hκ.out;clear hκ κ))
   refine⟨52-(k+1),Ajm,k+1,Q,?_⟩
   ((repeat' with_reducible refine And.intro ?_ ?_)<;>first|exact Xq|exact (ac)|exact Xs)
 ·have ai:k=52:=Ajm;subst ai;have HQ:Ajs (Sa P (v1,v2) (t1,t2)=Q):=by
   rw[Ajs,hA.out,Ahu (by simp[Sa,hP]),Agt Ajm,Ag3]
  clear hA
  repeat' (first|refine Z1 ?_|(refine Z8 ?_;intro κ hκ)|(refine Z4 ?_;clear hκ κ)|(refine Z2 ?_ ?_<;>intro h aa<;>try exact Xp)|refine Z3 ?_|exact⟨⟩|(apply hκ.out;clear hκ κ))
  exact⟨_,rfl,by rw[HQ.out],Xs⟩
def N6 (P:List Tm)(a:Df):Df:=⟨a.p,a.ts.map (D7 P)⟩
theorem Zi (P:List Tm)(hP:P.length=52)(a:Df)(ids:Nat)(ha:∀t∈a.ts,Wm t)(hn:a.ts.length<=1000)(z:St):ACalls Tryz.prog 247 [ag (Ac P),ag [ic a.p,sl ids a.ts.length (Ac a.ts)]] z fun r z'=>(∃id,r=ag [ic a.p,sl id a.ts.length (Ac (a.ts.map (D7 P)))])/\Keep z z':=by
 have hl:=Gk hP;have bc:=Hj hP;have bd:=Gb P;have bb:=Ci a.ts;refine Z9 28 [.cell 4 122] Tryz.func247 ?_
 repeat' (first|refine Z1 ?_|(refine Z8 ?_;intro κ hκ)|(refine Z4 ?_;clear hκ κ)|(refine Z2 ?_ ?_<;>intro h ai<;>try exact Xp)|(refine Z6 ?_;intro idn zn ak am ad ab ac aa)|refine Z3 ?_|exact⟨⟩|(apply hκ.out;clear hκ κ))
 refine Af (fun m s z'=>∃(k i3:Nat) (xs:List AV),m=a.ts.length-k/\k<=a.ts.length/\s 2=ptr z.nobj 0/\s 4=ptr (z.nobj+2) 0/\s 5=ptr (z.nobj+3) 0/\s 12=sl ids a.ts.length (Ac a.ts)/\s 13=ic a.ts.length/\s 14=ic k/\Keep z z'/\z.nobj+3<z'.nobj/\z'.obj z.nobj=Ac P/\z'.obj (z.nobj+2)=[ic 0,nilS]/\z'.obj (z.nobj+3)=[ic a.p,sl i3 k xs]/\Own z z' i3 k/\xs.length=k*2/\Ajs (xs=Ac ((a.ts.take k).map (D7 P)))) a.ts.length
  ⟨0,1,[],Ajm,Ajm,by simp[upd,initS],Ajo,Ajo,Ajo,Ajo,rfl,?_,?_,?_,?_,?_,Own.nil _ _,by simp,by simp[Ajs,Ac]⟩ ?_
 ·exact (((((Keep.refl z).new _).new _).new _).new _).put Ajm _
 ·simp only[Ab,Aa];omega
 ·rw[Ai Ajm,Ag Ajq,Ag Ajq,Ag Ajq,Ap]
 ·rw[Ai Ajm,Ag Ajq,Bt Ajq Ajq]
 ·rw[show z.nobj+3=z.nobj+1+1+1 by omega,Ak]
 rintro m s z' ⟨k,i3,xs,rfl,hk,h2,h4,h5,a5,a4,a3,hK,ay,au,ap,ao,hO,ax,hX⟩;have ba:=hK.nobj;by_cases az:k<a.ts.length
 ·have ae:=List.getElem?_eq_getElem az;have hv:=ha a.ts[k] (Ah6 az);obtain⟨r2,a7⟩:=Cm ae;generalize a.ts[k]=w at a7 ae hv;have af:Ajs (xs++I3 (D7 P w)=Ac ((a.ts.take (k+1)).map (D7 P))):=by
   rw[Ajs,Agz,ae,Aia,Ag1,List.map_singleton,Rz,<-hX.out]
  have an:=fun z=>Ux P hP w hv z;have aw:Ajs _:=ax;clear ae hv hX;generalize D7 P w=w' at af an;obtain⟨w1,w2⟩:=w';dsimp only at an
  repeat' (first|refine Z1 ?_|(refine Z8 ?_;intro κ hκ)|(refine Z4 ?_;clear hκ κ)|(refine Z2 ?_ ?_<;>intro h ai<;>try exact Xp)|(refine Z6 ?_;intro idn zn ak am ad ab ac aa)|refine Z3 ?_|exact⟨⟩|(apply hκ.out;clear hκ κ))
  have a0:Keep z ((z'.new [sc (.bool false),ic 0]).put z'.nobj [sc (.bool w.1),ic w.2]):=(hK.new _).put hK.nobj _;have kv:∀p,p<z'.nobj->((z'.new [sc (.bool false),ic 0]).put z'.nobj [sc (.bool w.1),ic w.2]).obj p=z'.obj p:=fun p hp=>by rw[Ai Ajm,Ag Ajm]
  refine Bu (Q:=fun e s' z''=>e= .normal/\s' 2=ptr z.nobj 0/\s' 4=ptr (z.nobj+2) 0/\s' 5=ptr (z.nobj+3) 0/\s' 12=sl ids a.ts.length (Ac a.ts)/\s' 13=ic a.ts.length/\s' 14=ic k/\Keep z z''/\z.nobj+3<z''.nobj/\z''.obj z.nobj=Ac P/\z''.obj (z.nobj+2)=[ic 0,nilS]/\∃idn,z''.obj (z.nobj+3)=[ic a.p,sl idn (k+1) (xs++[sc (.bool w1),ic w2])]/\Own z z'' idn (k+1)) ?_ ?_
  ·refine A2 Aj (fun _=>True) [8] [0,1,2,3] 5 #[true,true,true,true,false,false,false,false,false] Ajp (fun _ _ _ h=>by cases h.1) ?_;intro κ hκ;refine Z3 ?_;refine hκ.out _ ?_;clear hκ κ;refine Ao (i:=4) Ajp ?_;refine Ar ?_;intro κ hκ;refine Z3 ?_;refine ACalls.mono (an _) ?_;rintro _ z5 ⟨rfl,ah⟩;refine Z3 ?_;refine hκ.out _ _ ⟨Aq ah,?_⟩;clear hκ κ;have av:=ah.nobj;have aj:=ah.obj;simp only[Ab,Aa]at av aj;have a9:=a0.trans ah;have a8:=Own.keep (Own.put (Own.new hO [sc (.bool false),ic 0]) z'.nobj [sc (.bool w.1),ic w.2]) ah;refine Ao (i:=5) Ajp ?_;refine Ar ?_;intro κ hκ;refine Z3 ?_;refine hκ.out _ _ ⟨Aq (ah.lay 1),?_⟩;clear hκ κ;refine Ao (i:=6) Ajp ?_;refine Ar ?_;intro κ hκ;refine Z3 ?_;refine Bh (by first|exact Eb) a9 a8 (by decide) (by rfl) ax (by rfl) (by rfl) (by decide) Ajm Ajm ?_;intro idn zn ak am ad ab ac aa;refine Z3 ?_;refine hκ.out _ _ ⟨fun _ o ho _=>by rw[ac];exact ah.ver o ho,?_⟩;clear hκ κ;refine Ao (i:=7) Ajp ?_;refine Ar ?_;intro κ hκ;refine Z3 ?_;refine hκ.out _ _ ⟨fun _ o ho _=>by rw[ac];exact ah.ver o ho,?_⟩;clear hκ κ;have en:∀p,p<z'.nobj->zn.obj p=z'.obj p:=fun p hp=>by rw[ad,aj _ Ajm,kv _ hp]
   have en1:zn.obj (z.nobj+3)=[ic a.p,sl i3 k xs]:=by rw[en _ ay,ao]
   refine Ao (i:=8) Ajp ?_;refine Ar ?_;intro κ hκ;refine Z3 ?_;refine hκ.out _ _ ⟨Bs rfl,?_⟩;clear hκ κ;refine A3 Ajp ⟨rfl,?_⟩;simp only[upd,↓reduceIte,Nat.reduceEqDiff,h2,h4,h5,a5,a4,a3,true_and];refine⟨am.put Ajm _,by simp only[Ab];omega,?_,?_,idn,?_,Own.put ak _ _⟩
   ·rw[Ai Ajm,en _ Ajm,au]
   ·rw[Ai Ajm,en _ Ajm,ap]
   ·rw[Ak]
  ·clear kv a0 hO ax au ap ao ay an h2 h4 h5 a5 a4 a3;rintro e s' z'' ⟨rfl,g2,g4,g5,g12,g13,g14,hK,ay,au,ap,idn,ao,hO⟩
   repeat' (first|refine Z1 ?_|(refine Z8 ?_;intro κ hκ)|(refine Z4 ?_;clear hκ κ)|(refine Z2 ?_ ?_<;>intro h ai<;>try exact Xp)|(refine Z6 ?_;intro idn zn ak am ad ab ac aa)|refine Z3 ?_|exact⟨⟩|(apply hκ.out;clear hκ κ))
   refine⟨a.ts.length-(k+1),Ajm,k+1,idn,xs++[sc (.bool w1),ic w2],?_⟩
   ((repeat' with_reducible refine And.intro ?_ ?_)<;>first|exact Xq|exact (af)|exact (by rw[Aha,aw.out];simp;omega)|exact Xs)
 ·have a6:k=a.ts.length:=Ajm;subst a6;rw[Agw]at hX
  repeat' (first|refine Z1 ?_|(refine Z8 ?_;intro κ hκ)|(refine Z4 ?_;clear hκ κ)|(refine Z2 ?_ ?_<;>intro h ai<;>try exact Xp)|(refine Z6 ?_;intro idn zn ak am ad ab ac aa)|refine Z3 ?_|exact⟨⟩|(apply hκ.out;clear hκ κ))
  exact⟨_,rfl,⟨i3,by rw[hX.out]⟩,hK.put Ajm _⟩
end Go.Proofs.YtmoeoppbmhfbpabGreatDoorL
