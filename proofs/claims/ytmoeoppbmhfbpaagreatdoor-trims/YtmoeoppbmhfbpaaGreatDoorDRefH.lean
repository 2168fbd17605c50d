import Derived.Test.YtmoeoppbmhfbpaaGreatDoorDRefA
set_option maxHeartbeats 16000000
set_option maxRecDepth 100000
set_option linter.all false
namespace Go.Proofs.YtmoeoppbmhfbpaaGreatDoorD
open Go.Abs
def Ja (l:List RItem)(i:Nat):List UInt8:=match l[i]? with|some x=>x.head.pred|none=>[]
def mD (l:List RItem)(p q:List UInt8)(i k:Nat):Bool:=Wh l i k&&Ja l i==p&&Ja l k==q
def M5 (l:List RItem)(p q:List UInt8):Bool:=(List.range l.length).any fun i=>(List.range l.length).any fun k=>mD l p q i k
def Ac8 (l:List RItem)(p q:List UInt8)(i:Nat):Prop:=∀a,a<i->∀b,b<l.length->mD l p q a b=false
def Ac7 (l:List RItem)(p q:List UInt8)(i k:Nat):Prop:=∀b,b<k->mD l p q i b=false
theorem W1 (l:List RItem)(cs:List AV)(idl:Nat)(p q:List UInt8)(hE:EL EItem l cs)(hl:l.length<=16)(hf:∀x∈l,x.fits)(e:St):ACalls Tryz.prog 190 [sl idl l.length cs,str p,str q] e fun r e'=>r=sc (.bool (M5 l p q))/\Keep e e':=by
 have ay:=EL.length Ci hE;have ao:=G6;have ap:∀M,List.take 256 (Fu M)=Fu M:=fun M=>Aeq (by rw[G6];exact Adc _);have au:∀M,lsp (My 256 (.bool false)) 0 (Fu M)=Fu M:=fun M=>Hu (by rw[G6];simp[My]);have a3:(My 256 (.bool false)).length=256:=by simp[My]
 have av:∀M,(Fu M).all flat=true:=fun M=>by simp[Fu,flat,Value.oneCell']
 refine Z9 49 [.tmp 6] Tryz.func190 ?_
 repeat' first|refine Z1 ?_|refine Z8 fun ya J=>?_|refine Z4 ?_;clear J ya|refine Z5 ?_;refine Xi (tQ l cs idl hE hl hf _) ?_;rintro _ _ ⟨rfl,ai⟩|refine Z3 ?_|exact Zt|apply J.out;clear J ya
 rename_i e1;have hτo:((e1.new (My 256 (.bool false))).put e1.nobj (Fu (Wh l))).obj e1.nobj=Fu (Wh l):=Aj;have hτK:Keep e ((e1.new (My 256 (.bool false))).put e1.nobj (Fu (Wh l))):=(ai.new _).put ai.nobj _;generalize (e1.new (My 256 (.bool false))).put e1.nobj (Fu (Wh l))=τ at hτo hτK
 refine Ad (fun m s e'=>∃i:Nat,m=l.length-i/\i<=l.length/\s 0=sl idl l.length cs/\s 1=str p/\s 2=str q/\s 7=ptr e1.nobj 0/\s 8=sc (.int .i64 i)/\e'=τ/\Ac8 l p q i) l.length
  ⟨0,Agm,Agm,rfl,rfl,rfl,rfl,rfl,rfl,fun a h=>Agm⟩ ?_
 rintro m s e' ⟨i,rfl,hi,h0,h1,h2,h7,h8,he,ah⟩
 replace he:=he.symm
 subst he;by_cases af:i<l.length
 ·repeat' first|refine Z1 ?_|refine Z8 fun ya J=>?_|refine Z4 ?_;clear J ya|refine Z2 ?_ ?_<;>intro h ab<;>try exact Xp|refine Z3 ?_|exact Zt|apply J.out;clear J ya
  refine Ad (fun m s e'=>∃k:Nat,m=l.length-k/\k<=l.length/\s 0=sl idl l.length cs/\s 1=str p/\s 2=str q/\s 7=ptr e1.nobj 0/\s 8=sc (.int .i64 i)/\s 9=sc (.int .i64 k)/\e'=τ/\Ac7 l p q i k) l.length
   ⟨0,Agm,Agm,by simp[upd,h0],by simp[upd,h1],by simp[upd,h2],by simp[upd,h7],by simp[upd,h8],rfl,rfl,fun b h=>Agm⟩ ?_
  clear h0 h1 h2 h7 h8;rintro m s e' ⟨k,rfl,hk,h0,h1,h2,h7,h8,h9,he,ac⟩
  replace he:=he.symm
  subst he;by_cases aa:k<l.length
  ·obtain⟨ih1,id1,b1,r1,a0,ax⟩:=C4 hE (Adn af);obtain⟨ih2,id2,b2,r2,az,aw⟩:=C4 hE (Adn aa);have g1:=Pn (Wh l) (i:=i) (k:=k) Agm Agm;have ae:Ja l i=l[i].head.pred:=by simp[Ja,af]
   have ad:Ja l k=l[k].head.pred:=by simp[Ja,aa]
   have HH:Agt (Ja l i=l[i].head.pred/\Ja l k=l[k].head.pred):=⟨ae,ad⟩;clear ae ad
   repeat' first|refine Z1 ?_|refine Z8 fun ya J=>?_|refine Z4 ?_;clear J ya|refine Z2 ?_ ?_<;>intro h ab<;>try exact Xp|refine Z3 ?_|exact Zt|apply J.out;clear J ya
   all_goals
    obtain⟨ae,ad⟩:=HH.out
    first
    |exact⟨_,rfl,by rw[M5,Dk (k:=i) (a:=i) _ (by simp[af]) (Dk (k:=k) (a:=k) _ (by simp[aa]) (by simp only[mD,ae,ad, *,Bool.and_self]))]⟩
    |exact⟨l.length-(k+1),Agm,k+1,rfl,Agm,by simp,fun b hb=>by
     by_cases am:b=k
     ·subst am;simp only[mD,ae,ad, *,Bool.and_false,Bool.false_and,Bool.and_true]
     ·exact ac b Agm⟩
  ·have aj:k=l.length:=Agm;subst aj
   repeat' first|refine Z1 ?_|refine Z8 fun ya J=>?_|refine Z4 ?_;clear J ya|refine Z2 ?_ ?_<;>intro h ab<;>try exact Xp|refine Z3 ?_|exact Zt|apply J.out;clear J ya
   exact⟨l.length-(i+1),Agm,i+1,rfl,Agm,by simp,fun a ha=>by
    by_cases an:a=i
    ·subst an;exact ac
    ·exact ah a Agm⟩
 ·have ak:i=l.length:=Agm;subst ak
  repeat' first|refine Z1 ?_|refine Z8 fun ya J=>?_|refine Z4 ?_;clear J ya|refine Z2 ?_ ?_<;>intro h ab<;>try exact Xp|refine Z3 ?_|exact Zt|apply J.out;clear J ya
  have hu:M5 l p q=false:=by
   unfold M5;rw[Aev];intro a ha;rw[List.mem_range]at ha;simp only[Aew];rw[Aev];intro b hb;rw[List.mem_range]at hb;simp[ah a ha b hb]
  first
  |exact⟨_,rfl,by rw[hu],hτK⟩
  |exact⟨_,rfl,by rw[hu]⟩
def Ba (p:Nat->Bool)(n:Nat):Int:=match (List.range n).find? p with|some i=>(i:Int)|none=> -1
theorem Ft {p:Nat->Bool}{n i:Nat}(hi:i<n)(hp:p i=true)(hn:∀a,a<i->p a=false):Ba p n=i:=by
 unfold Ba;have:(List.range n).find? p=some i:=by
  rw[List.find?_range_eq_some];exact⟨hp,by simpa using hi,fun a ha=>by simp[hn a ha]⟩
 rw[this]
theorem B7 {p:Nat->Bool}{n:Nat}(hn:∀a,a<n->p a=false):Ba p n= -1:=by
 unfold Ba;have:(List.range n).find? p=none:=by
  rw[Aex];intro a ha;simp[hn a (by simpa using ha)]
 rw[this]
def sW (l:List RItem)(h:List UInt8)(a:RAtom):Bool:=a.nt&&(a.pred==h||M5 l a.pred h)
def F9 (l:List RItem)(i:Nat):Bool:=match l[i]? with|some x=>x.body.any (sW l x.head.pred)|none=>false
def noK (l:List RItem)(i:Nat):Prop:=∀a,a<i->F9 l a=false
def zS (l:List RItem)(x:RItem)(j:Nat):Prop:=(x.body.take j).any (sW l x.head.pred)=false
theorem sB (l:List RItem)(cs:List AV)(idl:Nat)(hE:EL EItem l cs)(hl:l.length<=16)(hf:∀x∈l,x.fits)(e:St):ACalls Tryz.prog 177 [sl idl l.length cs] e fun r e'=>r=sc (.int .i64 (Ba (F9 l) l.length))/\Keep e e':=by
 have au:=EL.length Ci hE;refine Z9 56 [.tmp 2] Tryz.func177 ?_
 refine zz ?_
 refine Ad (fun m s e'=>∃i:Nat,m=l.length-i/\i<=l.length/\s 0=sl idl l.length cs/\s 3=sc (.int .i64 i)/\Keep e e'/\noK l i) l.length
  ⟨0,Agm,Agm,rfl,rfl,Keep.refl _,fun a h=>Agm⟩ ?_
 rintro m s e' ⟨i,rfl,hi,h0,h3,hK,ad⟩;by_cases ae:i<l.length
 ·obtain⟨ih1,id1,b1,r1,af,am⟩:=C4 hE (Adn ae);have ai:=hf l[i] (Aes ae);have HX:Agt (l[i]?=some l[i]):=Adn ae;generalize l[i]=x at af am ai HX;have av:=EL.length Bc af;have ap:=ai.1
  repeat' first|refine Z1 ?_|refine Z8 fun ya J=>?_|refine Z4 ?_;clear J ya|refine Z2 ?_ ?_<;>intro h ab<;>try exact Xp|refine Z3 ?_|exact Zt|apply J.out;clear J ya
  refine Ad (fun m s e'=>∃j:Nat,m=x.body.length-j/\j<=x.body.length/\s 0=sl idl l.length cs/\s 3=sc (.int .i64 i)/\s 4=sc (.int .i64 j)/\Keep e e'/\zS l x j) x.body.length
   ⟨0,Agm,Agm,by simp[upd,h0],by simp[upd,h3],rfl,hK,by simp[zS]⟩ ?_
  clear hK h0 h3;rintro m s e' ⟨j,rfl,hj,h0,h3,h4,hK,aa⟩;by_cases ac:j<x.body.length
  ·obtain⟨ia,r,hd⟩:=Cm af (Adn ac);have HG:Agt (x.body[j]?=some x.body[j]):=Adn ac;generalize x.body[j]=a at hd HG
   repeat' first|refine Z1 ?_|refine Z8 fun ya J=>?_|refine Z4 ?_;clear J ya|refine Z2 ?_ ?_<;>intro h ab<;>try exact Xp|refine Z3 ?_|exact Zt|apply J.out;clear J ya
   refine Aw Ag (fun _=>True) [24] [0,1,2,3,4,5,6,7,8,9,10,11,12,13,14,15,16,17,18,19,20,21] [22,23,24] Agp (fun _ _ _ h=>h) ?_;intro ya J;refine Z3 ?_
   repeat' first|refine Z1 ?_|refine Z8 fun ya J=>?_|refine Z4 ?_;clear J ya|refine Z2 ?_ ?_<;>intro h ab<;>try exact Xp|refine Z5 ?_;refine Xi (W1 l cs idl _ _ hE hl hf _) ?_;rintro _ _ ⟨rfl,ah⟩;(have ao:=ah.nobj)|refine Z3 ?_|exact Zt|apply J.out;clear J ya
   all_goals
    first
    |exact⟨_,rfl,by rw[Ft (p:=F9 l) ae (by unfold F9;rw[HX.out];exact Dk _ HG.out (by simp[sW, *])) ad],by first|exact ((hK.new _).put hK.nobj _).trans ah|exact (hK.new _).put hK.nobj _⟩
    |exact⟨x.body.length-(j+1),Agm,j+1,rfl,Agm,by simp,by first|exact ((hK.new _).put hK.nobj _).trans ah|exact (hK.new _).put hK.nobj _,by unfold zS at*;rw[any_take_succ _ HG.out,aa];simp[sW, *]⟩
  ·have aj:j=x.body.length:=Agm;subst aj
   repeat' first|refine Z1 ?_|refine Z8 fun ya J=>?_|refine Z4 ?_;clear J ya|refine Z2 ?_ ?_<;>intro h ab<;>try exact Xp|refine Z3 ?_|exact Zt|apply J.out;clear J ya
   refine⟨l.length-(i+1),Agm,i+1,rfl,Agm,by simp,?_⟩;intro a ha;by_cases an:a=i
   ·subst an;unfold zS at aa;rw[Adu]at aa;unfold F9;rw[HX.out];exact aa
   ·exact ad a Agm
 ·have ak:i=l.length:=Agm;subst ak
  repeat' first|refine Z1 ?_|refine Z8 fun ya J=>?_|refine Z4 ?_;clear J ya|refine Z2 ?_ ?_<;>intro h ab<;>try exact Xp|refine Z3 ?_|exact Zt|apply J.out;clear J ya
  first
  |exact⟨_,rfl,by rw[B7 ad],hK⟩
  |exact⟨_,rfl,by rw[B7 ad]⟩
def clash (a b:RAtom):Bool:=b.pred==a.pred&&decide (b.terms.length≠a.terms.length)
def F6 (l:List RItem)(i:Nat):List RAtom:=(l.take i).flatMap Ae
def Cj (l:List RItem)(x:RItem)(i j:Nat):List RAtom:=F6 l i++(Ae x).take j
def Kw (l:List RItem)(x:RItem)(i j:Nat):Bool:=match (Ae x)[j]? with|some a=>(Cj l x i j).any (clash a)|none=>false
def Fq (l:List RItem)(i:Nat):Bool:=match l[i]? with|some x=>(List.range (Ae x).length).any (Kw l x i)|none=>false
def noO (l:List RItem)(i:Nat):Prop:=∀a,a<i->Fq l a=false
def Acp (l:List RItem)(x:RItem)(i j:Nat):Prop:=∀b,b<j->Kw l x i b=false
def zR (a:RAtom)(s:List RAtom)(k:Nat):Prop:=(s.take k).any (clash a)=false
theorem Hr {l:List RItem}{x:RItem}{i j:Nat}{a:RAtom}(h:(Ae x)[j]?=some a):Cj l x i (j+1)=Cj l x i j++[a]:=by
 unfold Cj;rw[Ad0,h,Aed];rfl
theorem T4 {l:List RItem}{x:RItem}{i j:Nat}{a:RAtom}(h:(Ae x)[j]?=some a):(Cj l x i (j+1)).length=(Cj l x i j).length+1:=by
 rw[Hr h];simp
theorem Yz {l:List RItem}{x:RItem}{i:Nat}(h:l[i]?=some x):Cj l x i (Ae x).length=Cj l x (i+1) 0:=by
 unfold Cj F6;rw[Adu,Ad0,h,List.take_zero,Ad4];simp
theorem RItem.fits.atoms {x:RItem}(h:x.fits):(Ae x).length<=1001:=by
 obtain⟨f1,f2,f3⟩:=h;unfold Ae;split<;>simp<;>omega
theorem vL {l:List RItem}(hf:∀x∈l,x.fits):∀i,(F6 l i).length<=i*1001:=by
 intro i;induction i with
 |zero=>simp[F6]
 |succ i ih=>
  unfold F6 at*
  rw[Ad0,Aey,Aeb];cases h:l[i]? with
  |none=>simp only[Option.toList_none,List.flatMap_nil,Ael];omega
  |some x=>
   have:=(hf x (Adp h)).atoms;simp only[Aez,Ae0,List.flatMap_nil,Ad4];omega
theorem vX (l:List RItem)(cs:List AV)(idl:Nat)(hE:EL EItem l cs)(hl:l.length<=16)(hf:∀x∈l,x.fits)(e:St):ACalls Tryz.prog 176 [sl idl l.length cs] e fun r e'=>r=sc (.int .i64 (Ba (Fq l) l.length))/\Keep e e':=by
 have a9:=EL.length Ci hE;refine Z9 65 [.tmp 2] Tryz.func176 ?_
 refine zz ?_
 refine Ad (fun m s e'=>∃(i ids:Nat) (ss:List AV),m=l.length-i/\i<=l.length/\s 0=sl idl l.length cs/\s 3=sl ids (F6 l i).length ss/\s 4=sc (.int .i64 i)/\Keep e e'/\Own e e' ids (F6 l i).length/\EL B6 (F6 l i) ss/\noO l i) l.length
  ⟨0,1,[],Agm,Agm,rfl,rfl,rfl,Keep.refl _,Own.nil _ _,rfl,fun a h=>Agm⟩ ?_
 rintro m s e' ⟨i,ids,ss,rfl,hi,h0,h3,h4,hK,hO,hS,af⟩;have hpl:=vL hf i;by_cases ah:i<l.length
 ·obtain⟨ih1,id1,b1,r1,an,ay⟩:=C4 hE (Adn ah);have ai:=hf l[i] (Aes ah);have HX:Agt (l[i]?=some l[i]):=Adn ah;generalize l[i]=x at an ay ai HX;have ba:=ai.atoms
  repeat' first|refine Z1 ?_|refine Z8 fun ya J=>?_|refine Z4 ?_;clear J ya|refine Z2 ?_ ?_<;>intro h aa<;>try exact Xp|refine Z5 ?_;refine Xi (Oi _ _ (EItem.of an) (by have:=ai.1;omega) _) ?_;rintro _ _ ⟨ida,cs2,rfl,ap,aj⟩|refine Z3 ?_|exact Zt|apply J.out;clear J ya
  rename_i e1;have a0:=EL.length Bc ap
  refine Ad (fun m s e'=>∃(j ids:Nat) (ss:List AV),m=(Ae x).length-j/\j<=(Ae x).length/\s 0=sl idl l.length cs/\s 3=sl ids (Cj l x i j).length ss/\s 4=sc (.int .i64 i)/\s 5=sl ida (Ae x).length cs2/\s 6=sc (.int .i64 j)/\Keep e e'/\Own e e' ids (Cj l x i j).length/\EL B6 (Cj l x i j) ss/\Acp l x i j) (Ae x).length
   ⟨0,ids,ss,Agm,Agm,by simp[upd,h0],by simp[upd,h3,Cj],by simp[upd,h4],Ago,rfl,hK.trans aj,by simpa[Cj]using hO.keep aj,by simpa[Cj]using hS,fun b h=>Agm⟩ ?_
  clear hK hO hS h0 h3 h4 aj ids ss;rintro m s e' ⟨j,ids,ss,rfl,hj,h0,h3,h4,h5,h6,hK,hO,hS,ad⟩;have a8:(Cj l x i j).length<=100000:=by unfold Cj;simp;omega
  by_cases ac:j<(Ae x).length
  ·obtain⟨ia,r,hd⟩:=Cm ap (Adn ac);have HG:Agt ((Ae x)[j]?=some (Ae x)[j]):=Adn ac;generalize (Ae x)[j]=a at hd HG;have a7:=EL.length Bc hS
   repeat' first|refine Z1 ?_|refine Z8 fun ya J=>?_|refine Z4 ?_;clear J ya|refine Z2 ?_ ?_<;>intro h aa<;>try exact Xp|refine Z3 ?_|exact Zt|apply J.out;clear J ya
   refine Ad (fun m s e'=>∃k:Nat,m=(Cj l x i j).length-k/\k<=(Cj l x i j).length/\s 0=sl idl l.length cs/\s 3=sl ids (Cj l x i j).length ss/\s 4=sc (.int .i64 i)/\s 5=sl ida (Ae x).length cs2/\s 6=sc (.int .i64 j)/\s 7=sc (.int .i64 k)/\Keep e e'/\Own e e' ids (Cj l x i j).length/\zR a (Cj l x i j) k) (Cj l x i j).length
    ⟨0,Agm,Agm,by simp[upd,h0],by simp[upd,h3],by simp[upd,h4],by simp[upd,h5],by simp[upd,h6],rfl,hK,hO,by simp[zR]⟩ ?_
   clear hK hO h0 h3 h4 h5 h6;rintro m s e' ⟨k,rfl,hk,h0,h3,h4,h5,h6,h7,hK,hO,ab⟩;by_cases ae:k<(Cj l x i j).length
   ·obtain⟨ib,r',az⟩:=Cm hS (Adn ae);have HB:Agt ((Cj l x i j)[k]?=some (Cj l x i j)[k]):=Adn ae;generalize (Cj l x i j)[k]=b at az HB
    repeat' first|refine Z1 ?_|refine Z8 fun ya J=>?_|refine Z4 ?_;clear J ya|refine Z2 ?_ ?_<;>intro h aa<;>try exact Xp|refine Z3 ?_|exact Zt|apply J.out;clear J ya
    refine Aw Ag (fun _=>True) [25] [0,1,2,3,4,5,6,7,8,9,10,11,12,13,14,15,16,17,18,19,20,21,22,23,24] [25] Agp (fun _ _ _ h=>h) ?_;intro ya J;refine Z3 ?_
    repeat' first|refine Z1 ?_|refine Z8 fun ya J=>?_|refine Z4 ?_;clear J ya|refine Z2 ?_ ?_<;>intro h aa<;>try exact Xp|refine Z3 ?_|exact Zt|apply J.out;clear J ya
    all_goals
     first
     |exact⟨_,rfl,by
      rw[Ft (p:=Fq l) ah ?_ af];unfold Fq;rw[HX.out];refine Dk (k:=j) (a:=j) _ (by simp[ac]) ?_;unfold Kw;rw[HG.out];refine Dk _ HB.out ?_;simp[clash, *]
      first|done|(simp at h;omega)⟩
     |exact⟨(Cj l x i j).length-(k+1),Agm,k+1,rfl,Agm,by simp,by
      unfold zR at*
      rw[any_take_succ _ HB.out,ab]
      first
      |(simp[clash, *];done)
      |(simp[clash];intro _;simp at h;omega)⟩
   ·have am:k=(Cj l x i j).length:=Agm;have ak:Kw l x i j=false:=by
     unfold Kw;rw[HG.out];rw[am]at ab;unfold zR at ab;rw[Adu]at ab;exact ab
    have HN:Agt (Kw l x i j=false):=ak;clear ak;subst am
    repeat' first|refine Z1 ?_|refine Z8 fun ya J=>?_|refine Z4 ?_;clear J ya|refine Z2 ?_ ?_<;>intro h aa<;>try exact Xp|refine Z6 ?_;intro idn en ao bb a6 av a5 au|refine Z3 ?_|exact Zt|apply J.out;clear J ya
    rw[<-T4 (l:=l) (i:=i) HG.out]at ao;refine⟨(Ae x).length-(j+1),Agm,j+1,idn,_,rfl,Agm,by rw[T4 HG.out],by simp,ao,by rw[Hr HG.out];exact hS.append (EL.single ⟨_,rfl⟩),?_⟩;intro b hb;by_cases a3:b=j
    ·subst a3;exact HN.out
    ·exact ad b Agm
  ·have aw:j=(Ae x).length:=Agm;subst aw;rw[Yz HX.out]at h3 hO hS
   repeat' first|refine Z1 ?_|refine Z8 fun ya J=>?_|refine Z4 ?_;clear J ya|refine Z2 ?_ ?_<;>intro h aa<;>try exact Xp|refine Z3 ?_|exact Zt|apply J.out;clear J ya
   refine⟨l.length-(i+1),Agm,i+1,ids,ss,rfl,Agm,by simp[Cj],by simp,by simpa[Cj]using hO,by simpa[Cj]using hS,?_⟩;intro a ha;by_cases a4:a=i
   ·subst a4;unfold Fq;rw[HX.out];simp only;rw[Aev];intro b hb;rw[List.mem_range]at hb;simp[ad b hb]
   ·exact af a Agm
 ·have ax:i=l.length:=Agm;subst ax
  repeat' first|refine Z1 ?_|refine Z8 fun ya J=>?_|refine Z4 ?_;clear J ya|refine Z2 ?_ ?_<;>intro h aa<;>try exact Xp|refine Z3 ?_|exact Zt|apply J.out;clear J ya
  first
  |exact⟨_,rfl,by rw[B7 af],hK⟩
  |exact⟨_,rfl,by rw[B7 af]⟩
def Db (l:List RItem)(i:Nat):Bool:=match l[i]? with|some x=>!Cz x|none=>false
def noS (l:List RItem)(i:Nat):Prop:=∀a,a<i->Db l a=false
def Cf (l:List RItem):Int×Int:=
 if 0<=Ba (Fq l) l.length then (3,Ba (Fq l) l.length)
 else if 0<=Ba (Db l) l.length then (4,Ba (Db l) l.length)
 else if 0<=Ba (F9 l) l.length then (5,Ba (F9 l) l.length)
 else (0,0)
abbrev two (p:Int×Int):AV:=tp [sc (.int .i64 p.1),sc (.int .i64 p.2)]
theorem Zy {p:Nat->Bool}{n:Nat}:Ba p n<n+1:=by
 unfold Ba;split
 ·rename_i i h;have:=Ae1 h;simp at this;omega
 ·omega
theorem Jx {p:Nat->Bool}{n:Nat}: -1<=Ba p n:=by
 unfold Ba;split<;>omega
theorem kC (l:List RItem)(cs:List AV)(idl:Nat)(hE:EL EItem l cs)(hl:l.length<=16)(hf:∀x∈l,x.fits)(e:St):ACalls Tryz.prog 135 [sl idl l.length cs] e fun r e'=>r=two (Cf l)/\Keep e e':=by
 have an:=EL.length Ci hE;have g1:=@Jx (Fq l) l.length;have g2:=@Zy (Fq l) l.length;have g3:=@Jx (F9 l) l.length;have g4:=@Zy (F9 l) l.length;refine Z9 28 [.tmp 2,.tmp 3] Tryz.func135 ?_
 repeat' first|refine Z1 ?_|refine Z8 fun ya J=>?_|refine Z4 ?_;clear J ya|refine Z2 ?_ ?_<;>intro h aa<;>try exact Xp|refine Z5 ?_;refine Xi (vX l cs idl hE hl hf _) ?_;rintro _ _ ⟨rfl,ah⟩|refine Z3 ?_|exact Zt|apply J.out;clear J ya
 ·first
  |exact⟨_,rfl,by unfold Cf;rw[if_pos (by simpa using h)],by assumption⟩
  |exact⟨_,rfl,by unfold Cf;rw[if_pos (by simpa using h)]⟩
 ·have ho:¬0<=Ba (Fq l) l.length:=by simpa using h
  have HO:Agt (¬0<=Ba (Fq l) l.length):=ho;clear ho aa h g1 g2;rename_i e1
  refine Ad (fun m s e'=>∃i:Nat,m=l.length-i/\i<=l.length/\s 0=sl idl l.length cs/\s 4=sc (.int .i64 i)/\Keep e e'/\noS l i) l.length
   ⟨0,Agm,Agm,rfl,rfl,ah,fun a h=>Agm⟩ ?_
  rintro m s e' ⟨i,rfl,hi,h0,h4,hK,ac⟩;clear ah;by_cases ad:i<l.length
  ·obtain⟨ih1,id1,b1,r1,af,ak⟩:=C4 hE (Adn ad);have ae:=hf l[i] (Aes ad);have HX:Agt (l[i]?=some l[i]):=Adn ad;generalize l[i]=x at af ak ae HX
   repeat' first|refine Z1 ?_|refine Z8 fun ya J=>?_|refine Z4 ?_;clear J ya|refine Z2 ?_ ?_<;>intro h aa<;>try exact Xp|refine Z5 ?_;refine Xi (Y1 _ _ (EItem.of af) ae _) ?_;rintro _ _ ⟨rfl,ab⟩|refine Z3 ?_|exact Zt|apply J.out;clear J ya
   ·have hu:Ba (Db l) l.length=i:=Ft ad (by unfold Db;rw[HX.out];simpa using h) ac;exact⟨_,rfl,by unfold Cf;rw[if_neg HO.out,hu,if_pos Agm],hK.trans ab⟩
   ·have ai:Cz x=true:=h
    exact⟨l.length-(i+1),Agm,i+1,rfl,Agm,by simp,hK.trans ab,fun a ha=>by
     by_cases am:a=i
     ·subst am;unfold Db;rw[HX.out];simp[ai]
     ·exact ac a Agm⟩
  ·have aj:i=l.length:=Agm;subst aj;have hu:=B7 (p:=Db l) ac;have HU:Agt (¬0<=Ba (Db l) l.length):=by rw[hu];simp[Agt]
   clear hu ac
   repeat' first|refine Z1 ?_|refine Z8 fun ya J=>?_|refine Z4 ?_;clear J ya|refine Z2 ?_ ?_<;>intro h aa<;>try exact Xp|refine Z5 ?_;refine Xi (sB l cs idl hE hl hf _) ?_;rintro _ _ ⟨rfl,ab⟩|refine Z3 ?_|exact Zt|apply J.out;clear J ya
   ·exact⟨_,rfl,by unfold Cf;rw[if_neg HO.out,if_neg HU.out,if_pos (by simpa using h)],hK.trans ab⟩
   ·exact⟨_,rfl,by unfold Cf;rw[if_neg HO.out,if_neg HU.out,if_neg (by simpa using h)],hK.trans ab⟩
def Nt:List UInt8->Bool
 |[]=>false
 |b::_=>(b.toNat:Int)==63
def lR (t:List UInt8):RItem:={out:=true,head:={nt:=false,pred:=(t.drop 1).take (t.length-1),terms:=[]},body:=[]}
def Qz (t:List UInt8):RItem:=
 {out:=false,head:=Dj ((t.drop 0).take (Bp t 58-0)),body:=if Bp t 58<t.length then (Jc ((t.drop (Bp t 58+2)).take (t.length-(Bp t 58+2))) 44).map Dj else []}
def Hi (t:List UInt8):RItem:=if Nt t then lR t else Qz t
def Bh (s:List UInt8):List RItem:=(Jc s 46).map Hi
def pC (t:List UInt8):Prop:=t.length<=1000/\t≠[]/\(Nt t=false->Bp t 58<t.length->Bp t 58+2<=t.length)
theorem Gy {α β:Type}{l:List α}{k:Nat}{a:α}(f:α->β)(h:l[k]?=some a):(l.take (k+1)).map f=(l.take k).map f++[f a]:=by
 rw[Ad0,h];simp
theorem Ko (c:Int):∀(s:List UInt8) (d:Bool) (cur:List UInt8),∀t∈Bw c s d cur,t.length<=cur.length+s.length
 |[],d,cur=>by
  unfold Bw;split
  ·intro t ht;cases ht
  ·intro t ht;simp at ht;subst ht;simp
 |b::r,d,cur=>by
  unfold Bw
  all_goals
   simp only[];generalize (if ((b.toNat:Int)==41)=true then false else _)=d2;split
   ·intro t ht;rcases Ae2.1 ht with rfl|ht
    ·simp
    ·have:=Ko c r d2 [] t ht;simp at this⊢;omega
   ·intro t ht;have:=Ko c r d2 (cur++[b]) t ht;simp at this⊢;omega
theorem Of {s:List UInt8}{c:Int}{t:List UInt8}(h:t∈Jc s c):t.length<=s.length:=by
 have:=Ko c s false [] t h;simpa using this
theorem Og {s:List UInt8}{c:Int}:(Jc s c).length<=s.length+1:=Jd c s false []
theorem N8 (s:List UInt8)(hs:s.length<=1000)(hc:(Jc s 46).length<=1000)(hp:∀t∈Jc s 46,pC t)(e:St):ACalls Tryz.prog 88 [str s] e fun r e'=>∃id cs,r=sl id (Bh s).length cs/\EL EItem (Bh s) cs/\Keep e e':=by
 refine Z9 70 [.tmp 2] Tryz.func88 ?_
 repeat' first|refine Z1 ?_|refine Z8 fun ya J=>?_|refine Z4 ?_;clear J ya|refine Z2 ?_ ?_<;>intro h ae<;>try exact Xp|refine Z6 ?_;intro idn en af ah ad ab ac aa|refine Z5 ?_;refine Xi (Pu s _ Agm _) ?_;rintro _ _ ⟨idt,rfl,az⟩|refine Z3 ?_|exact Zt|apply J.out;clear J ya
 rename_i e1;unfold Bh;generalize Jc s 46=ts at hc hp
 refine Ad (fun m s e'=>∃(i ids:Nat) (ss:List AV),m=ts.length-i/\i<=ts.length/\s 3=sl ids i ss/\s 4=sl idt ts.length (ts.map str)/\s 5=sc (.int .i64 i)/\Keep e e'/\Own e e' ids i/\EL EItem ((ts.take i).map Hi) ss) ts.length
  ⟨0,1,[],Agm,Agm,rfl,rfl,rfl,az,Own.nil _ _,rfl⟩ ?_
 rintro m s e' ⟨i,ids,ss,rfl,hi,h3,h4,h5,hK,hO,hS⟩;clear az;have au:=EL.length Ci hS;simp only[Ae3,Aec,Aeh hi]at au;have HS:Agt (EL EItem ((ts.take i).map Hi) ss):=hS;clear hS;by_cases aw:i<ts.length
 ·have a3:=A2 aw;obtain⟨p1,p2,p3⟩:=hp ts[i] (Aes aw);have HX:Agt (ts[i]?=some ts[i]):=Adn aw;generalize ts[i]=t at a3 p1 p2 p3 HX;have bc:=Pk t 58;cases t with
  |nil=>exact absurd rfl p2
  |cons b r=>
   have a4:(b::r)[0]?=some b:=rfl;simp only[Aem]at p1 p3 bc;by_cases am:((b.toNat:Int)==63)=true
   ·repeat' first|refine Z1 ?_|refine Z8 fun ya J=>?_|refine Z4 ?_;clear J ya|refine Z2 ?_ ?_<;>intro h ae<;>try exact Xp|refine Z6 ?_;intro idn en af ah ad ab ac aa|refine Z3 ?_|exact Zt|apply J.out;clear J ya
    refine⟨ts.length-(i+1),Agm,i+1,idn,_,rfl,Agm,rfl,by simp,af,?_⟩;rw[Gy Hi HX.out];refine HS.out.append (EL.single ?_);have hi:Hi (b::r)=lR (b::r):=by unfold Hi;rw[if_pos (by exact am)]
    rw[hi];exact⟨_,1,[],⟨1,rfl⟩,rfl,by simp[lR]⟩
   ·have am:((b.toNat:Int)==63)=false:=by simpa using am
    have HI:Agt (Hi (b::r)=Qz (b::r)):=by unfold Agt Hi;rw[if_neg (by simp[Nt];simpa using am)]
    have p4:=p3 am;clear p3;by_cases ax:Bp (b::r) 58<r.length+1
    ·have p5:=p4 ax;clear p4
     repeat' first|refine Z1 ?_|refine Z8 fun ya J=>?_|refine Z4 ?_;clear J ya|refine Z2 ?_ ?_<;>intro h ae<;>try exact Xp|refine Z6 ?_;intro idn en af ah ad ab ac aa|(refine Z5 ?_;first|(refine Xi (Jy _ _ (by first|omega|(simp;omega)) _) ?_;rintro _ _ ⟨rfl,rfl⟩)|(refine Xi (Qr _ (by first|omega|(simp;omega)) _) ?_;rintro _ _ ⟨_,rfl,⟨ia,rfl⟩,ai⟩;(have ka:=ai.nobj))|(refine Xi (Pu _ _ (by first|omega|(simp;omega)) _) ?_;rintro _ _ ⟨idc,rfl,ao⟩;(have ko:=ao.obj _ (by rw[Ac,Aa];exact Nat.lt_succ_self _);rw[Aj]at ko;have kc:=ao.nobj;simp only[Ac,Aa]at kc)))|refine Z3 ?_|exact Zt|apply J.out;clear J ya
     rename_i e2 ea ec;rw[show ((Bp (b::r) 58:Nat)+2:Int).toNat=Bp (b::r) 58+2 by omega];have ay:=@Og (List.take (r.length+1-(Bp (b::r) 58+2)) (List.drop (Bp (b::r) 58+2) (b::r))) 44;have av:=fun t=>@Of (List.take (r.length+1-(Bp (b::r) 58+2)) (List.drop (Bp (b::r) 58+2) (b::r))) 44 t;have a7:(List.take (r.length+1-(Bp (b::r) 58+2)) (List.drop (Bp (b::r) 58+2) (b::r))).length<=1000:=by simp;omega
     have HR:Agt (Qz (b::r)={out:=false,head:=Dj (List.take (Bp (b::r) 58) (b::r)),body:=(Jc (List.take (r.length+1-(Bp (b::r) 58+2)) (List.drop (Bp (b::r) 58+2) (b::r))) 44).map Dj}):=by
      unfold Agt Qz;rw[if_pos (by simpa using ax)];simp
     generalize Jc (List.take (r.length+1-(Bp (b::r) 58+2)) (List.drop (Bp (b::r) 58+2) (b::r))) 44=ms at ay av HR;generalize (List.take (r.length+1-(Bp (b::r) 58+2)) (List.drop (Bp (b::r) 58+2) (b::r))).length=lq at ay av a7;generalize Dj (List.take (Bp (b::r) 58) (b::r))=hd at ko HR ao;have ap:Keep ea ec:=(((Keep.refl ea).new _).put (Adc _) _).trans ao;have bi:Keep e ea:=hK.trans ai;have bf:Own e ea ids i:=hO.keep ai
     refine Ad (fun m s e'=>∃(k idb:Nat) (bb:List AV),m=ms.length-k/\k<=ms.length/\s 3=sl ids i ss/\s 4=sl idt ts.length (ts.map str)/\s 5=sc (.int .i64 i)/\s 8=ptr ea.nobj 0/\s 9=sl idc ms.length (ms.map str)/\s 10=sc (.int .i64 k)/\Keep ea e'/\Own ea e' idb k/\e'.obj ea.nobj=[sc (.bool false),sc (.bool hd.nt),str hd.pred,sl ia hd.terms.length (hd.terms.map str),sl idb k bb]/\ea.nobj<e'.nobj/\Agt (EL B6 ((ms.take k).map Dj) bb)) ms.length
      ⟨0,1,[],Agm,Agm,by simp[upd,h3],by simp[upd,h4],by simp[upd,h5],Ago,Ago,rfl,ap,Own.nil _ _,ko,Agm,rfl⟩ ?_
     clear ap ao ko kc h3 h4 h5 hK ai hO ka;rintro m s e' ⟨k,idb,bb,rfl,hk,h3,h4,h5,h8,h9,bn,hK,hO,ho,hn,hB⟩;have an:=EL.length Bc hB.out;simp only[Ae3,Aec,Aeh hk]at an;by_cases aj:k<ms.length
     ·have a5:=A2 aj;have a6:=av ms[k] (Aes aj);have HM:Agt (ms[k]?=some ms[k]):=Adn aj;generalize ms[k]=t at a5 a6 HM
      repeat' first|refine Z1 ?_|refine Z8 fun ya J=>?_|refine Z4 ?_;clear J ya|refine Z2 ?_ ?_<;>intro h ae<;>try exact Xp|refine Z6 ?_;intro idn en af ah ad ab ac aa|refine Z3 ?_|exact Zt|apply J.out;clear J ya
      refine Aw Ag (fun _=>True) [10] [0,1,2,3,4,5] [6,7,8,9,10] Agp (fun _ _ _ h=>h) ?_;intro ya J;refine Z3 ?_
      repeat' first|refine Z1 ?_|refine Z8 fun ya J=>?_|refine Z4 ?_;clear J ya|refine Z2 ?_ ?_<;>intro h ae<;>try exact Xp|refine Z6 ?_;intro idn en af ah ad ab ac aa|refine Z5 ?_;refine Xi (Qr _ Agm _) ?_;rintro _ _ ⟨_,rfl,⟨it,rfl⟩,ak⟩;(have kt:=ak.obj _ hn;rw[ho]at kt;have ktn:=ak.nobj;have bh:=hK.trans ak;have be:=hO.keep ak)|refine Z3 ?_|exact Zt|apply J.out;clear J ya
      refine And.intro (Ao (ak.lay 1)) ?_;refine Bz (by first|exact Ka|exact O0) bh be (by decide) (by rfl) an (by rfl) (by rfl) (by decide) Agm Agm ?_;intro idn en af ah ad ab ac aa;have a9:∀q,Kept (fun j=>![10].contains j) (fun x=>True) e' q en:=fun q _ o ho _=>by rw[ac];exact ak.ver o ho
      have bm:en.obj ea.nobj=[sc (.bool false),sc (.bool hd.nt),str hd.pred,sl ia hd.terms.length (hd.terms.map str),sl idb k bb]:=by rw[ad];exact kt
      refine Z3 ?_
      repeat' first|refine And.intro (a9 _) ?_|refine And.intro (Bf rfl) ?_
      repeat' first|refine Z1 ?_|refine Z8 fun ya J=>?_|refine Z4 ?_;clear J ya|refine Z2 ?_ ?_<;>intro h ae<;>try exact Xp|refine Z6 ?_;intro idn en af ah ad ab ac aa|refine Z3 ?_|exact Zt|apply J.out;clear J ya
      have a0:EL B6 ((ms.take (k+1)).map Dj) (bb++[sc (Value.bool (Dj t).nt),str (Dj t).pred,sl it (Dj t).terms.length (List.map str (Dj t).terms)]):=by
       rw[Gy Dj HM.out];exact hB.out.append (EL.single ⟨_,rfl⟩)
      first
      |exact⟨ms.length-(k+1),Agm,k+1,idn,_,rfl,Agm,by simp,ah.put (Adc _) _,af,rfl,a0⟩
      |exact⟨ms.length-(k+1),Agm,k+1,idn,_,rfl,Agm,by simp,ah.put (Adc _) _,af,rfl,Agm,a0⟩
     ·have a8:k=ms.length:=Agm;subst a8;rw[Adu]at hB;have bg:=bi.trans hK;have bd:=bf.keep hK;clear hK hO
      repeat' first|refine Z1 ?_|refine Z8 fun ya J=>?_|refine Z4 ?_;clear J ya|refine Z2 ?_ ?_<;>intro h ae<;>try exact Xp|refine Z6 ?_;intro idn en af ah ad ab ac aa|refine Z3 ?_|exact Zt|apply J.out;clear J ya
      refine⟨ts.length-(i+1),Agm,i+1,idn,_,rfl,Agm,rfl,by simp,af,?_⟩;rw[Gy Hi HX.out];refine HS.out.append (EL.single ?_);rw[HI.out,HR.out];exact⟨_,idb,bb,⟨ia,rfl⟩,hB.out,by simp⟩
    ·clear p4
     repeat' first|refine Z1 ?_|refine Z8 fun ya J=>?_|refine Z4 ?_;clear J ya|refine Z2 ?_ ?_<;>intro h ae<;>try exact Xp|refine Z6 ?_;intro idn en af ah ad ab ac aa|(refine Z5 ?_;first|(refine Xi (Jy _ _ (by first|omega|(simp;omega)) _) ?_;rintro _ _ ⟨rfl,rfl⟩)|(refine Xi (Qr _ (by first|omega|(simp;omega)) _) ?_;rintro _ _ ⟨_,rfl,⟨ia,rfl⟩,ai⟩;(have ka:=ai.nobj)))|refine Z3 ?_|exact Zt|apply J.out;clear J ya
     rename_i e2 ea;have bg:=((hK.trans ai).new [sc (Value.bool false),sc (Value.bool false),sc (Value.string (bs [])),nilS,nilS]).put (hK.trans ai).nobj [sc (Value.bool false),sc (Value.bool (Dj (List.take (Bp (b::r) 58) (b::r))).nt),str (Dj (List.take (Bp (b::r) 58) (b::r))).pred,sl ia (Dj (List.take (Bp (b::r) 58) (b::r))).terms.length (List.map str (Dj (List.take (Bp (b::r) 58) (b::r))).terms),nilS];have bd:=hO.keep ((ai.new [sc (Value.bool false),sc (Value.bool false),sc (Value.string (bs [])),nilS,nilS]).put ai.nobj [sc (Value.bool false),sc (Value.bool (Dj (List.take (Bp (b::r) 58) (b::r))).nt),str (Dj (List.take (Bp (b::r) 58) (b::r))).pred,sl ia (Dj (List.take (Bp (b::r) 58) (b::r))).terms.length (List.map str (Dj (List.take (Bp (b::r) 58) (b::r))).terms),nilS])
     repeat' first|refine Z1 ?_|refine Z8 fun ya J=>?_|refine Z4 ?_;clear J ya|refine Z2 ?_ ?_<;>intro h ae<;>try exact Xp|refine Z6 ?_;intro idn en af ah ad ab ac aa|refine Z3 ?_|exact Zt|apply J.out;clear J ya
     refine⟨ts.length-(i+1),Agm,i+1,idn,_,rfl,Agm,rfl,by simp,af,?_⟩;rw[Gy Hi HX.out];refine HS.out.append (EL.single ?_);rw[HI.out];unfold Qz;rw[if_neg (by simpa using ax)];exact⟨_,1,[],⟨ia,rfl⟩,rfl,by simp⟩
 ·have ba:i=ts.length:=Agm;subst ba
  repeat' first|refine Z1 ?_|refine Z8 fun ya J=>?_|refine Z4 ?_;clear J ya|refine Z2 ?_ ?_<;>intro h ae<;>try exact Xp|refine Z6 ?_;intro idn en af ah ad ab ac aa|refine Z3 ?_|exact Zt|apply J.out;clear J ya
  have hS:=HS.out;rw[Adu]at hS
  first
  |exact⟨_,rfl,ids,ss,by simp,hS,hK⟩
  |exact⟨_,rfl,ids,ss,by simp,hS⟩
theorem jM (nt:Bool)(s:List UInt8):(Ni nt s).terms.length<=s.length:=by
 unfold Ni;simp only;split
 ·rename_i h;refine Ade Og ?_;simp;omega
 ·simp
theorem Rh (s:List UInt8):(Dj s).terms.length<=s.length:=by
 unfold Dj;refine Ade (jM _ _) ?_;unfold H2;split
 ·simp
 ·exact Adc _
theorem mA {t:List UInt8}(h:t.length<=1000):(Hi t).fits:=by
 unfold Hi;split
 ·exact⟨by simp[lR],by simp[lR],by simp[lR]⟩
 ·unfold Qz;refine⟨?_,?_,?_⟩
  ·simp only;split
   ·rw[Ae3];refine Ade Og ?_;simp;omega
   ·simp
  ·simp only;refine Ade (Rh _) ?_;simp;omega
  ·simp only;split
   ·intro a ha;rw[Ae4]at ha;obtain⟨u,hu,rfl⟩:=ha;refine Ade (Rh _) ?_;refine Ade (Of hu) ?_;simp;omega
   ·simp
def iT (s:List UInt8):Prop:=(Jc s 46).length<=16/\∀t∈Jc s 46,pC t
def As (s:List UInt8):Int×Int:=
 if 600<s.length then (1,0)else if 0<=Eh s then (2,Eh s)else Cf (Bh s)
theorem Wl (s:List UInt8)(hg:s.length<=600->¬0<=Eh s->iT s)(hpl: -1<=Eh s/\Eh s<=s.length)(e:St):ACalls Tryz.prog 82 [str s] e fun r e'=>r=two (As s)/\Keep e e':=by
 obtain⟨q1,q2⟩:=hpl;refine Z9 18 [.tmp 2,.tmp 3] Tryz.func82 ?_;by_cases hL:600<s.length
 ·have hr:As s=(1,0):=by unfold As;rw[if_pos hL]
  repeat' first|refine Z1 ?_|refine Z8 fun ya J=>?_|refine Z4 ?_;clear J ya|refine Z2 ?_ ?_<;>intro h aa<;>try exact Xp|refine Z3 ?_|exact Zt|apply J.out;clear J ya
  exact⟨_,rfl,rfl,Keep.refl _⟩
 ·have hg:=hg Agm;by_cases hP:0<=Eh s
  ·have hr:As s=(2,Eh s):=by unfold As;rw[if_neg hL,if_pos hP]
   repeat' first|refine Z1 ?_|refine Z8 fun ya J=>?_|refine Z4 ?_;clear J ya|refine Z2 ?_ ?_<;>intro h aa<;>try exact Xp|refine Z5 ?_;refine Xi (Ue s Agm _) ?_;rintro _ _ ⟨rfl,ab⟩|refine Z3 ?_|exact Zt|apply J.out;clear J ya
   first
   |exact⟨_,rfl,rfl,ab⟩
   |exact⟨_,rfl,rfl⟩
  ·have hr:As s=Cf (Bh s):=by unfold As;rw[if_neg hL,if_neg hP]
   obtain⟨g1,g2⟩:=hg hP;have ac:(Bh s).length<=16:=by unfold Bh;simpa using g1
   have ad:∀x∈Bh s,x.fits:=by
    intro x hx;unfold Bh at hx;rw[Ae4]at hx;obtain⟨t,ht,rfl⟩:=hx;exact mA (g2 t ht).1
   repeat' first|refine Z1 ?_|refine Z8 fun ya J=>?_|refine Z4 ?_;clear J ya|refine Z2 ?_ ?_<;>intro h aa<;>try exact Xp|(refine Z5 ?_;first|(refine Xi (Ue s Agm _) ?_;rintro _ _ ⟨rfl,ab⟩)|(refine Xi (N8 s Agm Agm g2 _) ?_;rintro _ _ ⟨idi,ci,rfl,ah,af⟩)|(refine Xi (kC _ _ _ ah ac ad _) ?_;rintro _ _ ⟨rfl,ae⟩))|refine Z3 ?_|exact Zt|apply J.out;clear J ya
   exact⟨_,rfl,rfl,(ab.trans af).trans ae⟩
end Go.Proofs.YtmoeoppbmhfbpaaGreatDoorD
