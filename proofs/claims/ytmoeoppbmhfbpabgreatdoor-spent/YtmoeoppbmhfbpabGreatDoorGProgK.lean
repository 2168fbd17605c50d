import Derived.Test.YtmoeoppbmhfbpabGreatDoorGProgH
import Derived.Test.YtmoeoppbmhfbpabGreatDoorGGramD
set_option maxHeartbeats 16000000
set_option maxRecDepth 100000
set_option linter.all false
namespace Go.Proofs.YtmoeoppbmhfbpabGreatDoorG
open Go.Abs
variable {Bd:Nat}
def itI (s:Tx)(xs:List RItem)(q:Tx):Prop:=xs.length<=16/\Bz 16 s=(Bz (16-xs.length) q).bnd fun ys r=>.got (xs++ys) r
theorem itI.start (s:Tx):itI s [] s:=by
 refine⟨by simp,?_⟩;simp only[Aem,Ae3,Aeu];cases Bz 16 s<;>rfl
theorem Tt (n:Nat):Bz n []= .got [] []:=by cases n<;>rfl
theorem Ql (b:UInt8)(r:Tx):Bz 0 (b::r)= .bad (b::r):=rfl
theorem K8 (n:Nat)(b:UInt8)(r:Tx):Bz (n+1) (b::r)=(E3 (b::r)).bnd fun x r=>(Bz n r).bnd fun xs r=>.got (x::xs) r:=rfl
theorem itI.done {s:Tx}{xs:List RItem}(h:itI s xs []):Bz 16 s= .got xs []:=by
 rw[h.2,Tt];simp[Rd.bnd]
theorem itI.full {s:Tx}{xs:List RItem}{b:UInt8}{r:Tx}(h:itI s xs (b::r))(hl:xs.length=16):Bz 16 s= .bad (b::r):=by
 rw[h.2,hl,Ql];rfl
theorem itI.fail {s:Tx}{xs:List RItem}{b:UInt8}{r e:Tx}(h:itI s xs (b::r))(hl:xs.length<16)(he:E3 (b::r)= .bad e):Bz 16 s= .bad e:=by
 obtain⟨k,hk⟩:∃k,16-xs.length=k+1:=⟨15-xs.length,Agm⟩;rw[h.2,hk,K8,he];rfl
theorem itI.next {s:Tx}{xs:List RItem}{b:UInt8}{r r2:Tx}{x:RItem}(h:itI s xs (b::r))(hl:xs.length<16)(he:E3 (b::r)= .got x r2):itI s (xs++[x]) r2:=by
 obtain⟨k,hk⟩:∃k,16-xs.length=k+1:=⟨15-xs.length,Agm⟩;refine⟨by simp;omega,?_⟩;rw[h.2,hk,K8,he,show 16-(xs++[x]).length=k by simp;omega];simp only[Rd.bnd];cases Bz k r2<;>simp
theorem fT {σ0 y2:St}{id1 id2 ids n:Nat}(h:id1=1\/id1≠ids)(hO:Own σ0 y2 ids n)(hs:id2=id1\/y2.ntop+2<=id2):id2=1\/id2≠ids:=by
 rcases hO with⟨h1,-⟩|⟨k,h1,h2,h3,h4,h5⟩<;>omega
theorem cS {t:Tx}{o:Nat}{N:List Tx}{id:Nat}{s:Tx}{y:St}(ht:t.length<=1000)(hR:RS Bd t o N id s y):
  ACalls Tryz.prog 70 [ptr o 0] y fun x y'=>∃n ids c N' id',x=tp [sl ids n c,sc (.bool (Bz 16 s).ok)]/\Rs o y id y' id'/\RS Bd t o N' id' (Bz 16 s).rest y'/\N<+:N'/\Rd.Val (Bz 16 s) fun xs=>n=xs.length/\EL (PI N') xs c:=by
 have hn:=hR.lt;have a5:OwnN y id N.length:=hR.own;refine Z9 33 [.tmp 2,.tmp 3] Tryz.func70 ?_
 repeat' (first|refine Z1 ?_|(refine Z8 ?_;intro κ hκ)|(refine Z4 ?_;clear hκ κ)|(refine Z2 ?_ ?_<;>intro h ae<;>try exact Xp)|(refine Z6 ?_;intro idn yn ah ai ac ab ad aa)|refine Z3 ?_|exact⟨⟩|(apply hκ.out;clear hκ κ))
 refine Ag (fun m s' y'=>∃(xs:List RItem) (q:Tx) (ids:Nat) (d:List AV) (N2:List Tx) (id2:Nat),m=16-xs.length/\s' 0=ptr o 0/\s' 4=sl ids xs.length d/\Rs o y id y' id2/\RS Bd t o N2 id2 q y'/\Own y y' ids xs.length/\Agt (id2=1\/id2≠ids)/\N<+:N2/\xs.length<=16/\d.length=xs.length*4/\Agt (EL (PI N2) xs d)/\Agt (itI s xs q)) 16
  ⟨[],s,1,[],N,id,rfl,rfl,rfl,Rs.refl _ _ _,hR,Own.nil _ _,by rcases a5 with⟨e,-⟩|⟨k,e,-⟩;exact .inl e;exact .inr Agm,Ae6 _,by simp,by simp,rfl,itI.start s⟩ ?_
 rintro m s' y' ⟨xs,q,ids,d,N2,id2,rfl,h0,h4,hS,af,hO,aw,aj,a3,a4,hE,hI⟩;have a9:=hS.keep.nobj;have ba:=af.lt;have an:=af.obj;have au:=Hu af.suf;unfold Mo W3 at an
 repeat' (first|refine Z1 ?_|(refine Z8 ?_;intro κ hκ)|(refine Z4 ?_;clear hκ κ)|(refine Z2 ?_ ?_<;>intro h ae<;>try exact Xp)|(refine Z6 ?_;intro idn yn ah ai ac ab ad aa)|refine Z3 ?_|exact⟨⟩|(apply hκ.out;clear hκ κ))
 refine Bu Al (fun _=>True) [9] [0,1,2,3,4,5,6,7,8] [9] Agp (fun _ _ _ h=>h) ?_;intro κ hκ;cases q with
 |nil=>
  simp only[Aem,Ae3]at an au;refine Z3 ?_
  repeat' (first|refine Z1 ?_|(refine Z8 ?_;intro κ hκ)|(refine Z4 ?_;clear hκ κ)|(refine Z2 ?_ ?_<;>intro h ae<;>try exact Xp)|(refine Z6 ?_;intro idn yn ah ai ac ab ad aa)|refine Z3 ?_|exact⟨⟩|(apply hκ.out;clear hκ κ))
  have hp:=hI.out.done
  first
  |exact⟨_,rfl,_,ids,d,N2,id2,by rw[hp];rfl,hS,by rw[hp];exact af,aj,by rw[hp];exact⟨rfl,hE.out⟩⟩
  |exact⟨_,rfl,_,ids,d,N2,id2,by rw[hp];rfl,by rw[hp];exact af,aj,by rw[hp];exact⟨rfl,hE.out⟩⟩
 |cons b0 r0=>
  simp only[Aen]at an au;refine Z3 ?_;by_cases av:xs.length<16
  ·repeat' (first|refine Z1 ?_|(refine Z8 ?_;intro κ hκ)|(refine Z4 ?_;clear hκ κ)|(refine Z2 ?_ ?_<;>intro h ae<;>try exact Xp)|(refine Z6 ?_;intro idn yn ah ai ac ab ad aa)|(refine Z5 ?_;refine Xi (iG ht (by assumption)) ?_;rintro _ _ ⟨b,k,ih,n,c,ib,m,e,N3,id3,rfl,ao,am,ap,ax⟩;(have a0:=ao.keep.nobj))|refine Z3 ?_|exact⟨⟩|(apply hκ.out;clear hκ κ))
   ·exfalso;simp at h;omega
   ·rename_i y3;obtain⟨e2,he⟩:=Rd.ok_false h;have hp:=hI.out.fail av he;rw[he]at am;simp only[Rd.rest]at am;refine⟨_,rfl,0,1,[],N3,id3,by rw[hp];rfl,by repeat (first|exact Rs.refl _ _ _|(with_reducible assumption)|(with_reducible apply Rs.put;rotate_left;(first|omega|(simp only[Aa,Ab,Ah,Av]at*;omega)))|(with_reducible apply Rs.new)|(with_reducible apply Rs.lay)|(refine Rs.trans ?_ (by with_reducible assumption))|(refine Rs.transX ?_ (by with_reducible assumption))),?_,aj.trans ap,by rw[hp];trivial⟩;rw[hp];show RS Bd t o N3 id3 e2 _
    repeat (first|(with_reducible assumption)|(with_reducible apply RS.put;rotate_left;(first|omega|(simp only[Aa,Ab,Ah,Av]at*;omega)))|(with_reducible apply RS.new)|(with_reducible apply RS.lay)|assumption)
   ·rename_i y3;obtain⟨x,r2,he⟩:=Rd.ok_true h;have hp:=hI.out.next av he;rw[he]at am ax;have hC:PI N3 x [sc (.bool b),sc (.int .i64 k),sl ih n c,sl ib m e]:=ax;have am:RS Bd t o N3 id3 r2 y3:=am;have ay:Rs o y id ((y3.new [sc (.bool false),sc (.int .i64 0),nilS,nilS]).put y3.nobj [sc (.bool b),sc (.int .i64 k),sl ih n c,sl ib m e]) id3:=by repeat (first|exact Rs.refl _ _ _|(with_reducible assumption)|(with_reducible apply Rs.put;rotate_left;(first|omega|(simp only[Aa,Ab,Ah,Av]at*;omega)))|(with_reducible apply Rs.new)|(with_reducible apply Rs.lay)|(refine Rs.trans ?_ (by with_reducible assumption))|(refine Rs.transX ?_ (by with_reducible assumption)))
    have a7:=Own.keepR hO ao.keep (U9 aw.out hO);have a6:Own y ((y3.new [sc (.bool false),sc (.int .i64 0),nilS,nilS]).put y3.nobj [sc (.bool b),sc (.int .i64 k),sl ih n c,sl ib m e]) ids xs.length:=Own.put (Own.new a7 _) _ _;have az:RS Bd t o N3 id3 r2 ((y3.new [sc (.bool false),sc (.int .i64 0),nilS,nilS]).put y3.nobj [sc (.bool b),sc (.int .i64 k),sl ih n c,sl ib m e]):=by repeat (first|(with_reducible assumption)|(with_reducible apply RS.put;rotate_left;(first|omega|(simp only[Aa,Ab,Ah,Av]at*;omega)))|(with_reducible apply RS.new)|(with_reducible apply RS.lay)|assumption)
    have ak:id3=1\/id3≠ids:=fT aw.out hO ao.nid;refine Qb (o:=o) (idn:=id) (σ0:=y) (by first|exact Kv) ay.keep a6 (by decide) (by rfl) a4 (by rfl) (by rfl) (by decide) Agm Agm ?_;intro idn yn ah ai ac ab ad aa etop hid;refine Z3 ?_
    repeat' (first|refine Z1 ?_|(refine Z8 ?_;intro κ hκ)|(refine Z4 ?_;clear hκ κ)|(refine Z2 ?_ ?_<;>intro h ae<;>try exact Xp)|(refine Z6 ?_;intro idn yn ah ai ac ab ad aa)|refine Z3 ?_|exact⟨⟩|(apply hκ.out;clear hκ κ))
    refine⟨16-(xs++[x]).length,by simp;omega,xs++[x],r2,idn,d++[sc (.bool b),sc (.int .i64 k),sl ih n c,sl ib m e],N3,id3,rfl,by simp,⟨ai,ay.nid⟩,az.app ac ab aa etop ak,by simpa using ah,Yq az.own ak hid,aj.trans ap,by simp;omega,by simp;omega,EL.append (hE.out.mono (PI.mono ap)) (EL.single hC),hp⟩
  ·have a8:xs.length=16:=Agm;have hp:=hI.out.full a8;have HP:Agt _:=hp;clear hp
   repeat' (first|refine Z1 ?_|(refine Z8 ?_;intro κ hκ)|(refine Z4 ?_;clear hκ κ)|(refine Z2 ?_ ?_<;>intro h ae<;>try exact Xp)|(refine Z6 ?_;intro idn yn ah ai ac ab ad aa)|refine Z3 ?_|exact⟨⟩|(apply hκ.out;clear hκ κ))
   first
   |exact⟨_,rfl,0,1,[],N2,id2,by rw[HP.out];rfl,hS,by rw[HP.out];exact af,aj,by rw[HP.out];trivial⟩
   |exact⟨_,rfl,0,1,[],N2,id2,by rw[HP.out];rfl,by rw[HP.out];exact af,aj,by rw[HP.out];trivial⟩
def PC (N:List Tx)(a:RAtom)(c:List AV):Prop:=a.pred∈N/\∃ids,c=[sc (.int .i64 (N.idxOf a.pred:Nat)),sl ids a.terms.length (Ay a.terms)]
theorem aD {N:List Tx}(a:RAtom)(c:List AV)(h:PC N a c):c.length=2:=by obtain⟨-,ids,rfl⟩:=h;rfl
theorem Mx {N:List Tx}{l:List RAtom}{cs:List AV}{i:Nat}{a:RAtom}(h:EL (PL N) l cs)(hi:l[i]?=some a):a.pred∈N/\∃ia r,cs.drop (i*3)=sc (.bool a.nt)::sc (.int .i64 (N.idxOf a.pred:Nat))::sl ia a.terms.length (Ay a.terms)::r:=by
 obtain⟨c,r,⟨hm,ia,rfl⟩,e⟩:=EL.get Dp h hi;exact⟨hm,ia,r,e⟩
theorem wP {N:List Tx}{l:List RAtom}{cs:List AV}{i:Nat}{a:RAtom}(h:EL (PC N) l cs)(hi:l[i]?=some a):a.pred∈N/\∃ia r,cs.drop (i*2)=sc (.int .i64 (N.idxOf a.pred:Nat))::sl ia a.terms.length (Ay a.terms)::r:=by
 obtain⟨c,r,⟨hm,ia,rfl⟩,e⟩:=EL.get aD h hi;exact⟨hm,ia,r,e⟩
theorem G8 {N:List Tx}{l:List RItem}{cs:List AV}{i:Nat}{x:RItem}(h:EL (PI N) l cs)(hi:l[i]?=some x):x.head.pred∈N/\∃ih id b r,EL (PL N) x.body b/\cs.drop (i*4)=sc (.bool x.out)::sc (.int .i64 (N.idxOf x.head.pred:Nat))::sl ih x.head.terms.length (Ay x.head.terms)::sl id x.body.length b::r:=by
 obtain⟨c,r,⟨hm,ih,id,b,hb,rfl⟩,e⟩:=EL.get D2 h hi;exact⟨hm,ih,id,b,r,hb,e⟩
theorem wL {N:List Tx}{l:List RAtom}{cs:List AV}(h:EL (PC N) l cs):∀c∈cs,Plain c:=by
 induction l generalizing cs with
 |nil=>have h:cs=[]:=h;subst h;simp
 |cons a l ih=>
  obtain⟨c1,c2,⟨-,ids,rfl⟩,h2,rfl⟩:=h;intro c hc;rcases Aew.1 hc with hc|hc
  ·simp only[Aeq,Ae8,Agk]at hc;rcases hc with rfl|rfl
   ·exact .inl ⟨_,rfl⟩
   ·refine .inr ⟨_,_,_,rfl,fun x hx=>?_⟩;simp only[Ay,Aev,Qh,Aeq,Ae8,Agk]at hx;obtain⟨w,-,rfl|rfl⟩:=hx<;>exact⟨_,rfl⟩
  ·exact ih h2 c hc
theorem lU {xs ys:List AV}{n:Nat}{u v a b:AV}(hn:xs.length=n):((xs++u::v::ys).set n a).set (n+1) b=xs++a::b::ys:=by
 subst hn;rw[List.set_append_right _ _ (Adn _),Ae2,List.set_cons_zero,List.set_append_right _ _ Agm,Nat.add_sub_cancel_left,List.set_cons_succ,List.set_cons_zero]
theorem Rj {m:Nat}(h:0<m)(u v:AV):(List.replicate m [u,v]).flatten=u::v::(List.replicate (m-1) [u,v]).flatten:=by
 obtain⟨k,rfl⟩:∃k,m=k+1:=⟨m-1,Agm⟩;rw[List.replicate_succ];rfl
theorem oN (N:List Tx)(x:RItem)(c:List AV)(hc:PI N x c)(ad:x.out=false)(hn:x.body.length<=1000)(y:St):ACalls Tryz.prog 133 [ag c] y fun r y'=>∃(o n:Nat) (cs:List AV),r=fx o 0 n/\y.nobj<=o/\y'.obj o=cs/\Keep y y'/\(∀c∈cs,Plain c)/\(n=(Ae x).length/\EL (PC N) (Ae x) cs):=by
 obtain⟨hm,ih,id,b,hb,rfl⟩:=hc;have an:=EL.length Dp hb;refine Z9 33 [.tmp 2] Tryz.func133 ?_
 repeat' (first|refine Z1 ?_|(refine Z8 ?_;intro κ hκ)|(refine Z4 ?_;clear hκ κ)|(refine Z2 ?_ ?_<;>intro h ab<;>try exact Xp)|refine Z3 ?_|exact⟨⟩|(apply hκ.out;clear hκ κ))
 have ae:Keep y (y.new [sc (.bool false),sc (.int .i64 (N.idxOf x.head.pred:Nat)),sl ih x.head.terms.length (Ay x.head.terms),sl id x.body.length b]):=(Keep.refl _).new _;have ac:((x.body.length:Int)+1).toNat=x.body.length+1:=Agm
 refine Ag (fun m s y'=>∃(k:Nat) (cur:List AV),m=x.body.length-k/\k<=x.body.length/\s 3=fx (y.nobj+1) 0 (x.body.length+1)/\s 18=sl id x.body.length b/\s 19=sc (.int .i64 x.body.length)/\s 20=sc (.int .i64 k)/\Keep y y'/\y.nobj+1<y'.nobj/\y'.obj (y.nobj+1)=cur/\cur.length=(x.body.length+1)*2/\Agt (∃xs,cur=xs++(List.replicate (x.body.length-k) [sc (.int .i64 0),nilS]).flatten/\xs.length=(1+k)*2/\EL (PC N) (x.head::x.body.take k) xs)) x.body.length
  ⟨0,_,Agm,Agm,by simp[upd,ac],Ago,Ago,rfl,(ae.new _).put Agm _,Ags,Aj,by simp[ac],[sc (.int .i64 (N.idxOf x.head.pred:Nat)),sl ih x.head.terms.length (Ay x.head.terms)],?_,by simp,EL.single ⟨hm,ih,rfl⟩⟩ ?_
 ·rw[ac,Rj Agm];rfl
 clear ae;rintro m s y' ⟨k,cur,rfl,hk,h3,av,au,ap,hK,hno,af,aj,hE⟩;have ak:=hK.nobj;by_cases ah:k<x.body.length
 ·have aa:=List.getElem?_eq_getElem ah;obtain⟨ha,ia,r,hd⟩:=Mx hb aa;generalize x.body[k]=a at hd aa ha;have HG:Agt (x.body[k]?=some a):=aa;clear aa;have am:((k:Int)+1).toNat=k+1:=Agm
  repeat' (first|refine Z1 ?_|(refine Z8 ?_;intro κ hκ)|(refine Z4 ?_;clear hκ κ)|(refine Z2 ?_ ?_<;>intro h ab<;>try exact Xp)|refine Z3 ?_|exact⟨⟩|(apply hκ.out;clear hκ κ))
  have HN:Agt (∃xs,(cur.set ((k+1)*2) (sc (.int .i64 (N.idxOf a.pred:Nat)))).set ((k+1)*2+1) (sl ia a.terms.length (Ay a.terms))=xs++(List.replicate (x.body.length-(k+1)) [sc (.int .i64 0),nilS]).flatten/\xs.length=(1+(k+1))*2/\EL (PC N) (x.head::x.body.take (k+1)) xs):=by
   obtain⟨xs,e1,e2,e3⟩:=hE.out;refine⟨xs++[sc (.int .i64 (N.idxOf a.pred:Nat)),sl ia a.terms.length (Ay a.terms)],?_,by simp[e2];omega,?_⟩
   ·rw[e1,Rj Agm,lU (by rw[e2];omega)];simp[Nat.sub_sub]
   ·rw[Ad3,HG.out];exact EL.append e3 (EL.single ⟨ha,ia,rfl⟩)
  refine⟨x.body.length-(k+1),Agm,k+1,(cur.set ((k+1)*2) (sc (.int .i64 (N.idxOf a.pred:Nat)))).set ((k+1)*2+1) (sl ia a.terms.length (Ay a.terms)),?_⟩
  ((repeat' with_reducible refine And.intro ?_ ?_)<;>first|exact Xq|exact (((hK.new _).put hK.nobj _).put Agm _)|exact (Aj)|exact (HN)|exact (by simp[aj])|exact Xs)
 ·have ai:k=x.body.length:=Agm;subst ai;obtain⟨xs,e1,e2,e3⟩:=hE.out;rw[Ae2,List.replicate_zero,List.flatten_nil,Ad7]at e1;rw[Adz]at e3;subst e1;have ao:Ae x=x.head::x.body:=by simp[Ae,ad]
  repeat' (first|refine Z1 ?_|(refine Z8 ?_;intro κ hκ)|(refine Z4 ?_;clear hκ κ)|(refine Z2 ?_ ?_<;>intro h ab<;>try exact Xp)|refine Z3 ?_|exact⟨⟩|(apply hκ.out;clear hκ κ))
  exact⟨_,rfl,y.nobj+1,_,cur,rfl,Agm,af,wL e3,rfl,e3⟩
theorem iQ (N:List Tx)(x:RItem)(c:List AV)(hc:PI N x c)(aa:x.out=true)(y:St):ACalls Tryz.prog 133 [ag c] y fun r y'=>r=nilS/\Keep y y':=by
 obtain⟨hm,ih,id,b,hb,rfl⟩:=hc;refine Z9 33 [.tmp 2] Tryz.func133 ?_
 repeat' (first|refine Z1 ?_|(refine Z8 ?_;intro κ hκ)|(refine Z4 ?_;clear hκ κ)|(refine Z2 ?_ ?_<;>intro h ab<;>try exact Xp)|refine Z3 ?_|exact⟨⟩|(apply hκ.out;clear hκ κ))
 first
 |exact⟨_,rfl,rfl,Xs⟩
 |exact⟨rfl,Xs⟩
theorem K7 (N:List Tx)(x:RItem)(c:List AV)(hc:PI N x c)(ho:x.out=true->x.body=[])(hn:x.body.length<=1000)(y:St):ACalls Tryz.prog 133 [ag c] y fun r y'=>∃id cs,r=sl id (Ae x).length cs/\EL (PC N) (Ae x) cs/\Keep y y':=by
 by_cases aa:x.out=true
 ·refine (iQ N x c hc aa y).mono fun r y' h=>?_;obtain⟨rfl,h⟩:=h;exact⟨1,[],by simp[Ae,aa,ho aa],by simp[Ae,aa,ho aa,EL],h⟩
 ·have aa:x.out=false:=by simpa using aa
  refine (ACalls.freeze (oN N x c hc aa hn y)).mono fun r y' h=>?_;obtain⟨n,cs,rfl,⟨rfl,h1⟩,h2⟩:=h;exact⟨0,cs,rfl,h1,h2⟩
theorem Fj {ts:List Tx}{k:Nat}{w:Tx}(h:ts[k]?=some w):∃r,(Ay ts).drop (k*2)=sc (.bool (Am w).1)::sc (.int .i64 (Am w).2)::r:=by
 have hE:∀ts:List Tx,EL (fun w c=>c=Qh w) ts (Ay ts):=by
  intro ts;induction ts with
  |nil=>rfl
  |cons a l ih=>exact⟨Qh a,Ay l,rfl,ih,by simp[Ay]⟩
 obtain⟨c,r,rfl,e⟩:=EL.get (z:=2) (fun a c h=>by rw[h];rfl) (hE ts) h;exact⟨r,e⟩
theorem L3 {p:Nat->Bool}{i:Nat}(h:∀j,j<i->p j=false)(hi:p i=false):∀j,j<i+1->p j=false:=fun j hj=>by
 by_cases e:j=i
 ·rw[e];exact hi
 ·exact h j Agm
def Np (v:Int)(w:Tx):Bool:=(Am w).1&&(Am w).2==v
def eR (a:RAtom)(v:Int)(i:Nat):Bool:=match a.terms[i]? with|some w=>Np v w|none=>false
theorem dE (k:Int)(ids:Nat)(a:RAtom)(v:Int)(hn:a.terms.length<=1000)(y:St):ACalls Tryz.prog 217 [ag [sc (.int .i64 k),sl ids a.terms.length (Ay a.terms)],sc (.int .i64 v)] y fun r y'=>r=sc (.int .i64 (Bn (eR a v) a.terms.length))/\Keep y y':=by
 have aj:=Ek a.terms;refine Z9 25 [.tmp 4] Tryz.func217 ?_
 repeat' (first|refine Z1 ?_|(refine Z8 ?_;intro κ hκ)|(refine Z4 ?_;clear hκ κ)|(refine Z2 ?_ ?_<;>intro h ab<;>try exact Xp)|refine Z3 ?_|exact⟨⟩|(apply hκ.out;clear hκ κ))
 refine Ag (fun m s y'=>∃i:Nat,m=a.terms.length-i/\i<=a.terms.length/\s 1=sc (.int .i64 v)/\s 8=sl ids a.terms.length (Ay a.terms)/\s 9=sc (.int .i64 a.terms.length)/\s 10=sc (.int .i64 i)/\Keep y y'/\Agt (∀j,j<i->eR a v j=false)) a.terms.length
  ⟨0,Agm,Agm,rfl,rfl,rfl,rfl,Xs,fun j hj=>Agm⟩ ?_
 rintro m s y' ⟨i,rfl,hi,h1,h8,h9,ak,hK,hno⟩;by_cases ad:i<a.terms.length
 ·have aa:=List.getElem?_eq_getElem ad;obtain⟨r,hd⟩:=Fj aa;generalize a.terms[i]=w at hd aa;have hv:Agt (eR a v i=Np v w):=by rw[Agt,eR,aa]
  clear aa;have ai:=hK.nobj;generalize af:(Am w).1=w1 at hd;generalize ae:(Am w).2=w2 at hd;have ac:Agt (Np v w=(w1&&w2==v)):=by rw[Agt,Np,af,ae]
  clear af ae
  repeat' (first|refine Z1 ?_|(refine Z8 ?_;intro κ hκ)|(refine Z4 ?_;clear hκ κ)|(refine Z2 ?_ ?_<;>intro h ab<;>try exact Xp)|refine Z3 ?_|exact⟨⟩|(apply hκ.out;clear hκ κ))
  ·exact⟨_,rfl,by rw[J5 ad (by rw[hv.out,ac.out];simp[*]) hno.out],Xs⟩
  all_goals exact⟨a.terms.length-(i+1),Agm,i+1,rfl,Agm,by simp,Xs,L3 hno.out (by rw[hv.out,ac.out];simp[*])⟩
 ·have ah:i=a.terms.length:=Agm;subst ah
  repeat' (first|refine Z1 ?_|(refine Z8 ?_;intro κ hκ)|(refine Z4 ?_;clear hκ κ)|(refine Z2 ?_ ?_<;>intro h ab<;>try exact Xp)|refine Z3 ?_|exact⟨⟩|(apply hκ.out;clear hκ κ))
  first|exact⟨_,rfl,by rw[Cq hno.out],hK⟩|exact⟨_,rfl,by rw[Cq hno.out]⟩
theorem jJ {α:Type}(l:List α)(q:α->Bool)(p:Nat->Bool)(hp:∀i,p i=match l[i]? with|some w=>q w|none=>false):(decide (Bn p l.length≠ -1))=l.any q:=by
 by_cases h:l.any q=true
 ·rw[h];rw[Aeo]at h;obtain⟨w,hw,hq⟩:=h;obtain⟨i,hi,he⟩:=List.getElem_of_mem hw;by_cases hN:Bn p l.length= -1
  ·exfalso;unfold Bn at hN;split at hN
   ·omega
   ·rename_i hf;rw[List.find?_eq_none]at hf;have:=hf i (by simpa using hi);rw[hp,List.getElem?_eq_getElem hi,he]at this;simp[hq]at this
  ·simpa using hN
 ·have h:l.any q=false:=by simpa using h
  rw[h,Cq (fun i hi=>by
   rw[hp,List.getElem?_eq_getElem hi];rw[Ae9]at h
   simpa using h l[i] (Afa hi))]
  simp
theorem oL (k:Int)(ids:Nat)(a:RAtom)(v:Int)(hn:a.terms.length<=1000)(y:St):ACalls Tryz.prog 232 [ag [sc (.int .i64 k),sl ids a.terms.length (Ay a.terms)],sc (.int .i64 v)] y fun r y'=>r=sc (.bool (a.terms.any (Np v)))/\Keep y y':=by
 have hF:=jJ a.terms (Np v) (eR a v) (fun i=>by unfold eR;cases a.terms[i]?<;>rfl);refine Z9 9 [.tmp 4] Tryz.func232 ?_
 repeat' (first|refine Z1 ?_|(refine Z8 ?_;intro κ hκ)|(refine Z4 ?_;clear hκ κ)|(refine Z2 ?_ ?_<;>intro h aa<;>try exact Xp)|(refine Z5 ?_;refine Xi (dE _ _ a v hn _) ?_;rintro _ _ ⟨rfl,ab⟩)|refine Z3 ?_|exact⟨⟩|(apply hκ.out;clear hκ κ))
 refine⟨_,rfl,?_,Xs⟩;rw[<-hF,show (Bn (eR a v) a.terms.length != -1)=decide (Bn (eR a v) a.terms.length≠ -1)from by rw[Afb];simp]
def E8 (x:RItem)(v:Int):Bool:=x.body.any fun a=>!a.nt&&a.terms.any (Np v)
theorem dJ (N:List Tx)(x:RItem)(c:List AV)(v:Int)(hc:PI N x c)(hx:x.fits)(y:St):ACalls Tryz.prog 192 [ag c,sc (.int .i64 v)] y fun r y'=>r=sc (.bool (E8 x v))/\Keep y y':=by
 obtain⟨hm,ih,id,b,hb,rfl⟩:=hc;have ak:=EL.length Dp hb;obtain⟨aj,ai,ae⟩:=hx;refine Z9 24 [.tmp 4] Tryz.func192 ?_
 repeat' (first|refine Z1 ?_|(refine Z8 ?_;intro κ hκ)|(refine Z4 ?_;clear hκ κ)|(refine Z2 ?_ ?_<;>intro h ab<;>try exact Xp)|refine Z3 ?_|exact⟨⟩|(apply hκ.out;clear hκ κ))
 refine Ag (fun m s y'=>∃i:Nat,m=x.body.length-i/\i<=x.body.length/\s 1=sc (.int .i64 v)/\s 8=sl id x.body.length b/\s 9=sc (.int .i64 x.body.length)/\s 10=sc (.int .i64 i)/\Keep y y'/\Agt ((x.body.take i).any (fun a=>!a.nt&&a.terms.any (Np v))=false)) x.body.length
  ⟨0,Agm,Agm,rfl,rfl,rfl,rfl,Xs,by simp[Agt]⟩ ?_
 rintro m s y' ⟨i,rfl,hi,h1,h8,h9,an,hK,hno⟩;by_cases ad:i<x.body.length
 ·have aa:=List.getElem?_eq_getElem ad;have ac:=ae x.body[i] (Afa ad);obtain⟨ha,ia,r,hd⟩:=Mx hb aa;generalize x.body[i]=a at hd aa ha ac;have HG:Agt (x.body[i]?=some a):=aa;clear aa;have ah:=hK.nobj
  repeat' (first|refine Z1 ?_|(refine Z8 ?_;intro κ hκ)|(refine Z4 ?_;clear hκ κ)|(refine Z2 ?_ ?_<;>intro h ab<;>try exact Xp)|(refine Z5 ?_;refine Xi (oL _ _ a v ac _) ?_;rintro _ _ ⟨rfl,am⟩)|refine Z3 ?_|exact⟨⟩|(apply hκ.out;clear hκ κ))
  ·exact⟨_,rfl,by rw[E8,Rv _ HG.out (by simp[*])],Xs⟩
  all_goals
   refine⟨x.body.length-(i+1),Agm,i+1,rfl,Agm,by simp,Xs,?_⟩;rw[Agt,any_take_succ _ HG.out,hno.out];simp[*]
 ·have af:i=x.body.length:=Agm;subst af;rw[Adz]at hno
  repeat' (first|refine Z1 ?_|(refine Z8 ?_;intro κ hκ)|(refine Z4 ?_;clear hκ κ)|(refine Z2 ?_ ?_<;>intro h ab<;>try exact Xp)|refine Z3 ?_|exact⟨⟩|(apply hκ.out;clear hκ κ))
  first|exact⟨_,rfl,by rw[E8,hno.out],hK⟩|exact⟨_,rfl,by rw[E8,hno.out]⟩
def Dw (x:RItem):Bool:=!(Ae x).any fun a=>a.terms.any fun w=>(Am w).1&&!E8 x (Am w).2
theorem Ti (N:List Tx)(x:RItem)(c:List AV)(hc:PI N x c)(ho:x.out=true->x.body=[])(hx:x.fits)(y:St):ACalls Tryz.prog 146 [ag c] y fun r y'=>r=sc (.bool (Dw x))/\Keep y y':=by
 have hA:=K7 N x c hc ho (by have:=hx.1;omega);have hB:=fun v=>dJ N x c v hc hx;obtain⟨hm,ih,id,b,hb,rfl⟩:=hc;have a4:=EL.length Dp hb;have a5:=hx.atoms;have az:∀a∈Ae x,a.terms.length<=1000:=by
  intro a ha;unfold Ae at ha;rcases Aew.1 ha with h|h
  ·split at h
   ·cases h
   ·simp at h;subst h;exact hx.2.1
  ·exact hx.2.2 a h
 refine Z9 32 [.tmp 2] Tryz.func146 ?_
 repeat' (first|refine Z1 ?_|(refine Z8 ?_;intro κ hκ)|(refine Z4 ?_;clear hκ κ)|(refine Z2 ?_ ?_<;>intro h ab<;>try exact Xp)|(refine Z5 ?_;refine Xi (hA _) ?_;rintro _ _ ⟨ida,cs,rfl,hE,af⟩;(have ad:=af.obj;have ah:=af.nobj;(try simp only[Aa,Ab,Ah]at ah)))|refine Z3 ?_|exact⟨⟩|(apply hκ.out;clear hκ κ))
 rename_i y1;have a3:=EL.length aD hE;have ao:y1.obj y.nobj=[sc (.bool x.out),sc (.int .i64 (N.idxOf x.head.pred:Nat)),sl ih x.head.terms.length (Ay x.head.terms),sl id x.body.length b]:=by rw[ad _ (by rw[Aa];omega),Ap]
 have af:Keep (y.new [sc (.bool x.out),sc (.int .i64 (N.idxOf x.head.pred:Nat)),sl ih x.head.terms.length (Ay x.head.terms),sl id x.body.length b]) y1:=af
 refine Ag (fun m s y'=>∃i:Nat,m=(Ae x).length-i/\i<=(Ae x).length/\s 1=ptr y.nobj 0/\s 8=sl ida (Ae x).length cs/\s 9=sc (.int .i64 (Ae x).length)/\s 10=sc (.int .i64 i)/\Keep y1 y'/\Agt (((Ae x).take i).any (fun a=>a.terms.any fun w=>(Am w).1&&!E8 x (Am w).2)=false)) (Ae x).length
  ⟨0,Agm,Agm,rfl,rfl,rfl,rfl,Keep.refl _,by simp[Agt]⟩ ?_
 rintro m s y' ⟨i,rfl,hi,h1,h8,h9,ak,hK,hno⟩;have am:=hK.nobj;have ae:y'.obj y.nobj=[sc (.bool x.out),sc (.int .i64 (N.idxOf x.head.pred:Nat)),sl ih x.head.terms.length (Ay x.head.terms),sl id x.body.length b]:=by rw[hK.obj _ Agm,ao]
 have a6:Keep y y1:=((Keep.refl y).new _).trans af;clear ad;by_cases ap:i<(Ae x).length
 ·have aa:=List.getElem?_eq_getElem ap;have aw:=az (Ae x)[i] (Afa ap);obtain⟨ha,ia,r,hd⟩:=wP hE aa;generalize (Ae x)[i]=a at hd aa ha aw;have HG:Agt ((Ae x)[i]?=some a):=aa;clear aa;have a0:=Ek a.terms
  repeat' (first|refine Z1 ?_|(refine Z8 ?_;intro κ hκ)|(refine Z4 ?_;clear hκ κ)|(refine Z2 ?_ ?_<;>intro h ab<;>try exact Xp)|refine Z3 ?_|exact⟨⟩|(apply hκ.out;clear hκ κ))
  refine Ag (fun m s y'=>∃j:Nat,m=a.terms.length-j/\j<=a.terms.length/\s 1=ptr y.nobj 0/\s 8=sl ida (Ae x).length cs/\s 9=sc (.int .i64 (Ae x).length)/\s 10=sc (.int .i64 i)/\s 15=sl ia a.terms.length (Ay a.terms)/\s 16=sc (.int .i64 a.terms.length)/\s 17=sc (.int .i64 j)/\Keep y1 y'/\Agt ((a.terms.take j).any (fun w=>(Am w).1&&!E8 x (Am w).2)=false)) a.terms.length
   ⟨0,Agm,Agm,by simp[upd,h1],by simp[upd,h8],by simp[upd,h9],by simp[upd,ak],rfl,rfl,rfl,(hK.new _).put hK.nobj _,by simp[Agt]⟩ ?_
  clear ae hK am h1 h8 h9 ak;rintro m s y' ⟨j,rfl,hj,h1,h8,h9,ak,ba,a9,a8,hK,ac⟩;have am:=hK.nobj;have ae:y'.obj y.nobj=[sc (.bool x.out),sc (.int .i64 (N.idxOf x.head.pred:Nat)),sl ih x.head.terms.length (Ay x.head.terms),sl id x.body.length b]:=by rw[hK.obj _ Agm,ao]
  by_cases ai:j<a.terms.length
  ·have aa:=List.getElem?_eq_getElem ai;obtain⟨r2,aj⟩:=Fj aa;generalize a.terms[j]=w at aj aa;have HW:Agt (a.terms[j]?=some w):=aa;clear aa;generalize av:(Am w).1=w1 at aj;generalize au:(Am w).2=w2 at aj;have an:Agt (((Am w).1&&!E8 x (Am w).2)=(w1&&!E8 x w2)):=by rw[Agt,av,au]
   clear av au
   repeat' (first|refine Z1 ?_|(refine Z8 ?_;intro κ hκ)|(refine Z4 ?_;clear hκ κ)|(refine Z2 ?_ ?_<;>intro h ab<;>try exact Xp)|(refine Z5 ?_;refine Xi (hB _ _) ?_;rintro _ _ ⟨rfl,a7⟩)|refine Z3 ?_|exact⟨⟩|(apply hκ.out;clear hκ κ))
   ·exact⟨_,rfl,by rw[Dw,Rv _ HG.out (Rv _ HW.out (by rw[an.out];simp[*]))];rfl,Xs⟩
   all_goals
    refine⟨a.terms.length-(j+1),Agm,j+1,rfl,Agm,by simp,Xs,?_⟩;rw[Agt,any_take_succ _ HW.out,ac.out,an.out];simp[*]
  ·have ax:j=a.terms.length:=Agm;subst ax;rw[Adz]at ac
   repeat' (first|refine Z1 ?_|(refine Z8 ?_;intro κ hκ)|(refine Z4 ?_;clear hκ κ)|(refine Z2 ?_ ?_<;>intro h ab<;>try exact Xp)|refine Z3 ?_|exact⟨⟩|(apply hκ.out;clear hκ κ))
   refine⟨(Ae x).length-(i+1),Agm,i+1,rfl,Agm,by simp,?_⟩;rw[Agt,any_take_succ _ HG.out,hno.out,ac.out];rfl
 ·have ay:i=(Ae x).length:=Agm;subst ay;rw[Adz]at hno
  repeat' (first|refine Z1 ?_|(refine Z8 ?_;intro κ hκ)|(refine Z4 ?_;clear hκ κ)|(refine Z2 ?_ ?_<;>intro h ab<;>try exact Xp)|refine Z3 ?_|exact⟨⟩|(apply hκ.out;clear hκ κ))
  exact⟨_,rfl,by rw[Dw,hno.out];rfl,Xs⟩
abbrev B9 (N:List Tx)(idn:Nat)(l:List RItem)(idi:Nat)(cs:List AV):AV:=ag [sl idn N.length (N.map str),sl idi l.length cs]
structure Bk (N:List Tx)(l:List RItem)(cs:List AV):Prop where
 el:EL (PI N) l cs
 len:l.length<=16
 fits:∀x∈l,x.fits
 out:∀x∈l,x.out=true->x.body=[]
 nm:N.length<=2000
 pos:∀x∈l,∀a∈Ae x,0<a.terms.length
def Lx (l:List RItem)(i:Nat):Bool:=match l[i]? with|some x=>!Dw x|none=>false
theorem PI.of {N:List Tx}{x:RItem}{ih id:Nat}{b:List AV}(hm:x.head.pred∈N)(h:EL (PL N) x.body b):PI N x [sc (.bool x.out),sc (.int .i64 (N.idxOf x.head.pred:Nat)),sl ih x.head.terms.length (Ay x.head.terms),sl id x.body.length b]:=⟨hm,ih,id,b,h,rfl⟩
theorem P3 (N:List Tx)(l:List RItem)(cs:List AV)(idn idi:Nat)(hB:Bk N l cs)(y:St):ACalls Tryz.prog 122 [B9 N idn l idi cs] y fun r y'=>r=sc (.int .i64 (Bn (Lx l) l.length))/\Keep y y':=by
 have aj:=EL.length D2 hB.el;have af:=hB.len;refine Z9 18 [.tmp 2] Tryz.func122 ?_
 repeat' (first|refine Z1 ?_|(refine Z8 ?_;intro κ hκ)|(refine Z4 ?_;clear hκ κ)|(refine Z2 ?_ ?_<;>intro h ab<;>try exact Xp)|refine Z3 ?_|exact⟨⟩|(apply hκ.out;clear hκ κ))
 refine Ag (fun m s y'=>∃i:Nat,m=l.length-i/\i<=l.length/\s 6=sl idi l.length cs/\s 7=sc (.int .i64 l.length)/\s 8=sc (.int .i64 i)/\Keep y y'/\Agt (∀j,j<i->Lx l j=false)) l.length
  ⟨0,Agm,Agm,rfl,rfl,rfl,Xs,fun j hj=>Agm⟩ ?_
 rintro m s y' ⟨i,rfl,hi,h6,h7,h8,hK,hno⟩;have ai:=hK.nobj;by_cases ac:i<l.length
 ·have aa:=List.getElem?_eq_getElem ac;have ae:=hB.fits l[i] (Afa ac);have ad:=hB.out l[i] (Afa ac);obtain⟨hm,ih,id,b,r,hb,hd⟩:=G8 hB.el aa;generalize l[i]=x at hd aa ae ad hb hm;have hv:Agt (Lx l i=!Dw x):=by rw[Agt,Lx,aa]
  clear aa
  repeat' (first|refine Z1 ?_|(refine Z8 ?_;intro κ hκ)|(refine Z4 ?_;clear hκ κ)|(refine Z2 ?_ ?_<;>intro h ab<;>try exact Xp)|(refine Z5 ?_;refine Xi (Ti N x _ (PI.of hm hb) ad ae _) ?_;rintro _ _ ⟨rfl,ak⟩)|refine Z3 ?_|exact⟨⟩|(apply hκ.out;clear hκ κ))
  ·exact⟨_,rfl,by rw[J5 ac (by rw[hv.out];simp[*]) hno.out],Xs⟩
  ·exact⟨l.length-(i+1),Agm,i+1,rfl,Agm,by simp,Xs,L3 hno.out (by rw[hv.out];simp[*])⟩
 ·have ah:i=l.length:=Agm;subst ah
  repeat' (first|refine Z1 ?_|(refine Z8 ?_;intro κ hκ)|(refine Z4 ?_;clear hκ κ)|(refine Z2 ?_ ?_<;>intro h ab<;>try exact Xp)|refine Z3 ?_|exact⟨⟩|(apply hκ.out;clear hκ κ))
  first|exact⟨_,rfl,by rw[Cq hno.out],hK⟩|exact⟨_,rfl,by rw[Cq hno.out]⟩
def Ia (S:List RAtom)(p:Tx):Nat:=match S.find? (fun a=>a.pred==p)with|some a=>a.terms.length|none=>0
def O7 (S:List RAtom):Prop:=∀b∈S,0<b.terms.length/\b.terms.length=Ia S b.pred
theorem vK (S:List RAtom)(a:RAtom)(p:Tx):Ia (S++[a]) p=match S.find? (fun a=>a.pred==p)with|some b=>b.terms.length|none=>if a.pred=p then a.terms.length else 0:=by
 unfold Ia;rw[List.find?_append];cases hf:S.find? (fun a=>a.pred==p)with
 |some b=>simp
 |none=>by_cases h:a.pred=p<;>simp[h]
theorem Us {S:List RAtom}(h:O7 S)(p:Tx):Ia S p=0↔S.find? (fun a=>a.pred==p)=none:=by
 unfold Ia;cases hf:S.find? (fun a=>a.pred==p)with
 |none=>simp
 |some b=>
  have hb:=(h b (List.mem_of_find?_eq_some hf)).1;constructor
  ·intro e;have e:b.terms.length=0:=e;omega
  ·intro e;cases e
theorem Yk {S:List RAtom}(h:O7 S)(a:RAtom):S.any (clash a)=true↔(Ia S a.pred≠0/\Ia S a.pred≠a.terms.length):=by
 rw[Aeo];constructor
 ·rintro⟨b,hb,hc⟩;simp only[clash,Adv,Agj,Agi]at hc;have:=h b hb;rw[hc.1]at this;omega
 ·rintro⟨h1,h2⟩;have h3:S.find? (fun b=>b.pred==a.pred)≠none:=fun e=>h1 ((Us h _).2 e);cases hf:S.find? (fun b=>b.pred==a.pred)with
  |none=>exact absurd hf h3
  |some b=>
   have hp:(b.pred==a.pred)=true:=List.find?_some (p:=fun b:RAtom=>b.pred==a.pred) hf;have aa:Ia S a.pred=b.terms.length:=by unfold Ia;rw[hf]
   exact⟨b,List.mem_of_find?_eq_some hf,by simp only[clash,hp,Ae1,Agi];omega⟩
theorem Ur {S:List RAtom}(h:O7 S)(a:RAtom)(p:Tx):Ia (S++[a]) p=if p=a.pred/\Ia S a.pred=0 then a.terms.length else Ia S p:=by
 rw[vK];cases hf:S.find? (fun b=>b.pred==p)with
 |some b=>
  have h1:Ia S p≠0:=fun e=>by rw[Us h,hf]at e;cases e
  have hx:¬(p=a.pred/\Ia S a.pred=0):=fun e=>h1 (by rw[e.1];exact e.2);have hy:Ia S p=b.terms.length:=by unfold Ia;rw[hf]
  rw[if_neg hx,hy]
 |none=>
  have h1:Ia S p=0:=(Us h _).2 hf;by_cases e:p=a.pred
  ·subst e;rw[if_pos rfl,if_pos ⟨rfl,h1⟩]
  ·rw[if_neg (fun e'=>e e'.symm),if_neg (by rintro⟨e',-⟩;exact e e'),h1]
theorem Yj {S:List RAtom}{a:RAtom}(h:O7 S)(ha:0<a.terms.length)(hc:S.any (clash a)=false):O7 (S++[a]):=by
 have hn:¬(Ia S a.pred≠0/\Ia S a.pred≠a.terms.length):=fun e=>by rw[<-Yk h a,hc]at e;cases e
 intro b hb;rw[Ur h];rcases Aew.1 hb with hb|hb
 ·have:=h b hb;refine⟨this.1,?_⟩;by_cases e:b.pred=a.pred/\Ia S a.pred=0
  ·rw[e.1]at this;omega
  ·rw[if_neg e];exact this.2
 ·simp at hb;subst hb;refine⟨ha,?_⟩;by_cases e:Ia S b.pred=0
  ·rw[if_pos ⟨rfl,e⟩]
  ·rw[if_neg (by rintro⟨-,e'⟩;exact e e')];omega
theorem vI:O7 []:=fun b hb=>by cases hb
def Mi (n:Nat)(cc:Nat->Int):List AV:=(List.range n).map fun i=>sc (.int .i64 (cc i))
theorem Uq (n:Nat)(cc:Nat->Int):(Mi n cc).length=n:=by simp[Mi]
theorem Ll {n i:Nat}(cc:Nat->Int)(h:i<n):(Mi n cc)[i]?=some (sc (.int .i64 (cc i))):=by simp[Mi,h]
theorem vB {n i:Nat}(cc:Nat->Int)(v:Int):(Mi n cc).set i (sc (.int .i64 v))=Mi n (fun j=>if j=i then v else cc j):=by
 apply Ad8;intro j;rw[List.getElem?_set];by_cases hj:j<n
 ·rw[Ll (fun j=>if j=i then v else cc j) hj];by_cases e:i=j
  ·subst e;rw[if_pos rfl,Uq,if_pos hj];simp
  ·rw[if_neg e,Ll _ hj,if_neg (fun e'=>e e'.symm)]
 ·have h1:(Mi n fun j=>if j=i then v else cc j)[j]?=none:=by simp[Mi];omega
  have h2:(Mi n cc)[j]?=none:=by simp[Mi];omega
  rw[h1,h2];split
  ·rw[Uq];rw[if_neg Agm]
  ·rfl
theorem pV (n:Nat):List.replicate n (sc (.int .i64 0))=Mi n fun _=>0:=by
 apply Ad8;intro j;by_cases hj:j<n
 ·rw[Ll _ hj];simp[hj]
 ·simp[Mi,hj]
theorem Ef {N:List Tx}{p q:Tx}(hp:p∈N)(hq:q∈N)(h:N.idxOf p=N.idxOf q):p=q:=by
 have h1:=Afc (Afd hp);have h2:=Afc (Afd hq);rw[<-h1,<-h2];congr 1
def cntsOk (N:List Tx)(S:List RAtom)(cc:Nat->Int):Prop:=∀p∈N,cc (N.idxOf p)=(Ia S p:Nat)
theorem cntsOk.step {N:List Tx}{S:List RAtom}{cc:Nat->Int}{a:RAtom}(h:cntsOk N S cc)(hc:O7 S)(ha:a.pred∈N):
  (cc (N.idxOf a.pred)=0->cntsOk N (S++[a]) (fun j=>if j=N.idxOf a.pred then (a.terms.length:Int)else cc j))/\(cc (N.idxOf a.pred)≠0->cntsOk N (S++[a]) cc):=by
 have h0:=h a.pred ha;constructor
 ·intro e p hp;rw[Ur hc];dsimp only;by_cases ep:p=a.pred
  ·subst ep;rw[if_pos rfl,if_pos ⟨rfl,Agm⟩]
  ·rw[if_neg (fun e'=>ep (Ef hp ha e')),if_neg (by rintro⟨e',-⟩;exact ep e')];exact h p hp
 ·intro e p hp;rw[Ur hc,if_neg (by rintro⟨-,e'⟩;omega)];exact h p hp
end Go.Proofs.YtmoeoppbmhfbpabGreatDoorG
