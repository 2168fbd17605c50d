import Derived.Test.YtmoeoppbmhfbpabGreatDoorJProgH
import Derived.Test.YtmoeoppbmhfbpabGreatDoorJGramD
set_option maxHeartbeats 16000000
set_option maxRecDepth 100000
set_option linter.all false
namespace Go.Proofs.YtmoeoppbmhfbpabGreatDoorJ
open Go.Abs
variable {Bd:Nat}
def itI (s:Tx)(xs:List RItem)(q:Tx):Prop:=xs.length<=16/\Bj 16 s=(Bj (16-xs.length) q).bnd fun ys r=>.got (xs++ys) r
theorem itI.start (s:Tx):itI s [] s:=by
 refine⟨by simp,?_⟩;simp only[Ace,Acw,Acm];cases Bj 16 s<;>rfl
theorem Sk (n:Nat):Bj n []= .got [] []:=by cases n<;>rfl
theorem Pm (b:UInt8)(r:Tx):Bj 0 (b::r)= .bad (b::r):=rfl
theorem Ko (n:Nat)(b:UInt8)(r:Tx):Bj (n+1) (b::r)=(Fv (b::r)).bnd fun x r=>(Bj n r).bnd fun xs r=>.got (x::xs) r:=rfl
theorem itI.done {s:Tx}{xs:List RItem}(h:itI s xs []):Bj 16 s= .got xs []:=by
 rw[h.2,Sk];simp[Rd.bnd]
theorem itI.full {s:Tx}{xs:List RItem}{b:UInt8}{r:Tx}(h:itI s xs (b::r))(hl:xs.length=16):Bj 16 s= .bad (b::r):=by
 rw[h.2,hl,Pm];rfl
theorem itI.fail {s:Tx}{xs:List RItem}{b:UInt8}{r e:Tx}(h:itI s xs (b::r))(hl:xs.length<16)(he:Fv (b::r)= .bad e):Bj 16 s= .bad e:=by
 obtain⟨k,hk⟩:∃k,16-xs.length=k+1:=⟨15-xs.length,Ad6⟩;rw[h.2,hk,Ko,he];rfl
theorem itI.next {s:Tx}{xs:List RItem}{b:UInt8}{r r2:Tx}{x:RItem}(h:itI s xs (b::r))(hl:xs.length<16)(he:Fv (b::r)= .got x r2):itI s (xs++[x]) r2:=by
 obtain⟨k,hk⟩:∃k,16-xs.length=k+1:=⟨15-xs.length,Ad6⟩;refine⟨by simp;omega,?_⟩;rw[h.2,hk,Ko,he,show 16-(xs++[x]).length=k by simp;omega];simp only[Rd.bnd];cases Bj k r2<;>simp
theorem Px {σ0 y2:St}{id1 id2 ids n:Nat}(h:id1=1\/id1≠ids)(hO:Own σ0 y2 ids n)(hs:id2=id1\/y2.ntop+2<=id2):id2=1\/id2≠ids:=by
 rcases hO with⟨h1,-⟩|⟨k,h1,h2,h3,h4,h5⟩<;>omega
theorem aW {t:Tx}{o:Nat}{N:List Tx}{id:Nat}{s:Tx}{y:St}(ht:t.length<=1000)(hR:RS Bd t o N id s y):
  ACalls Tryz.prog 70 [ptr o 0] y fun x y'=>∃n ids c N' id',x=tp [sl ids n c,sc (.bool (Bj 16 s).ok)]/\Rs o y id y' id'/\RS Bd t o N' id' (Bj 16 s).rest y'/\N<+:N'/\Rd.Val (Bj 16 s) fun xs=>n=xs.length/\EL (PI N') xs c:=by
 have hn:=hR.lt;have a5:OwnN y id N.length:=hR.own;refine Z9 33 [.tmp 2,.tmp 3] Tryz.func70 ?_
 repeat' (first|refine Z1 ?_|(refine Z8 ?_;intro κ hκ)|(refine Z4 ?_;clear hκ κ)|(refine Z2 ?_ ?_<;>intro h ae<;>try exact Xp)|(refine Z6 ?_;intro idn yn ah ai ac ab ad aa)|refine Z3 ?_|exact⟨⟩|(apply hκ.out;clear hκ κ))
 refine Ad (fun m s' y'=>∃(xs:List RItem) (q:Tx) (ids:Nat) (d:List AV) (N2:List Tx) (id2:Nat),m=16-xs.length/\s' 0=ptr o 0/\s' 4=sl ids xs.length d/\Rs o y id y' id2/\RS Bd t o N2 id2 q y'/\Own y y' ids xs.length/\Aec (id2=1\/id2≠ids)/\N<+:N2/\xs.length<=16/\d.length=xs.length*4/\Aec (EL (PI N2) xs d)/\Aec (itI s xs q)) 16
  ⟨[],s,1,[],N,id,rfl,rfl,rfl,Rs.refl _ _ _,hR,Own.nil _ _,by rcases a5 with⟨e,-⟩|⟨k,e,-⟩;exact .inl e;exact .inr Ad6,List.prefix_refl _,by simp,by simp,rfl,itI.start s⟩ ?_
 rintro m s' y' ⟨xs,q,ids,d,N2,id2,rfl,h0,h4,hS,af,hO,aw,aj,a3,a4,hE,hI⟩;have a9:=hS.keep.nobj;have ba:=af.lt;have an:=af.obj;have au:=Gp af.suf;unfold J6 P6 at an
 repeat' (first|refine Z1 ?_|(refine Z8 ?_;intro κ hκ)|(refine Z4 ?_;clear hκ κ)|(refine Z2 ?_ ?_<;>intro h ae<;>try exact Xp)|(refine Z6 ?_;intro idn yn ah ai ac ab ad aa)|refine Z3 ?_|exact⟨⟩|(apply hκ.out;clear hκ κ))
 refine A1 Ah (fun _=>True) [9] [0,1,2,3,4,5,6,7,8] [9] Ad9 (fun _ _ _ h=>h) ?_;intro κ hκ;cases q with
 |nil=>
  simp only[Ace,Acw]at an au;refine Z3 ?_
  repeat' (first|refine Z1 ?_|(refine Z8 ?_;intro κ hκ)|(refine Z4 ?_;clear hκ κ)|(refine Z2 ?_ ?_<;>intro h ae<;>try exact Xp)|(refine Z6 ?_;intro idn yn ah ai ac ab ad aa)|refine Z3 ?_|exact⟨⟩|(apply hκ.out;clear hκ κ))
  have hp:=hI.out.done
  first
  |exact⟨_,rfl,_,ids,d,N2,id2,by rw[hp];rfl,hS,by rw[hp];exact af,aj,by rw[hp];exact⟨rfl,hE.out⟩⟩
  |exact⟨_,rfl,_,ids,d,N2,id2,by rw[hp];rfl,by rw[hp];exact af,aj,by rw[hp];exact⟨rfl,hE.out⟩⟩
 |cons b0 r0=>
  simp only[Acf]at an au;refine Z3 ?_;by_cases av:xs.length<16
  ·repeat' (first|refine Z1 ?_|(refine Z8 ?_;intro κ hκ)|(refine Z4 ?_;clear hκ κ)|(refine Z2 ?_ ?_<;>intro h ae<;>try exact Xp)|(refine Z6 ?_;intro idn yn ah ai ac ab ad aa)|(refine Z5 ?_;refine Xi (fN ht (by assumption)) ?_;rintro _ _ ⟨b,k,ih,n,c,ib,m,e,N3,id3,rfl,ao,am,ap,ax⟩;(have a0:=ao.keep.nobj))|refine Z3 ?_|exact⟨⟩|(apply hκ.out;clear hκ κ))
   ·exfalso;simp at h;omega
   ·rename_i y3;obtain⟨e2,he⟩:=Rd.ok_false h;have hp:=hI.out.fail av he;rw[he]at am;simp only[Rd.rest]at am;refine⟨_,rfl,0,1,[],N3,id3,by rw[hp];rfl,by repeat (first|exact Rs.refl _ _ _|(with_reducible assumption)|(with_reducible apply Rs.put;rotate_left;(first|omega|(simp only[Aa,Ab,Ag,Ap]at*;omega)))|(with_reducible apply Rs.new)|(with_reducible apply Rs.lay)|(refine Rs.trans ?_ (by with_reducible assumption))|(refine Rs.transX ?_ (by with_reducible assumption))),?_,aj.trans ap,by rw[hp];trivial⟩;rw[hp];show RS Bd t o N3 id3 e2 _
    repeat (first|(with_reducible assumption)|(with_reducible apply RS.put;rotate_left;(first|omega|(simp only[Aa,Ab,Ag,Ap]at*;omega)))|(with_reducible apply RS.new)|(with_reducible apply RS.lay)|assumption)
   ·rename_i y3;obtain⟨x,r2,he⟩:=Rd.ok_true h;have hp:=hI.out.next av he;rw[he]at am ax;have hC:PI N3 x [sc (.bool b),sc (.int .i64 k),sl ih n c,sl ib m e]:=ax;have am:RS Bd t o N3 id3 r2 y3:=am;have ay:Rs o y id ((y3.new [sc (.bool false),sc (.int .i64 0),nilS,nilS]).put y3.nobj [sc (.bool b),sc (.int .i64 k),sl ih n c,sl ib m e]) id3:=by repeat (first|exact Rs.refl _ _ _|(with_reducible assumption)|(with_reducible apply Rs.put;rotate_left;(first|omega|(simp only[Aa,Ab,Ag,Ap]at*;omega)))|(with_reducible apply Rs.new)|(with_reducible apply Rs.lay)|(refine Rs.trans ?_ (by with_reducible assumption))|(refine Rs.transX ?_ (by with_reducible assumption)))
    have a7:=Own.keepR hO ao.keep (Mc aw.out hO);have a6:Own y ((y3.new [sc (.bool false),sc (.int .i64 0),nilS,nilS]).put y3.nobj [sc (.bool b),sc (.int .i64 k),sl ih n c,sl ib m e]) ids xs.length:=Own.put (Own.new a7 _) _ _;have az:RS Bd t o N3 id3 r2 ((y3.new [sc (.bool false),sc (.int .i64 0),nilS,nilS]).put y3.nobj [sc (.bool b),sc (.int .i64 k),sl ih n c,sl ib m e]):=by repeat (first|(with_reducible assumption)|(with_reducible apply RS.put;rotate_left;(first|omega|(simp only[Aa,Ab,Ag,Ap]at*;omega)))|(with_reducible apply RS.new)|(with_reducible apply RS.lay)|assumption)
    have ak:id3=1\/id3≠ids:=Px aw.out hO ao.nid;refine Lk (o:=o) (idn:=id) (σ0:=y) (by first|exact Jj) ay.keep a6 (by decide) (by rfl) a4 (by rfl) (by rfl) (by decide) Ad6 Ad6 ?_;intro idn yn ah ai ac ab ad aa etop hid;refine Z3 ?_
    repeat' (first|refine Z1 ?_|(refine Z8 ?_;intro κ hκ)|(refine Z4 ?_;clear hκ κ)|(refine Z2 ?_ ?_<;>intro h ae<;>try exact Xp)|(refine Z6 ?_;intro idn yn ah ai ac ab ad aa)|refine Z3 ?_|exact⟨⟩|(apply hκ.out;clear hκ κ))
    refine⟨16-(xs++[x]).length,by simp;omega,xs++[x],r2,idn,d++[sc (.bool b),sc (.int .i64 k),sl ih n c,sl ib m e],N3,id3,rfl,by simp,⟨ai,ay.nid⟩,az.app ac ab aa etop ak,by simpa using ah,O4 az.own ak hid,aj.trans ap,by simp;omega,by simp;omega,EL.append (hE.out.mono (PI.mono ap)) (EL.single hC),hp⟩
  ·have a8:xs.length=16:=Ad6;have hp:=hI.out.full a8;have HP:Aec _:=hp;clear hp
   repeat' (first|refine Z1 ?_|(refine Z8 ?_;intro κ hκ)|(refine Z4 ?_;clear hκ κ)|(refine Z2 ?_ ?_<;>intro h ae<;>try exact Xp)|(refine Z6 ?_;intro idn yn ah ai ac ab ad aa)|refine Z3 ?_|exact⟨⟩|(apply hκ.out;clear hκ κ))
   first
   |exact⟨_,rfl,0,1,[],N2,id2,by rw[HP.out];rfl,hS,by rw[HP.out];exact af,aj,by rw[HP.out];trivial⟩
   |exact⟨_,rfl,0,1,[],N2,id2,by rw[HP.out];rfl,by rw[HP.out];exact af,aj,by rw[HP.out];trivial⟩
def PC (N:List Tx)(a:Ai)(c:List AV):Prop:=a.pred∈N/\∃ids,c=[sc (.int .i64 (N.idxOf a.pred:Nat)),sl ids a.terms.length (Av a.terms)]
theorem Ud {N:List Tx}(a:Ai)(c:List AV)(h:PC N a c):c.length=2:=by obtain⟨-,ids,rfl⟩:=h;rfl
theorem N5 {N:List Tx}{l:List Ai}{cs:List AV}{i:Nat}{a:Ai}(h:EL (PL N) l cs)(hi:l[i]?=some a):a.pred∈N/\∃ia r,cs.drop (i*3)=sc (.bool a.nt)::sc (.int .i64 (N.idxOf a.pred:Nat))::sl ia a.terms.length (Av a.terms)::r:=by
 obtain⟨c,r,⟨hm,ia,rfl⟩,e⟩:=EL.get Eb h hi;exact⟨hm,ia,r,e⟩
theorem lN {N:List Tx}{l:List Ai}{cs:List AV}{i:Nat}{a:Ai}(h:EL (PC N) l cs)(hi:l[i]?=some a):a.pred∈N/\∃ia r,cs.drop (i*2)=sc (.int .i64 (N.idxOf a.pred:Nat))::sl ia a.terms.length (Av a.terms)::r:=by
 obtain⟨c,r,⟨hm,ia,rfl⟩,e⟩:=EL.get Ud h hi;exact⟨hm,ia,r,e⟩
theorem Fi {N:List Tx}{l:List RItem}{cs:List AV}{i:Nat}{x:RItem}(h:EL (PI N) l cs)(hi:l[i]?=some x):x.head.pred∈N/\∃ih id b r,EL (PL N) x.body b/\cs.drop (i*4)=sc (.bool x.out)::sc (.int .i64 (N.idxOf x.head.pred:Nat))::sl ih x.head.terms.length (Av x.head.terms)::sl id x.body.length b::r:=by
 obtain⟨c,r,⟨hm,ih,id,b,hb,rfl⟩,e⟩:=EL.get Df h hi;exact⟨hm,ih,id,b,r,hb,e⟩
theorem tE {N:List Tx}{l:List Ai}{cs:List AV}(h:EL (PC N) l cs):∀c∈cs,Plain c:=by
 induction l generalizing cs with
 |nil=>have h:cs=[]:=h;subst h;simp
 |cons a l ih=>
  obtain⟨c1,c2,⟨-,ids,rfl⟩,h2,rfl⟩:=h;intro c hc;rcases Aco.1 hc with hc|hc
  ·simp only[Aci,Ac0,Ad5]at hc;rcases hc with rfl|rfl
   ·exact .inl ⟨_,rfl⟩
   ·refine .inr ⟨_,_,_,rfl,fun x hx=>?_⟩;simp only[Av,Acn,Pe,Aci,Ac0,Ad5]at hx;obtain⟨w,-,rfl|rfl⟩:=hx<;>exact⟨_,rfl⟩
  ·exact ih h2 c hc
theorem kF {xs ys:List AV}{n:Nat}{u v a b:AV}(hn:xs.length=n):((xs++u::v::ys).set n a).set (n+1) b=xs++a::b::ys:=by
 subst hn;rw[List.set_append_right _ _ (Abf _),Nat.sub_self,List.set_cons_zero,List.set_append_right _ _ Ad6,Nat.add_sub_cancel_left,List.set_cons_succ,List.set_cons_zero]
theorem Qn {m:Nat}(h:0<m)(u v:AV):(List.replicate m [u,v]).flatten=u::v::(List.replicate (m-1) [u,v]).flatten:=by
 obtain⟨k,rfl⟩:∃k,m=k+1:=⟨m-1,Ad6⟩;rw[List.replicate_succ];rfl
theorem mP (N:List Tx)(x:RItem)(c:List AV)(hc:PI N x c)(ad:x.out=false)(hn:x.body.length<=1000)(y:St):ACalls Tryz.prog 133 [ag c] y fun r y'=>∃(o n:Nat) (cs:List AV),r=fx o 0 n/\y.nobj<=o/\y'.obj o=cs/\Keep y y'/\(∀c∈cs,Plain c)/\(n=(Af x).length/\EL (PC N) (Af x) cs):=by
 obtain⟨hm,ih,id,b,hb,rfl⟩:=hc;have ao:=EL.length Eb hb;refine Z9 33 [.tmp 2] Tryz.func133 ?_
 repeat' (first|refine Z1 ?_|(refine Z8 ?_;intro κ hκ)|(refine Z4 ?_;clear hκ κ)|(refine Z2 ?_ ?_<;>intro h ab<;>try exact Xp)|refine Z3 ?_|exact⟨⟩|(apply hκ.out;clear hκ κ))
 have ae:Keep y (y.new [sc (.bool false),sc (.int .i64 (N.idxOf x.head.pred:Nat)),sl ih x.head.terms.length (Av x.head.terms),sl id x.body.length b]):=(Keep.refl _).new _;have ac:((x.body.length:Int)+1).toNat=x.body.length+1:=Ad6
 refine Ad (fun m s y'=>∃(k:Nat) (cur:List AV),m=x.body.length-k/\k<=x.body.length/\s 3=fx (y.nobj+1) 0 (x.body.length+1)/\s 18=sl id x.body.length b/\s 19=sc (.int .i64 x.body.length)/\s 20=sc (.int .i64 k)/\Keep y y'/\y.nobj+1<y'.nobj/\y'.obj (y.nobj+1)=cur/\cur.length=(x.body.length+1)*2/\Aec (∃xs,cur=xs++(List.replicate (x.body.length-k) [sc (.int .i64 0),nilS]).flatten/\xs.length=(1+k)*2/\EL (PC N) (x.head::x.body.take k) xs)) x.body.length
  ⟨0,_,Ad6,Ad6,by simp[upd,ac],Ad8,Ad8,rfl,(ae.new _).put Ad6 _,Aeb,Ak,by simp[ac],[sc (.int .i64 (N.idxOf x.head.pred:Nat)),sl ih x.head.terms.length (Av x.head.terms)],?_,by simp,EL.single ⟨hm,ih,rfl⟩⟩ ?_
 ·rw[ac,Qn Ad6];rfl
 clear ae;rintro m s y' ⟨k,cur,rfl,hk,h3,aw,av,au,hK,an,af,aj,hE⟩;have ak:=hK.nobj;by_cases ah:k<x.body.length
 ·have aa:=List.getElem?_eq_getElem ah;obtain⟨ha,ia,r,hd⟩:=N5 hb aa;generalize x.body[k]=a at hd aa ha;have HG:Aec (x.body[k]?=some a):=aa;clear aa;have am:((k:Int)+1).toNat=k+1:=Ad6
  repeat' (first|refine Z1 ?_|(refine Z8 ?_;intro κ hκ)|(refine Z4 ?_;clear hκ κ)|(refine Z2 ?_ ?_<;>intro h ab<;>try exact Xp)|refine Z3 ?_|exact⟨⟩|(apply hκ.out;clear hκ κ))
  have HN:Aec (∃xs,(cur.set ((k+1)*2) (sc (.int .i64 (N.idxOf a.pred:Nat)))).set ((k+1)*2+1) (sl ia a.terms.length (Av a.terms))=xs++(List.replicate (x.body.length-(k+1)) [sc (.int .i64 0),nilS]).flatten/\xs.length=(1+(k+1))*2/\EL (PC N) (x.head::x.body.take (k+1)) xs):=by
   obtain⟨xs,e1,e2,e3⟩:=hE.out;refine⟨xs++[sc (.int .i64 (N.idxOf a.pred:Nat)),sl ia a.terms.length (Av a.terms)],?_,by simp[e2];omega,?_⟩
   ·rw[e1,Qn Ad6,kF (by rw[e2];omega)];simp[Nat.sub_sub]
   ·rw[Abv,HG.out];exact EL.append e3 (EL.single ⟨ha,ia,rfl⟩)
  refine⟨x.body.length-(k+1),Ad6,k+1,(cur.set ((k+1)*2) (sc (.int .i64 (N.idxOf a.pred:Nat)))).set ((k+1)*2+1) (sl ia a.terms.length (Av a.terms)),?_⟩
  ((repeat' with_reducible refine And.intro ?_ ?_)<;>first|exact Xq|exact (((hK.new _).put hK.nobj _).put Ad6 _)|exact (Ak)|exact (HN)|exact (by simp[aj])|exact Xs)
 ·have ai:k=x.body.length:=Ad6;subst ai;obtain⟨xs,e1,e2,e3⟩:=hE.out;rw[Nat.sub_self,List.replicate_zero,List.flatten_nil,Abz]at e1;rw[Abt]at e3;subst e1;have ap:Af x=x.head::x.body:=by simp[Af,ad]
  repeat' (first|refine Z1 ?_|(refine Z8 ?_;intro κ hκ)|(refine Z4 ?_;clear hκ κ)|(refine Z2 ?_ ?_<;>intro h ab<;>try exact Xp)|refine Z3 ?_|exact⟨⟩|(apply hκ.out;clear hκ κ))
  exact⟨_,rfl,y.nobj+1,_,cur,rfl,Ad6,af,tE e3,rfl,e3⟩
theorem fX (N:List Tx)(x:RItem)(c:List AV)(hc:PI N x c)(aa:x.out=true)(y:St):ACalls Tryz.prog 133 [ag c] y fun r y'=>r=nilS/\Keep y y':=by
 obtain⟨hm,ih,id,b,hb,rfl⟩:=hc;refine Z9 33 [.tmp 2] Tryz.func133 ?_
 repeat' (first|refine Z1 ?_|(refine Z8 ?_;intro κ hκ)|(refine Z4 ?_;clear hκ κ)|(refine Z2 ?_ ?_<;>intro h ab<;>try exact Xp)|refine Z3 ?_|exact⟨⟩|(apply hκ.out;clear hκ κ))
 first
 |exact⟨_,rfl,rfl,Xs⟩
 |exact⟨rfl,Xs⟩
theorem Ih (N:List Tx)(x:RItem)(c:List AV)(hc:PI N x c)(ho:x.out=true->x.body=[])(hn:x.body.length<=1000)(y:St):ACalls Tryz.prog 133 [ag c] y fun r y'=>∃id cs,r=sl id (Af x).length cs/\EL (PC N) (Af x) cs/\Keep y y':=by
 by_cases aa:x.out=true
 ·refine (fX N x c hc aa y).mono fun r y' h=>?_;obtain⟨rfl,h⟩:=h;exact⟨1,[],by simp[Af,aa,ho aa],by simp[Af,aa,ho aa,EL],h⟩
 ·have aa:x.out=false:=by simpa using aa
  refine (ACalls.freeze (mP N x c hc aa hn y)).mono fun r y' h=>?_;obtain⟨n,cs,rfl,⟨rfl,h1⟩,h2⟩:=h;exact⟨0,cs,rfl,h1,h2⟩
theorem Hs {ts:List Tx}{k:Nat}{w:Tx}(h:ts[k]?=some w):∃r,(Av ts).drop (k*2)=sc (.bool (Az w).1)::sc (.int .i64 (Az w).2)::r:=by
 have hE:∀ts:List Tx,EL (fun w c=>c=Pe w) ts (Av ts):=by
  intro ts;induction ts with
  |nil=>rfl
  |cons a l ih=>exact⟨Pe a,Av l,rfl,ih,by simp[Av]⟩
 obtain⟨c,r,rfl,e⟩:=EL.get (z:=2) (fun a c h=>by rw[h];rfl) (hE ts) h;exact⟨r,e⟩
theorem La {p:Nat->Bool}{i:Nat}(h:∀j,j<i->p j=false)(hi:p i=false):∀j,j<i+1->p j=false:=fun j hj=>by
 by_cases e:j=i
 ·rw[e];exact hi
 ·exact h j Ad6
def Qd (v:Int)(w:Tx):Bool:=(Az w).1&&(Az w).2==v
def cU (a:Ai)(v:Int)(i:Nat):Bool:=match a.terms[i]? with|some w=>Qd v w|none=>false
theorem bE (k:Int)(ids:Nat)(a:Ai)(v:Int)(hn:a.terms.length<=1000)(y:St):ACalls Tryz.prog 217 [ag [sc (.int .i64 k),sl ids a.terms.length (Av a.terms)],sc (.int .i64 v)] y fun r y'=>r=sc (.int .i64 (Bb (cU a v) a.terms.length))/\Keep y y':=by
 have ak:=F4 a.terms;refine Z9 25 [.tmp 4] Tryz.func217 ?_
 repeat' (first|refine Z1 ?_|(refine Z8 ?_;intro κ hκ)|(refine Z4 ?_;clear hκ κ)|(refine Z2 ?_ ?_<;>intro h ab<;>try exact Xp)|refine Z3 ?_|exact⟨⟩|(apply hκ.out;clear hκ κ))
 refine Ad (fun m s y'=>∃i:Nat,m=a.terms.length-i/\i<=a.terms.length/\s 1=sc (.int .i64 v)/\s 8=sl ids a.terms.length (Av a.terms)/\s 9=sc (.int .i64 a.terms.length)/\s 10=sc (.int .i64 i)/\Keep y y'/\Aec (∀j,j<i->cU a v j=false)) a.terms.length
  ⟨0,Ad6,Ad6,rfl,rfl,rfl,rfl,Xs,fun j hj=>Ad6⟩ ?_
 rintro m s y' ⟨i,rfl,hi,h1,h8,h9,am,hK,ac⟩;by_cases ae:i<a.terms.length
 ·have aa:=List.getElem?_eq_getElem ae;obtain⟨r,hd⟩:=Hs aa;generalize a.terms[i]=w at hd aa;have hv:Aec (cU a v i=Qd v w):=by rw[Aec,cU,aa]
  clear aa;have aj:=hK.nobj;generalize ah:(Az w).1=w1 at hd;generalize af:(Az w).2=w2 at hd;have ad:Aec (Qd v w=(w1&&w2==v)):=by rw[Aec,Qd,ah,af]
  clear ah af
  repeat' (first|refine Z1 ?_|(refine Z8 ?_;intro κ hκ)|(refine Z4 ?_;clear hκ κ)|(refine Z2 ?_ ?_<;>intro h ab<;>try exact Xp)|refine Z3 ?_|exact⟨⟩|(apply hκ.out;clear hκ κ))
  ·exact⟨_,rfl,by rw[Js ae (by rw[hv.out,ad.out];simp[*]) ac.out],Xs⟩
  all_goals exact⟨a.terms.length-(i+1),Ad6,i+1,rfl,Ad6,by simp,Xs,La ac.out (by rw[hv.out,ad.out];simp[*])⟩
 ·have ai:i=a.terms.length:=Ad6;subst ai
  repeat' (first|refine Z1 ?_|(refine Z8 ?_;intro κ hκ)|(refine Z4 ?_;clear hκ κ)|(refine Z2 ?_ ?_<;>intro h ab<;>try exact Xp)|refine Z3 ?_|exact⟨⟩|(apply hκ.out;clear hκ κ))
  first|exact⟨_,rfl,by rw[Ck ac.out],hK⟩|exact⟨_,rfl,by rw[Ck ac.out]⟩
theorem gS {α:Type}(l:List α)(q:α->Bool)(p:Nat->Bool)(hp:∀i,p i=match l[i]? with|some w=>q w|none=>false):(decide (Bb p l.length≠ -1))=l.any q:=by
 by_cases h:l.any q=true
 ·rw[h];rw[Acg]at h;obtain⟨w,hw,hq⟩:=h;obtain⟨i,hi,he⟩:=List.getElem_of_mem hw;by_cases hN:Bb p l.length= -1
  ·exfalso;unfold Bb at hN;split at hN
   ·omega
   ·rename_i hf;rw[List.find?_eq_none]at hf;have:=hf i (by simpa using hi);rw[hp,List.getElem?_eq_getElem hi,he]at this;simp[hq]at this
  ·simpa using hN
 ·have h:l.any q=false:=by simpa using h
  rw[h,Ck (fun i hi=>by
   rw[hp,List.getElem?_eq_getElem hi];rw[Ac1]at h
   simpa using h l[i] (Ac2 hi))]
  simp
theorem mO (k:Int)(ids:Nat)(a:Ai)(v:Int)(hn:a.terms.length<=1000)(y:St):ACalls Tryz.prog 232 [ag [sc (.int .i64 k),sl ids a.terms.length (Av a.terms)],sc (.int .i64 v)] y fun r y'=>r=sc (.bool (a.terms.any (Qd v)))/\Keep y y':=by
 have hF:=gS a.terms (Qd v) (cU a v) (fun i=>by unfold cU;cases a.terms[i]?<;>rfl);refine Z9 9 [.tmp 4] Tryz.func232 ?_
 repeat' (first|refine Z1 ?_|(refine Z8 ?_;intro κ hκ)|(refine Z4 ?_;clear hκ κ)|(refine Z2 ?_ ?_<;>intro h aa<;>try exact Xp)|(refine Z5 ?_;refine Xi (bE _ _ a v hn _) ?_;rintro _ _ ⟨rfl,ab⟩)|refine Z3 ?_|exact⟨⟩|(apply hκ.out;clear hκ κ))
 refine⟨_,rfl,?_,Xs⟩;rw[<-hF,show (Bb (cU a v) a.terms.length != -1)=decide (Bb (cU a v) a.terms.length≠ -1)from by rw[Bool.eq_iff_iff];simp]
def E8 (x:RItem)(v:Int):Bool:=x.body.any fun a=>!a.nt&&a.terms.any (Qd v)
theorem bI (N:List Tx)(x:RItem)(c:List AV)(v:Int)(hc:PI N x c)(hx:x.fits)(y:St):ACalls Tryz.prog 192 [ag c,sc (.int .i64 v)] y fun r y'=>r=sc (.bool (E8 x v))/\Keep y y':=by
 obtain⟨hm,ih,id,b,hb,rfl⟩:=hc;have am:=EL.length Eb hb;obtain⟨ak,aj,af⟩:=hx;refine Z9 24 [.tmp 4] Tryz.func192 ?_
 repeat' (first|refine Z1 ?_|(refine Z8 ?_;intro κ hκ)|(refine Z4 ?_;clear hκ κ)|(refine Z2 ?_ ?_<;>intro h ab<;>try exact Xp)|refine Z3 ?_|exact⟨⟩|(apply hκ.out;clear hκ κ))
 refine Ad (fun m s y'=>∃i:Nat,m=x.body.length-i/\i<=x.body.length/\s 1=sc (.int .i64 v)/\s 8=sl id x.body.length b/\s 9=sc (.int .i64 x.body.length)/\s 10=sc (.int .i64 i)/\Keep y y'/\Aec ((x.body.take i).any (fun a=>!a.nt&&a.terms.any (Qd v))=false)) x.body.length
  ⟨0,Ad6,Ad6,rfl,rfl,rfl,rfl,Xs,by simp[Aec]⟩ ?_
 rintro m s y' ⟨i,rfl,hi,h1,h8,h9,ao,hK,ac⟩;by_cases ae:i<x.body.length
 ·have aa:=List.getElem?_eq_getElem ae;have ad:=af x.body[i] (Ac2 ae);obtain⟨ha,ia,r,hd⟩:=N5 hb aa;generalize x.body[i]=a at hd aa ha ad;have HG:Aec (x.body[i]?=some a):=aa;clear aa;have ai:=hK.nobj
  repeat' (first|refine Z1 ?_|(refine Z8 ?_;intro κ hκ)|(refine Z4 ?_;clear hκ κ)|(refine Z2 ?_ ?_<;>intro h ab<;>try exact Xp)|(refine Z5 ?_;refine Xi (mO _ _ a v ad _) ?_;rintro _ _ ⟨rfl,an⟩)|refine Z3 ?_|exact⟨⟩|(apply hκ.out;clear hκ κ))
  ·exact⟨_,rfl,by rw[E8,Qv _ HG.out (by simp[*])],Xs⟩
  all_goals
   refine⟨x.body.length-(i+1),Ad6,i+1,rfl,Ad6,by simp,Xs,?_⟩;rw[Aec,any_take_succ _ HG.out,ac.out];simp[*]
 ·have ah:i=x.body.length:=Ad6;subst ah;rw[Abt]at ac
  repeat' (first|refine Z1 ?_|(refine Z8 ?_;intro κ hκ)|(refine Z4 ?_;clear hκ κ)|(refine Z2 ?_ ?_<;>intro h ab<;>try exact Xp)|refine Z3 ?_|exact⟨⟩|(apply hκ.out;clear hκ κ))
  first|exact⟨_,rfl,by rw[E8,ac.out],hK⟩|exact⟨_,rfl,by rw[E8,ac.out]⟩
def Ir (x:RItem):Bool:=!(Af x).any fun a=>a.terms.any fun w=>(Az w).1&&!E8 x (Az w).2
theorem fT (N:List Tx)(x:RItem)(c:List AV)(hc:PI N x c)(ho:x.out=true->x.body=[])(hx:x.fits)(y:St):ACalls Tryz.prog 146 [ag c] y fun r y'=>r=sc (.bool (Ir x))/\Keep y y':=by
 have hA:=Ih N x c hc ho (by have:=hx.1;omega);have hB:=fun v=>bI N x c v hc hx;obtain⟨hm,ih,id,b,hb,rfl⟩:=hc;have a5:=EL.length Eb hb;have a6:=hx.atoms;have a0:∀a∈Af x,a.terms.length<=1000:=by
  intro a ha;unfold Af at ha;rcases Aco.1 ha with h|h
  ·split at h
   ·cases h
   ·simp at h;subst h;exact hx.2.1
  ·exact hx.2.2 a h
 refine Z9 32 [.tmp 2] Tryz.func146 ?_
 repeat' (first|refine Z1 ?_|(refine Z8 ?_;intro κ hκ)|(refine Z4 ?_;clear hκ κ)|(refine Z2 ?_ ?_<;>intro h ab<;>try exact Xp)|(refine Z5 ?_;refine Xi (hA _) ?_;rintro _ _ ⟨ida,cs,rfl,hE,af⟩;(have ad:=af.obj;have ah:=af.nobj;(try simp only[Aa,Ab,Ag]at ah)))|refine Z3 ?_|exact⟨⟩|(apply hκ.out;clear hκ κ))
 rename_i y1;have a4:=EL.length Ud hE;have ap:y1.obj y.nobj=[sc (.bool x.out),sc (.int .i64 (N.idxOf x.head.pred:Nat)),sl ih x.head.terms.length (Av x.head.terms),sl id x.body.length b]:=by rw[ad _ (by rw[Aa];omega),Ao]
 have af:Keep (y.new [sc (.bool x.out),sc (.int .i64 (N.idxOf x.head.pred:Nat)),sl ih x.head.terms.length (Av x.head.terms),sl id x.body.length b]) y1:=af
 refine Ad (fun m s y'=>∃i:Nat,m=(Af x).length-i/\i<=(Af x).length/\s 1=ptr y.nobj 0/\s 8=sl ida (Af x).length cs/\s 9=sc (.int .i64 (Af x).length)/\s 10=sc (.int .i64 i)/\Keep y1 y'/\Aec (((Af x).take i).any (fun a=>a.terms.any fun w=>(Az w).1&&!E8 x (Az w).2)=false)) (Af x).length
  ⟨0,Ad6,Ad6,rfl,rfl,rfl,rfl,Keep.refl _,by simp[Aec]⟩ ?_
 rintro m s y' ⟨i,rfl,hi,h1,h8,h9,am,hK,ai⟩;have an:=hK.nobj;have ae:y'.obj y.nobj=[sc (.bool x.out),sc (.int .i64 (N.idxOf x.head.pred:Nat)),sl ih x.head.terms.length (Av x.head.terms),sl id x.body.length b]:=by rw[hK.obj _ Ad6,ap]
 have a7:Keep y y1:=((Keep.refl y).new _).trans af;clear ad;by_cases au:i<(Af x).length
 ·have aa:=List.getElem?_eq_getElem au;have ax:=a0 (Af x)[i] (Ac2 au);obtain⟨ha,ia,r,hd⟩:=lN hE aa;generalize (Af x)[i]=a at hd aa ha ax;have HG:Aec ((Af x)[i]?=some a):=aa;clear aa;have a3:=F4 a.terms
  repeat' (first|refine Z1 ?_|(refine Z8 ?_;intro κ hκ)|(refine Z4 ?_;clear hκ κ)|(refine Z2 ?_ ?_<;>intro h ab<;>try exact Xp)|refine Z3 ?_|exact⟨⟩|(apply hκ.out;clear hκ κ))
  refine Ad (fun m s y'=>∃j:Nat,m=a.terms.length-j/\j<=a.terms.length/\s 1=ptr y.nobj 0/\s 8=sl ida (Af x).length cs/\s 9=sc (.int .i64 (Af x).length)/\s 10=sc (.int .i64 i)/\s 15=sl ia a.terms.length (Av a.terms)/\s 16=sc (.int .i64 a.terms.length)/\s 17=sc (.int .i64 j)/\Keep y1 y'/\Aec ((a.terms.take j).any (fun w=>(Az w).1&&!E8 x (Az w).2)=false)) a.terms.length
   ⟨0,Ad6,Ad6,by simp[upd,h1],by simp[upd,h8],by simp[upd,h9],by simp[upd,am],rfl,rfl,rfl,(hK.new _).put hK.nobj _,by simp[Aec]⟩ ?_
  clear ae hK an h1 h8 h9 am;rintro m s y' ⟨j,rfl,hj,h1,h8,h9,am,bb,ba,a9,hK,ac⟩;have an:=hK.nobj;have ae:y'.obj y.nobj=[sc (.bool x.out),sc (.int .i64 (N.idxOf x.head.pred:Nat)),sl ih x.head.terms.length (Av x.head.terms),sl id x.body.length b]:=by rw[hK.obj _ Ad6,ap]
  by_cases aj:j<a.terms.length
  ·have aa:=List.getElem?_eq_getElem aj;obtain⟨r2,ak⟩:=Hs aa;generalize a.terms[j]=w at ak aa;have HW:Aec (a.terms[j]?=some w):=aa;clear aa;generalize aw:(Az w).1=w1 at ak;generalize av:(Az w).2=w2 at ak;have ao:Aec (((Az w).1&&!E8 x (Az w).2)=(w1&&!E8 x w2)):=by rw[Aec,aw,av]
   clear aw av
   repeat' (first|refine Z1 ?_|(refine Z8 ?_;intro κ hκ)|(refine Z4 ?_;clear hκ κ)|(refine Z2 ?_ ?_<;>intro h ab<;>try exact Xp)|(refine Z5 ?_;refine Xi (hB _ _) ?_;rintro _ _ ⟨rfl,a8⟩)|refine Z3 ?_|exact⟨⟩|(apply hκ.out;clear hκ κ))
   ·exact⟨_,rfl,by rw[Ir,Qv _ HG.out (Qv _ HW.out (by rw[ao.out];simp[*]))];rfl,Xs⟩
   all_goals
    refine⟨a.terms.length-(j+1),Ad6,j+1,rfl,Ad6,by simp,Xs,?_⟩;rw[Aec,any_take_succ _ HW.out,ac.out,ao.out];simp[*]
  ·have ay:j=a.terms.length:=Ad6;subst ay;rw[Abt]at ac
   repeat' (first|refine Z1 ?_|(refine Z8 ?_;intro κ hκ)|(refine Z4 ?_;clear hκ κ)|(refine Z2 ?_ ?_<;>intro h ab<;>try exact Xp)|refine Z3 ?_|exact⟨⟩|(apply hκ.out;clear hκ κ))
   refine⟨(Af x).length-(i+1),Ad6,i+1,rfl,Ad6,by simp,?_⟩;rw[Aec,any_take_succ _ HG.out,ai.out,ac.out];rfl
 ·have az:i=(Af x).length:=Ad6;subst az;rw[Abt]at ai
  repeat' (first|refine Z1 ?_|(refine Z8 ?_;intro κ hκ)|(refine Z4 ?_;clear hκ κ)|(refine Z2 ?_ ?_<;>intro h ab<;>try exact Xp)|refine Z3 ?_|exact⟨⟩|(apply hκ.out;clear hκ κ))
  exact⟨_,rfl,by rw[Ir,ai.out];rfl,Xs⟩
abbrev Bs (N:List Tx)(idn:Nat)(l:List RItem)(idi:Nat)(cs:List AV):AV:=ag [sl idn N.length (N.map str),sl idi l.length cs]
structure Bk (N:List Tx)(l:List RItem)(cs:List AV):Prop where
 el:EL (PI N) l cs
 len:l.length<=16
 fits:∀x∈l,x.fits
 out:∀x∈l,x.out=true->x.body=[]
 nm:N.length<=2000
 pos:∀x∈l,∀a∈Af x,0<a.terms.length
def K5 (l:List RItem)(i:Nat):Bool:=match l[i]? with|some x=>!Ir x|none=>false
theorem PI.of {N:List Tx}{x:RItem}{ih id:Nat}{b:List AV}(hm:x.head.pred∈N)(h:EL (PL N) x.body b):PI N x [sc (.bool x.out),sc (.int .i64 (N.idxOf x.head.pred:Nat)),sl ih x.head.terms.length (Av x.head.terms),sl id x.body.length b]:=⟨hm,ih,id,b,h,rfl⟩
theorem Ow (N:List Tx)(l:List RItem)(cs:List AV)(idn idi:Nat)(hB:Bk N l cs)(y:St):ACalls Tryz.prog 122 [Bs N idn l idi cs] y fun r y'=>r=sc (.int .i64 (Bb (K5 l) l.length))/\Keep y y':=by
 have ak:=EL.length Df hB.el;have ah:=hB.len;refine Z9 18 [.tmp 2] Tryz.func122 ?_
 repeat' (first|refine Z1 ?_|(refine Z8 ?_;intro κ hκ)|(refine Z4 ?_;clear hκ κ)|(refine Z2 ?_ ?_<;>intro h ab<;>try exact Xp)|refine Z3 ?_|exact⟨⟩|(apply hκ.out;clear hκ κ))
 refine Ad (fun m s y'=>∃i:Nat,m=l.length-i/\i<=l.length/\s 6=sl idi l.length cs/\s 7=sc (.int .i64 l.length)/\s 8=sc (.int .i64 i)/\Keep y y'/\Aec (∀j,j<i->K5 l j=false)) l.length
  ⟨0,Ad6,Ad6,rfl,rfl,rfl,Xs,fun j hj=>Ad6⟩ ?_
 rintro m s y' ⟨i,rfl,hi,h6,h7,h8,hK,ac⟩;have aj:=hK.nobj;by_cases ad:i<l.length
 ·have aa:=List.getElem?_eq_getElem ad;have af:=hB.fits l[i] (Ac2 ad);have ae:=hB.out l[i] (Ac2 ad);obtain⟨hm,ih,id,b,r,hb,hd⟩:=Fi hB.el aa;generalize l[i]=x at hd aa af ae hb hm;have hv:Aec (K5 l i=!Ir x):=by rw[Aec,K5,aa]
  clear aa
  repeat' (first|refine Z1 ?_|(refine Z8 ?_;intro κ hκ)|(refine Z4 ?_;clear hκ κ)|(refine Z2 ?_ ?_<;>intro h ab<;>try exact Xp)|(refine Z5 ?_;refine Xi (fT N x _ (PI.of hm hb) ae af _) ?_;rintro _ _ ⟨rfl,am⟩)|refine Z3 ?_|exact⟨⟩|(apply hκ.out;clear hκ κ))
  ·exact⟨_,rfl,by rw[Js ad (by rw[hv.out];simp[*]) ac.out],Xs⟩
  ·exact⟨l.length-(i+1),Ad6,i+1,rfl,Ad6,by simp,Xs,La ac.out (by rw[hv.out];simp[*])⟩
 ·have ai:i=l.length:=Ad6;subst ai
  repeat' (first|refine Z1 ?_|(refine Z8 ?_;intro κ hκ)|(refine Z4 ?_;clear hκ κ)|(refine Z2 ?_ ?_<;>intro h ab<;>try exact Xp)|refine Z3 ?_|exact⟨⟩|(apply hκ.out;clear hκ κ))
  first|exact⟨_,rfl,by rw[Ck ac.out],hK⟩|exact⟨_,rfl,by rw[Ck ac.out]⟩
def F3 (S:List Ai)(p:Tx):Nat:=match S.find? (fun a=>a.pred==p)with|some a=>a.terms.length|none=>0
def C4 (S:List Ai):Prop:=∀b∈S,0<b.terms.length/\b.terms.length=F3 S b.pred
theorem sG (S:List Ai)(a:Ai)(p:Tx):F3 (S++[a]) p=match S.find? (fun a=>a.pred==p)with|some b=>b.terms.length|none=>if a.pred=p then a.terms.length else 0:=by
 unfold F3;rw[List.find?_append];cases hf:S.find? (fun a=>a.pred==p)with
 |some b=>simp
 |none=>by_cases h:a.pred=p<;>simp[h]
theorem Tq {S:List Ai}(h:C4 S)(p:Tx):F3 S p=0↔S.find? (fun a=>a.pred==p)=none:=by
 unfold F3;cases hf:S.find? (fun a=>a.pred==p)with
 |none=>simp
 |some b=>
  have hb:=(h b (List.mem_of_find?_eq_some hf)).1;constructor
  ·intro e;have e:b.terms.length=0:=e;omega
  ·intro e;cases e
theorem Lg {S:List Ai}(h:C4 S)(a:Ai):S.any (clash a)=true↔(F3 S a.pred≠0/\F3 S a.pred≠a.terms.length):=by
 rw[Acg];constructor
 ·rintro⟨b,hb,hc⟩;simp only[clash,Abo,Ad4,Ad3]at hc;have:=h b hb;rw[hc.1]at this;omega
 ·rintro⟨h1,h2⟩;have h3:S.find? (fun b=>b.pred==a.pred)≠none:=fun e=>h1 ((Tq h _).2 e);cases hf:S.find? (fun b=>b.pred==a.pred)with
  |none=>exact absurd hf h3
  |some b=>
   have hp:(b.pred==a.pred)=true:=List.find?_some (p:=fun b:Ai=>b.pred==a.pred) hf;have aa:F3 S a.pred=b.terms.length:=by unfold F3;rw[hf]
   exact⟨b,List.mem_of_find?_eq_some hf,by simp only[clash,hp,Acv,Ad3];omega⟩
theorem Tp {S:List Ai}(h:C4 S)(a:Ai)(p:Tx):F3 (S++[a]) p=if p=a.pred/\F3 S a.pred=0 then a.terms.length else F3 S p:=by
 rw[sG];cases hf:S.find? (fun b=>b.pred==p)with
 |some b=>
  have h1:F3 S p≠0:=fun e=>by rw[Tq h,hf]at e;cases e
  have hx:¬(p=a.pred/\F3 S a.pred=0):=fun e=>h1 (by rw[e.1];exact e.2);have hy:F3 S p=b.terms.length:=by unfold F3;rw[hf]
  rw[if_neg hx,hy]
 |none=>
  have h1:F3 S p=0:=(Tq h _).2 hf;by_cases e:p=a.pred
  ·subst e;rw[if_pos rfl,if_pos ⟨rfl,h1⟩]
  ·rw[if_neg (fun e'=>e e'.symm),if_neg (by rintro⟨e',-⟩;exact e e'),h1]
theorem Gg {S:List Ai}{a:Ai}(h:C4 S)(ha:0<a.terms.length)(hc:S.any (clash a)=false):C4 (S++[a]):=by
 have hn:¬(F3 S a.pred≠0/\F3 S a.pred≠a.terms.length):=fun e=>by rw[<-Lg h a,hc]at e;cases e
 intro b hb;rw[Tp h];rcases Aco.1 hb with hb|hb
 ·have:=h b hb;refine⟨this.1,?_⟩;by_cases e:b.pred=a.pred/\F3 S a.pred=0
  ·rw[e.1]at this;omega
  ·rw[if_neg e];exact this.2
 ·simp at hb;subst hb;refine⟨ha,?_⟩;by_cases e:F3 S b.pred=0
  ·rw[if_pos ⟨rfl,e⟩]
  ·rw[if_neg (by rintro⟨-,e'⟩;exact e e')];omega
theorem Tj:C4 []:=fun b hb=>by cases hb
def Ez (n:Nat)(cc:Nat->Int):List AV:=(List.range n).map fun i=>sc (.int .i64 (cc i))
theorem H4 (n:Nat)(cc:Nat->Int):(Ez n cc).length=n:=by simp[Ez]
theorem Ey {n i:Nat}(cc:Nat->Int)(h:i<n):(Ez n cc)[i]?=some (sc (.int .i64 (cc i))):=by simp[Ez,h]
theorem Nv {n i:Nat}(cc:Nat->Int)(v:Int):(Ez n cc).set i (sc (.int .i64 v))=Ez n (fun j=>if j=i then v else cc j):=by
 apply Ab0;intro j;rw[List.getElem?_set];by_cases hj:j<n
 ·rw[Ey (fun j=>if j=i then v else cc j) hj];by_cases e:i=j
  ·subst e;rw[if_pos rfl,H4,if_pos hj];simp
  ·rw[if_neg e,Ey _ hj,if_neg (fun e'=>e e'.symm)]
 ·have h1:(Ez n fun j=>if j=i then v else cc j)[j]?=none:=by simp[Ez];omega
  have h2:(Ez n cc)[j]?=none:=by simp[Ez];omega
  rw[h1,h2];split
  ·rw[H4];rw[if_neg Ad6]
  ·rfl
theorem O2 (n:Nat):List.replicate n (sc (.int .i64 0))=Ez n fun _=>0:=by
 apply Ab0;intro j;by_cases hj:j<n
 ·rw[Ey _ hj];simp[hj]
 ·simp[Ez,hj]
theorem Dy {N:List Tx}{p q:Tx}(hp:p∈N)(hq:q∈N)(h:N.idxOf p=N.idxOf q):p=q:=by
 have h1:=Ac3 (Ac4 hp);have h2:=Ac3 (Ac4 hq);rw[<-h1,<-h2];congr 1
def cntsOk (N:List Tx)(S:List Ai)(cc:Nat->Int):Prop:=∀p∈N,cc (N.idxOf p)=(F3 S p:Nat)
theorem cntsOk.step {N:List Tx}{S:List Ai}{cc:Nat->Int}{a:Ai}(h:cntsOk N S cc)(hc:C4 S)(ha:a.pred∈N):
  (cc (N.idxOf a.pred)=0->cntsOk N (S++[a]) (fun j=>if j=N.idxOf a.pred then (a.terms.length:Int)else cc j))/\(cc (N.idxOf a.pred)≠0->cntsOk N (S++[a]) cc):=by
 have h0:=h a.pred ha;constructor
 ·intro e p hp;rw[Tp hc];dsimp only;by_cases ep:p=a.pred
  ·subst ep;rw[if_pos rfl,if_pos ⟨rfl,Ad6⟩]
  ·rw[if_neg (fun e'=>ep (Dy hp ha e')),if_neg (by rintro⟨e',-⟩;exact ep e')];exact h p hp
 ·intro e p hp;rw[Tp hc,if_neg (by rintro⟨-,e'⟩;omega)];exact h p hp
end Go.Proofs.YtmoeoppbmhfbpabGreatDoorJ
