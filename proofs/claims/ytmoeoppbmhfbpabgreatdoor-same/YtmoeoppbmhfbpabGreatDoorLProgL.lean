import Derived.Test.YtmoeoppbmhfbpabGreatDoorLProgH
import Derived.Test.YtmoeoppbmhfbpabGreatDoorLGramD
set_option maxHeartbeats 16000000
set_option maxRecDepth 100000
set_option linter.all false
namespace Go.Proofs.YtmoeoppbmhfbpabGreatDoorL
open Go.Abs
def PC (N:List Tx)(a:RAtom)(c:List AV):Prop:=a.pred∈N/\∃ids,c=[sc (.int .i64 (N.idxOf a.pred:Nat)),sl ids a.terms.length (Aw a.terms)]
theorem Wo {N:List Tx}(a:RAtom)(c:List AV)(h:PC N a c):c.length=2:=by obtain⟨-,ids,rfl⟩:=h;rfl
theorem Ml {N:List Tx}{l:List RAtom}{cs:List AV}{i:Nat}{a:RAtom}(h:EL (PL N) l cs)(hi:l[i]?=some a):a.pred∈N/\∃ia r,cs.drop (i*3)=sc (.bool a.nt)::sc (.int .i64 (N.idxOf a.pred:Nat))::sl ia a.terms.length (Aw a.terms)::r:=by
 obtain⟨c,r,⟨hm,ia,rfl⟩,e⟩:=EL.get Dt h hi;exact⟨hm,ia,r,e⟩
theorem qS {N:List Tx}{l:List RAtom}{cs:List AV}{i:Nat}{a:RAtom}(h:EL (PC N) l cs)(hi:l[i]?=some a):a.pred∈N/\∃ia r,cs.drop (i*2)=sc (.int .i64 (N.idxOf a.pred:Nat))::sl ia a.terms.length (Aw a.terms)::r:=by
 obtain⟨c,r,⟨hm,ia,rfl⟩,e⟩:=EL.get Wo h hi;exact⟨hm,ia,r,e⟩
theorem En {N:List Tx}{l:List RItem}{cs:List AV}{i:Nat}{x:RItem}(h:EL (PI N) l cs)(hi:l[i]?=some x):x.head.pred∈N/\∃ih id b r,EL (PL N) x.body b/\cs.drop (i*4)=sc (.bool x.out)::sc (.int .i64 (N.idxOf x.head.pred:Nat))::sl ih x.head.terms.length (Aw x.head.terms)::sl id x.body.length b::r:=by
 obtain⟨c,r,⟨hm,ih,id,b,hb,rfl⟩,e⟩:=EL.get De h hi;exact⟨hm,ih,id,b,r,hb,e⟩
theorem Aak {N:List Tx}{l:List RAtom}{cs:List AV}(h:EL (PC N) l cs):∀c∈cs,Plain c:=by
 induction l generalizing cs with
 |nil=>have h:cs=[]:=h;subst h;simp
 |cons a l ih=>
  obtain⟨c1,c2,⟨-,ids,rfl⟩,h2,rfl⟩:=h;intro c hc;rcases Ahs.1 hc with hc|hc
  ·simp only[Ahm,Ah4,Ajl]at hc;rcases hc with rfl|rfl
   ·exact .inl ⟨_,rfl⟩
   ·refine .inr ⟨_,_,_,rfl,fun x hx=>?_⟩;simp only[Aw,Ahr,Ri,Ahm,Ah4,Ajl]at hx;obtain⟨w,-,rfl|rfl⟩:=hx<;>exact⟨_,rfl⟩
  ·exact ih h2 c hc
theorem pM {xs ys:List AV}{n:Nat}{u v a b:AV}(hn:xs.length=n):((xs++u::v::ys).set n a).set (n+1) b=xs++a::b::ys:=by
 subst hn;rw[List.set_append_right _ _ (Agi _),Ahz,List.set_cons_zero,List.set_append_right _ _ Ajm,Nat.add_sub_cancel_left,List.set_cons_succ,List.set_cons_zero]
theorem Sy {m:Nat}(h:0<m)(u v:AV):(List.replicate m [u,v]).flatten=u::v::(List.replicate (m-1) [u,v]).flatten:=by
 obtain⟨k,rfl⟩:∃k,m=k+1:=⟨m-1,Ajm⟩;rw[List.replicate_succ];rfl
theorem rX (N:List Tx)(x:RItem)(c:List AV)(hc:PI N x c)(ad:x.out=false)(hn:x.body.length<=1000)(d:St):ACalls Tryz.prog 133 [ag c] d fun r d'=>∃(o n:Nat) (cs:List AV),r=fx o 0 n/\d.nobj<=o/\d'.obj o=cs/\Keep d d'/\(∀c∈cs,Plain c)/\(n=(Ae x).length/\EL (PC N) (Ae x) cs):=by
 obtain⟨hm,ih,id,b,hb,rfl⟩:=hc;have ao:=EL.length Dt hb;refine Z9 33 [.tmp 2] Tryz.func133 ?_
 repeat' (first|refine Z1 ?_|(refine Z8 ?_;intro κ hκ)|(refine Z4 ?_;clear hκ κ)|(refine Z2 ?_ ?_<;>intro h ab<;>try exact Xp)|refine Z3 ?_|exact⟨⟩|(apply hκ.out;clear hκ κ))
 have ae:Keep d (d.new [sc (.bool false),sc (.int .i64 (N.idxOf x.head.pred:Nat)),sl ih x.head.terms.length (Aw x.head.terms),sl id x.body.length b]):=(Keep.refl _).new _;have ac:((x.body.length:Int)+1).toNat=x.body.length+1:=Ajm
 refine Af (fun m s d'=>∃(k:Nat) (cur:List AV),m=x.body.length-k/\k<=x.body.length/\s 3=fx (d.nobj+1) 0 (x.body.length+1)/\s 18=sl id x.body.length b/\s 19=sc (.int .i64 x.body.length)/\s 20=sc (.int .i64 k)/\Keep d d'/\d.nobj+1<d'.nobj/\d'.obj (d.nobj+1)=cur/\cur.length=(x.body.length+1)*2/\Ajs (∃xs,cur=xs++(List.replicate (x.body.length-k) [sc (.int .i64 0),nilS]).flatten/\xs.length=(1+k)*2/\EL (PC N) (x.head::x.body.take k) xs)) x.body.length
  ⟨0,_,Ajm,Ajm,by simp[upd,ac],Ajo,Ajo,rfl,(ae.new _).put Ajm _,Ajr,Ak,by simp[ac],[sc (.int .i64 (N.idxOf x.head.pred:Nat)),sl ih x.head.terms.length (Aw x.head.terms)],?_,by simp,EL.single ⟨hm,ih,rfl⟩⟩ ?_
 ·rw[ac,Sy Ajm];rfl
 clear ae;rintro m s d' ⟨k,cur,rfl,hk,h3,aw,av,au,hK,an,af,aj,hE⟩;have ak:=hK.nobj;by_cases ah:k<x.body.length
 ·have aa:=List.getElem?_eq_getElem ah;obtain⟨ha,ia,r,hd⟩:=Ml hb aa;generalize x.body[k]=a at hd aa ha;have HG:Ajs (x.body[k]?=some a):=aa;clear aa;have am:((k:Int)+1).toNat=k+1:=Ajm
  repeat' (first|refine Z1 ?_|(refine Z8 ?_;intro κ hκ)|(refine Z4 ?_;clear hκ κ)|(refine Z2 ?_ ?_<;>intro h ab<;>try exact Xp)|refine Z3 ?_|exact⟨⟩|(apply hκ.out;clear hκ κ))
  have HN:Ajs (∃xs,(cur.set ((k+1)*2) (sc (.int .i64 (N.idxOf a.pred:Nat)))).set ((k+1)*2+1) (sl ia a.terms.length (Aw a.terms))=xs++(List.replicate (x.body.length-(k+1)) [sc (.int .i64 0),nilS]).flatten/\xs.length=(1+(k+1))*2/\EL (PC N) (x.head::x.body.take (k+1)) xs):=by
   obtain⟨xs,e1,e2,e3⟩:=hE.out;refine⟨xs++[sc (.int .i64 (N.idxOf a.pred:Nat)),sl ia a.terms.length (Aw a.terms)],?_,by simp[e2];omega,?_⟩
   ·rw[e1,Sy Ajm,pM (by rw[e2];omega)];simp[Nat.sub_sub]
   ·rw[Agz,HG.out];exact EL.append e3 (EL.single ⟨ha,ia,rfl⟩)
  refine⟨x.body.length-(k+1),Ajm,k+1,(cur.set ((k+1)*2) (sc (.int .i64 (N.idxOf a.pred:Nat)))).set ((k+1)*2+1) (sl ia a.terms.length (Aw a.terms)),?_⟩
  ((repeat' with_reducible refine And.intro ?_ ?_)<;>first|exact Xq|exact (((hK.new _).put hK.nobj _).put Ajm _)|exact (Ak)|exact (HN)|exact (by simp[aj])|exact Xs)
 ·have ai:k=x.body.length:=Ajm;subst ai;obtain⟨xs,e1,e2,e3⟩:=hE.out;rw[Ahz,List.replicate_zero,List.flatten_nil,Ag3]at e1;rw[Agw]at e3;subst e1;have ap:Ae x=x.head::x.body:=by simp[Ae,ad]
  repeat' (first|refine Z1 ?_|(refine Z8 ?_;intro κ hκ)|(refine Z4 ?_;clear hκ κ)|(refine Z2 ?_ ?_<;>intro h ab<;>try exact Xp)|refine Z3 ?_|exact⟨⟩|(apply hκ.out;clear hκ κ))
  exact⟨_,rfl,d.nobj+1,_,cur,rfl,Ajm,af,Aak e3,rfl,e3⟩
theorem lX (N:List Tx)(x:RItem)(c:List AV)(hc:PI N x c)(aa:x.out=true)(d:St):ACalls Tryz.prog 133 [ag c] d fun r d'=>r=nilS/\Keep d d':=by
 obtain⟨hm,ih,id,b,hb,rfl⟩:=hc;refine Z9 33 [.tmp 2] Tryz.func133 ?_
 repeat' (first|refine Z1 ?_|(refine Z8 ?_;intro κ hκ)|(refine Z4 ?_;clear hκ κ)|(refine Z2 ?_ ?_<;>intro h ab<;>try exact Xp)|refine Z3 ?_|exact⟨⟩|(apply hκ.out;clear hκ κ))
 first
 |exact⟨_,rfl,rfl,Xs⟩
 |exact⟨rfl,Xs⟩
theorem Jf (N:List Tx)(x:RItem)(c:List AV)(hc:PI N x c)(ho:x.out=true->x.body=[])(hn:x.body.length<=1000)(d:St):ACalls Tryz.prog 133 [ag c] d fun r d'=>∃id cs,r=sl id (Ae x).length cs/\EL (PC N) (Ae x) cs/\Keep d d':=by
 by_cases aa:x.out=true
 ·refine (lX N x c hc aa d).mono fun r d' h=>?_;obtain⟨rfl,h⟩:=h;exact⟨1,[],by simp[Ae,aa,ho aa],by simp[Ae,aa,ho aa,EL],h⟩
 ·have aa:x.out=false:=by simpa using aa
  refine (ACalls.freeze (rX N x c hc aa hn d)).mono fun r d' h=>?_;obtain⟨n,cs,rfl,⟨rfl,h1⟩,h2⟩:=h;exact⟨0,cs,rfl,h1,h2⟩
theorem Fz {ts:List Tx}{k:Nat}{w:Tx}(h:ts[k]?=some w):∃r,(Aw ts).drop (k*2)=sc (.bool (Al w).1)::sc (.int .i64 (Al w).2)::r:=by
 have hE:∀ts:List Tx,EL (fun w c=>c=Ri w) ts (Aw ts):=by
  intro ts;induction ts with
  |nil=>rfl
  |cons a l ih=>exact⟨Ri a,Aw l,rfl,ih,by simp[Aw]⟩
 obtain⟨c,r,rfl,e⟩:=EL.get (z:=2) (fun a c h=>by rw[h];rfl) (hE ts) h;exact⟨r,e⟩
theorem My {p:Nat->Bool}{i:Nat}(h:∀j,j<i->p j=false)(hi:p i=false):∀j,j<i+1->p j=false:=fun j hj=>by
 by_cases e:j=i
 ·rw[e];exact hi
 ·exact h j Ajm
def Oi (v:Int)(w:Tx):Bool:=(Al w).1&&(Al w).2==v
def iQ (a:RAtom)(v:Int)(i:Nat):Bool:=match a.terms[i]? with|some w=>Oi v w|none=>false
theorem fW (k:Int)(ids:Nat)(a:RAtom)(v:Int)(hn:a.terms.length<=1000)(d:St):ACalls Tryz.prog 217 [ag [sc (.int .i64 k),sl ids a.terms.length (Aw a.terms)],sc (.int .i64 v)] d fun r d'=>r=sc (.int .i64 (Bj (iQ a v) a.terms.length))/\Keep d d':=by
 have aj:=Eu a.terms;refine Z9 25 [.tmp 4] Tryz.func217 ?_
 repeat' (first|refine Z1 ?_|(refine Z8 ?_;intro κ hκ)|(refine Z4 ?_;clear hκ κ)|(refine Z2 ?_ ?_<;>intro h ab<;>try exact Xp)|refine Z3 ?_|exact⟨⟩|(apply hκ.out;clear hκ κ))
 refine Af (fun m s d'=>∃i:Nat,m=a.terms.length-i/\i<=a.terms.length/\s 1=sc (.int .i64 v)/\s 8=sl ids a.terms.length (Aw a.terms)/\s 9=sc (.int .i64 a.terms.length)/\s 10=sc (.int .i64 i)/\Keep d d'/\Ajs (∀j,j<i->iQ a v j=false)) a.terms.length
  ⟨0,Ajm,Ajm,rfl,rfl,rfl,rfl,Xs,fun j hj=>Ajm⟩ ?_
 rintro m s d' ⟨i,rfl,hi,h1,h8,h9,ak,hK,ac⟩;by_cases ae:i<a.terms.length
 ·have aa:=List.getElem?_eq_getElem ae;obtain⟨r,hd⟩:=Fz aa;generalize a.terms[i]=w at hd aa;have hv:Ajs (iQ a v i=Oi v w):=by rw[Ajs,iQ,aa]
  clear aa;have ai:=hK.nobj;generalize ah:(Al w).1=w1 at hd;generalize af:(Al w).2=w2 at hd;have ad:Ajs (Oi v w=(w1&&w2==v)):=by rw[Ajs,Oi,ah,af]
  clear ah af
  repeat' (first|refine Z1 ?_|(refine Z8 ?_;intro κ hκ)|(refine Z4 ?_;clear hκ κ)|(refine Z2 ?_ ?_<;>intro h ab<;>try exact Xp)|refine Z3 ?_|exact⟨⟩|(apply hκ.out;clear hκ κ))
  ·exact⟨_,rfl,by rw[Kw ae (by rw[hv.out,ad.out];simp[*]) ac.out],Xs⟩
  all_goals exact⟨a.terms.length-(i+1),Ajm,i+1,rfl,Ajm,by simp,Xs,My ac.out (by rw[hv.out,ad.out];simp[*])⟩
 ·have hil:i=a.terms.length:=Ajm;subst hil
  repeat' (first|refine Z1 ?_|(refine Z8 ?_;intro κ hκ)|(refine Z4 ?_;clear hκ κ)|(refine Z2 ?_ ?_<;>intro h ab<;>try exact Xp)|refine Z3 ?_|exact⟨⟩|(apply hκ.out;clear hκ κ))
  first|exact⟨_,rfl,by rw[Cv ac.out],hK⟩|exact⟨_,rfl,by rw[Cv ac.out]⟩
theorem mS {α:Type}(l:List α)(q:α->Bool)(p:Nat->Bool)(hp:∀i,p i=match l[i]? with|some w=>q w|none=>false):(decide (Bj p l.length≠ -1))=l.any q:=by
 by_cases h:l.any q=true
 ·rw[h];rw[Ahk]at h;obtain⟨w,hw,hq⟩:=h;obtain⟨i,hi,he⟩:=List.getElem_of_mem hw;by_cases hN:Bj p l.length= -1
  ·exfalso;unfold Bj at hN;split at hN
   ·omega
   ·rename_i hf;rw[List.find?_eq_none]at hf;have:=hf i (by simpa using hi);rw[hp,List.getElem?_eq_getElem hi,he]at this;simp[hq]at this
  ·simpa using hN
 ·have h:l.any q=false:=by simpa using h
  rw[h,Cv (fun i hi=>by
   rw[hp,List.getElem?_eq_getElem hi];rw[Ah5]at h
   simpa using h l[i] (Ah6 hi))]
  simp
theorem rV (k:Int)(ids:Nat)(a:RAtom)(v:Int)(hn:a.terms.length<=1000)(d:St):ACalls Tryz.prog 232 [ag [sc (.int .i64 k),sl ids a.terms.length (Aw a.terms)],sc (.int .i64 v)] d fun r d'=>r=sc (.bool (a.terms.any (Oi v)))/\Keep d d':=by
 have hF:=mS a.terms (Oi v) (iQ a v) (fun i=>by unfold iQ;cases a.terms[i]?<;>rfl);refine Z9 9 [.tmp 4] Tryz.func232 ?_
 repeat' (first|refine Z1 ?_|(refine Z8 ?_;intro κ hκ)|(refine Z4 ?_;clear hκ κ)|(refine Z2 ?_ ?_<;>intro h aa<;>try exact Xp)|(refine Z5 ?_;refine Xi (fW _ _ a v hn _) ?_;rintro _ _ ⟨rfl,ab⟩)|refine Z3 ?_|exact⟨⟩|(apply hκ.out;clear hκ κ))
 refine⟨_,rfl,?_,Xs⟩;rw[<-hF,show (Bj (iQ a v) a.terms.length != -1)=decide (Bj (iQ a v) a.terms.length≠ -1)from by rw[Ah7];simp]
def Fi (x:RItem)(v:Int):Bool:=x.body.any fun a=>!a.nt&&a.terms.any (Oi v)
theorem gB (N:List Tx)(x:RItem)(c:List AV)(v:Int)(hc:PI N x c)(hx:x.fits)(d:St):ACalls Tryz.prog 192 [ag c,sc (.int .i64 v)] d fun r d'=>r=sc (.bool (Fi x v))/\Keep d d':=by
 obtain⟨hm,ih,id,b,hb,rfl⟩:=hc;have ak:=EL.length Dt hb;obtain⟨aj,ai,af⟩:=hx;refine Z9 24 [.tmp 4] Tryz.func192 ?_
 repeat' (first|refine Z1 ?_|(refine Z8 ?_;intro κ hκ)|(refine Z4 ?_;clear hκ κ)|(refine Z2 ?_ ?_<;>intro h ab<;>try exact Xp)|refine Z3 ?_|exact⟨⟩|(apply hκ.out;clear hκ κ))
 refine Af (fun m s d'=>∃i:Nat,m=x.body.length-i/\i<=x.body.length/\s 1=sc (.int .i64 v)/\s 8=sl id x.body.length b/\s 9=sc (.int .i64 x.body.length)/\s 10=sc (.int .i64 i)/\Keep d d'/\Ajs ((x.body.take i).any (fun a=>!a.nt&&a.terms.any (Oi v))=false)) x.body.length
  ⟨0,Ajm,Ajm,rfl,rfl,rfl,rfl,Xs,by simp[Ajs]⟩ ?_
 rintro m s d' ⟨i,rfl,hi,h1,h8,h9,an,hK,ac⟩;by_cases ae:i<x.body.length
 ·have aa:=List.getElem?_eq_getElem ae;have ad:=af x.body[i] (Ah6 ae);obtain⟨ha,ia,r,hd⟩:=Ml hb aa;generalize x.body[i]=a at hd aa ha ad;have HG:Ajs (x.body[i]?=some a):=aa;clear aa;have ah:=hK.nobj
  repeat' (first|refine Z1 ?_|(refine Z8 ?_;intro κ hκ)|(refine Z4 ?_;clear hκ κ)|(refine Z2 ?_ ?_<;>intro h ab<;>try exact Xp)|(refine Z5 ?_;refine Xi (rV _ _ a v ad _) ?_;rintro _ _ ⟨rfl,am⟩)|refine Z3 ?_|exact⟨⟩|(apply hκ.out;clear hκ κ))
  ·exact⟨_,rfl,by rw[Fi,S7 _ HG.out (by simp[*])],Xs⟩
  all_goals
   refine⟨x.body.length-(i+1),Ajm,i+1,rfl,Ajm,by simp,Xs,?_⟩;rw[Ajs,any_take_succ _ HG.out,ac.out];simp[*]
 ·have hil:i=x.body.length:=Ajm;subst hil;rw[Agw]at ac
  repeat' (first|refine Z1 ?_|(refine Z8 ?_;intro κ hκ)|(refine Z4 ?_;clear hκ κ)|(refine Z2 ?_ ?_<;>intro h ab<;>try exact Xp)|refine Z3 ?_|exact⟨⟩|(apply hκ.out;clear hκ κ))
  first|exact⟨_,rfl,by rw[Fi,ac.out],hK⟩|exact⟨_,rfl,by rw[Fi,ac.out]⟩
def Ec (x:RItem):Bool:=!(Ae x).any fun a=>a.terms.any fun w=>(Al w).1&&!Fi x (Al w).2
theorem Uv (N:List Tx)(x:RItem)(c:List AV)(hc:PI N x c)(ho:x.out=true->x.body=[])(hx:x.fits)(d:St):ACalls Tryz.prog 146 [ag c] d fun r d'=>r=sc (.bool (Ec x))/\Keep d d':=by
 have hA:=Jf N x c hc ho (by have:=hx.1;omega);have hB:=fun v=>gB N x c v hc hx;obtain⟨hm,ih,id,b,hb,rfl⟩:=hc;have a4:=EL.length Dt hb;have a5:=hx.atoms;have az:∀a∈Ae x,a.terms.length<=1000:=by
  intro a ha;unfold Ae at ha;rcases Ahs.1 ha with h|h
  ·split at h
   ·cases h
   ·simp at h;subst h;exact hx.2.1
  ·exact hx.2.2 a h
 refine Z9 32 [.tmp 2] Tryz.func146 ?_
 repeat' (first|refine Z1 ?_|(refine Z8 ?_;intro κ hκ)|(refine Z4 ?_;clear hκ κ)|(refine Z2 ?_ ?_<;>intro h ab<;>try exact Xp)|(refine Z5 ?_;refine Xi (hA _) ?_;rintro _ _ ⟨ida,cs,rfl,hE,af⟩;(have ad:=af.obj;have ah:=af.nobj;(try simp only[Aa,Ab,Ah]at ah)))|refine Z3 ?_|exact⟨⟩|(apply hκ.out;clear hκ κ))
 rename_i d1;have a3:=EL.length Wo hE;have ap:d1.obj d.nobj=[sc (.bool x.out),sc (.int .i64 (N.idxOf x.head.pred:Nat)),sl ih x.head.terms.length (Aw x.head.terms),sl id x.body.length b]:=by rw[ad _ (by rw[Aa];omega),Ap]
 have af:Keep (d.new [sc (.bool x.out),sc (.int .i64 (N.idxOf x.head.pred:Nat)),sl ih x.head.terms.length (Aw x.head.terms),sl id x.body.length b]) d1:=af
 refine Af (fun m s d'=>∃i:Nat,m=(Ae x).length-i/\i<=(Ae x).length/\s 1=ptr d.nobj 0/\s 8=sl ida (Ae x).length cs/\s 9=sc (.int .i64 (Ae x).length)/\s 10=sc (.int .i64 i)/\Keep d1 d'/\Ajs (((Ae x).take i).any (fun a=>a.terms.any fun w=>(Al w).1&&!Fi x (Al w).2)=false)) (Ae x).length
  ⟨0,Ajm,Ajm,rfl,rfl,rfl,rfl,Keep.refl _,by simp[Ajs]⟩ ?_
 rintro m s d' ⟨i,rfl,hi,h1,h8,h9,am,hK,ai⟩;have an:=hK.nobj;have ae:d'.obj d.nobj=[sc (.bool x.out),sc (.int .i64 (N.idxOf x.head.pred:Nat)),sl ih x.head.terms.length (Aw x.head.terms),sl id x.body.length b]:=by rw[hK.obj _ Ajm,ap]
 have a6:Keep d d1:=((Keep.refl d).new _).trans af;clear ad;by_cases au:i<(Ae x).length
 ·have aa:=List.getElem?_eq_getElem au;have ax:=az (Ae x)[i] (Ah6 au);obtain⟨ha,ia,r,hd⟩:=qS hE aa;generalize (Ae x)[i]=a at hd aa ha ax;have HG:Ajs ((Ae x)[i]?=some a):=aa;clear aa;have a0:=Eu a.terms
  repeat' (first|refine Z1 ?_|(refine Z8 ?_;intro κ hκ)|(refine Z4 ?_;clear hκ κ)|(refine Z2 ?_ ?_<;>intro h ab<;>try exact Xp)|refine Z3 ?_|exact⟨⟩|(apply hκ.out;clear hκ κ))
  refine Af (fun m s d'=>∃j:Nat,m=a.terms.length-j/\j<=a.terms.length/\s 1=ptr d.nobj 0/\s 8=sl ida (Ae x).length cs/\s 9=sc (.int .i64 (Ae x).length)/\s 10=sc (.int .i64 i)/\s 15=sl ia a.terms.length (Aw a.terms)/\s 16=sc (.int .i64 a.terms.length)/\s 17=sc (.int .i64 j)/\Keep d1 d'/\Ajs ((a.terms.take j).any (fun w=>(Al w).1&&!Fi x (Al w).2)=false)) a.terms.length
   ⟨0,Ajm,Ajm,by simp[upd,h1],by simp[upd,h8],by simp[upd,h9],by simp[upd,am],rfl,rfl,rfl,(hK.new _).put hK.nobj _,by simp[Ajs]⟩ ?_
  clear ae hK an h1 h8 h9 am;rintro m s d' ⟨j,rfl,hj,h1,h8,h9,am,ba,a9,a8,hK,ac⟩;have an:=hK.nobj;have ae:d'.obj d.nobj=[sc (.bool x.out),sc (.int .i64 (N.idxOf x.head.pred:Nat)),sl ih x.head.terms.length (Aw x.head.terms),sl id x.body.length b]:=by rw[hK.obj _ Ajm,ap]
  by_cases aj:j<a.terms.length
  ·have aa:=List.getElem?_eq_getElem aj;obtain⟨r2,ak⟩:=Fz aa;generalize a.terms[j]=w at ak aa;have HW:Ajs (a.terms[j]?=some w):=aa;clear aa;generalize aw:(Al w).1=w1 at ak;generalize av:(Al w).2=w2 at ak;have ao:Ajs (((Al w).1&&!Fi x (Al w).2)=(w1&&!Fi x w2)):=by rw[Ajs,aw,av]
   clear aw av
   repeat' (first|refine Z1 ?_|(refine Z8 ?_;intro κ hκ)|(refine Z4 ?_;clear hκ κ)|(refine Z2 ?_ ?_<;>intro h ab<;>try exact Xp)|(refine Z5 ?_;refine Xi (hB _ _) ?_;rintro _ _ ⟨rfl,a7⟩)|refine Z3 ?_|exact⟨⟩|(apply hκ.out;clear hκ κ))
   ·exact⟨_,rfl,by rw[Ec,S7 _ HG.out (S7 _ HW.out (by rw[ao.out];simp[*]))];rfl,Xs⟩
   all_goals
    refine⟨a.terms.length-(j+1),Ajm,j+1,rfl,Ajm,by simp,Xs,?_⟩;rw[Ajs,any_take_succ _ HW.out,ac.out,ao.out];simp[*]
  ·have ay:j=a.terms.length:=Ajm;subst ay;rw[Agw]at ac
   repeat' (first|refine Z1 ?_|(refine Z8 ?_;intro κ hκ)|(refine Z4 ?_;clear hκ κ)|(refine Z2 ?_ ?_<;>intro h ab<;>try exact Xp)|refine Z3 ?_|exact⟨⟩|(apply hκ.out;clear hκ κ))
   refine⟨(Ae x).length-(i+1),Ajm,i+1,rfl,Ajm,by simp,?_⟩;rw[Ajs,any_take_succ _ HG.out,ai.out,ac.out];rfl
 ·have hil:i=(Ae x).length:=Ajm;subst hil;rw[Agw]at ai
  repeat' (first|refine Z1 ?_|(refine Z8 ?_;intro κ hκ)|(refine Z4 ?_;clear hκ κ)|(refine Z2 ?_ ?_<;>intro h ab<;>try exact Xp)|refine Z3 ?_|exact⟨⟩|(apply hκ.out;clear hκ κ))
  exact⟨_,rfl,by rw[Ec,ai.out];rfl,Xs⟩
abbrev Bo (N:List Tx)(idn:Nat)(l:List RItem)(idi:Nat)(cs:List AV):AV:=ag [sl idn N.length (N.map str),sl idi l.length cs]
structure Bk (N:List Tx)(l:List RItem)(cs:List AV):Prop where
 el:EL (PI N) l cs
 len:l.length<=16
 fits:∀x∈l,x.fits
 out:∀x∈l,x.out=true->x.body=[]
 nm:N.length<=2000
 pos:∀x∈l,∀a∈Ae x,0<a.terms.length
def Mq (l:List RItem)(i:Nat):Bool:=match l[i]? with|some x=>!Ec x|none=>false
theorem PI.of {N:List Tx}{x:RItem}{ih id:Nat}{b:List AV}(hm:x.head.pred∈N)(h:EL (PL N) x.body b):PI N x [sc (.bool x.out),sc (.int .i64 (N.idxOf x.head.pred:Nat)),sl ih x.head.terms.length (Aw x.head.terms),sl id x.body.length b]:=⟨hm,ih,id,b,h,rfl⟩
theorem Q3 (N:List Tx)(l:List RItem)(cs:List AV)(idn idi:Nat)(hB:Bk N l cs)(d:St):ACalls Tryz.prog 122 [Bo N idn l idi cs] d fun r d'=>r=sc (.int .i64 (Bj (Mq l) l.length))/\Keep d d':=by
 have aj:=EL.length De hB.el;have ah:=hB.len;refine Z9 18 [.tmp 2] Tryz.func122 ?_
 repeat' (first|refine Z1 ?_|(refine Z8 ?_;intro κ hκ)|(refine Z4 ?_;clear hκ κ)|(refine Z2 ?_ ?_<;>intro h ab<;>try exact Xp)|refine Z3 ?_|exact⟨⟩|(apply hκ.out;clear hκ κ))
 refine Af (fun m s d'=>∃i:Nat,m=l.length-i/\i<=l.length/\s 6=sl idi l.length cs/\s 7=sc (.int .i64 l.length)/\s 8=sc (.int .i64 i)/\Keep d d'/\Ajs (∀j,j<i->Mq l j=false)) l.length
  ⟨0,Ajm,Ajm,rfl,rfl,rfl,Xs,fun j hj=>Ajm⟩ ?_
 rintro m s d' ⟨i,rfl,hi,h6,h7,h8,hK,ac⟩;have ai:=hK.nobj;by_cases ad:i<l.length
 ·have aa:=List.getElem?_eq_getElem ad;have af:=hB.fits l[i] (Ah6 ad);have ae:=hB.out l[i] (Ah6 ad);obtain⟨hm,ih,id,b,r,hb,hd⟩:=En hB.el aa;generalize l[i]=x at hd aa af ae hb hm;have hv:Ajs (Mq l i=!Ec x):=by rw[Ajs,Mq,aa]
  clear aa
  repeat' (first|refine Z1 ?_|(refine Z8 ?_;intro κ hκ)|(refine Z4 ?_;clear hκ κ)|(refine Z2 ?_ ?_<;>intro h ab<;>try exact Xp)|(refine Z5 ?_;refine Xi (Uv N x _ (PI.of hm hb) ae af _) ?_;rintro _ _ ⟨rfl,ak⟩)|refine Z3 ?_|exact⟨⟩|(apply hκ.out;clear hκ κ))
  ·exact⟨_,rfl,by rw[Kw ad (by rw[hv.out];simp[*]) ac.out],Xs⟩
  ·exact⟨l.length-(i+1),Ajm,i+1,rfl,Ajm,by simp,Xs,My ac.out (by rw[hv.out];simp[*])⟩
 ·have hil:i=l.length:=Ajm;subst hil
  repeat' (first|refine Z1 ?_|(refine Z8 ?_;intro κ hκ)|(refine Z4 ?_;clear hκ κ)|(refine Z2 ?_ ?_<;>intro h ab<;>try exact Xp)|refine Z3 ?_|exact⟨⟩|(apply hκ.out;clear hκ κ))
  first|exact⟨_,rfl,by rw[Cv ac.out],hK⟩|exact⟨_,rfl,by rw[Cv ac.out]⟩
def Fw (S:List RAtom)(p:Tx):Nat:=match S.find? (fun a=>a.pred==p)with|some a=>a.terms.length|none=>0
def Dc (S:List RAtom):Prop:=∀b∈S,0<b.terms.length/\b.terms.length=Fw S b.pred
theorem zH (S:List RAtom)(a:RAtom)(p:Tx):Fw (S++[a]) p=match S.find? (fun a=>a.pred==p)with|some b=>b.terms.length|none=>if a.pred=p then a.terms.length else 0:=by
 unfold Fw;rw[List.find?_append];cases hf:S.find? (fun a=>a.pred==p)with
 |some b=>simp
 |none=>by_cases h:a.pred=p<;>simp[h]
theorem V3 {S:List RAtom}(h:Dc S)(p:Tx):Fw S p=0↔S.find? (fun a=>a.pred==p)=none:=by
 unfold Fw;cases hf:S.find? (fun a=>a.pred==p)with
 |none=>simp
 |some b=>
  have hb:=(h b (List.mem_of_find?_eq_some hf)).1;constructor
  ·intro e;have e:b.terms.length=0:=e;omega
  ·intro e;cases e
theorem Na {S:List RAtom}(h:Dc S)(a:RAtom):S.any (clash a)=true↔(Fw S a.pred≠0/\Fw S a.pred≠a.terms.length):=by
 rw[Ahk];constructor
 ·rintro⟨b,hb,hc⟩;simp only[clash,Ags,Ajk,Ajj]at hc;have:=h b hb;rw[hc.1]at this;omega
 ·rintro⟨h1,h2⟩;have h3:S.find? (fun b=>b.pred==a.pred)≠none:=fun e=>h1 ((V3 h _).2 e);cases hf:S.find? (fun b=>b.pred==a.pred)with
  |none=>exact absurd hf h3
  |some b=>
   have hp:(b.pred==a.pred)=true:=List.find?_some (p:=fun b:RAtom=>b.pred==a.pred) hf;have aa:Fw S a.pred=b.terms.length:=by unfold Fw;rw[hf]
   exact⟨b,List.mem_of_find?_eq_some hf,by simp only[clash,hp,Ahy,Ajj];omega⟩
theorem V2 {S:List RAtom}(h:Dc S)(a:RAtom)(p:Tx):Fw (S++[a]) p=if p=a.pred/\Fw S a.pred=0 then a.terms.length else Fw S p:=by
 rw[zH];cases hf:S.find? (fun b=>b.pred==p)with
 |some b=>
  have h1:Fw S p≠0:=fun e=>by rw[V3 h,hf]at e;cases e
  have hx:¬(p=a.pred/\Fw S a.pred=0):=fun e=>h1 (by rw[e.1];exact e.2);have hy:Fw S p=b.terms.length:=by unfold Fw;rw[hf]
  rw[if_neg hx,hy]
 |none=>
  have h1:Fw S p=0:=(V3 h _).2 hf;by_cases e:p=a.pred
  ·subst e;rw[if_pos rfl,if_pos ⟨rfl,h1⟩]
  ·rw[if_neg (fun e'=>e e'.symm),if_neg (by rintro⟨e',-⟩;exact e e'),h1]
theorem Hd {S:List RAtom}{a:RAtom}(h:Dc S)(ha:0<a.terms.length)(hc:S.any (clash a)=false):Dc (S++[a]):=by
 have hn:¬(Fw S a.pred≠0/\Fw S a.pred≠a.terms.length):=fun e=>by rw[<-Na h a,hc]at e;cases e
 intro b hb;rw[V2 h];rcases Ahs.1 hb with hb|hb
 ·have:=h b hb;refine⟨this.1,?_⟩;by_cases e:b.pred=a.pred/\Fw S a.pred=0
  ·rw[e.1]at this;omega
  ·rw[if_neg e];exact this.2
 ·simp at hb;subst hb;refine⟨ha,?_⟩;by_cases e:Fw S b.pred=0
  ·rw[if_pos ⟨rfl,e⟩]
  ·rw[if_neg (by rintro⟨-,e'⟩;exact e e')];omega
theorem V0:Dc []:=fun b hb=>by cases hb
def Fv (n:Nat)(cc:Nat->Int):List AV:=(List.range n).map fun i=>sc (.int .i64 (cc i))
theorem I4 (n:Nat)(cc:Nat->Int):(Fv n cc).length=n:=by simp[Fv]
theorem Fu {n i:Nat}(cc:Nat->Int)(h:i<n):(Fv n cc)[i]?=some (sc (.int .i64 (cc i))):=by simp[Fv,h]
theorem P3 {n i:Nat}(cc:Nat->Int)(v:Int):(Fv n cc).set i (sc (.int .i64 v))=Fv n (fun j=>if j=i then v else cc j):=by
 apply Ag4;intro j;rw[List.getElem?_set];by_cases hj:j<n
 ·rw[Fu (fun j=>if j=i then v else cc j) hj];by_cases e:i=j
  ·subst e;rw[if_pos rfl,I4,if_pos hj];simp
  ·rw[if_neg e,Fu _ hj,if_neg (fun e'=>e e'.symm)]
 ·have h1:(Fv n fun j=>if j=i then v else cc j)[j]?=none:=by simp[Fv];omega
  have h2:(Fv n cc)[j]?=none:=by simp[Fv];omega
  rw[h1,h2];split
  ·rw[I4];rw[if_neg Ajm]
  ·rfl
theorem Q8 (n:Nat):List.replicate n (sc (.int .i64 0))=Fv n fun _=>0:=by
 apply Ag4;intro j;by_cases hj:j<n
 ·rw[Fu _ hj];simp[hj]
 ·simp[Fv,hj]
theorem C2 {N:List Tx}{p q:Tx}(hp:p∈N)(hq:q∈N)(h:N.idxOf p=N.idxOf q):p=q:=by
 have h1:=Ah8 (Ah9 hp);have h2:=Ah8 (Ah9 hq);rw[<-h1,<-h2];congr 1
def cntsOk (N:List Tx)(S:List RAtom)(cc:Nat->Int):Prop:=∀p∈N,cc (N.idxOf p)=(Fw S p:Nat)
theorem cntsOk.step {N:List Tx}{S:List RAtom}{cc:Nat->Int}{a:RAtom}(h:cntsOk N S cc)(hc:Dc S)(ha:a.pred∈N):
  (cc (N.idxOf a.pred)=0->cntsOk N (S++[a]) (fun j=>if j=N.idxOf a.pred then (a.terms.length:Int)else cc j))/\(cc (N.idxOf a.pred)≠0->cntsOk N (S++[a]) cc):=by
 have h0:=h a.pred ha;constructor
 ·intro e p hp;rw[V2 hc];dsimp only;by_cases ep:p=a.pred
  ·subst ep;rw[if_pos rfl,if_pos ⟨rfl,Ajm⟩]
  ·rw[if_neg (fun e'=>ep (C2 hp ha e')),if_neg (by rintro⟨e',-⟩;exact ep e')];exact h p hp
 ·intro e p hp;rw[V2 hc,if_neg (by rintro⟨-,e'⟩;omega)];exact h p hp
theorem Sk (N:List Tx)(l:List RItem)(cs:List AV)(idn idi:Nat)(hB:Bk N l cs)(d:St):ACalls Tryz.prog 121 [Bo N idn l idi cs] d fun r d'=>r=sc (.int .i64 (Bj (H6 l) l.length))/\Keep d d':=by
 have a3:=EL.length De hB.el;have bm:=hB.len;have hN:=hB.nm;refine Z9 52 [.tmp 2] Tryz.func121 ?_
 repeat' (first|refine Z1 ?_|(refine Z8 ?_;intro κ hκ)|(refine Z4 ?_;clear hκ κ)|(refine Z2 ?_ ?_<;>intro h ab<;>try exact Xp)|refine Z3 ?_|exact⟨⟩|(apply hκ.out;clear hκ κ))
 refine Af (fun m s d'=>∃(i:Nat) (cc:Nat->Int),m=l.length-i/\i<=l.length/\s 3=fx (d.nobj+1) 0 N.length/\s 13=sl idi l.length cs/\s 14=sc (.int .i64 l.length)/\s 15=sc (.int .i64 i)/\Keep d d'/\d.nobj+1<d'.nobj/\d'.obj (d.nobj+1)=Fv N.length cc/\Ajs (cntsOk N (Dk l i) cc)/\Ajs (Dc (Dk l i))/\Ajs (noO l i)) l.length
  ⟨0,fun _=>0,Ajm,Ajm,?_,rfl,rfl,rfl,Xs,Ajq,?_,?_,by simp[Ajs,Dk,V0],fun a h=>Ajm⟩ ?_
 ·simp[upd]
 ·show (if d.nobj+1=d.nobj+1 then _ else _)=_;rw[if_pos rfl];exact Q8 _
 ·intro p hp;simp[Dk,Fw]
 rintro m s d' ⟨i,cc,rfl,hi,h3,a7,a6,a5,hK,ae,ax,hC,hS,au⟩;have a9:=hK.nobj;by_cases am:i<l.length
 ·have aa:=List.getElem?_eq_getElem am;have az:=hB.fits l[i] (Ah6 am);have bb:=hB.out l[i] (Ah6 am);have ba:=hB.pos l[i] (Ah6 am);obtain⟨hm,ih,id,b,r,hb,hd⟩:=En hB.el aa;generalize l[i]=x at hd aa az bb hb hm ba;have HX:Ajs (l[i]?=some x):=aa;clear aa;have b2:=az.atoms
  repeat' (first|refine Z1 ?_|(refine Z8 ?_;intro κ hκ)|(refine Z4 ?_;clear hκ κ)|(refine Z2 ?_ ?_<;>intro h ab<;>try exact Xp)|(refine Z5 ?_;refine Xi (Jf N x _ (PI.of hm hb) bb (by have:=az.1;omega) _) ?_;rintro _ _ ⟨ida,cs2,rfl,bg,a4⟩;(have ah:=a4.obj;have ai:=a4.nobj;(try simp only[Aa,Ab,Ah]at ai)))|refine Z3 ?_|exact⟨⟩|(apply hκ.out;clear hκ κ))
  rename_i d1;have bp:=EL.length Wo bg;have bf:Keep d d1:=Xs;have aj:d1.obj (d.nobj+1)=Fv N.length cc:=by
   rw[ah _ (by simp only[Aa,Ab];omega),Ai Ajm,Ag ae];exact ax
  clear ah
  refine Af (fun m s d'=>∃(j:Nat) (cc:Nat->Int),m=(Ae x).length-j/\j<=(Ae x).length/\s 3=fx (d.nobj+1) 0 N.length/\s 4=sc (.int .i64 i)/\s 13=sl idi l.length cs/\s 14=sc (.int .i64 l.length)/\s 15=sc (.int .i64 i)/\s 21=sl ida (Ae x).length cs2/\s 22=sc (.int .i64 (Ae x).length)/\s 23=sc (.int .i64 j)/\Keep d d'/\d.nobj+1<d'.nobj/\d'.obj (d.nobj+1)=Fv N.length cc/\Ajs (cntsOk N (Dg l x i j) cc)/\Ajs (Dc (Dg l x i j))/\Ajs (Agc l x i j)) (Ae x).length
   ⟨0,cc,Ajm,Ajm,by simp[upd,h3],Ajo,by simp[upd,a7],by simp[upd,a6],by simp[upd,a5],Ajo,rfl,rfl,bf,Ajm,aj,by simpa[Dg]using hC,by simpa[Dg]using hS,fun b h=>Ajm⟩ ?_
  clear aj hK ax hC hS a4 ai a9 h3 a7 a6 a5 ae cc bf;rintro m s d' ⟨j,cc,rfl,hj,h3,h4,a7,a6,a5,b5,b4,b3,hK,ae,ax,hC,hS,ad⟩;have a9:=hK.nobj;by_cases af:j<(Ae x).length
  ·have aa:=List.getElem?_eq_getElem af;have aw:=ba (Ae x)[j] (Ah6 af);obtain⟨ha,ia,r2,bc⟩:=qS bg aa;generalize (Ae x)[j]=a at bc aa ha aw;have HA:Ajs ((Ae x)[j]?=some a):=aa;clear aa;have ac:Ajs (Rp l x i j=(Dg l x i j).any (clash a)):=by rw[Ajs,Rp,HA.out]
   have ay:=Ah9 ha;have ap:=hC.out.step hS.out ha;have a0:=hC.out a.pred ha;have bd:=Fu cc ay;have an:=fun v=>P3 (n:=N.length) (i:=N.idxOf a.pred) cc v;have bz:=I4 N.length cc;generalize bq:cc (N.idxOf a.pred)=c at bd ap a0;clear bq;generalize N.idxOf a.pred=ix at bc bd ay ap an;have a3:=Na hS.out a;have bh:Ajs _:=ap;have av:Ajs _:=a0;have a8:Ajs _:=a3;clear ap a0 a3;by_cases ao:(c==0)=true
   ·have b1:((Fv N.length cc).set ix (sc (.int .i64 a.terms.length)))[ix]?=some (sc (.int .i64 a.terms.length)):=by rw[an,Fu _ ay];simp
    have b0:((a.terms.length:Int) !=a.terms.length)=false:=by simp
    have br:c=0:=by simpa using ao
    have bw:Ajs _:=an;clear an
    repeat' (first|refine Z1 ?_|(refine Z8 ?_;intro κ hκ)|(refine Z4 ?_;clear hκ κ)|(refine Z2 ?_ ?_<;>intro h ab<;>try exact Xp)|refine Z3 ?_|exact⟨⟩|(apply hκ.out;clear hκ κ))
    refine A9 Aj (fun _=>True) [8] [0,1,2,3,4,5,6,7] [8] Ajp (fun _ _ _ h=>h) ?_;intro κ hκ;refine Z3 ?_
    repeat' (first|refine Z1 ?_|(refine Z8 ?_;intro κ hκ)|(refine Z4 ?_;clear hκ κ)|(refine Z2 ?_ ?_<;>intro h ab<;>try exact Xp)|refine Z3 ?_|exact⟨⟩|(apply hκ.out;clear hκ κ))
    have ak:(Dg l x i j).any (clash a)=false:=by
     cases hq:(Dg l x i j).any (clash a)with
     |false=>rfl
     |true=>exfalso;have h1:=(a8.out.1 hq).1;have h2:=av.out;omega
    refine⟨(Ae x).length-(j+1),Ajm,j+1,_,rfl,Ajm,by simp,((hK.new _).put hK.nobj _).put Ajm _,Ajm,bw.out _,?_,?_,My ad.out (by rw[ac.out];exact ak)⟩
    ·rw[Ajs,Ih HA.out];exact bh.out.1 br
    ·rw[Ajs,Ih HA.out];exact Hd hS.out aw ak
   ·have ao:(c==0)=false:=by simpa using ao
    clear an
    repeat' (first|refine Z1 ?_|(refine Z8 ?_;intro κ hκ)|(refine Z4 ?_;clear hκ κ)|(refine Z2 ?_ ?_<;>intro h ab<;>try exact Xp)|refine Z3 ?_|exact⟨⟩|(apply hκ.out;clear hκ κ))
    refine A9 Aj (fun _=>True) [8] [0,1,2,3,4,5,6,7] [8] Ajp (fun _ _ _ h=>h) ?_;intro κ hκ;refine Z3 ?_
    repeat' (first|refine Z1 ?_|(refine Z8 ?_;intro κ hκ)|(refine Z4 ?_;clear hκ κ)|(refine Z2 ?_ ?_<;>intro h ab<;>try exact Xp)|refine Z3 ?_|exact⟨⟩|(apply hκ.out;clear hκ κ))
    ·have be:c≠0:=by simpa using ao
     have bu:c≠a.terms.length:=by simpa using h
     have bo:=a8.out.2 ⟨by have:=av.out;omega,by have:=av.out;omega⟩;have bl:H6 l i=true:=by
      unfold H6;rw[HX.out];dsimp only;rw[Ahk];exact⟨j,by simpa using af,by rw[ac.out];exact bo⟩
     exact⟨_,rfl,by rw[Kw am bl au.out],(hK.new _).put hK.nobj _⟩
    ·have be:c≠0:=by simpa using ao
     have bu:c=a.terms.length:=by simpa using h
     have ak:(Dg l x i j).any (clash a)=false:=by
      cases hq:(Dg l x i j).any (clash a)with
      |false=>rfl
      |true=>exfalso;have h1:=(a8.out.1 hq).2;have h2:=av.out;omega
     refine⟨(Ae x).length-(j+1),Ajm,j+1,cc,rfl,Ajm,by simp,(hK.new _).put hK.nobj _,Ajm,rfl,?_,?_,My ad.out (by rw[ac.out];exact ak)⟩
     ·rw[Ajs,Ih HA.out];exact bh.out.2 be
     ·rw[Ajs,Ih HA.out];exact Hd hS.out aw ak
  ·have bn:j=(Ae x).length:=Ajm;subst bn
   repeat' (first|refine Z1 ?_|(refine Z8 ?_;intro κ hκ)|(refine Z4 ?_;clear hκ κ)|(refine Z2 ?_ ?_<;>intro h ab<;>try exact Xp)|refine Z3 ?_|exact⟨⟩|(apply hκ.out;clear hκ κ))
   have bi:Dg l x i (Ae x).length=Dk l (i+1):=by rw[rN HX.out];simp[Dg]
   rw[bi]at hC hS;refine⟨l.length-(i+1),Ajm,i+1,cc,rfl,Ajm,by simp,rfl,hC,hS,My au.out ?_⟩;unfold H6;rw[HX.out];dsimp only;rw[Ah5];intro b hb;have bv:=ad.out b (by simpa using hb);simp[bv]
 ·have hil:i=l.length:=Ajm;subst hil
  repeat' (first|refine Z1 ?_|(refine Z8 ?_;intro κ hκ)|(refine Z4 ?_;clear hκ κ)|(refine Z2 ?_ ?_<;>intro h ab<;>try exact Xp)|refine Z3 ?_|exact⟨⟩|(apply hκ.out;clear hκ κ))
  first|exact⟨_,rfl,by rw[Cv au.out],hK⟩|exact⟨_,rfl,by rw[Cv au.out]⟩
def H1 (n:Nat)(f:Nat->Bool):List AV:=(List.range n).map fun i=>sc (.bool (f i))
theorem Eh (n:Nat)(f:Nat->Bool):(H1 n f).length=n:=by simp[H1]
theorem Gp {n i:Nat}(f:Nat->Bool)(h:i<n):(H1 n f)[i]?=some (sc (.bool (f i))):=by simp[H1,h]
theorem V4 {n i:Nat}(f:Nat->Bool)(v:Bool):(H1 n f).set i (sc (.bool v))=H1 n (fun j=>if j=i then v else f j):=by
 apply Ag4;intro j;rw[List.getElem?_set];by_cases hj:j<n
 ·rw[Gp (fun j=>if j=i then v else f j) hj];by_cases e:i=j
  ·subst e;rw[if_pos rfl,Eh,if_pos hj];simp
  ·rw[if_neg e,Gp _ hj,if_neg (fun e'=>e e'.symm)]
 ·have h1:(H1 n fun j=>if j=i then v else f j)[j]?=none:=by simp[H1];omega
  have h2:(H1 n f)[j]?=none:=by simp[H1];omega
  rw[h1,h2];split
  ·rw[Eh];rw[if_neg Ajm]
  ·rfl
theorem aG (n:Nat):List.replicate n (sc (.bool false))=H1 n fun _=>false:=by
 apply Ag4;intro j;by_cases hj:j<n
 ·rw[Gp _ hj];simp[hj]
 ·simp[H1,hj]
def Fe (B n k:Nat):List AV:=(List.range k).map fun i=>fx (B+i) 0 n
theorem Ii (B n k:Nat):(Fe B n k).length=k:=by simp[Fe]
theorem lE (B n k:Nat):Fe B n (k+1)=Fe B n k++[fx (B+k) 0 n]:=by simp[Fe,List.range_succ]
theorem Ij {B n k i:Nat}(h:i<k):(Fe B n k).drop i=fx (B+i) 0 n::(Fe B n k).drop (i+1):=by
 rw[Ahl (by rw[Ii];exact h)];simp[Fe]
def Mat (B n:Nat)(M:Nat->Nat->Bool)(d:St):Prop:=∀i,i<n->d.obj (B+i)=H1 n (M i)
theorem Mat.keep {B n:Nat}{M:Nat->Nat->Bool}{d d':St}(h:Mat B n M d)(k:Keep d d')(hn:B+n<=d.nobj):Mat B n M d':=fun i hi=>by rw[k.obj _ Ajm];exact h i hi
theorem Mat.new {B n:Nat}{M:Nat->Nat->Bool}{d:St}(h:Mat B n M d)(hn:B+n<=d.nobj)(cs:List AV):Mat B n M (d.new cs):=fun i hi=>by rw[Ag Ajm];exact h i hi
theorem Mat.put {B n o:Nat}{M:Nat->Nat->Bool}{d:St}(h:Mat B n M d)(ho:B+n<=o)(cs:List AV):Mat B n M (d.put o cs):=fun i hi=>by rw[Ai Ajm];exact h i hi
theorem Mat.set {B n p q:Nat}{M:Nat->Nat->Bool}{d:St}(h:Mat B n M d)(hp:p<n)(v:Bool):Mat B n (set2 M p q v) (d.put (B+p) ((H1 n (M p)).set q (sc (.bool v)))):=fun i hi=>by
 by_cases e:i=p
 ·subst e;rw[Ak,V4];congr 1;funext j;simp[set2]
 ·have hx:(d.put (B+p) ((H1 n (M p)).set q (sc (.bool v)))).obj (B+i)=d.obj (B+i):=by
   by_cases hl:i<p
   ·exact Ai Ajm
   ·exact S0 Ajm
  rw[hx,h i hi];congr 1;funext j;simp[set2,e]
def gQ (N:List Tx)(l:List RItem)(p q:Nat):Prop:=∃x∈l,N.idxOf x.head.pred=p/\∃a∈x.body,N.idxOf a.pred=q
def Aft (N:List Tx)(x:RItem)(b:List RAtom)(p q:Nat):Prop:=N.idxOf x.head.pred=p/\∃a∈b,N.idxOf a.pred=q
def Dr (N:List Tx)(l:List RItem)(M:Nat->Nat->Bool):Prop:=∀p q,M p q=true↔gQ N l p q
def isOnceQ (N:List Tx)(l:List RItem)(x:RItem)(b:List RAtom)(M:Nat->Nat->Bool):Prop:=∀p q,M p q=true↔gQ N l p q\/Aft N x b p q
theorem isOnceQ.step {N:List Tx}{l:List RItem}{x:RItem}{j:Nat}{a:RAtom}{M:Nat->Nat->Bool}(h:isOnceQ N l x (x.body.take j) M)(ha:x.body[j]?=some a):isOnceQ N l x (x.body.take (j+1)) (set2 M (N.idxOf x.head.pred) (N.idxOf a.pred) true):=by
 intro p q;rw[Agz,ha];unfold set2;by_cases e:p=N.idxOf x.head.pred/\q=N.idxOf a.pred
 ·rw[if_pos e];simp only[true_iff];exact .inr ⟨e.1.symm,a,by simp,e.2.symm⟩
 ·rw[if_neg e,h p q];constructor
  ·rintro (h|⟨h1,b,hb,h2⟩)
   ·exact .inl h
   ·exact .inr ⟨h1,b,by simp[hb],h2⟩
  ·rintro (h|⟨h1,b,hb,h2⟩)
   ·exact .inl h
   ·simp only[Aia,Ahs,Aib]at hb;rcases hb with hb|rfl
    ·exact .inr ⟨h1,b,hb,h2⟩
    ·exact absurd ⟨h1.symm,h2.symm⟩ e
theorem isOnceQ.zero {N:List Tx}{l:List RItem}{x:RItem}{M:Nat->Nat->Bool}(h:Dr N l M):isOnceQ N l x (x.body.take 0) M:=by
 intro p q;rw[h p q];constructor
 ·exact .inl
 ·rintro (h|⟨-,b,hb,-⟩)
  ·exact h
  ·simp at hb
theorem isOnceQ.done {N:List Tx}{l:List RItem}{x:RItem}{i:Nat}{M:Nat->Nat->Bool}(h:isOnceQ N (l.take i) x x.body M)(hx:l[i]?=some x):Dr N (l.take (i+1)) M:=by
 intro p q;rw[h p q,Agz,hx];constructor
 ·rintro (⟨y,hy,g⟩|g)
  ·exact⟨y,by simp[hy],g⟩
  ·exact⟨x,by simp,g⟩
 ·rintro⟨y,hy,g⟩;simp only[Aia,Ahs,Aib]at hy;rcases hy with hy|rfl
  ·exact .inl ⟨y,hy,g⟩
  ·exact .inr g
theorem R4 (N:List Tx)(l:List RItem)(cs:List AV)(idn idi:Nat)(hB:Bk N l cs)(d:St):ACalls Tryz.prog 206 [Bo N idn l idi cs] d fun r d'=>∃idu B M,r=sl idu N.length (Fe B N.length N.length)/\Keep d d'/\d.nobj<=B/\B+N.length<=d'.nobj/\Mat B N.length M d'/\Dr N l M:=by
 have br:=EL.length De hB.el;have bi:=hB.len;have hN:=hB.nm;refine Z9 51 [.tmp 2] Tryz.func206 ?_
 repeat' (first|refine Z1 ?_|(refine Z8 ?_;intro κ hκ)|(refine Z4 ?_;clear hκ κ)|(refine Z2 ?_ ?_<;>intro h ae<;>try exact Xp)|(refine Z6 ?_;intro idn dn ah ai ac aa af ab)|refine Z3 ?_|exact⟨⟩|(apply hκ.out;clear hκ κ))
 refine Af (fun m s d'=>∃(k idu:Nat),m=N.length-k/\k<=N.length/\s 1=ptr d.nobj 0/\s 3=sl idu k (Fe (d.nobj+1) N.length k)/\s 12=sc (.int .i64 N.length)/\s 13=sc (.int .i64 k)/\Keep d d'/\Own d d' idu k/\d'.nobj=d.nobj+1+k/\d'.obj d.nobj=[sl idn N.length (N.map str),sl idi l.length cs]/\Ajs (∀i,i<k->d'.obj (d.nobj+1+i)=H1 N.length fun _=>false)) N.length
  ⟨0,1,Ajm,Ajm,rfl,rfl,rfl,rfl,Xs,Own.nil _ _,rfl,Ap,fun i hi=>Ajm⟩ ?_
 rintro m s d' ⟨k,idu,rfl,hk,h1,h3,bp,bo,hK,hO,aj,a5,hM⟩;have bc:=Ii (d.nobj+1) N.length k;by_cases an:k<N.length
 ·repeat' (first|refine Z1 ?_|(refine Z8 ?_;intro κ hκ)|(refine Z4 ?_;clear hκ κ)|(refine Z2 ?_ ?_<;>intro h ae<;>try exact Xp)|(refine Z6 ?_;intro idn dn ah ai ac aa af ab)|refine Z3 ?_|exact⟨⟩|(apply hκ.out;clear hκ κ))
  have bn:Keep d (d'.new (List.replicate N.length (sc (.bool false)))):=hK.new _;refine Bh (by first|exact O6) bn (Own.new hO _) (by decide) (by rfl) (by rw[bc,Nat.mul_one]) (by rfl) (by rfl) (by decide) Ajm Ajm ?_;intro idn2 dn ah ai ac aa af ab;have bf:dn.obj d.nobj=[sl idn N.length (N.map str),sl idi l.length cs]:=by rw[ac,Ag Ajm];exact a5
  rw[Aa,aj]at aa;refine Z3 ?_
  repeat' (first|refine Z1 ?_|(refine Z8 ?_;intro κ hκ)|(refine Z4 ?_;clear hκ κ)|(refine Z2 ?_ ?_<;>intro h ae<;>try exact Xp)|(refine Z6 ?_;intro idn dn ah ai ac aa af ab)|refine Z3 ?_|exact⟨⟩|(apply hκ.out;clear hκ κ))
  refine⟨N.length-(k+1),Ajm,k+1,idn2,rfl,Ajm,by rw[lE],by simp,ah,Ajm,?_⟩;intro i hi
  try rw[ac]
  by_cases e:i=k
  ·subst e;rw[<-aj,Ap,aG]
  ·rw[Ag Ajm];exact hM.out i Ajm
 ·have bl:k=N.length:=Ajm;subst bl
  repeat' (first|refine Z1 ?_|(refine Z8 ?_;intro κ hκ)|(refine Z4 ?_;clear hκ κ)|(refine Z2 ?_ ?_<;>intro h ae<;>try exact Xp)|(refine Z6 ?_;intro idn dn ah ai ac aa af ab)|refine Z3 ?_|exact⟨⟩|(apply hκ.out;clear hκ κ))
  have ba:Mat (d.nobj+1) N.length (fun _ _=>false) d':=hM.out;have ak:d.nobj+1+N.length<=d'.nobj:=Ajm;clear hM aj hO a5 bo bp h1
  refine Af (fun m s d'=>∃(i:Nat) (M:Nat->Nat->Bool),m=l.length-i/\i<=l.length/\s 3=sl idu N.length (Fe (d.nobj+1) N.length N.length)/\s 25=sl idi l.length cs/\s 26=sc (.int .i64 l.length)/\s 27=sc (.int .i64 i)/\Keep d d'/\d.nobj+1+N.length<=d'.nobj/\Ajs (Mat (d.nobj+1) N.length M d')/\Ajs (Dr N (l.take i) M)) l.length
   ⟨0,fun _ _=>false,Ajm,Ajm,by simp[upd,h3],Ajo,Ajo,rfl,hK,ak,ba,fun p q=>by simp[gQ]⟩ ?_
  clear ba ak h3 hK h ae an hk;rintro m s d' ⟨i,M,rfl,hi,h3,ay,ax,aw,hK,ak,hM,hI⟩;have a3:=hK.nobj;by_cases an:i<l.length
  ·have ad:=List.getElem?_eq_getElem an;have a8:=hB.fits l[i] (Ah6 an);obtain⟨hm,ih,id,b,r,hb,hd⟩:=En hB.el ad;generalize l[i]=x at hd ad a8 hb hm;have HX:Ajs (l[i]?=some x):=ad;clear ad;have bu:=EL.length Dt hb;have bq:=a8.1;have am:=Ah9 hm
   repeat' (first|refine Z1 ?_|(refine Z8 ?_;intro κ hκ)|(refine Z4 ?_;clear hκ κ)|(refine Z2 ?_ ?_<;>intro h ae<;>try exact Xp)|(refine Z6 ?_;intro idn dn ah ai ac aa af ab)|refine Z3 ?_|exact⟨⟩|(apply hκ.out;clear hκ κ))
   have av:Keep d ((d'.new [sc (.bool false),sc (.int .i64 0),nilS,nilS]).put d'.nobj [sc (.bool x.out),sc (.int .i64 (N.idxOf x.head.pred:Nat)),sl ih x.head.terms.length (Aw x.head.terms),sl id x.body.length b]):=(hK.new _).put hK.nobj _;have au:=(hM.out.new ak [sc (.bool false),sc (.int .i64 0),nilS,nilS]).put ak [sc (.bool x.out),sc (.int .i64 (N.idxOf x.head.pred:Nat)),sl ih x.head.terms.length (Aw x.head.terms),sl id x.body.length b];generalize a6:d'.nobj=o6 at av au ak
   refine Af (fun m s d''=>∃(j:Nat) (M:Nat->Nat->Bool),m=x.body.length-j/\j<=x.body.length/\s 3=sl idu N.length (Fe (d.nobj+1) N.length N.length)/\s 6=ptr o6 0/\s 25=sl idi l.length cs/\s 26=sc (.int .i64 l.length)/\s 27=sc (.int .i64 i)/\s 32=sl id x.body.length b/\s 33=sc (.int .i64 x.body.length)/\s 34=sc (.int .i64 j)/\Keep d d''/\o6<d''.nobj/\d''.obj o6=[sc (.bool x.out),sc (.int .i64 (N.idxOf x.head.pred:Nat)),sl ih x.head.terms.length (Aw x.head.terms),sl id x.body.length b]/\Ajs (Mat (d.nobj+1) N.length M d'')/\Ajs (isOnceQ N (l.take i) x (x.body.take j) M)) x.body.length
    ⟨0,M,Ajm,Ajm,by simp[upd,h3],by simp[upd,a6],by simp[upd,ay],by simp[upd,ax],by simp[upd,aw],Ajo,rfl,rfl,?_,?_,?_,?_,isOnceQ.zero hI.out⟩ ?_
   ·exact av
   ·rw[Ab,Aa];omega
   ·rw[Ak]
   ·exact au
   clear au av hK hM hI h3 ay ax aw a3 M a6;rintro m s d'' ⟨j,M,rfl,hj,h3,h6,ay,ax,aw,bz,bw,bv,hK,bg,ao,hM,hI⟩;have a3:=hK.nobj;by_cases ap:j<x.body.length
   ·have ad:=List.getElem?_eq_getElem ap;obtain⟨ha,ia,r2,a9⟩:=Ml hb ad;generalize x.body[j]=a at a9 ad ha;have HA:Ajs (x.body[j]?=some a):=ad;clear ad;have be:=Ah9 ha;have bd:=Ij (B:=d.nobj+1) (n:=N.length) (k:=N.length) am;have bh:=hM.out _ am;have bb:=Eh N.length (M (N.idxOf x.head.pred));have a4:=isOnceQ.step hI.out HA.out;have az:Ajs _:=a4;have a7:=fun (τ:St) (hτ:Mat (d.nobj+1) N.length M τ)=>Mat.set (q:=N.idxOf a.pred) hτ am true;have a0:Ajs _:=a7;clear a4 a7;generalize N.idxOf x.head.pred=ph at ao am bd bh bb az a0;generalize N.idxOf a.pred=qa at a9 be az a0
    repeat' (first|refine Z1 ?_|(refine Z8 ?_;intro κ hκ)|(refine Z4 ?_;clear hκ κ)|(refine Z2 ?_ ?_<;>intro h ae<;>try exact Xp)|(refine Z6 ?_;intro idn dn ah ai ac aa af ab)|refine Z3 ?_|exact⟨⟩|(apply hκ.out;clear hκ κ))
    refine A9 Aj (fun _=>True) [10] [0,1,2,3,4,5,6,7,8,9] [10] Ajp (fun _ _ _ h=>h) ?_;intro κ hκ;refine Z3 ?_
    repeat' (first|refine Z1 ?_|(refine Z8 ?_;intro κ hκ)|(refine Z4 ?_;clear hκ κ)|(refine Z2 ?_ ?_<;>intro h ae<;>try exact Xp)|(refine Z6 ?_;intro idn dn ah ai ac aa af ab)|refine Z3 ?_|exact⟨⟩|(apply hκ.out;clear hκ κ))
    exact⟨x.body.length-(j+1),Ajm,j+1,_,rfl,Ajm,by simp,((hK.new _).put hK.nobj _).put Ajm _,Ajm,a0.out _ (Mat.put (Mat.new hM.out Ajm _) Ajm _),az.out⟩
   ·have bm:j=x.body.length:=Ajm;subst bm;rw[Agw]at hI
    repeat' (first|refine Z1 ?_|(refine Z8 ?_;intro κ hκ)|(refine Z4 ?_;clear hκ κ)|(refine Z2 ?_ ?_<;>intro h ae<;>try exact Xp)|(refine Z6 ?_;intro idn dn ah ai ac aa af ab)|refine Z3 ?_|exact⟨⟩|(apply hκ.out;clear hκ κ))
    exact⟨l.length-(i+1),Ajm,i+1,M,rfl,Ajm,by simp,Ajm,hM,isOnceQ.done hI.out HX.out⟩
  ·have hil:i=l.length:=Ajm;subst hil;rw[Agw]at hI
   repeat' (first|refine Z1 ?_|(refine Z8 ?_;intro κ hκ)|(refine Z4 ?_;clear hκ κ)|(refine Z2 ?_ ?_<;>intro h ae<;>try exact Xp)|(refine Z6 ?_;intro idn dn ah ai ac aa af ab)|refine Z3 ?_|exact⟨⟩|(apply hκ.out;clear hκ κ))
   exact⟨_,rfl,idu,d.nobj+1,M,rfl,Ajm,ak,hM.out,hI.out⟩
end Go.Proofs.YtmoeoppbmhfbpabGreatDoorL
