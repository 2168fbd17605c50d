import Derived.Test.YtmoeoppbmhfbpaaGreatDoorHProgH
import Derived.Test.YtmoeoppbmhfbpaaGreatDoorHGramD
set_option maxHeartbeats 16000000
set_option maxRecDepth 100000
set_option linter.all false
namespace Go.Proofs.YtmoeoppbmhfbpaaGreatDoorH
open Go.Abs
def PC (N:List Tx)(a:RAtom)(c:List AV):Prop:=a.pred∈N/\∃ids,c=[sc (.int .i64 (N.idxOf a.pred:Nat)),sl ids a.terms.length (A8 a.terms)]
theorem Zk {N:List Tx}(a:RAtom)(c:List AV)(h:PC N a c):c.length=2:=by obtain⟨-,ids,rfl⟩:=h;rfl
theorem fJ {N:List Tx}{l:List RAtom}{cs:List AV}{i:Nat}{a:RAtom}(h:EL (PL N) l cs)(hi:l[i]?=some a):a.pred∈N/\∃ia r,cs.drop (i*3)=sc (.bool a.nt)::sc (.int .i64 (N.idxOf a.pred:Nat))::sl ia a.terms.length (A8 a.terms)::r:=by
 obtain⟨c,r,⟨hm,ia,rfl⟩,e⟩:=EL.get K8 h hi;exact⟨hm,ia,r,e⟩
theorem tO {N:List Tx}{l:List RAtom}{cs:List AV}{i:Nat}{a:RAtom}(h:EL (PC N) l cs)(hi:l[i]?=some a):a.pred∈N/\∃ia r,cs.drop (i*2)=sc (.int .i64 (N.idxOf a.pred:Nat))::sl ia a.terms.length (A8 a.terms)::r:=by
 obtain⟨c,r,⟨hm,ia,rfl⟩,e⟩:=EL.get Zk h hi;exact⟨hm,ia,r,e⟩
theorem Lb {N:List Tx}{l:List RItem}{cs:List AV}{i:Nat}{x:RItem}(h:EL (PI N) l cs)(hi:l[i]?=some x):x.head.pred∈N/\∃ih id b r,EL (PL N) x.body b/\cs.drop (i*4)=sc (.bool x.out)::sc (.int .i64 (N.idxOf x.head.pred:Nat))::sl ih x.head.terms.length (A8 x.head.terms)::sl id x.body.length b::r:=by
 obtain⟨c,r,⟨hm,ih,id,b,hb,rfl⟩,e⟩:=EL.get Iy h hi;exact⟨hm,ih,id,b,r,hb,e⟩
theorem tF {N:List Tx}{l:List RAtom}{cs:List AV}(h:EL (PC N) l cs):∀c∈cs,Plain c:=by
 induction l generalizing cs with
 |nil=>have h:cs=[]:=h;subst h;simp
 |cons a l ih=>
  obtain⟨c1,c2,⟨-,ids,rfl⟩,h2,rfl⟩:=h;intro c hc;rcases Ab2.1 hc with hc|hc
  ·simp only[Acd,Acu,Ad1]at hc;rcases hc with rfl|rfl
   ·exact .inl ⟨_,rfl⟩
   ·refine .inr ⟨_,_,_,rfl,fun x hx=>?_⟩;simp only[A8,Acl,P1,Acd,Acu,Ad1]at hx;obtain⟨w,-,rfl|rfl⟩:=hx<;>exact⟨_,rfl⟩
  ·exact ih h2 c hc
theorem uJ {xs ys:List AV}{n:Nat}{u v a b:AV}(hn:xs.length=n):((xs++u::v::ys).set n a).set (n+1) b=xs++a::b::ys:=by
 subst hn;rw[List.set_append_right _ _ (Aak _),Nat.sub_self,List.set_cons_zero,List.set_append_right _ _ Ad2,Nat.add_sub_cancel_left,List.set_cons_succ,List.set_cons_zero]
theorem lC {m:Nat}(h:0<m)(u v:AV):(List.replicate m [u,v]).flatten=u::v::(List.replicate (m-1) [u,v]).flatten:=by
 obtain⟨k,rfl⟩:∃k,m=k+1:=⟨m-1,Ad2⟩;rw[Abe];rfl
theorem nN (N:List Tx)(x:RItem)(c:List AV)(hc:PI N x c)(ad:x.out=false)(hn:x.body.length<=1000)(A:St):ACalls Tryz.prog 112 [ag c] A fun r A'=>∃(o n:Nat) (cs:List AV),r=fx o 0 n/\A.nobj<=o/\A'.obj o=cs/\Keep A A'/\(∀c∈cs,Plain c)/\(n=(Af x).length/\EL (PC N) (Af x) cs):=by
 obtain⟨hm,ih,id,b,hb,rfl⟩:=hc;have ao:=EL.length K8 hb;refine Z9 33 [.tmp 2] Tryz.func112 ?_
 repeat' (first|refine Z1 ?_|(refine Z8 ?_;intro ya J)|(refine Z4 ?_;clear J ya)|(refine Z2 ?_ ?_<;>intro h ab<;>try exact Xp)|refine Z3 ?_|exact Zt|(apply J.out;clear J ya))
 have ae:Keep A (A.new [sc (.bool false),sc (.int .i64 (N.idxOf x.head.pred:Nat)),sl ih x.head.terms.length (A8 x.head.terms),sl id x.body.length b]):=(Keep.refl _).new _;have ac:((x.body.length:Int)+1).toNat=x.body.length+1:=Ad2
 refine Ab (fun m s A'=>∃(k:Nat) (cur:List AV),m=x.body.length-k/\k<=x.body.length/\s 3=fx (A.nobj+1) 0 (x.body.length+1)/\s 18=sl id x.body.length b/\s 19=sc (.int .i64 x.body.length)/\s 20=sc (.int .i64 k)/\Keep A A'/\A.nobj+1<A'.nobj/\A'.obj (A.nobj+1)=cur/\cur.length=(x.body.length+1)*2/\Ad8 (∃xs,cur=xs++(List.replicate (x.body.length-k) [sc (.int .i64 0),nilS]).flatten/\xs.length=(1+k)*2/\EL (PC N) (x.head::x.body.take k) xs)) x.body.length
  ⟨0,_,Ad2,Ad2,by simp[upd,ac],Ad4,Ad4,rfl,(ae.new _).put Ad2 _,Ad7,Ak,by simp[ac],[sc (.int .i64 (N.idxOf x.head.pred:Nat)),sl ih x.head.terms.length (A8 x.head.terms)],?_,by simp,EL.single ⟨hm,ih,rfl⟩⟩ ?_
 ·rw[ac,lC Ad2];rfl
 clear ae;rintro m s A' ⟨k,cur,rfl,hk,h3,aw,av,au,hK,an,af,aj,hE⟩;have ak:=hK.nobj;by_cases ah:k<x.body.length
 ·have aa:=Aav ah;obtain⟨ha,ia,r,hd⟩:=fJ hb aa;generalize x.body[k]=a at hd aa ha;have HG:Ad8 (x.body[k]?=some a):=aa;clear aa;have am:((k:Int)+1).toNat=k+1:=Ad2
  repeat' (first|refine Z1 ?_|(refine Z8 ?_;intro ya J)|(refine Z4 ?_;clear J ya)|(refine Z2 ?_ ?_<;>intro h ab<;>try exact Xp)|refine Z3 ?_|exact Zt|(apply J.out;clear J ya))
  have HN:Ad8 (∃xs,(cur.set ((k+1)*2) (sc (.int .i64 (N.idxOf a.pred:Nat)))).set ((k+1)*2+1) (sl ia a.terms.length (A8 a.terms))=xs++(List.replicate (x.body.length-(k+1)) [sc (.int .i64 0),nilS]).flatten/\xs.length=(1+(k+1))*2/\EL (PC N) (x.head::x.body.take (k+1)) xs):=by
   obtain⟨xs,e1,e2,e3⟩:=hE.out;refine⟨xs++[sc (.int .i64 (N.idxOf a.pred:Nat)),sl ia a.terms.length (A8 a.terms)],?_,by simp[e2];omega,?_⟩
   ·rw[e1,lC Ad2,uJ (by rw[e2];omega)];simp[Nat.sub_sub]
   ·rw[Aa8,HG.out];exact EL.append e3 (EL.single ⟨ha,ia,rfl⟩)
  refine⟨x.body.length-(k+1),Ad2,k+1,(cur.set ((k+1)*2) (sc (.int .i64 (N.idxOf a.pred:Nat)))).set ((k+1)*2+1) (sl ia a.terms.length (A8 a.terms)),?_⟩
  ((repeat' refine Zi ?_ ?_)<;>first|exact Xq|exact (((hK.new _).put hK.nobj _).put Ad2 _)|exact Ak|exact HN|exact (by simp[aj])|exact Xs)
 ·have ai:k=x.body.length:=Ad2;subst ai;obtain⟨xs,e1,e2,e3⟩:=hE.out;rw[Nat.sub_self,List.replicate_zero,List.flatten_nil,Abc]at e1;rw[Aa3]at e3;subst e1;have ap:Af x=x.head::x.body:=by simp[Af,ad]
  repeat' (first|refine Z1 ?_|(refine Z8 ?_;intro ya J)|(refine Z4 ?_;clear J ya)|(refine Z2 ?_ ?_<;>intro h ab<;>try exact Xp)|refine Z3 ?_|exact Zt|(apply J.out;clear J ya))
  exact⟨_,rfl,A.nobj+1,_,cur,rfl,Ad2,af,tF e3,rfl,e3⟩
theorem gW (N:List Tx)(x:RItem)(c:List AV)(hc:PI N x c)(aa:x.out=true)(A:St):ACalls Tryz.prog 112 [ag c] A fun r A'=>r=nilS/\Keep A A':=by
 obtain⟨hm,ih,id,b,hb,rfl⟩:=hc;refine Z9 33 [.tmp 2] Tryz.func112 ?_
 repeat' (first|refine Z1 ?_|(refine Z8 ?_;intro ya J)|(refine Z4 ?_;clear J ya)|(refine Z2 ?_ ?_<;>intro h ab<;>try exact Xp)|refine Z3 ?_|exact Zt|(apply J.out;clear J ya))
 first
 |exact⟨_,rfl,rfl,Xs⟩
 |exact⟨rfl,Xs⟩
theorem Kt (N:List Tx)(x:RItem)(c:List AV)(hc:PI N x c)(ho:x.out=true->x.body=[])(hn:x.body.length<=1000)(A:St):ACalls Tryz.prog 112 [ag c] A fun r A'=>∃id cs,r=sl id (Af x).length cs/\EL (PC N) (Af x) cs/\Keep A A':=by
 by_cases aa:x.out=true
 ·refine (gW N x c hc aa A).mono fun r A' h=>?_;obtain⟨rfl,h⟩:=h;exact⟨1,[],by simp[Af,aa,ho aa],by simp[Af,aa,ho aa,EL],h⟩
 ·have aa:x.out=false:=by simpa using aa
  refine (ACalls.freeze (nN N x c hc aa hn A)).mono fun r A' h=>?_;obtain⟨n,cs,rfl,⟨rfl,h1⟩,h2⟩:=h;exact⟨0,cs,rfl,h1,h2⟩
theorem Se {ts:List Tx}{k:Nat}{w:Tx}(h:ts[k]?=some w):∃r,(A8 ts).drop (k*2)=sc (.bool (Bu w).1)::sc (.int .i64 (Bu w).2)::r:=by
 have hE:∀ts:List Tx,EL (fun w c=>c=P1 w) ts (A8 ts):=by
  intro ts;induction ts with
  |nil=>rfl
  |cons a l ih=>exact⟨P1 a,A8 l,rfl,ih,by simp[A8]⟩
 obtain⟨c,r,rfl,e⟩:=EL.get (z:=2) (fun a c h=>by rw[h];rfl) (hE ts) h;exact⟨r,e⟩
theorem Ju {p:Nat->Bool}{i:Nat}(h:∀j,j<i->p j=false)(hi:p i=false):∀j,j<i+1->p j=false:=fun j hj=>by
 by_cases e:j=i
 ·rw[e];exact hi
 ·exact h j Ad2
def Uv (v:Int)(w:Tx):Bool:=(Bu w).1&&(Bu w).2==v
def eC (a:RAtom)(v:Int)(i:Nat):Bool:=match a.terms[i]? with|some w=>Uv v w|none=>false
theorem cU (k:Int)(ids:Nat)(a:RAtom)(v:Int)(hn:a.terms.length<=1000)(A:St):ACalls Tryz.prog 210 [ag [sc (.int .i64 k),sl ids a.terms.length (A8 a.terms)],sc (.int .i64 v)] A fun r A'=>r=sc (.int .i64 (A9 (eC a v) a.terms.length))/\Keep A A':=by
 have ak:=Mc a.terms;refine Z9 25 [.tmp 4] Tryz.func210 ?_
 repeat' (first|refine Z1 ?_|(refine Z8 ?_;intro ya J)|(refine Z4 ?_;clear J ya)|(refine Z2 ?_ ?_<;>intro h ab<;>try exact Xp)|refine Z3 ?_|exact Zt|(apply J.out;clear J ya))
 refine Ab (fun m s A'=>∃i:Nat,m=a.terms.length-i/\i<=a.terms.length/\s 1=sc (.int .i64 v)/\s 8=sl ids a.terms.length (A8 a.terms)/\s 9=sc (.int .i64 a.terms.length)/\s 10=sc (.int .i64 i)/\Keep A A'/\Ad8 (∀j,j<i->eC a v j=false)) a.terms.length
  ⟨0,Ad2,Ad2,rfl,rfl,rfl,rfl,Xs,fun j hj=>Ad2⟩ ?_
 rintro m s A' ⟨i,rfl,hi,h1,h8,h9,am,hK,ac⟩;by_cases ae:i<a.terms.length
 ·have aa:=Aav ae;obtain⟨r,hd⟩:=Se aa;generalize a.terms[i]=w at hd aa;have hv:Ad8 (eC a v i=Uv v w):=by rw[Ad8,eC,aa]
  clear aa;have aj:=hK.nobj;generalize ah:(Bu w).1=w1 at hd;generalize af:(Bu w).2=w2 at hd;have ad:Ad8 (Uv v w=(w1&&w2==v)):=by rw[Ad8,Uv,ah,af]
  clear ah af
  repeat' (first|refine Z1 ?_|(refine Z8 ?_;intro ya J)|(refine Z4 ?_;clear J ya)|(refine Z2 ?_ ?_<;>intro h ab<;>try exact Xp)|refine Z3 ?_|exact Zt|(apply J.out;clear J ya))
  ·exact⟨_,rfl,by rw[Fj ae (by rw[hv.out,ad.out];simp[*]) ac.out],Xs⟩
  all_goals exact⟨a.terms.length-(i+1),Ad2,i+1,rfl,Ad2,by simp,Xs,Ju ac.out (by rw[hv.out,ad.out];simp[*])⟩
 ·have ai:i=a.terms.length:=Ad2;subst ai
  repeat' (first|refine Z1 ?_|(refine Z8 ?_;intro ya J)|(refine Z4 ?_;clear J ya)|(refine Z2 ?_ ?_<;>intro h ab<;>try exact Xp)|refine Z3 ?_|exact Zt|(apply J.out;clear J ya))
  first|exact⟨_,rfl,by rw[Cf ac.out],hK⟩|exact⟨_,rfl,by rw[Cf ac.out]⟩
theorem iO {α:Type}(l:List α)(q:α->Bool)(p:Nat->Bool)(hp:∀i,p i=match l[i]? with|some w=>q w|none=>false):(decide (A9 p l.length≠ -1))=l.any q:=by
 by_cases h:l.any q=true
 ·rw[h];rw[Ab0]at h;obtain⟨w,hw,hq⟩:=h;obtain⟨i,hi,he⟩:=List.getElem_of_mem hw;by_cases hN:A9 p l.length= -1
  ·exfalso;unfold A9 at hN;split at hN
   ·omega
   ·rename_i hf;rw[Ab6]at hf;have:=hf i (by simpa using hi);rw[hp,Aav hi,he]at this;simp[hq]at this
  ·simpa using hN
 ·have h:l.any q=false:=by simpa using h
  rw[h,Cf (fun i hi=>by
   rw[hp,Aav hi];rw[Ab4]at h
   simpa using h l[i] (Ab1 hi))]
  simp
theorem nM (k:Int)(ids:Nat)(a:RAtom)(v:Int)(hn:a.terms.length<=1000)(A:St):ACalls Tryz.prog 199 [ag [sc (.int .i64 k),sl ids a.terms.length (A8 a.terms)],sc (.int .i64 v)] A fun r A'=>r=sc (.bool (a.terms.any (Uv v)))/\Keep A A':=by
 have hF:=iO a.terms (Uv v) (eC a v) (fun i=>by unfold eC;cases a.terms[i]?<;>rfl);refine Z9 9 [.tmp 4] Tryz.func199 ?_
 repeat' (first|refine Z1 ?_|(refine Z8 ?_;intro ya J)|(refine Z4 ?_;clear J ya)|(refine Z2 ?_ ?_<;>intro h aa<;>try exact Xp)|(refine Z5 ?_;refine Xi (cU _ _ a v hn _) ?_;rintro _ _ ⟨rfl,ab⟩)|refine Z3 ?_|exact Zt|(apply J.out;clear J ya))
 refine⟨_,rfl,?_,Xs⟩;rw[<-hF,show (A9 (eC a v) a.terms.length != -1)=decide (A9 (eC a v) a.terms.length≠ -1)from by rw[Acv];simp]
def H0 (x:RItem)(v:Int):Bool:=x.body.any fun a=>!a.nt&&a.terms.any (Uv v)
theorem cW (N:List Tx)(x:RItem)(c:List AV)(v:Int)(hc:PI N x c)(hx:x.fits)(A:St):ACalls Tryz.prog 161 [ag c,sc (.int .i64 v)] A fun r A'=>r=sc (.bool (H0 x v))/\Keep A A':=by
 obtain⟨hm,ih,id,b,hb,rfl⟩:=hc;have am:=EL.length K8 hb;obtain⟨ak,aj,af⟩:=hx;refine Z9 24 [.tmp 4] Tryz.func161 ?_
 repeat' (first|refine Z1 ?_|(refine Z8 ?_;intro ya J)|(refine Z4 ?_;clear J ya)|(refine Z2 ?_ ?_<;>intro h ab<;>try exact Xp)|refine Z3 ?_|exact Zt|(apply J.out;clear J ya))
 refine Ab (fun m s A'=>∃i:Nat,m=x.body.length-i/\i<=x.body.length/\s 1=sc (.int .i64 v)/\s 8=sl id x.body.length b/\s 9=sc (.int .i64 x.body.length)/\s 10=sc (.int .i64 i)/\Keep A A'/\Ad8 ((x.body.take i).any (fun a=>!a.nt&&a.terms.any (Uv v))=false)) x.body.length
  ⟨0,Ad2,Ad2,rfl,rfl,rfl,rfl,Xs,by simp[Ad8]⟩ ?_
 rintro m s A' ⟨i,rfl,hi,h1,h8,h9,ao,hK,ac⟩;by_cases ae:i<x.body.length
 ·have aa:=Aav ae;have ad:=af x.body[i] (Ab1 ae);obtain⟨ha,ia,r,hd⟩:=fJ hb aa;generalize x.body[i]=a at hd aa ha ad;have HG:Ad8 (x.body[i]?=some a):=aa;clear aa;have ai:=hK.nobj
  repeat' (first|refine Z1 ?_|(refine Z8 ?_;intro ya J)|(refine Z4 ?_;clear J ya)|(refine Z2 ?_ ?_<;>intro h ab<;>try exact Xp)|(refine Z5 ?_;refine Xi (nM _ _ a v ad _) ?_;rintro _ _ ⟨rfl,an⟩)|refine Z3 ?_|exact Zt|(apply J.out;clear J ya))
  ·exact⟨_,rfl,by rw[H0,Dq _ HG.out (by simp[*])],Xs⟩
  all_goals
   refine⟨x.body.length-(i+1),Ad2,i+1,rfl,Ad2,by simp,Xs,?_⟩;rw[Ad8,any_take_succ _ HG.out,ac.out];simp[*]
 ·have ah:i=x.body.length:=Ad2;subst ah;rw[Aa3]at ac
  repeat' (first|refine Z1 ?_|(refine Z8 ?_;intro ya J)|(refine Z4 ?_;clear J ya)|(refine Z2 ?_ ?_<;>intro h ab<;>try exact Xp)|refine Z3 ?_|exact Zt|(apply J.out;clear J ya))
  first|exact⟨_,rfl,by rw[H0,ac.out],hK⟩|exact⟨_,rfl,by rw[H0,ac.out]⟩
def Mi (x:RItem):Bool:=!(Af x).any fun a=>a.terms.any fun w=>(Bu w).1&&!H0 x (Bu w).2
theorem gT (N:List Tx)(x:RItem)(c:List AV)(hc:PI N x c)(ho:x.out=true->x.body=[])(hx:x.fits)(A:St):ACalls Tryz.prog 107 [ag c] A fun r A'=>r=sc (.bool (Mi x))/\Keep A A':=by
 have hA:=Kt N x c hc ho (by have:=hx.1;omega);have hB:=fun v=>cW N x c v hc hx;obtain⟨hm,ih,id,b,hb,rfl⟩:=hc;have a5:=EL.length K8 hb;have a6:=hx.atoms;have a0:∀a∈Af x,a.terms.length<=1000:=by
  intro a ha;unfold Af at ha;rcases Ab2.1 ha with h|h
  ·split at h
   ·cases h
   ·simp at h;subst h;exact hx.2.1
  ·exact hx.2.2 a h
 refine Z9 32 [.tmp 2] Tryz.func107 ?_
 repeat' (first|refine Z1 ?_|(refine Z8 ?_;intro ya J)|(refine Z4 ?_;clear J ya)|(refine Z2 ?_ ?_<;>intro h ab<;>try exact Xp)|(refine Z5 ?_;refine Xi (hA _) ?_;rintro _ _ ⟨ida,cs,rfl,hE,af⟩;(have ad:=af.obj;have ah:=af.nobj;(try simp only[Aa,Ac,Av]at ah)))|refine Z3 ?_|exact Zt|(apply J.out;clear J ya))
 rename_i A1;have a4:=EL.length Zk hE;have ap:A1.obj A.nobj=[sc (.bool x.out),sc (.int .i64 (N.idxOf x.head.pred:Nat)),sl ih x.head.terms.length (A8 x.head.terms),sl id x.body.length b]:=by rw[ad _ (by rw[Aa];omega),Am]
 have af:Keep (A.new [sc (.bool x.out),sc (.int .i64 (N.idxOf x.head.pred:Nat)),sl ih x.head.terms.length (A8 x.head.terms),sl id x.body.length b]) A1:=af
 refine Ab (fun m s A'=>∃i:Nat,m=(Af x).length-i/\i<=(Af x).length/\s 1=ptr A.nobj 0/\s 8=sl ida (Af x).length cs/\s 9=sc (.int .i64 (Af x).length)/\s 10=sc (.int .i64 i)/\Keep A1 A'/\Ad8 (((Af x).take i).any (fun a=>a.terms.any fun w=>(Bu w).1&&!H0 x (Bu w).2)=false)) (Af x).length
  ⟨0,Ad2,Ad2,rfl,rfl,rfl,rfl,Keep.refl _,by simp[Ad8]⟩ ?_
 rintro m s A' ⟨i,rfl,hi,h1,h8,h9,am,hK,ai⟩;have an:=hK.nobj;have ae:A'.obj A.nobj=[sc (.bool x.out),sc (.int .i64 (N.idxOf x.head.pred:Nat)),sl ih x.head.terms.length (A8 x.head.terms),sl id x.body.length b]:=by rw[hK.obj _ Ad2,ap]
 have a7:Keep A A1:=((Keep.refl A).new _).trans af;clear ad;by_cases au:i<(Af x).length
 ·have aa:=Aav au;have ax:=a0 (Af x)[i] (Ab1 au);obtain⟨ha,ia,r,hd⟩:=tO hE aa;generalize (Af x)[i]=a at hd aa ha ax;have HG:Ad8 ((Af x)[i]?=some a):=aa;clear aa;have a3:=Mc a.terms
  repeat' (first|refine Z1 ?_|(refine Z8 ?_;intro ya J)|(refine Z4 ?_;clear J ya)|(refine Z2 ?_ ?_<;>intro h ab<;>try exact Xp)|refine Z3 ?_|exact Zt|(apply J.out;clear J ya))
  refine Ab (fun m s A'=>∃j:Nat,m=a.terms.length-j/\j<=a.terms.length/\s 1=ptr A.nobj 0/\s 8=sl ida (Af x).length cs/\s 9=sc (.int .i64 (Af x).length)/\s 10=sc (.int .i64 i)/\s 15=sl ia a.terms.length (A8 a.terms)/\s 16=sc (.int .i64 a.terms.length)/\s 17=sc (.int .i64 j)/\Keep A1 A'/\Ad8 ((a.terms.take j).any (fun w=>(Bu w).1&&!H0 x (Bu w).2)=false)) a.terms.length
   ⟨0,Ad2,Ad2,by simp[upd,h1],by simp[upd,h8],by simp[upd,h9],by simp[upd,am],rfl,rfl,rfl,(hK.new _).put hK.nobj _,by simp[Ad8]⟩ ?_
  clear ae hK an h1 h8 h9 am;rintro m s A' ⟨j,rfl,hj,h1,h8,h9,am,bb,ba,a9,hK,ac⟩;have an:=hK.nobj;have ae:A'.obj A.nobj=[sc (.bool x.out),sc (.int .i64 (N.idxOf x.head.pred:Nat)),sl ih x.head.terms.length (A8 x.head.terms),sl id x.body.length b]:=by rw[hK.obj _ Ad2,ap]
  by_cases aj:j<a.terms.length
  ·have aa:=Aav aj;obtain⟨r2,ak⟩:=Se aa;generalize a.terms[j]=w at ak aa;have HW:Ad8 (a.terms[j]?=some w):=aa;clear aa;generalize aw:(Bu w).1=w1 at ak;generalize av:(Bu w).2=w2 at ak;have ao:Ad8 (((Bu w).1&&!H0 x (Bu w).2)=(w1&&!H0 x w2)):=by rw[Ad8,aw,av]
   clear aw av
   repeat' (first|refine Z1 ?_|(refine Z8 ?_;intro ya J)|(refine Z4 ?_;clear J ya)|(refine Z2 ?_ ?_<;>intro h ab<;>try exact Xp)|(refine Z5 ?_;refine Xi (hB _ _) ?_;rintro _ _ ⟨rfl,a8⟩)|refine Z3 ?_|exact Zt|(apply J.out;clear J ya))
   ·exact⟨_,rfl,by rw[Mi,Dq _ HG.out (Dq _ HW.out (by rw[ao.out];simp[*]))];rfl,Xs⟩
   all_goals
    refine⟨a.terms.length-(j+1),Ad2,j+1,rfl,Ad2,by simp,Xs,?_⟩;rw[Ad8,any_take_succ _ HW.out,ac.out,ao.out];simp[*]
  ·have ay:j=a.terms.length:=Ad2;subst ay;rw[Aa3]at ac
   repeat' (first|refine Z1 ?_|(refine Z8 ?_;intro ya J)|(refine Z4 ?_;clear J ya)|(refine Z2 ?_ ?_<;>intro h ab<;>try exact Xp)|refine Z3 ?_|exact Zt|(apply J.out;clear J ya))
   refine⟨(Af x).length-(i+1),Ad2,i+1,rfl,Ad2,by simp,?_⟩;rw[Ad8,any_take_succ _ HG.out,ai.out,ac.out];rfl
 ·have az:i=(Af x).length:=Ad2;subst az;rw[Aa3]at ai
  repeat' (first|refine Z1 ?_|(refine Z8 ?_;intro ya J)|(refine Z4 ?_;clear J ya)|(refine Z2 ?_ ?_<;>intro h ab<;>try exact Xp)|refine Z3 ?_|exact Zt|(apply J.out;clear J ya))
  exact⟨_,rfl,by rw[Mi,ai.out];rfl,Xs⟩
abbrev Fa (N:List Tx)(idn:Nat)(l:List RItem)(idi:Nat)(cs:List AV):AV:=ag [sl idn N.length (N.map str),sl idi l.length cs]
structure Bk (N:List Tx)(l:List RItem)(cs:List AV):Prop where
 el:EL (PI N) l cs
 len:l.length<=16
 fits:∀x∈l,x.fits
 out:∀x∈l,x.out=true->x.body=[]
 nm:N.length<=2000
 pos:∀x∈l,∀a∈Af x,0<a.terms.length
def Lj (l:List RItem)(i:Nat):Bool:=match l[i]? with|some x=>!Mi x|none=>false
theorem PI.of {N:List Tx}{x:RItem}{ih id:Nat}{b:List AV}(hm:x.head.pred∈N)(h:EL (PL N) x.body b):PI N x [sc (.bool x.out),sc (.int .i64 (N.idxOf x.head.pred:Nat)),sl ih x.head.terms.length (A8 x.head.terms),sl id x.body.length b]:=⟨hm,ih,id,b,h,rfl⟩
theorem Pn (N:List Tx)(l:List RItem)(cs:List AV)(idn idi:Nat)(hB:Bk N l cs)(A:St):ACalls Tryz.prog 122 [Fa N idn l idi cs] A fun r A'=>r=sc (.int .i64 (A9 (Lj l) l.length))/\Keep A A':=by
 have ak:=EL.length Iy hB.el;have ah:=hB.len;refine Z9 18 [.tmp 2] Tryz.func122 ?_
 repeat' (first|refine Z1 ?_|(refine Z8 ?_;intro ya J)|(refine Z4 ?_;clear J ya)|(refine Z2 ?_ ?_<;>intro h ab<;>try exact Xp)|refine Z3 ?_|exact Zt|(apply J.out;clear J ya))
 refine Ab (fun m s A'=>∃i:Nat,m=l.length-i/\i<=l.length/\s 6=sl idi l.length cs/\s 7=sc (.int .i64 l.length)/\s 8=sc (.int .i64 i)/\Keep A A'/\Ad8 (∀j,j<i->Lj l j=false)) l.length
  ⟨0,Ad2,Ad2,rfl,rfl,rfl,Xs,fun j hj=>Ad2⟩ ?_
 rintro m s A' ⟨i,rfl,hi,h6,h7,h8,hK,ac⟩;have aj:=hK.nobj;by_cases ad:i<l.length
 ·have aa:=Aav ad;have af:=hB.fits l[i] (Ab1 ad);have ae:=hB.out l[i] (Ab1 ad);obtain⟨hm,ih,id,b,r,hb,hd⟩:=Lb hB.el aa;generalize l[i]=x at hd aa af ae hb hm;have hv:Ad8 (Lj l i=!Mi x):=by rw[Ad8,Lj,aa]
  clear aa
  repeat' (first|refine Z1 ?_|(refine Z8 ?_;intro ya J)|(refine Z4 ?_;clear J ya)|(refine Z2 ?_ ?_<;>intro h ab<;>try exact Xp)|(refine Z5 ?_;refine Xi (gT N x _ (PI.of hm hb) ae af _) ?_;rintro _ _ ⟨rfl,am⟩)|refine Z3 ?_|exact Zt|(apply J.out;clear J ya))
  ·exact⟨_,rfl,by rw[Fj ad (by rw[hv.out];simp[*]) ac.out],Xs⟩
  ·exact⟨l.length-(i+1),Ad2,i+1,rfl,Ad2,by simp,Xs,Ju ac.out (by rw[hv.out];simp[*])⟩
 ·have ai:i=l.length:=Ad2;subst ai
  repeat' (first|refine Z1 ?_|(refine Z8 ?_;intro ya J)|(refine Z4 ?_;clear J ya)|(refine Z2 ?_ ?_<;>intro h ab<;>try exact Xp)|refine Z3 ?_|exact Zt|(apply J.out;clear J ya))
  first|exact⟨_,rfl,by rw[Cf ac.out],hK⟩|exact⟨_,rfl,by rw[Cf ac.out]⟩
def Fl (S:List RAtom)(p:Tx):Nat:=match S.find? (fun a=>a.pred==p)with|some a=>a.terms.length|none=>0
def Dd (S:List RAtom):Prop:=∀b∈S,0<b.terms.length/\b.terms.length=Fl S b.pred
theorem sS (S:List RAtom)(a:RAtom)(p:Tx):Fl (S++[a]) p=match S.find? (fun a=>a.pred==p)with|some b=>b.terms.length|none=>if a.pred=p then a.terms.length else 0:=by
 unfold Fl;rw[List.find?_append];cases hf:S.find? (fun a=>a.pred==p)with
 |some b=>simp
 |none=>by_cases h:a.pred=p<;>simp[h]
theorem T4 {S:List RAtom}(h:Dd S)(p:Tx):Fl S p=0↔S.find? (fun a=>a.pred==p)=none:=by
 unfold Fl;cases hf:S.find? (fun a=>a.pred==p)with
 |none=>simp
 |some b=>
  have hb:=(h b (Acb hf)).1;constructor
  ·intro e;have e:b.terms.length=0:=e;omega
  ·intro e;cases e
theorem Lq {S:List RAtom}(h:Dd S)(a:RAtom):S.any (clash a)=true↔(Fl S a.pred≠0/\Fl S a.pred≠a.terms.length):=by
 rw[Ab0];constructor
 ·rintro⟨b,hb,hc⟩;simp only[clash,Aaz,Adx,Adw]at hc;have:=h b hb;rw[hc.1]at this;omega
 ·rintro⟨h1,h2⟩;have h3:S.find? (fun b=>b.pred==a.pred)≠none:=fun e=>h1 ((T4 h _).2 e);cases hf:S.find? (fun b=>b.pred==a.pred)with
  |none=>exact absurd hf h3
  |some b=>
   have hp:(b.pred==a.pred)=true:=List.find?_some (p:=fun b:RAtom=>b.pred==a.pred) hf;have aa:Fl S a.pred=b.terms.length:=by unfold Fl;rw[hf]
   exact⟨b,Acb hf,by simp only[clash,hp,Aco,Adw];omega⟩
theorem T0 {S:List RAtom}(h:Dd S)(a:RAtom)(p:Tx):Fl (S++[a]) p=if p=a.pred/\Fl S a.pred=0 then a.terms.length else Fl S p:=by
 rw[sS];cases hf:S.find? (fun b=>b.pred==p)with
 |some b=>
  have h1:Fl S p≠0:=fun e=>by rw[T4 h,hf]at e;cases e
  have hx:¬(p=a.pred/\Fl S a.pred=0):=fun e=>h1 (by rw[e.1];exact e.2);have hy:Fl S p=b.terms.length:=by unfold Fl;rw[hf]
  rw[if_neg hx,hy]
 |none=>
  have h1:Fl S p=0:=(T4 h _).2 hf;by_cases e:p=a.pred
  ·subst e;rw[if_pos rfl,if_pos ⟨rfl,h1⟩]
  ·rw[if_neg (fun e'=>e e'.symm),if_neg (by rintro⟨e',-⟩;exact e e'),h1]
theorem Gb {S:List RAtom}{a:RAtom}(h:Dd S)(ha:0<a.terms.length)(hc:S.any (clash a)=false):Dd (S++[a]):=by
 have hn:¬(Fl S a.pred≠0/\Fl S a.pred≠a.terms.length):=fun e=>by rw[<-Lq h a,hc]at e;cases e
 intro b hb;rw[T0 h];rcases Ab2.1 hb with hb|hb
 ·have:=h b hb;refine⟨this.1,?_⟩;by_cases e:b.pred=a.pred/\Fl S a.pred=0
  ·rw[e.1]at this;omega
  ·rw[if_neg e];exact this.2
 ·simp at hb;subst hb;refine⟨ha,?_⟩;by_cases e:Fl S b.pred=0
  ·rw[if_pos ⟨rfl,e⟩]
  ·rw[if_neg (by rintro⟨-,e'⟩;exact e e')];omega
theorem Ty:Dd []:=fun b hb=>by cases hb
def E8 (n:Nat)(cc:Nat->Int):List AV:=(List.range n).map fun i=>sc (.int .i64 (cc i))
theorem Hy (n:Nat)(cc:Nat->Int):(E8 n cc).length=n:=by simp[E8]
theorem E7 {n i:Nat}(cc:Nat->Int)(h:i<n):(E8 n cc)[i]?=some (sc (.int .i64 (cc i))):=by simp[E8,h]
theorem Oh {n i:Nat}(cc:Nat->Int)(v:Int):(E8 n cc).set i (sc (.int .i64 v))=E8 n (fun j=>if j=i then v else cc j):=by
 apply Abd;intro j;rw[Aa4];by_cases hj:j<n
 ·rw[E7 (fun j=>if j=i then v else cc j) hj];by_cases e:i=j
  ·subst e;rw[if_pos rfl,Hy,if_pos hj];simp
  ·rw[if_neg e,E7 _ hj,if_neg (fun e'=>e e'.symm)]
 ·have h1:(E8 n fun j=>if j=i then v else cc j)[j]?=none:=by simp[E8];omega
  have h2:(E8 n cc)[j]?=none:=by simp[E8];omega
  rw[h1,h2];split
  ·rw[Hy];rw[if_neg Ad2]
  ·rfl
theorem Pq (n:Nat):List.replicate n (sc (.int .i64 0))=E8 n fun _=>0:=by
 apply Abd;intro j;by_cases hj:j<n
 ·rw[E7 _ hj];simp[hj]
 ·simp[E8,hj]
theorem Eb {N:List Tx}{p q:Tx}(hp:p∈N)(hq:q∈N)(h:N.idxOf p=N.idxOf q):p=q:=by
 have h1:=List.getElem_idxOf (Acw hp);have h2:=List.getElem_idxOf (Acw hq);rw[<-h1,<-h2];congr 1
def cntsOk (N:List Tx)(S:List RAtom)(cc:Nat->Int):Prop:=∀p∈N,cc (N.idxOf p)=(Fl S p:Nat)
theorem cntsOk.step {N:List Tx}{S:List RAtom}{cc:Nat->Int}{a:RAtom}(h:cntsOk N S cc)(hc:Dd S)(ha:a.pred∈N):
  (cc (N.idxOf a.pred)=0->cntsOk N (S++[a]) (fun j=>if j=N.idxOf a.pred then (a.terms.length:Int)else cc j))/\(cc (N.idxOf a.pred)≠0->cntsOk N (S++[a]) cc):=by
 have h0:=h a.pred ha;constructor
 ·intro e p hp;rw[T0 hc];dsimp only;by_cases ep:p=a.pred
  ·subst ep;rw[if_pos rfl,if_pos ⟨rfl,Ad2⟩]
  ·rw[if_neg (fun e'=>ep (Eb hp ha e')),if_neg (by rintro⟨e',-⟩;exact ep e')];exact h p hp
 ·intro e p hp;rw[T0 hc,if_neg (by rintro⟨-,e'⟩;omega)];exact h p hp
theorem Qr (N:List Tx)(l:List RItem)(cs:List AV)(idn idi:Nat)(hB:Bk N l cs)(A:St):ACalls Tryz.prog 121 [Fa N idn l idi cs] A fun r A'=>r=sc (.int .i64 (A9 (Gs l) l.length))/\Keep A A':=by
 have a3:=EL.length Iy hB.el;have bk:=hB.len;have hN:=hB.nm;refine Z9 52 [.tmp 2] Tryz.func121 ?_
 repeat' (first|refine Z1 ?_|(refine Z8 ?_;intro ya J)|(refine Z4 ?_;clear J ya)|(refine Z2 ?_ ?_<;>intro h ab<;>try exact Xp)|refine Z3 ?_|exact Zt|(apply J.out;clear J ya))
 refine Ab (fun m s A'=>∃(i:Nat) (cc:Nat->Int),m=l.length-i/\i<=l.length/\s 3=fx (A.nobj+1) 0 N.length/\s 13=sl idi l.length cs/\s 14=sc (.int .i64 l.length)/\s 15=sc (.int .i64 i)/\Keep A A'/\A.nobj+1<A'.nobj/\A'.obj (A.nobj+1)=E8 N.length cc/\Ad8 (cntsOk N (Ca l i) cc)/\Ad8 (Dd (Ca l i))/\Ad8 (noO l i)) l.length
  ⟨0,fun _=>0,Ad2,Ad2,?_,rfl,rfl,rfl,Xs,Ad6,?_,?_,by simp[Ad8,Ca,Ty],fun a h=>Ad2⟩ ?_
 ·simp[upd]
 ·show (if A.nobj+1=A.nobj+1 then _ else _)=_;rw[if_pos rfl];exact Pq _
 ·intro p hp;simp[Ca,Fl]
 rintro m s A' ⟨i,cc,rfl,hi,h3,a7,a6,a5,hK,ae,ax,hC,hS,au⟩;have a9:=hK.nobj;by_cases am:i<l.length
 ·have aa:=Aav am;have az:=hB.fits l[i] (Ab1 am);have bb:=hB.out l[i] (Ab1 am);have ba:=hB.pos l[i] (Ab1 am);obtain⟨hm,ih,id,b,r,hb,hd⟩:=Lb hB.el aa;generalize l[i]=x at hd aa az bb hb hm ba;have HX:Ad8 (l[i]?=some x):=aa;clear aa;have b1:=az.atoms
  repeat' (first|refine Z1 ?_|(refine Z8 ?_;intro ya J)|(refine Z4 ?_;clear J ya)|(refine Z2 ?_ ?_<;>intro h ab<;>try exact Xp)|(refine Z5 ?_;refine Xi (Kt N x _ (PI.of hm hb) bb (by have:=az.1;omega) _) ?_;rintro _ _ ⟨ida,cs2,rfl,bg,a4⟩;(have ah:=a4.obj;have ai:=a4.nobj;(try simp only[Aa,Ac,Av]at ai)))|refine Z3 ?_|exact Zt|(apply J.out;clear J ya))
  rename_i A1;have bo:=EL.length Zk bg;have bf:Keep A A1:=Xs;have aj:A1.obj (A.nobj+1)=E8 N.length cc:=by
   rw[ah _ (by simp only[Aa,Ac];omega),Al Ad2,Ai ae];exact ax
  clear ah
  refine Ab (fun m s A'=>∃(j:Nat) (cc:Nat->Int),m=(Af x).length-j/\j<=(Af x).length/\s 3=fx (A.nobj+1) 0 N.length/\s 4=sc (.int .i64 i)/\s 13=sl idi l.length cs/\s 14=sc (.int .i64 l.length)/\s 15=sc (.int .i64 i)/\s 21=sl ida (Af x).length cs2/\s 22=sc (.int .i64 (Af x).length)/\s 23=sc (.int .i64 j)/\Keep A A'/\A.nobj+1<A'.nobj/\A'.obj (A.nobj+1)=E8 N.length cc/\Ad8 (cntsOk N (Bh l x i j) cc)/\Ad8 (Dd (Bh l x i j))/\Ad8 (zK l x i j)) (Af x).length
   ⟨0,cc,Ad2,Ad2,by simp[upd,h3],Ad4,by simp[upd,a7],by simp[upd,a6],by simp[upd,a5],Ad4,rfl,rfl,bf,Ad2,aj,by simpa[Bh]using hC,by simpa[Bh]using hS,fun b h=>Ad2⟩ ?_
  clear aj hK ax hC hS a4 ai a9 h3 a7 a6 a5 ae cc bf;rintro m s A' ⟨j,cc,rfl,hj,h3,h4,a7,a6,a5,b4,b3,b2,hK,ae,ax,hC,hS,ad⟩;have a9:=hK.nobj;by_cases af:j<(Af x).length
  ·have aa:=Aav af;have aw:=ba (Af x)[j] (Ab1 af);obtain⟨ha,ia,r2,bc⟩:=tO bg aa;generalize (Af x)[j]=a at bc aa ha aw;have HA:Ad8 ((Af x)[j]?=some a):=aa;clear aa;have ac:Ad8 (Nw l x i j=(Bh l x i j).any (clash a)):=by rw[Ad8,Nw,HA.out]
   have ay:=Acw ha;have ap:=hC.out.step hS.out ha;have a0:=hC.out a.pred ha;have bd:=E7 cc ay;have an:=fun v=>Oh (n:=N.length) (i:=N.idxOf a.pred) cc v;have bw:=Hy N.length cc;generalize bp:cc (N.idxOf a.pred)=c at bd ap a0;clear bp;generalize N.idxOf a.pred=ix at bc bd ay ap an;have a3:=Lq hS.out a;have bh:Ad8 _:=ap;have av:Ad8 _:=a0;have a8:Ad8 _:=a3;clear ap a0 a3;by_cases ao:(c==0)=true
   ·have b0:((E8 N.length cc).set ix (sc (.int .i64 a.terms.length)))[ix]?=some (sc (.int .i64 a.terms.length)):=by rw[an,E7 _ ay];simp
    have bz:((a.terms.length:Int) !=a.terms.length)=false:=by simp
    have bq:c=0:=by simpa using ao
    have bv:Ad8 _:=an;clear an
    repeat' (first|refine Z1 ?_|(refine Z8 ?_;intro ya J)|(refine Z4 ?_;clear J ya)|(refine Z2 ?_ ?_<;>intro h ab<;>try exact Xp)|refine Z3 ?_|exact Zt|(apply J.out;clear J ya))
    refine Aq Ad (fun _=>True) [8] [0,1,2,3,4,5,6,7] [8] Ad5 (fun _ _ _ h=>h) ?_;intro ya J;refine Z3 ?_
    repeat' (first|refine Z1 ?_|(refine Z8 ?_;intro ya J)|(refine Z4 ?_;clear J ya)|(refine Z2 ?_ ?_<;>intro h ab<;>try exact Xp)|refine Z3 ?_|exact Zt|(apply J.out;clear J ya))
    have ak:(Bh l x i j).any (clash a)=false:=by
     cases hq:(Bh l x i j).any (clash a)with
     |false=>rfl
     |true=>exfalso;have h1:=(a8.out.1 hq).1;have h2:=av.out;omega
    refine⟨(Af x).length-(j+1),Ad2,j+1,_,rfl,Ad2,by simp,((hK.new _).put hK.nobj _).put Ad2 _,Ad2,bv.out _,?_,?_,Ju ad.out (by rw[ac.out];exact ak)⟩
    ·rw[Ad8,Et HA.out];exact bh.out.1 bq
    ·rw[Ad8,Et HA.out];exact Gb hS.out aw ak
   ·have ao:(c==0)=false:=by simpa using ao
    clear an
    repeat' (first|refine Z1 ?_|(refine Z8 ?_;intro ya J)|(refine Z4 ?_;clear J ya)|(refine Z2 ?_ ?_<;>intro h ab<;>try exact Xp)|refine Z3 ?_|exact Zt|(apply J.out;clear J ya))
    refine Aq Ad (fun _=>True) [8] [0,1,2,3,4,5,6,7] [8] Ad5 (fun _ _ _ h=>h) ?_;intro ya J;refine Z3 ?_
    repeat' (first|refine Z1 ?_|(refine Z8 ?_;intro ya J)|(refine Z4 ?_;clear J ya)|(refine Z2 ?_ ?_<;>intro h ab<;>try exact Xp)|refine Z3 ?_|exact Zt|(apply J.out;clear J ya))
    ·have be:c≠0:=by simpa using ao
     have br:c≠a.terms.length:=by simpa using h
     have bn:=a8.out.2 ⟨by have:=av.out;omega,by have:=av.out;omega⟩;have bj:Gs l i=true:=by
      unfold Gs;rw[HX.out];dsimp only;rw[Ab0];exact⟨j,by simpa using af,by rw[ac.out];exact bn⟩
     exact⟨_,rfl,by rw[Fj am bj au.out],(hK.new _).put hK.nobj _⟩
    ·have be:c≠0:=by simpa using ao
     have br:c=a.terms.length:=by simpa using h
     have ak:(Bh l x i j).any (clash a)=false:=by
      cases hq:(Bh l x i j).any (clash a)with
      |false=>rfl
      |true=>exfalso;have h1:=(a8.out.1 hq).2;have h2:=av.out;omega
     refine⟨(Af x).length-(j+1),Ad2,j+1,cc,rfl,Ad2,by simp,(hK.new _).put hK.nobj _,Ad2,rfl,?_,?_,Ju ad.out (by rw[ac.out];exact ak)⟩
     ·rw[Ad8,Et HA.out];exact bh.out.2 be
     ·rw[Ad8,Et HA.out];exact Gb hS.out aw ak
  ·have bl:j=(Af x).length:=Ad2;subst bl
   repeat' (first|refine Z1 ?_|(refine Z8 ?_;intro ya J)|(refine Z4 ?_;clear J ya)|(refine Z2 ?_ ?_<;>intro h ab<;>try exact Xp)|refine Z3 ?_|exact Zt|(apply J.out;clear J ya))
   have bi:Bh l x i (Af x).length=Ca l (i+1):=by rw[Wg HX.out];simp[Bh]
   rw[bi]at hC hS;refine⟨l.length-(i+1),Ad2,i+1,cc,rfl,Ad2,by simp,rfl,hC,hS,Ju au.out ?_⟩;unfold Gs;rw[HX.out];dsimp only;rw[Ab4];intro b hb;have bu:=ad.out b (by simpa using hb);simp[bu]
 ·have bm:i=l.length:=Ad2;subst bm
  repeat' (first|refine Z1 ?_|(refine Z8 ?_;intro ya J)|(refine Z4 ?_;clear J ya)|(refine Z2 ?_ ?_<;>intro h ab<;>try exact Xp)|refine Z3 ?_|exact Zt|(apply J.out;clear J ya))
  first|exact⟨_,rfl,by rw[Cf au.out],hK⟩|exact⟨_,rfl,by rw[Cf au.out]⟩
end Go.Proofs.YtmoeoppbmhfbpaaGreatDoorH
