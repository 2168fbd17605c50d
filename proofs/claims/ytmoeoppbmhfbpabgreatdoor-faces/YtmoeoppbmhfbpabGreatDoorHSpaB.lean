import Derived.Test.YtmoeoppbmhfbpabGreatDoorHPrtH
import Derived.Test.YtmoeoppbmhfbpabGreatDoorHAbsWp
import Derived.Test.YtmoeoppbmhfbpabGreatDoorHPrtF
set_option linter.all false
namespace Go.Proofs.YtmoeoppbmhfbpabGreatDoorH
set_option maxHeartbeats 32000000
open Go.Abs
set_option maxRecDepth 100000
def Gx (x:RItem)(k:Nat):RItem:={out:=false,head:=x.head,body:=x.body.eraseIdx k}
def Uh (ls:List RAtom)(k n:Nat):List RAtom:=(ls.take n).eraseIdx k
theorem uD {ls:List RAtom}{k n:Nat}{a:RAtom}(h:ls[n]?=some a)(hk:n≠k):Uh ls k (n+1)=Uh ls k n++[a]:=by
 have hn:=(List.getElem?_eq_some_iff.1 h).1;have hl:(ls.take n).length=n:=by rw[Ab3];omega
 unfold Uh;rw[Abq,h,Ac2];by_cases aa:k<n
 ·rw[List.eraseIdx_append_of_lt_length Ad2]
 ·rw[Ac6 (by rw[Ab2,hl];simp;omega),Ac6 Ad2]
theorem oR {ls:List RAtom}{k:Nat}{a:RAtom}(h:ls[k]?=some a):Uh ls k (k+1)=Uh ls k k:=by
 have hn:=(List.getElem?_eq_some_iff.1 h).1;have hl:(ls.take k).length=k:=by rw[Ab3];omega
 unfold Uh;have e:(ls.take k).eraseIdx k=ls.take k:=Ac6 Ad2;rw[e,Abq,h,Ac2,List.eraseIdx_append_of_length_le Ad2,hl,Acr];simp
theorem uB (ls:List RAtom)(k n:Nat):(Uh ls k n).length<=n:=by
 unfold Uh;have h1:=Ac7 (ls.take n) k;rw[Ab3]at h1;omega
theorem uC (ls:List RAtom)(k:Nat):Uh ls k ls.length=ls.eraseIdx k:=by unfold Uh;rw[Abn]
theorem Ly (N:List Tx)(x:RItem)(c:List AV)(k:Nat)(hc:PI N x c)(hn:x.body.length<=1000)(q:St):ACalls Tryz.prog 145 [ag c,sc (.int .i64 k)] q fun r q'=>∃c',r=ag c'/\PI N (Gx x k) c'/\Keep q q':=by
 obtain⟨hm,ih,id,b,hb,rfl⟩:=hc;have a4:=EL.length Dm hb;refine Z9 30 [.cell 4 125] Tryz.func145 ?_
 repeat' (first|refine Z1 ?_|(refine Z8 ?_;intro κ hκ)|(refine Z4 ?_;clear hκ κ)|(refine Z2 ?_ ?_<;>intro h af<;>try exact Xp)|(refine Z6 ?_;intro idn qn aj ak ad aa ac ab)|refine Z3 ?_|exact⟨⟩|(apply hκ.out;clear hκ κ))
 refine Ad (fun m s q'=>∃(n i3:Nat) (xs:List AV),m=x.body.length-n/\n<=x.body.length/\s 1=sc (.int .i64 k)/\s 4=ptr (q.nobj+1) 0/\s 5=ptr (q.nobj+2) 0/\s 12=sl id x.body.length b/\s 13=sc (.int .i64 x.body.length)/\s 14=sc (.int .i64 n)/\Keep q q'/\q.nobj+2<q'.nobj/\q'.obj (q.nobj+1)=[sc (.bool false),sc (.int .i64 0),nilS,nilS]/\q'.obj (q.nobj+2)=[sc (.bool false),sc (.int .i64 (N.idxOf x.head.pred:Nat)),sl ih x.head.terms.length (Aw x.head.terms),sl i3 (Uh x.body k n).length xs]/\Own q q' i3 (Uh x.body k n).length/\xs.length=(Uh x.body k n).length*3/\Ad8 (EL (PL N) (Uh x.body k n) xs)) x.body.length
  ⟨0,1,[],Ad2,Ad2,by simp[upd,initS],Ad4,Ad4,Ad4,Ad4,rfl,Xs,Ad7,?_,?_,Own.nil _ _,by simp[Uh],by simp[Ad8,Uh,EL]⟩ ?_
 ·rw[Ai Ad2,Ae Ad6,Bp Ad6 Ad6]
 ·rw[show q.nobj+2=q.nobj+1+1 by omega,Aj];simp[Uh]
 rintro m s q' ⟨n,i3,xs,rfl,a3,h1,h4,h5,a7,a6,a5,hK,a0,ay,ao,hO,am,hX⟩;have az:=hK.nobj;have au:=uB x.body k n;by_cases ax:n<x.body.length
 ·have ae:=List.getElem?_eq_getElem ax;obtain⟨ha,ia,r,hd⟩:=L4 hb ae;generalize x.body[n]=a at hd ae ha;have HG:Ad8 (x.body[n]?=some a):=ae;clear ae;generalize ap:Uh x.body k n=wl at ao hO am hX au;have ar:Ad8 _:=ap;clear ap;by_cases ai:n=k
  ·have aw:((n:Int) !=(k:Int))=false:=by simp[ai]
   have ah:Ad8 (Uh x.body k (n+1)=wl):=by
    rw[Ad8,<-ar.out,ai];exact oR (by rw[<-ai];exact HG.out)
   clear ai
   repeat' (first|refine Z1 ?_|(refine Z8 ?_;intro κ hκ)|(refine Z4 ?_;clear hκ κ)|(refine Z2 ?_ ?_<;>intro h af<;>try exact Xp)|(refine Z6 ?_;intro idn qn aj ak ad aa ac ab)|refine Z3 ?_|exact⟨⟩|(apply hκ.out;clear hκ κ))
   exact⟨x.body.length-(n+1),Ad2,n+1,i3,xs,rfl,Ad2,by simp,(hK.new _).put hK.nobj _,Ad2,by rw[ah.out],by rw[ah.out];exact Own.put (Own.new hO _) _ _,by rw[ah.out];exact am,by rw[Ad8,ah.out];exact hX.out⟩
  ·have aw:((n:Int) !=(k:Int))=true:=by simp;omega
   have ah:Ad8 (Uh x.body k (n+1)=wl++[a]):=by
    rw[Ad8,<-ar.out];exact uD HG.out ai
   clear ai
   repeat' (first|refine Z1 ?_|(refine Z8 ?_;intro κ hκ)|(refine Z4 ?_;clear hκ κ)|(refine Z2 ?_ ?_<;>intro h af<;>try exact Xp)|(refine Z6 ?_;intro idn qn aj ak ad aa ac ab)|refine Z3 ?_|exact⟨⟩|(apply hκ.out;clear hκ κ))
   refine Bj (by first|exact D5) ((hK.new _).put hK.nobj _) (Own.put (Own.new hO _) _ _) (by decide) (by rfl) am (by rfl) (by rfl) (by decide) Ad2 Ad2 ?_;intro idn qn aj ak ad aa ac ab;simp only[Ab,Aa]at aa;have an:Ad8 ((Uh x.body k (n+1)).length=wl.length+1):=by rw[Ad8,ah.out];simp
   refine Z3 ?_
   repeat' (first|refine Z1 ?_|(refine Z8 ?_;intro κ hκ)|(refine Z4 ?_;clear hκ κ)|(refine Z2 ?_ ?_<;>intro h af<;>try exact Xp)|(refine Z6 ?_;intro idn qn aj ak ad aa ac ab)|refine Z3 ?_|exact⟨⟩|(apply hκ.out;clear hκ κ))
   refine⟨x.body.length-(n+1),Ad2,n+1,idn,xs++[sc (.bool a.nt),sc (.int .i64 (N.idxOf a.pred:Nat)),sl ia a.terms.length (Aw a.terms)],rfl,Ad2,by simp,ak.put Ad2 _,Ad2,by rw[an.out],by rw[an.out];exact Own.put aj _ _,by rw[an.out];simp;omega,?_⟩;rw[Ad8,ah.out];exact EL.append hX.out (EL.single ⟨ha,ia,rfl⟩)
 ·have av:n=x.body.length:=Ad2;subst av;rw[uC]at ao hX
  repeat' (first|refine Z1 ?_|(refine Z8 ?_;intro κ hκ)|(refine Z4 ?_;clear hκ κ)|(refine Z2 ?_ ?_<;>intro h af<;>try exact Xp)|(refine Z6 ?_;intro idn qn aj ak ad aa ac ab)|refine Z3 ?_|exact⟨⟩|(apply hκ.out;clear hκ κ))
  exact⟨_,rfl,_,rfl,⟨hm,ih,i3,xs,hX.out,rfl⟩,hK.put Ad2 _⟩
theorem U1 (o:Option Sw):∃s b,M5 o=tp [ag (Da s),sc (.bool b)]/\(b=false->o=none)/\(b=true->∃s',o=some s'):=by
 cases o with
 |none=>exact⟨J3,false,rfl,fun _=>rfl,fun h=>by cases h⟩
 |some s=>exact⟨s,true,rfl,(fun h=>by cases h),fun _=>⟨s,rfl⟩⟩
def fB (L:List Lt)(rest:List Lt)(s:Sw)(x b:Lt):Option Sw:=if b.nt=x.nt/\x.pr=b.pr then (Cp s x.es b.es).bind (Kj L rest)else none
theorem sD {α β:Type}{f:α->Option β}{l:List α}{i:Nat}{b:α}{r:β}(h0:∀j,j<i->∀c,l[j]?=some c->f c=none)(hb:l[i]?=some b)(hf:f b=some r):l.findSome? f=some r:=by
 rw[List.findSome?_eq_some_iff];obtain⟨hi,rfl⟩:=List.getElem?_eq_some_iff.1 hb;refine⟨l.take i,l[i],l.drop (i+1),by rw[<-Acd hi,Ac8],hf,fun c hc=>?_⟩;obtain⟨j,hj⟩:=List.getElem?_of_mem hc;rw[List.getElem?_take]at hj;split at hj
 ·rename_i aa;exact h0 j aa c hj
 ·cases hj
theorem nO {α β:Type}{f:α->Option β}{l:List α}(h0:∀j,j<l.length->∀c,l[j]?=some c->f c=none):l.findSome? f=none:=by
 rw[List.findSome?_eq_none_iff];intro c hc;obtain⟨j,hj⟩:=List.getElem?_of_mem hc;exact h0 j (List.getElem?_eq_some_iff.1 hj).1 c hj
def OkA (left:List RAtom)(a:RAtom):Prop:=a.terms.length<=1000/\(∀t∈a.terms,varOk t)/\∀b∈left,a.pred=b.pred->a.terms.length=b.terms.length
theorem mZ (N:List Tx)(left:List RAtom)(cl:List AV)(idl:Nat)(hL:EL (PL N) left cl)(cd:left.length<=1000):∀(lits:List RAtom) (cs:List AV) (ids:Nat) (s:Sw) (q:St),EL (PL N) lits cs->lits.length<=1000->(∀a∈lits,OkA left a)->
  ACalls Tryz.prog 148 [ag (Da s),sl ids lits.length cs,sl idl left.length cl] q fun r q'=>r=M5 (Kj (left.map (Jz Ap N)) (lits.map (Jz Ap N)) s)/\Keep q q':=by
 have b7:=Co;have b6:=Nc;have b5:∀s,List.take 78 (Da s)=Da s:=fun s=>Acl (by rw[Co];exact Abb _);have cb:∀s s',lsp (Da s) 0 (Da s')=Da s':=fun s s'=>Ld (by rw[Co,Co]);have ce:∀s,(Da s).all flat=true:=fun s=>by
  rw[Abg];intro x hx;obtain⟨n,-,rfl⟩:=Acm.1 hx;unfold aL;split
  ·rfl
  ·split<;>rfl
 have bu:=EL.length Dm hL;intro lits;induction lits with
 |nil=>
  intro cs ids s q hE _ _;have br:cs=[]:=hE;subst br;have hR:M5 (Kj (left.map (Jz Ap N)) (([]:List RAtom).map (Jz Ap N)) s)=tp [ag (Da s),sc (.bool true)]:=rfl;rw[hR];clear hR;refine Z9 55 [.cell 6 154,.tmp 7] Tryz.func148 ?_
  repeat' (first|refine Z1 ?_|(refine Z8 ?_;intro κ hκ)|(refine Z4 ?_;clear hκ κ)|(refine Z2 ?_ ?_<;>intro h aa<;>try exact Xp)|refine Z3 ?_|exact⟨⟩|(apply hκ.out;clear hκ κ))
  exact⟨_,rfl,rfl,Xs⟩
 |cons a lits ih=>
  intro cs ids s q hE hn a3;have a5:=EL.length Dm hE;obtain⟨c0,d,⟨bz,ia,rfl⟩,hd,rfl⟩:=hE;have cf:=EL.length Dm hd;obtain⟨bw,bv,b0⟩:=a3 a (by simp);have ak:∀a∈lits,OkA left a:=fun a' h=>a3 a' (by simp[h]);have bo:lits.length<=1000:=by simp at hn;omega
  have ih:=fun s q=>ih d 0 s q hd bo ak;clear a3 ak hn;have hR:Ad8 (Kj (left.map (Jz Ap N)) ((a::lits).map (Jz Ap N)) s=(left.map (Jz Ap N)).findSome? (fB (left.map (Jz Ap N)) (lits.map (Jz Ap N)) s (Jz Ap N a))):=rfl;rw[hR.out];generalize bg:fB (left.map (Jz Ap N)) (lits.map (Jz Ap N)) s (Jz Ap N a)=fb;have bi:Ad8 _:=bg;clear bg hR;simp only[Aca,Acg,Aci]at a5⊢;refine Z9 55 [.cell 6 154,.tmp 7] Tryz.func148 ?_
  repeat' (first|refine Z1 ?_|(refine Z8 ?_;intro κ hκ)|(refine Z4 ?_;clear hκ κ)|(refine Z2 ?_ ?_<;>intro h aa<;>try exact Xp)|refine Z3 ?_|exact⟨⟩|(apply hκ.out;clear hκ κ))
  refine Ad (fun m s0 q'=>∃i:Nat,m=left.length-i/\i<=left.length/\s0 1=sl ids (lits.length+1) (sc (.bool a.nt)::sc (.int .i64 (N.idxOf a.pred:Nat))::sl ia a.terms.length (Aw a.terms)::d)/\s0 2=sl idl left.length cl/\s0 3=ptr q.nobj 0/\s0 6=ptr (q.nobj+1) 0/\s0 8=ptr (q.nobj+2) 0/\s0 21=sl idl left.length cl/\s0 22=sc (.int .i64 left.length)/\s0 23=sc (.int .i64 i)/\Keep q q'/\q.nobj+2<q'.nobj/\q'.obj q.nobj=Da s/\q'.obj (q.nobj+1)=Da J3/\q'.obj (q.nobj+2)=[sc (.bool a.nt),sc (.int .i64 (N.idxOf a.pred:Nat)),sl ia a.terms.length (Aw a.terms)]/\Ad8 (∀j,j<i->∀c,(left.map (Jz Ap N))[j]?=some c->fb c=none)) left.length
   ⟨0,Ad2,Ad2,by simp[upd,initS],by simp[upd,initS],Ad4,Ad4,Ad4,Ad4,Ad4,rfl,Xs,by simp only[Aa,Ab];omega,?_,?_,?_,fun j hj=>Ad2⟩ ?_
  ·rw[Ai Ad2,Ae Ad6,Ae Ad6,Am]
  ·rw[Ai Ad2,Ae Ad6,Bp Ad6 Ad6]
  ·rw[show q.nobj+2=q.nobj+1+1 by omega,Aj]
  rintro m s0 q' ⟨i,rfl,hi,h1,h2,h3,h6,h8,au,ar,ap,hK,ca,ax,aw,av,a7⟩;have b3:=hK.nobj;by_cases be:i<left.length
  ·have ae:=List.getElem?_eq_getElem be;have a6:=Acz be;have bf:=b0 left[i] a6;obtain⟨hb,ib,r,bq⟩:=L4 hL ae;have a8:(left.map (Jz Ap N))[i]?=some (Jz Ap N left[i]):=by rw[List.getElem?_map,ae];rfl
   generalize left[i]=b at bq ae hb bf a8 a6;have bh:Ad8 _:=a8;clear ae a8 a6;have ac:Ad8 (fb (Jz Ap N b)=none->∀j,j<i+1->∀c,(left.map (Jz Ap N))[j]?=some c->fb c=none):=fun h j hj c hc=>by
    by_cases e:j=i
    ·subst e;rw[bh.out]at hc;cases hc;exact h
    ·exact a7.out j Ad2 c hc
   have bm:N.idxOf a.pred=N.idxOf b.pred->a.terms.length=b.terms.length:=fun h=>bf (G3 bz hb h);by_cases hnt:b.nt=a.nt
   ·have bn:(b.nt==a.nt)=true:=by simp[hnt]
    have ai:=fun q=>U0 s (N.idxOf a.pred:Nat) (N.idxOf b.pred:Nat) a.terms b.terms ia ib (fun h=>bm Ad2) bw bv q;have am:Ad8 (fb (Jz Ap N b)=(if ((N.idxOf a.pred:Nat):Int)=((N.idxOf b.pred:Nat):Int)then Cp s (a.terms.map Ap) (b.terms.map Ap)else none).bind (Kj (left.map (Jz Ap N)) (lits.map (Jz Ap N)))):=by
     rw[Ad8,<-bi.out];unfold fB Jz;dsimp only;by_cases hp:N.idxOf a.pred=N.idxOf b.pred
     ·rw[if_pos ⟨hnt,hp⟩,if_pos Ad2]
     ·rw[if_neg (fun h=>hp h.2),if_neg Ad2];rfl
    generalize (if ((N.idxOf a.pred:Nat):Int)=((N.idxOf b.pred:Nat):Int)then Cp s (a.terms.map Ap) (b.terms.map Ap)else none)=ow at ai am;cases ow with
    |none=>
     simp only[M5]at ai;have a4:Ad8 (fb (Jz Ap N b)=none):=am
     repeat' (first|refine Z1 ?_|(refine Z8 ?_;intro κ hκ)|(refine Z4 ?_;clear hκ κ)|(refine Z2 ?_ ?_<;>intro h aa<;>try exact Xp)|(refine Z5 ?_;refine Xi (ai _) ?_;rintro _ _ ⟨rfl,af⟩;(have ab:=af.obj;have ah:=af.nobj;simp only[Aa,Ab]at ah))|refine Z3 ?_|exact⟨⟩|(apply hκ.out;clear hκ κ))
     exact⟨left.length-(i+1),Ad2,i+1,rfl,Ad2,by simp,(((((hK.new _).put hK.nobj _).trans af).new _).put Ad2 _),Ad2,ac.out a4.out⟩
    |some s1=>
     simp only[M5]at ai;have ao:=ih s1;obtain⟨sr,okr,az,bc,bb⟩:=U1 (Kj (left.map (Jz Ap N)) (lits.map (Jz Ap N)) s1);rw[az]at ao;have HW:Ad8 (M5 (fb (Jz Ap N b))=tp [ag (Da sr),sc (.bool okr)]/\(okr=false->fb (Jz Ap N b)=none)/\(okr=true->∃s',fb (Jz Ap N b)=some s')):=by
      rw[Ad8,am.out];exact⟨az,bc,bb⟩
     clear az bc bb am
     repeat' (first|refine Z1 ?_|(refine Z8 ?_;intro κ hκ)|(refine Z4 ?_;clear hκ κ)|(refine Z2 ?_ ?_<;>intro h aa<;>try exact Xp)|(refine Z5 ?_;refine Xi (ai _) ?_;rintro _ _ ⟨rfl,af⟩;(have ab:=af.obj;have ah:=af.nobj;simp only[Aa,Ab]at ah))|refine Z3 ?_|exact⟨⟩|(apply hκ.out;clear hκ κ))
     rename_i q2;have a9:Keep q ((q2.new (Da J3)).put q2.nobj (Da s1)):=((((hK.new _).put hK.nobj _).trans af).new _).put Ad2 _;have tno:((q2.new (Da J3)).put q2.nobj (Da s1)).nobj=q2.nobj+1:=rfl;have tob:((q2.new (Da J3)).put q2.nobj (Da s1)).obj q2.nobj=Da s1:=Aj;have tob0:((q2.new (Da J3)).put q2.nobj (Da s1)).obj q.nobj=Da s:=by rw[Ai Ad2,Ae Ad2,ab _ Ad7,Ai Ad2,Ae Ad2,ax]
     have tob1:((q2.new (Da J3)).put q2.nobj (Da s1)).obj (q.nobj+1)=Da J3:=by rw[Ai Ad2,Ae Ad2,ab _ Ad7,Ai Ad2,Ae Ad2,aw]
     have tob2:((q2.new (Da J3)).put q2.nobj (Da s1)).obj (q.nobj+2)=[sc (.bool a.nt),sc (.int .i64 (N.idxOf a.pred:Nat)),sl ia a.terms.length (Aw a.terms)]:=by rw[Ai Ad2,Ae Ad2,ab _ Ad7,Ai Ad2,Ae Ad2,av]
     generalize (q2.new (Da J3)).put q2.nobj (Da s1)=τ at a9 tno tob tob0 tob1 tob2;clear af ab ai ax aw av hK;refine Br (Q:=fun e s' q'=>e= .normal/\∃o:Nat,s' 1=sl ids (lits.length+1) (sc (.bool a.nt)::sc (.int .i64 (N.idxOf a.pred:Nat))::sl ia a.terms.length (Aw a.terms)::d)/\s' 2=sl idl left.length cl/\s' 3=ptr q.nobj 0/\s' 6=ptr (q.nobj+1) 0/\s' 8=ptr (q.nobj+2) 0/\s' 21=sl idl left.length cl/\s' 22=sc (.int .i64 left.length)/\s' 23=sc (.int .i64 i)/\s' 12=sc (.bool okr)/\s' 13=ptr o 0/\τ.nobj<=o/\o<q'.nobj/\q'.obj o=Da sr/\Keep τ q') ?_ ?_
     ·refine A4 Ak (fun _=>True) [10] [0,1,2,3] 7 #[true,true,true,true,false,false,false,false,false,false,false] Ad5 (fun _ _ _ h=>by cases h.1) ?_;intro κ hκ;refine Z3 ?_;refine hκ.out _ ?_;clear hκ κ;refine Dy (rs:=[4,8]) Ad5 (by simp) ?_;intro j hj;simp only[Ace,Acx,Adz]at hj;rcases hj with rfl|rfl
      ·refine Aq ?_;intro κ hκ;refine Z3 ?_;refine ACalls.mono (ao _) ?_;rintro _ q5 ⟨rfl,KK⟩;have aj:=KK.nobj;refine Z3 ?_;refine hκ.out _ _ ⟨Ao KK,?_⟩;clear hκ κ;refine G5 (i:=5) _ (tp [ag (Da sr),sc (.bool okr)]) rfl rfl rfl rfl rfl Ad5 Ad5 (fun _ _ _ h=>by cases h.1) (fun o ho _=>KK.ver o ho) ?_;refine G5 (i:=6) _ (ag (Da sr)) rfl rfl rfl rfl rfl Ad5 Ad5 (fun _ _ _ h=>by cases h.1) (fun o ho _=>KK.ver o ho) ?_;refine G5 (i:=7) _ (sc (.bool okr)) rfl rfl rfl rfl rfl Ad5 Ad5 (fun _ _ _ h=>by cases h.1) (fun o ho _=>KK.ver o ho) ?_;refine Al (i:=8) Ad5 ?_;refine Aq ?_;intro κ hκ;refine Z3 ?_;refine hκ.out _ _ ⟨Ao (KK.new _),?_⟩;clear hκ κ;refine Al (i:=9) Ad5 ?_;refine Aq ?_;intro κ hκ;refine Z3 ?_;refine hκ.out _ _ ⟨Ao ((KK.new _).put Ad2 _),?_⟩;clear hκ κ;refine Al (i:=10) Ad5 ?_;refine Aq ?_;intro κ hκ;refine Z3 ?_;refine hκ.out _ _ ⟨Bo rfl,?_⟩;clear hκ κ;refine A7 Ad5 ⟨rfl,q5.nobj,by simp[upd,aput,h1],by simp[upd,aput,h2],by simp[upd,aput,h3],by simp[upd,aput,h6],by simp[upd,aput,h8],by simp[upd,aput,au],by simp[upd,aput,ar],by simp[upd,aput,ap],by simp[upd,aput],by simp[upd,aput],Ad2,Ad7,Aj,(KK.new _).put Ad2 _⟩
      ·refine Aq ?_;intro κ hκ;refine Z3 ?_;refine hκ.out _ _ ⟨Ao ((Keep.refl _).new _),?_⟩;clear hκ κ;refine Al (i:=4) Ad5 ?_;refine Aq ?_;intro κ hκ;refine Z3 ?_;refine ACalls.mono (ao _) ?_;rintro _ q5 ⟨rfl,ba⟩;have ay:=ba.obj;have aj:=ba.nobj;simp only[Aa]at aj;have b2:q5.obj τ.nobj=Da J3:=by rw[ay _ (by rw[Aa];omega),Am]
       have KK:=((Keep.refl τ).new (Da J3)).trans ba;refine Z3 ?_;refine hκ.out _ _ ⟨Ao KK,?_⟩;clear hκ κ;refine G5 (i:=5) _ (tp [ag (Da sr),sc (.bool okr)]) rfl rfl rfl rfl rfl Ad5 Ad5 (fun _ _ _ h=>by cases h.1) (fun o ho _=>KK.ver o ho) ?_;refine G5 (i:=6) _ (ag (Da sr)) rfl rfl rfl rfl rfl Ad5 Ad5 (fun _ _ _ h=>by cases h.1) (fun o ho _=>KK.ver o ho) ?_;refine G5 (i:=7) _ (sc (.bool okr)) rfl rfl rfl rfl rfl Ad5 Ad5 (fun _ _ _ h=>by cases h.1) (fun o ho _=>KK.ver o ho) ?_;refine Al (i:=9) Ad5 ?_;refine Aq ?_;intro κ hκ;refine Z3 ?_;refine hκ.out _ _ ⟨Ao (KK.put Ad2 _),?_⟩;clear hκ κ;refine Al (i:=10) Ad5 ?_;refine Aq ?_;intro κ hκ;refine Z3 ?_;refine hκ.out _ _ ⟨Bo rfl,?_⟩;clear hκ κ;refine A7 Ad5 ⟨rfl,q2.nobj+1,by simp[upd,aput,h1],by simp[upd,aput,h2],by simp[upd,aput,h3],by simp[upd,aput,h6],by simp[upd,aput,h8],by simp[upd,aput,au],by simp[upd,aput,ar],by simp[upd,aput,ap],by simp[upd,aput],by simp[upd,aput],Ad2,by simp only[Ab];omega,Aj,KK.put Ad2 _⟩
     ·clear h1 h2 h3 h6 h8 au ar ap;rintro e s' q6 ⟨rfl,o,h1,h2,h3,h6,h8,au,ar,ap,ch,cg,b4,b8,b9,an⟩;have ad:=an.obj;have bl:=an.nobj;have b1:=a9.trans an;have ax:q6.obj q.nobj=Da s:=by rw[ad _ Ad2,tob0]
      have aw:q6.obj (q.nobj+1)=Da J3:=by rw[ad _ Ad2,tob1]
      have av:q6.obj (q.nobj+2)=[sc (.bool a.nt),sc (.int .i64 (N.idxOf a.pred:Nat)),sl ia a.terms.length (Aw a.terms)]:=by rw[ad _ Ad2,tob2]
      clear ad tob tob0 tob1 tob2 an a9 ao ih;cases okr with
      |true=>
       repeat' (first|refine Z1 ?_|(refine Z8 ?_;intro κ hκ)|(refine Z4 ?_;clear hκ κ)|(refine Z2 ?_ ?_<;>intro h aa<;>try exact Xp)|refine Z3 ?_|exact⟨⟩|(apply hκ.out;clear hκ κ))
       obtain⟨s2,bd⟩:=HW.out.2.2 rfl;refine⟨_,rfl,?_,b1.put Ad2 _⟩;rw[sD a7.out bh.out bd,<-bd,HW.out.1]
      |false=>
       repeat' (first|refine Z1 ?_|(refine Z8 ?_;intro κ hκ)|(refine Z4 ?_;clear hκ κ)|(refine Z2 ?_ ?_<;>intro h aa<;>try exact Xp)|refine Z3 ?_|exact⟨⟩|(apply hκ.out;clear hκ κ))
       exact⟨left.length-(i+1),Ad2,i+1,rfl,Ad2,by simp,Ad2,ac.out (HW.out.2.1 rfl)⟩
   ·have bn:(b.nt==a.nt)=false:=by simpa using hnt
    have a4:Ad8 (fb (Jz Ap N b)=none):=by
     rw[Ad8,<-bi.out];unfold fB Jz;exact if_neg (fun h=>hnt h.1)
    clear hnt
    repeat' (first|refine Z1 ?_|(refine Z8 ?_;intro κ hκ)|(refine Z4 ?_;clear hκ κ)|(refine Z2 ?_ ?_<;>intro h aa<;>try exact Xp)|refine Z3 ?_|exact⟨⟩|(apply hκ.out;clear hκ κ))
    exact⟨left.length-(i+1),Ad2,i+1,rfl,Ad2,by simp,(hK.new _).put hK.nobj _,Ad2,ac.out a4.out⟩
  ·have bp:i=left.length:=Ad2;subst bp;have a0:Ad8 ((left.map (Jz Ap N)).findSome? fb=none):=nO (by rw[Ac9];exact a7.out)
   repeat' (first|refine Z1 ?_|(refine Z8 ?_;intro κ hκ)|(refine Z4 ?_;clear hκ κ)|(refine Z2 ?_ ?_<;>intro h aa<;>try exact Xp)|refine Z3 ?_|exact⟨⟩|(apply hκ.out;clear hκ κ))
   exact⟨_,rfl,by rw[a0.out];rfl,hK.put Ad2 _⟩
def Pd (e:Bool×Int):Tx:=if e.1=true then [UInt8.ofNat (IntKind.u8.wrap (65+e.2)).toNat]else Lib.itoa e.2
def okE (e:Bool×Int):Prop:=0<=e.2/\(e.1=true->e.2<26)/\e.2<=999/\(Pd e).length<=1000
theorem Zk (e:Bool×Int)(h:okE e)(q:St):ACalls Tryz.prog 149 [ag [sc (.bool e.1),sc (.int .i64 e.2)]] q fun r q'=>r=str (Pd e)/\Keep q q':=by
 have ab:∀z:UInt8,({data:=#[z]}:ByteArray)=bs [z]:=fun _=>rfl;obtain⟨b,v⟩:=e;obtain⟨h0,h1,h2,-⟩:=h;dsimp only at h0 h1 h2⊢;cases b with
 |true=>
  have h1:=h1 rfl;have hL:Ad8 (Pd (true,v)=[UInt8.ofNat (IntKind.u8.wrap (65+v)).toNat]):=rfl;refine Z9 14 [.tmp 2] Tryz.func149 ?_
  repeat' (first|refine Z1 ?_|(refine Z8 ?_;intro κ hκ)|(refine Z4 ?_;clear hκ κ)|(refine Z2 ?_ ?_<;>intro h aa<;>try exact Xp)|refine Z7 ?_|exact⟨⟩|(apply hκ.out;clear hκ κ))
  exact⟨_,rfl,by rw[hL.out],Xs⟩
 |false=>
  have hI:=fun q=>Wk v h0 Ad2 q;have hL:Ad8 (Pd (false,v)=Lib.itoa v):=rfl;generalize Lib.itoa v=w at hI hL;refine Z9 14 [.tmp 2] Tryz.func149 ?_
  repeat' (first|refine Z1 ?_|(refine Z8 ?_;intro κ hκ)|(refine Z4 ?_;clear hκ κ)|(refine Z2 ?_ ?_<;>intro h aa<;>try exact Xp)|(refine Z5 ?_;refine Xi (hI _) ?_;rintro _ _ ⟨rfl,rfl⟩)|refine Z7 ?_|exact⟨⟩|(apply hκ.out;clear hκ κ))
  exact⟨_,rfl,by rw[hL.out],Xs⟩
theorem Rb (ts:List Tx)(t:Tx):A2 (ts++[t])=A2 ts++((if ts=[]then []else [44])++t):=by
 cases ts with
 |nil=>simp[A2,A8]
 |cons u ts=>simp[A2,A8]
def Ig (N:List Tx)(y:RItem)(k:Nat)(s0:Sw):Option Sw:=if Eb (Gx y k)=true then Kj ((y.body.eraseIdx k).map (Jz Ap N)) (y.body.map (Jz Ap N)) s0 else none
theorem Q3 {y:RItem}{k:Nat}(h:y.fits):(Gx y k).fits:=
 ⟨Abc (Ac7 _ _) h.1,h.2.1,fun a ha=>h.2.2 a (Ada ha)⟩
theorem bF (N:List Tx)(y:RItem)(c:List AV)(k:Nat)(s0:Sw)(hc:PI N y c)(hf:y.fits)(a4:Cp J3 (y.head.terms.map Ap) (y.head.terms.map Ap)=some s0)(hv:∀t∈y.head.terms,varOk t)(a5:∀a∈y.body,OkA (y.body.eraseIdx k) a)(q:St):
  ACalls Tryz.prog 94 [ag c,sc (.int .i64 k)] q fun r q'=>r=M5 (Ig N y k s0)/\Keep q q':=by
 have ba:=Co;have a9:=Nc;have a8:∀s,List.take 78 (Da s)=Da s:=fun s=>Acl (by rw[Co];exact Abb _);have bb:∀s s',lsp (Da s) 0 (Da s')=Da s':=fun s s'=>Ld (by rw[Co,Co]);have bc:∀s,(Da s).all flat=true:=fun s=>by
  rw[Abg];intro x hx;obtain⟨n,-,rfl⟩:=Acm.1 hx;unfold aL;split
  ·rfl
  ·split<;>rfl
 have aw:=fun q=>Ly N y c k hc hf.1 q;have aj:=fun c' a7 q=>Sc N (Gx y k) c' a7 (fun h=>by cases h) (Q3 hf) q;have au:=hf.1;obtain⟨hm,ih,id,b,hb,rfl⟩:=hc;have ai:=fun i1 i2 q=>U0 J3 (N.idxOf y.head.pred:Nat) (N.idxOf y.head.pred:Nat) y.head.terms y.head.terms i1 i2 (fun _=>rfl) hf.2.1 hv q;rw[if_pos rfl,a4]at ai;simp only[M5]at ai;have ar:=fun cl idl hL ids q=>mZ N (y.body.eraseIdx k) cl idl hL (Abc (Ac7 _ _) au) y.body b ids s0 q hb au a5;obtain⟨sr,okr,af,-,-⟩:=U1 (Kj ((y.body.eraseIdx k).map (Jz Ap N)) (y.body.map (Jz Ap N)) s0);rw[af]at ar;cases ah:Eb (Gx y k)with
 |false=>
  have HR:Ad8 (M5 (Ig N y k s0)=tp [ag (Da J3),sc (.bool false)]):=by rw[Ad8,Ig,if_neg (by rw[ah];simp)];rfl
  rw[ah]at aj;clear ar ai af;refine Z9 33 [.cell 4 154,.tmp 5] Tryz.func94 ?_
  repeat' (first|refine Z1 ?_|(refine Z8 ?_;intro κ hκ)|(refine Z4 ?_;clear hκ κ)|(refine Z2 ?_ ?_<;>intro h ao<;>try exact Xp)|(refine Z5 ?_;first|(refine Xi (aw _) ?_;rintro _ _ ⟨c2,rfl,ac,ae⟩;(have am:=ae.obj;have ab:=ae.nobj;simp only[Aa]at ab;have ap:=aj c2 ac;obtain⟨a6,ih2,id2,b2,av,rfl⟩:=ac))|(refine Xi (ap _) ?_;rintro _ _ ⟨rfl,ad⟩;(have ak:=ad.obj;have aa:=ad.nobj;simp only[Aa,Ab]at aa)))|refine Z7 ?_|exact⟨⟩|(apply hκ.out;clear hκ κ))
  exact⟨_,rfl,by rw[HR.out],Xs⟩
 |true=>
  have HR:Ad8 (M5 (Ig N y k s0)=tp [ag (Da sr),sc (.bool okr)]):=by rw[Ad8,Ig,if_pos ah];exact af
  rw[ah]at aj;clear af;refine Z9 33 [.cell 4 154,.tmp 5] Tryz.func94 ?_
  repeat' (first|refine Z1 ?_|(refine Z8 ?_;intro κ hκ)|(refine Z4 ?_;clear hκ κ)|(refine Z2 ?_ ?_<;>intro h ao<;>try exact Xp)|(refine Z5 ?_;first|(refine Xi (aw _) ?_;rintro _ _ ⟨c2,rfl,ac,ae⟩;(have am:=ae.obj;have ab:=ae.nobj;simp only[Aa]at ab;have ap:=aj c2 ac;obtain⟨a6,ih2,id2,b2,av,rfl⟩:=ac))|(refine Xi (ap _) ?_;rintro _ _ ⟨rfl,ad⟩;(have ak:=ad.obj;have aa:=ad.nobj;simp only[Aa,Ab]at aa))|(refine Xi (ai _ _ _) ?_;rintro _ _ ⟨rfl,ay⟩;(have a0:=ay.obj;have a3:=ay.nobj))|(refine Xi (ar _ _ av _ _) ?_;rintro _ _ ⟨rfl,ax⟩;(have az:=ax.obj;have an:=ax.nobj;simp only[Aa,Ab]at an)))|refine Z7 ?_|exact⟨⟩|(apply hκ.out;clear hκ κ))
  exact⟨_,rfl,by rw[HR.out],Xs⟩
end Go.Proofs.YtmoeoppbmhfbpabGreatDoorH
