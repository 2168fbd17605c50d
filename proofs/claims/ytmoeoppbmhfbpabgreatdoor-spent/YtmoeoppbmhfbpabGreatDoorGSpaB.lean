import Derived.Test.YtmoeoppbmhfbpabGreatDoorGSpaA
import Derived.Test.YtmoeoppbmhfbpabGreatDoorGAbsWp
import Derived.Test.YtmoeoppbmhfbpabGreatDoorGPrtF
set_option maxHeartbeats 32000000
set_option maxRecDepth 100000
set_option linter.all false
namespace Go.Proofs.YtmoeoppbmhfbpabGreatDoorG
open Go.Abs
def D9 (x:RItem)(k:Nat):RItem:={out:=false,head:=x.head,body:=x.body.eraseIdx k}
def Vh (ls:List RAtom)(k n:Nat):List RAtom:=(ls.take n).eraseIdx k
theorem xA {ls:List RAtom}{k n:Nat}{a:RAtom}(h:ls[n]?=some a)(hk:n≠k):Vh ls k (n+1)=Vh ls k n++[a]:=by
 have hn:=(List.getElem?_eq_some_iff.1 h).1;have hl:(ls.take n).length=n:=by rw[Aef];omega
 unfold Vh;rw[Ad3,h,Afe];by_cases aa:k<n
 ·rw[List.eraseIdx_append_of_lt_length Agm]
 ·rw[Afl (by rw[Aee,hl];simp;omega),Afl Agm]
theorem qV {ls:List RAtom}{k:Nat}{a:RAtom}(h:ls[k]?=some a):Vh ls k (k+1)=Vh ls k k:=by
 have hn:=(List.getElem?_eq_some_iff.1 h).1;have hl:(ls.take k).length=k:=by rw[Aef];omega
 unfold Vh;have e:(ls.take k).eraseIdx k=ls.take k:=Afl Agm;rw[e,Ad3,h,Afe,List.eraseIdx_append_of_length_le Agm,hl,Ae2];simp
theorem wY (ls:List RAtom)(k n:Nat):(Vh ls k n).length<=n:=by
 unfold Vh;have h1:=Afm (ls.take n) k;rw[Aef]at h1;omega
theorem wZ (ls:List RAtom)(k:Nat):Vh ls k ls.length=ls.eraseIdx k:=by unfold Vh;rw[Adz]
theorem Mp (N:List Tx)(x:RItem)(c:List AV)(k:Nat)(hc:PI N x c)(hn:x.body.length<=1000)(q:St):ACalls Tryz.prog 145 [ag c,sc (.int .i64 k)] q fun r q'=>∃c',r=ag c'/\PI N (D9 x k) c'/\Keep q q':=by
 obtain⟨hm,ih,id,b,hb,rfl⟩:=hc;have a4:=EL.length Dp hb;refine Z9 30 [.cell 4 125] Tryz.func145 ?_
 repeat' (first|refine Z1 ?_|(refine Z8 ?_;intro κ hκ)|(refine Z4 ?_;clear hκ κ)|(refine Z2 ?_ ?_<;>intro h af<;>try exact Xp)|(refine Z6 ?_;intro idn qn aj ak ad aa ac ab)|refine Z3 ?_|exact⟨⟩|(apply hκ.out;clear hκ κ))
 refine Ag (fun m s q'=>∃(n i3:Nat) (xs:List AV),m=x.body.length-n/\n<=x.body.length/\s 1=sc (.int .i64 k)/\s 4=ptr (q.nobj+1) 0/\s 5=ptr (q.nobj+2) 0/\s 12=sl id x.body.length b/\s 13=sc (.int .i64 x.body.length)/\s 14=sc (.int .i64 n)/\Keep q q'/\q.nobj+2<q'.nobj/\q'.obj (q.nobj+1)=[sc (.bool false),sc (.int .i64 0),nilS,nilS]/\q'.obj (q.nobj+2)=[sc (.bool false),sc (.int .i64 (N.idxOf x.head.pred:Nat)),sl ih x.head.terms.length (Ay x.head.terms),sl i3 (Vh x.body k n).length xs]/\Own q q' i3 (Vh x.body k n).length/\xs.length=(Vh x.body k n).length*3/\Agt (EL (PL N) (Vh x.body k n) xs)) x.body.length
  ⟨0,1,[],Agm,Agm,by simp[upd,initS],Ago,Ago,Ago,Ago,rfl,Xs,Ags,?_,?_,Own.nil _ _,by simp[Vh],by simp[Agt,Vh,EL]⟩ ?_
 ·rw[Ai Agm,Af Agq,Bs Agq Agq]
 ·rw[show q.nobj+2=q.nobj+1+1 by omega,Aj];simp[Vh]
 rintro m s q' ⟨n,i3,xs,rfl,a3,h1,h4,h5,a7,a6,a5,hK,hno,az,ao,hO,am,hX⟩;have a0:=hK.nobj;have av:=wY x.body k n;by_cases ay:n<x.body.length
 ·have ae:=List.getElem?_eq_getElem ay;obtain⟨ha,ia,r,hd⟩:=Mx hb ae;generalize x.body[n]=a at hd ae ha;have HG:Agt (x.body[n]?=some a):=ae;clear ae;generalize ap:Vh x.body k n=wl at ao hO am hX av;have au:Agt _:=ap;clear ap;by_cases ai:n=k
  ·have ax:((n:Int) !=(k:Int))=false:=by simp[ai]
   have ah:Agt (Vh x.body k (n+1)=wl):=by
    rw[Agt,<-au.out,ai];exact qV (by rw[<-ai];exact HG.out)
   clear ai
   repeat' (first|refine Z1 ?_|(refine Z8 ?_;intro κ hκ)|(refine Z4 ?_;clear hκ κ)|(refine Z2 ?_ ?_<;>intro h af<;>try exact Xp)|(refine Z6 ?_;intro idn qn aj ak ad aa ac ab)|refine Z3 ?_|exact⟨⟩|(apply hκ.out;clear hκ κ))
   exact⟨x.body.length-(n+1),Agm,n+1,i3,xs,rfl,Agm,by simp,(hK.new _).put hK.nobj _,Agm,by rw[ah.out],by rw[ah.out];exact Own.put (Own.new hO _) _ _,by rw[ah.out];exact am,by rw[Agt,ah.out];exact hX.out⟩
  ·have ax:((n:Int) !=(k:Int))=true:=by simp;omega
   have ah:Agt (Vh x.body k (n+1)=wl++[a]):=by
    rw[Agt,<-au.out];exact xA HG.out ai
   clear ai
   repeat' (first|refine Z1 ?_|(refine Z8 ?_;intro κ hκ)|(refine Z4 ?_;clear hκ κ)|(refine Z2 ?_ ?_<;>intro h af<;>try exact Xp)|(refine Z6 ?_;intro idn qn aj ak ad aa ac ab)|refine Z3 ?_|exact⟨⟩|(apply hκ.out;clear hκ κ))
   refine Bm (by first|exact Ed) ((hK.new _).put hK.nobj _) (Own.put (Own.new hO _) _ _) (by decide) (by rfl) am (by rfl) (by rfl) (by decide) Agm Agm ?_;intro idn qn aj ak ad aa ac ab;simp only[Ab,Aa]at aa;have an:Agt ((Vh x.body k (n+1)).length=wl.length+1):=by rw[Agt,ah.out];simp
   refine Z3 ?_
   repeat' (first|refine Z1 ?_|(refine Z8 ?_;intro κ hκ)|(refine Z4 ?_;clear hκ κ)|(refine Z2 ?_ ?_<;>intro h af<;>try exact Xp)|(refine Z6 ?_;intro idn qn aj ak ad aa ac ab)|refine Z3 ?_|exact⟨⟩|(apply hκ.out;clear hκ κ))
   refine⟨x.body.length-(n+1),Agm,n+1,idn,xs++[sc (.bool a.nt),sc (.int .i64 (N.idxOf a.pred:Nat)),sl ia a.terms.length (Ay a.terms)],rfl,Agm,by simp,ak.put Agm _,Agm,by rw[an.out],by rw[an.out];exact Own.put aj _ _,by rw[an.out];simp;omega,?_⟩;rw[Agt,ah.out];exact EL.append hX.out (EL.single ⟨ha,ia,rfl⟩)
 ·have aw:n=x.body.length:=Agm;subst aw;rw[wZ]at ao hX
  repeat' (first|refine Z1 ?_|(refine Z8 ?_;intro κ hκ)|(refine Z4 ?_;clear hκ κ)|(refine Z2 ?_ ?_<;>intro h af<;>try exact Xp)|(refine Z6 ?_;intro idn qn aj ak ad aa ac ab)|refine Z3 ?_|exact⟨⟩|(apply hκ.out;clear hκ κ))
  exact⟨_,rfl,_,rfl,⟨hm,ih,i3,xs,hX.out,rfl⟩,hK.put Agm _⟩
theorem Vz (o:Option Sw):∃s b,N7 o=tp [ag (Db s),sc (.bool b)]/\(b=false->o=none)/\(b=true->∃s',o=some s'):=by
 cases o with
 |none=>exact⟨Kd,false,rfl,fun _=>rfl,fun h=>by cases h⟩
 |some s=>exact⟨s,true,rfl,(fun h=>by cases h),fun _=>⟨s,rfl⟩⟩
def fB (L:List Lt)(rest:List Lt)(s:Sw)(x b:Lt):Option Sw:=if b.nt=x.nt/\x.pr=b.pr then (Cf s x.es b.es).bind (Fp L rest)else none
theorem uS {α β:Type}{f:α->Option β}{l:List α}{i:Nat}{b:α}{r:β}(h0:∀j,j<i->∀c,l[j]?=some c->f c=none)(hb:l[i]?=some b)(hf:f b=some r):l.findSome? f=some r:=by
 rw[List.findSome?_eq_some_iff];obtain⟨hi,rfl⟩:=List.getElem?_eq_some_iff.1 hb;refine⟨l.take i,l[i],l.drop (i+1),by rw[<-Aep hi,Afn],hf,fun c hc=>?_⟩;obtain⟨j,hj⟩:=List.getElem?_of_mem hc;rw[List.getElem?_take]at hj;split at hj
 ·rename_i aa;exact h0 j aa c hj
 ·cases hj
theorem pO {α β:Type}{f:α->Option β}{l:List α}(h0:∀j,j<l.length->∀c,l[j]?=some c->f c=none):l.findSome? f=none:=by
 rw[List.findSome?_eq_none_iff];intro c hc;obtain⟨j,hj⟩:=List.getElem?_of_mem hc;exact h0 j (List.getElem?_eq_some_iff.1 hj).1 c hj
def OkA (left:List RAtom)(a:RAtom):Prop:=a.terms.length<=1000/\(∀t∈a.terms,varOk t)/\∀b∈left,a.pred=b.pred->a.terms.length=b.terms.length
theorem oZ (N:List Tx)(left:List RAtom)(cl:List AV)(idl:Nat)(hL:EL (PL N) left cl)(ce:left.length<=1000):∀(lits:List RAtom) (cs:List AV) (ids:Nat) (s:Sw) (q:St),EL (PL N) lits cs->lits.length<=1000->(∀a∈lits,OkA left a)->
  ACalls Tryz.prog 148 [ag (Db s),sl ids lits.length cs,sl idl left.length cl] q fun r q'=>r=N7 (Fp (left.map (Fv Am N)) (lits.map (Fv Am N)) s)/\Keep q q':=by
 have ca:=Cr;have b9:=Oe;have b8:∀s,List.take 78 (Db s)=Db s:=fun s=>Aex (by rw[Cr];exact Adn _);have cd:∀s s',lsp (Db s) 0 (Db s')=Db s':=fun s s'=>L4 (by rw[Cr,Cr]);have cf:∀s,(Db s).all flat=true:=fun s=>by
  rw[Ads];intro x hx;obtain⟨n,-,rfl⟩:=Aey.1 hx;unfold cE;split
  ·rfl
  ·split<;>rfl
 have bz:=EL.length Dp hL;intro lits;induction lits with
 |nil=>
  intro cs ids s q hE _ _;have bw:cs=[]:=hE;subst bw;have hR:N7 (Fp (left.map (Fv Am N)) (([]:List RAtom).map (Fv Am N)) s)=tp [ag (Db s),sc (.bool true)]:=rfl;rw[hR];clear hR;refine Z9 55 [.cell 6 154,.tmp 7] Tryz.func148 ?_
  repeat' (first|refine Z1 ?_|(refine Z8 ?_;intro κ hκ)|(refine Z4 ?_;clear hκ κ)|(refine Z2 ?_ ?_<;>intro h aa<;>try exact Xp)|refine Z3 ?_|exact⟨⟩|(apply hκ.out;clear hκ κ))
  exact⟨_,rfl,rfl,Xs⟩
 |cons a lits ih=>
  intro cs ids s q hE hn a4;have a6:=EL.length Dp hE;obtain⟨c0,d,⟨b2,ia,rfl⟩,hd,rfl⟩:=hE;have cg:=EL.length Dp hd;obtain⟨b1,b0,b3⟩:=a4 a (by simp);have ak:∀a∈lits,OkA left a:=fun a' h=>a4 a' (by simp[h]);have br:lits.length<=1000:=by simp at hn;omega
  have ih:=fun s q=>ih d 0 s q hd br ak;clear a4 ak hn;have hR:Agt (Fp (left.map (Fv Am N)) ((a::lits).map (Fv Am N)) s=(left.map (Fv Am N)).findSome? (fB (left.map (Fv Am N)) (lits.map (Fv Am N)) s (Fv Am N a))):=rfl;rw[hR.out];generalize bi:fB (left.map (Fv Am N)) (lits.map (Fv Am N)) s (Fv Am N a)=fb;have bn:Agt _:=bi;clear bi hR;simp only[Aen,Aes,Aeu]at a6⊢;refine Z9 55 [.cell 6 154,.tmp 7] Tryz.func148 ?_
  repeat' (first|refine Z1 ?_|(refine Z8 ?_;intro κ hκ)|(refine Z4 ?_;clear hκ κ)|(refine Z2 ?_ ?_<;>intro h aa<;>try exact Xp)|refine Z3 ?_|exact⟨⟩|(apply hκ.out;clear hκ κ))
  refine Ag (fun m s0 q'=>∃i:Nat,m=left.length-i/\i<=left.length/\s0 1=sl ids (lits.length+1) (sc (.bool a.nt)::sc (.int .i64 (N.idxOf a.pred:Nat))::sl ia a.terms.length (Ay a.terms)::d)/\s0 2=sl idl left.length cl/\s0 3=ptr q.nobj 0/\s0 6=ptr (q.nobj+1) 0/\s0 8=ptr (q.nobj+2) 0/\s0 21=sl idl left.length cl/\s0 22=sc (.int .i64 left.length)/\s0 23=sc (.int .i64 i)/\Keep q q'/\q.nobj+2<q'.nobj/\q'.obj q.nobj=Db s/\q'.obj (q.nobj+1)=Db Kd/\q'.obj (q.nobj+2)=[sc (.bool a.nt),sc (.int .i64 (N.idxOf a.pred:Nat)),sl ia a.terms.length (Ay a.terms)]/\Agt (∀j,j<i->∀c,(left.map (Fv Am N))[j]?=some c->fb c=none)) left.length
   ⟨0,Agm,Agm,by simp[upd,initS],by simp[upd,initS],Ago,Ago,Ago,Ago,Ago,rfl,Xs,by simp only[Aa,Ab];omega,?_,?_,?_,fun j hj=>Agm⟩ ?_
  ·rw[Ai Agm,Af Agq,Af Agq,Ap]
  ·rw[Ai Agm,Af Agq,Bs Agq Agq]
  ·rw[show q.nobj+2=q.nobj+1+1 by omega,Aj]
  rintro m s0 q' ⟨i,rfl,hi,h1,h2,h3,h6,h8,av,au,ap,hK,hno,ay,ax,aw,a8⟩;have b6:=hK.nobj;by_cases bg:i<left.length
  ·have ae:=List.getElem?_eq_getElem bg;have a7:=Afa bg;have bh:=b3 left[i] a7;obtain⟨hb,ib,r,bv⟩:=Mx hL ae;have a9:(left.map (Fv Am N))[i]?=some (Fv Am N left[i]):=by rw[List.getElem?_map,ae];rfl
   generalize left[i]=b at bv ae hb bh a9 a7;have bm:Agt _:=a9;clear ae a9 a7;have ac:Agt (fb (Fv Am N b)=none->∀j,j<i+1->∀c,(left.map (Fv Am N))[j]?=some c->fb c=none):=fun h j hj c hc=>by
    by_cases e:j=i
    ·subst e;rw[bm.out]at hc;cases hc;exact h
    ·exact a8.out j Agm c hc
   have bp:N.idxOf a.pred=N.idxOf b.pred->a.terms.length=b.terms.length:=fun h=>bh (Ef b2 hb h);by_cases hnt:b.nt=a.nt
   ·have bq:(b.nt==a.nt)=true:=by simp[hnt]
    have ai:=fun q=>Vw s (N.idxOf a.pred:Nat) (N.idxOf b.pred:Nat) a.terms b.terms ia ib (fun h=>bp Agm) b1 b0 q;have am:Agt (fb (Fv Am N b)=(if ((N.idxOf a.pred:Nat):Int)=((N.idxOf b.pred:Nat):Int)then Cf s (a.terms.map Am) (b.terms.map Am)else none).bind (Fp (left.map (Fv Am N)) (lits.map (Fv Am N)))):=by
     rw[Agt,<-bn.out];unfold fB Fv;dsimp only;by_cases hp:N.idxOf a.pred=N.idxOf b.pred
     ·rw[if_pos ⟨hnt,hp⟩,if_pos Agm]
     ·rw[if_neg (fun h=>hp h.2),if_neg Agm];rfl
    generalize (if ((N.idxOf a.pred:Nat):Int)=((N.idxOf b.pred:Nat):Int)then Cf s (a.terms.map Am) (b.terms.map Am)else none)=ow at ai am;cases ow with
    |none=>
     simp only[N7]at ai;have a5:Agt (fb (Fv Am N b)=none):=am
     repeat' (first|refine Z1 ?_|(refine Z8 ?_;intro κ hκ)|(refine Z4 ?_;clear hκ κ)|(refine Z2 ?_ ?_<;>intro h aa<;>try exact Xp)|(refine Z5 ?_;refine Xi (ai _) ?_;rintro _ _ ⟨rfl,af⟩;(have ab:=af.obj;have ah:=af.nobj;simp only[Aa,Ab]at ah))|refine Z3 ?_|exact⟨⟩|(apply hκ.out;clear hκ κ))
     exact⟨left.length-(i+1),Agm,i+1,rfl,Agm,by simp,(((((hK.new _).put hK.nobj _).trans af).new _).put Agm _),Agm,ac.out a5.out⟩
    |some s1=>
     simp only[N7]at ai;have ao:=ih s1;obtain⟨sr,okr,a0,be,bd⟩:=Vz (Fp (left.map (Fv Am N)) (lits.map (Fv Am N)) s1);rw[a0]at ao;have HW:Agt (N7 (fb (Fv Am N b))=tp [ag (Db sr),sc (.bool okr)]/\(okr=false->fb (Fv Am N b)=none)/\(okr=true->∃s',fb (Fv Am N b)=some s')):=by
      rw[Agt,am.out];exact⟨a0,be,bd⟩
     clear a0 be bd am
     repeat' (first|refine Z1 ?_|(refine Z8 ?_;intro κ hκ)|(refine Z4 ?_;clear hκ κ)|(refine Z2 ?_ ?_<;>intro h aa<;>try exact Xp)|(refine Z5 ?_;refine Xi (ai _) ?_;rintro _ _ ⟨rfl,af⟩;(have ab:=af.obj;have ah:=af.nobj;simp only[Aa,Ab]at ah))|refine Z3 ?_|exact⟨⟩|(apply hκ.out;clear hκ κ))
     rename_i q2;have ba:Keep q ((q2.new (Db Kd)).put q2.nobj (Db s1)):=((((hK.new _).put hK.nobj _).trans af).new _).put Agm _;have tno:((q2.new (Db Kd)).put q2.nobj (Db s1)).nobj=q2.nobj+1:=rfl;have tob:((q2.new (Db Kd)).put q2.nobj (Db s1)).obj q2.nobj=Db s1:=Aj;have tob0:((q2.new (Db Kd)).put q2.nobj (Db s1)).obj q.nobj=Db s:=by rw[Ai Agm,Af Agm,ab _ Ags,Ai Agm,Af Agm,ay]
     have tob1:((q2.new (Db Kd)).put q2.nobj (Db s1)).obj (q.nobj+1)=Db Kd:=by rw[Ai Agm,Af Agm,ab _ Ags,Ai Agm,Af Agm,ax]
     have tob2:((q2.new (Db Kd)).put q2.nobj (Db s1)).obj (q.nobj+2)=[sc (.bool a.nt),sc (.int .i64 (N.idxOf a.pred:Nat)),sl ia a.terms.length (Ay a.terms)]:=by rw[Ai Agm,Af Agm,ab _ Ags,Ai Agm,Af Agm,aw]
     generalize (q2.new (Db Kd)).put q2.nobj (Db s1)=τ at ba tno tob tob0 tob1 tob2;clear af ab ai ay ax aw hK;refine B6 (Q:=fun e s' q'=>e= .normal/\∃o:Nat,s' 1=sl ids (lits.length+1) (sc (.bool a.nt)::sc (.int .i64 (N.idxOf a.pred:Nat))::sl ia a.terms.length (Ay a.terms)::d)/\s' 2=sl idl left.length cl/\s' 3=ptr q.nobj 0/\s' 6=ptr (q.nobj+1) 0/\s' 8=ptr (q.nobj+2) 0/\s' 21=sl idl left.length cl/\s' 22=sc (.int .i64 left.length)/\s' 23=sc (.int .i64 i)/\s' 12=sc (.bool okr)/\s' 13=ptr o 0/\τ.nobj<=o/\o<q'.nobj/\q'.obj o=Db sr/\Keep τ q') ?_ ?_
     ·refine Bh Al (fun _=>True) [10] [0,1,2,3] 7 #[true,true,true,true,false,false,false,false,false,false,false] Agp (fun _ _ _ h=>by cases h.1) ?_;intro κ hκ;refine Z3 ?_;refine hκ.out _ ?_;clear hκ κ;refine D4 (rs:=[4,8]) Agp (by simp) ?_;intro j hj;simp only[Aeq,Ae8,Agk]at hj;rcases hj with rfl|rfl
      ·refine Ar ?_;intro κ hκ;refine Z3 ?_;refine ACalls.mono (ao _) ?_;rintro _ q5 ⟨rfl,KK⟩;have aj:=KK.nobj;refine Z3 ?_;refine hκ.out _ _ ⟨Aq KK,?_⟩;clear hκ κ;refine Hl (i:=5) _ (tp [ag (Db sr),sc (.bool okr)]) rfl rfl rfl rfl rfl Agp Agp (fun _ _ _ h=>by cases h.1) (fun o ho _=>KK.ver o ho) ?_;refine Hl (i:=6) _ (ag (Db sr)) rfl rfl rfl rfl rfl Agp Agp (fun _ _ _ h=>by cases h.1) (fun o ho _=>KK.ver o ho) ?_;refine Hl (i:=7) _ (sc (.bool okr)) rfl rfl rfl rfl rfl Agp Agp (fun _ _ _ h=>by cases h.1) (fun o ho _=>KK.ver o ho) ?_;refine Ao (i:=8) Agp ?_;refine Ar ?_;intro κ hκ;refine Z3 ?_;refine hκ.out _ _ ⟨Aq (KK.new _),?_⟩;clear hκ κ;refine Ao (i:=9) Agp ?_;refine Ar ?_;intro κ hκ;refine Z3 ?_;refine hκ.out _ _ ⟨Aq ((KK.new _).put Agm _),?_⟩;clear hκ κ;refine Ao (i:=10) Agp ?_;refine Ar ?_;intro κ hκ;refine Z3 ?_;refine hκ.out _ _ ⟨Bq rfl,?_⟩;clear hκ κ;refine A6 Agp ⟨rfl,q5.nobj,by simp[upd,aput,h1],by simp[upd,aput,h2],by simp[upd,aput,h3],by simp[upd,aput,h6],by simp[upd,aput,h8],by simp[upd,aput,av],by simp[upd,aput,au],by simp[upd,aput,ap],by simp[upd,aput],by simp[upd,aput],Agm,Ags,Aj,(KK.new _).put Agm _⟩
      ·refine Ar ?_;intro κ hκ;refine Z3 ?_;refine hκ.out _ _ ⟨Aq ((Keep.refl _).new _),?_⟩;clear hκ κ;refine Ao (i:=4) Agp ?_;refine Ar ?_;intro κ hκ;refine Z3 ?_;refine ACalls.mono (ao _) ?_;rintro _ q5 ⟨rfl,bb⟩;have az:=bb.obj;have aj:=bb.nobj;simp only[Aa]at aj;have b5:q5.obj τ.nobj=Db Kd:=by rw[az _ (by rw[Aa];omega),Ap]
       have KK:=((Keep.refl τ).new (Db Kd)).trans bb;refine Z3 ?_;refine hκ.out _ _ ⟨Aq KK,?_⟩;clear hκ κ;refine Hl (i:=5) _ (tp [ag (Db sr),sc (.bool okr)]) rfl rfl rfl rfl rfl Agp Agp (fun _ _ _ h=>by cases h.1) (fun o ho _=>KK.ver o ho) ?_;refine Hl (i:=6) _ (ag (Db sr)) rfl rfl rfl rfl rfl Agp Agp (fun _ _ _ h=>by cases h.1) (fun o ho _=>KK.ver o ho) ?_;refine Hl (i:=7) _ (sc (.bool okr)) rfl rfl rfl rfl rfl Agp Agp (fun _ _ _ h=>by cases h.1) (fun o ho _=>KK.ver o ho) ?_;refine Ao (i:=9) Agp ?_;refine Ar ?_;intro κ hκ;refine Z3 ?_;refine hκ.out _ _ ⟨Aq (KK.put Agm _),?_⟩;clear hκ κ;refine Ao (i:=10) Agp ?_;refine Ar ?_;intro κ hκ;refine Z3 ?_;refine hκ.out _ _ ⟨Bq rfl,?_⟩;clear hκ κ;refine A6 Agp ⟨rfl,q2.nobj+1,by simp[upd,aput,h1],by simp[upd,aput,h2],by simp[upd,aput,h3],by simp[upd,aput,h6],by simp[upd,aput,h8],by simp[upd,aput,av],by simp[upd,aput,au],by simp[upd,aput,ap],by simp[upd,aput],by simp[upd,aput],Agm,by simp only[Ab];omega,Aj,KK.put Agm _⟩
     ·clear h1 h2 h3 h6 h8 av au ap;rintro e s' q6 ⟨rfl,o,h1,h2,h3,h6,h8,av,au,ap,ci,ch,b7,cb,cc,an⟩;have ad:=an.obj;have bo:=an.nobj;have b4:=ba.trans an;have ay:q6.obj q.nobj=Db s:=by rw[ad _ Agm,tob0]
      have ax:q6.obj (q.nobj+1)=Db Kd:=by rw[ad _ Agm,tob1]
      have aw:q6.obj (q.nobj+2)=[sc (.bool a.nt),sc (.int .i64 (N.idxOf a.pred:Nat)),sl ia a.terms.length (Ay a.terms)]:=by rw[ad _ Agm,tob2]
      clear ad tob tob0 tob1 tob2 an ba ao ih;cases okr with
      |true=>
       repeat' (first|refine Z1 ?_|(refine Z8 ?_;intro κ hκ)|(refine Z4 ?_;clear hκ κ)|(refine Z2 ?_ ?_<;>intro h aa<;>try exact Xp)|refine Z3 ?_|exact⟨⟩|(apply hκ.out;clear hκ κ))
       obtain⟨s2,bf⟩:=HW.out.2.2 rfl;refine⟨_,rfl,?_,b4.put Agm _⟩;rw[uS a8.out bm.out bf,<-bf,HW.out.1]
      |false=>
       repeat' (first|refine Z1 ?_|(refine Z8 ?_;intro κ hκ)|(refine Z4 ?_;clear hκ κ)|(refine Z2 ?_ ?_<;>intro h aa<;>try exact Xp)|refine Z3 ?_|exact⟨⟩|(apply hκ.out;clear hκ κ))
       exact⟨left.length-(i+1),Agm,i+1,rfl,Agm,by simp,Agm,ac.out (HW.out.2.1 rfl)⟩
   ·have bq:(b.nt==a.nt)=false:=by simpa using hnt
    have a5:Agt (fb (Fv Am N b)=none):=by
     rw[Agt,<-bn.out];unfold fB Fv;exact if_neg (fun h=>hnt h.1)
    clear hnt
    repeat' (first|refine Z1 ?_|(refine Z8 ?_;intro κ hκ)|(refine Z4 ?_;clear hκ κ)|(refine Z2 ?_ ?_<;>intro h aa<;>try exact Xp)|refine Z3 ?_|exact⟨⟩|(apply hκ.out;clear hκ κ))
    exact⟨left.length-(i+1),Agm,i+1,rfl,Agm,by simp,(hK.new _).put hK.nobj _,Agm,ac.out a5.out⟩
  ·have bu:i=left.length:=Agm;subst bu;have a3:Agt ((left.map (Fv Am N)).findSome? fb=none):=pO (by rw[Afo];exact a8.out)
   repeat' (first|refine Z1 ?_|(refine Z8 ?_;intro κ hκ)|(refine Z4 ?_;clear hκ κ)|(refine Z2 ?_ ?_<;>intro h aa<;>try exact Xp)|refine Z3 ?_|exact⟨⟩|(apply hκ.out;clear hκ κ))
   exact⟨_,rfl,by rw[a3.out];rfl,hK.put Agm _⟩
def Lk (e:Bool×Int):Tx:=if e.1=true then [UInt8.ofNat (IntKind.u8.wrap (65+e.2)).toNat]else Lib.itoa e.2
def okE (e:Bool×Int):Prop:=0<=e.2/\(e.1=true->e.2<26)/\e.2<=999/\(Lk e).length<=1000
theorem bB (e:Bool×Int)(h:okE e)(q:St):ACalls Tryz.prog 149 [ag [sc (.bool e.1),sc (.int .i64 e.2)]] q fun r q'=>r=str (Lk e)/\Keep q q':=by
 have ab:∀z:UInt8,({data:=#[z]}:ByteArray)=bs [z]:=fun _=>rfl;obtain⟨b,v⟩:=e;obtain⟨h0,h1,h2,-⟩:=h;dsimp only at h0 h1 h2⊢;cases b with
 |true=>
  have h1:=h1 rfl;have hL:Agt (Lk (true,v)=[UInt8.ofNat (IntKind.u8.wrap (65+v)).toNat]):=rfl;refine Z9 14 [.tmp 2] Tryz.func149 ?_
  repeat' (first|refine Z1 ?_|(refine Z8 ?_;intro κ hκ)|(refine Z4 ?_;clear hκ κ)|(refine Z2 ?_ ?_<;>intro h aa<;>try exact Xp)|refine Z7 ?_|exact⟨⟩|(apply hκ.out;clear hκ κ))
  exact⟨_,rfl,by rw[hL.out],Xs⟩
 |false=>
  have hI:=fun q=>X7 v h0 Agm q;have hL:Agt (Lk (false,v)=Lib.itoa v):=rfl;generalize Lib.itoa v=w at hI hL;refine Z9 14 [.tmp 2] Tryz.func149 ?_
  repeat' (first|refine Z1 ?_|(refine Z8 ?_;intro κ hκ)|(refine Z4 ?_;clear hκ κ)|(refine Z2 ?_ ?_<;>intro h aa<;>try exact Xp)|(refine Z5 ?_;refine Xi (hI _) ?_;rintro _ _ ⟨rfl,rfl⟩)|refine Z7 ?_|exact⟨⟩|(apply hκ.out;clear hκ κ))
  exact⟨_,rfl,by rw[hL.out],Xs⟩
theorem Se (ts:List Tx)(t:Tx):A2 (ts++[t])=A2 ts++((if ts=[]then []else [44])++t):=by
 cases ts with
 |nil=>simp[A2,A7]
 |cons u ts=>simp[A2,A7]
def Hv (N:List Tx)(y:RItem)(k:Nat)(s0:Sw):Option Sw:=if Dw (D9 y k)=true then Fp ((y.body.eraseIdx k).map (Fv Am N)) (y.body.map (Fv Am N)) s0 else none
theorem R4 {y:RItem}{k:Nat}(h:y.fits):(D9 y k).fits:=
 ⟨Ado (Afm _ _) h.1,h.2.1,fun a ha=>h.2.2 a (Afj ha)⟩
theorem dA (N:List Tx)(y:RItem)(c:List AV)(k:Nat)(s0:Sw)(hc:PI N y c)(hf:y.fits)(a5:Cf Kd (y.head.terms.map Am) (y.head.terms.map Am)=some s0)(hv:∀t∈y.head.terms,varOk t)(a6:∀a∈y.body,OkA (y.body.eraseIdx k) a)(q:St):
  ACalls Tryz.prog 94 [ag c,sc (.int .i64 k)] q fun r q'=>r=N7 (Hv N y k s0)/\Keep q q':=by
 have bb:=Cr;have ba:=Oe;have a9:∀s,List.take 78 (Db s)=Db s:=fun s=>Aex (by rw[Cr];exact Adn _);have bd:∀s s',lsp (Db s) 0 (Db s')=Db s':=fun s s'=>L4 (by rw[Cr,Cr]);have be:∀s,(Db s).all flat=true:=fun s=>by
  rw[Ads];intro x hx;obtain⟨n,-,rfl⟩:=Aey.1 hx;unfold cE;split
  ·rfl
  ·split<;>rfl
 have ax:=fun q=>Mp N y c k hc hf.1 q;have aj:=fun c' a8 q=>Ti N (D9 y k) c' a8 (fun h=>by cases h) (R4 hf) q;have av:=hf.1;obtain⟨hm,ih,id,b,hb,rfl⟩:=hc;have ai:=fun i1 i2 q=>Vw Kd (N.idxOf y.head.pred:Nat) (N.idxOf y.head.pred:Nat) y.head.terms y.head.terms i1 i2 (fun _=>rfl) hf.2.1 hv q;rw[if_pos rfl,a5]at ai;simp only[N7]at ai;have au:=fun cl idl hL ids q=>oZ N (y.body.eraseIdx k) cl idl hL (Ado (Afm _ _) av) y.body b ids s0 q hb av a6;obtain⟨sr,okr,af,-,-⟩:=Vz (Fp ((y.body.eraseIdx k).map (Fv Am N)) (y.body.map (Fv Am N)) s0);rw[af]at au;cases ah:Dw (D9 y k)with
 |false=>
  have HR:Agt (N7 (Hv N y k s0)=tp [ag (Db Kd),sc (.bool false)]):=by rw[Agt,Hv,if_neg (by rw[ah];simp)];rfl
  rw[ah]at aj;clear au ai af;refine Z9 33 [.cell 4 154,.tmp 5] Tryz.func94 ?_
  repeat' (first|refine Z1 ?_|(refine Z8 ?_;intro κ hκ)|(refine Z4 ?_;clear hκ κ)|(refine Z2 ?_ ?_<;>intro h ao<;>try exact Xp)|(refine Z5 ?_;first|(refine Xi (ax _) ?_;rintro _ _ ⟨c2,rfl,ac,ae⟩;(have am:=ae.obj;have ab:=ae.nobj;simp only[Aa]at ab;have ap:=aj c2 ac;obtain⟨a7,ih2,id2,b2,aw,rfl⟩:=ac))|(refine Xi (ap _) ?_;rintro _ _ ⟨rfl,ad⟩;(have ak:=ad.obj;have aa:=ad.nobj;simp only[Aa,Ab]at aa)))|refine Z7 ?_|exact⟨⟩|(apply hκ.out;clear hκ κ))
  exact⟨_,rfl,by rw[HR.out],Xs⟩
 |true=>
  have HR:Agt (N7 (Hv N y k s0)=tp [ag (Db sr),sc (.bool okr)]):=by rw[Agt,Hv,if_pos ah];exact af
  rw[ah]at aj;clear af;refine Z9 33 [.cell 4 154,.tmp 5] Tryz.func94 ?_
  repeat' (first|refine Z1 ?_|(refine Z8 ?_;intro κ hκ)|(refine Z4 ?_;clear hκ κ)|(refine Z2 ?_ ?_<;>intro h ao<;>try exact Xp)|(refine Z5 ?_;first|(refine Xi (ax _) ?_;rintro _ _ ⟨c2,rfl,ac,ae⟩;(have am:=ae.obj;have ab:=ae.nobj;simp only[Aa]at ab;have ap:=aj c2 ac;obtain⟨a7,ih2,id2,b2,aw,rfl⟩:=ac))|(refine Xi (ap _) ?_;rintro _ _ ⟨rfl,ad⟩;(have ak:=ad.obj;have aa:=ad.nobj;simp only[Aa,Ab]at aa))|(refine Xi (ai _ _ _) ?_;rintro _ _ ⟨rfl,az⟩;(have a3:=az.obj;have a4:=az.nobj))|(refine Xi (au _ _ aw _ _) ?_;rintro _ _ ⟨rfl,ay⟩;(have a0:=ay.obj;have an:=ay.nobj;simp only[Aa,Ab]at an)))|refine Z7 ?_|exact⟨⟩|(apply hκ.out;clear hκ κ))
  exact⟨_,rfl,by rw[HR.out],Xs⟩
end Go.Proofs.YtmoeoppbmhfbpabGreatDoorG
