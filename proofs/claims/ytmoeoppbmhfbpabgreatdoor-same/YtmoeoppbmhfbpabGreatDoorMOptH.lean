import Derived.Test.YtmoeoppbmhfbpabGreatDoorLOptA
import Derived.Test.YtmoeoppbmhfbpabGreatDoorMEngR
import Derived.Test.YtmoeoppbmhfbpabGreatDoorLFacts
import Derived.Test.YtmoeoppbmhfbpabGreatDoorLSpaF
import Derived.Test.YtmoeoppbmhfbpabGreatDoorLProgM
import Derived.Test.YtmoeoppbmhfbpabGreatDoorLAbsWp
set_option maxHeartbeats 32000000
set_option maxRecDepth 100000
set_option linter.all false
namespace Go.Proofs.YtmoeoppbmhfbpabGreatDoorL
open Go.Abs
def Gv (N:List Tx)(U:Nat->Nat->Bool)(l:List RItem)(q:Nat):Bool:=l.any fun x=>x.out&&(decide (N.idxOf x.head.pred=q)||U (N.idxOf x.head.pred) q)
theorem kQ {N:List Tx}{U:Nat->Nat->Bool}{l:List RItem}{i:Nat}{x:RItem}(h:l[i]?=some x)(q:Nat):Gv N U (l.take (i+1)) q=(Gv N U (l.take i) q||(x.out&&(decide (N.idxOf x.head.pred=q)||U (N.idxOf x.head.pred) q))):=by
 unfold Gv;rw[Ahd,h,Ais,Aji];simp
theorem V5 {n:Nat}{f g:Nat->Bool}(h:∀q,q<n->f q=g q):H1 n f=H1 n g:=by
 unfold H1;exact Aid fun q hq=>by rw[h q (by simpa using hq)]
theorem bM (N:List Tx)(l:List RItem)(cs:List AV)(idn idi:Nat)(hB:Bk N l cs)(σ:St):ACalls Tryz.prog 176 [Bn N idn l idi cs] σ fun r σ'=>∃o M,r=fx o 0 N.length/\Keep σ σ'/\σ.nobj<=o/\o<σ'.nobj/\Dq N l M/\σ'.obj o=H1 N.length (Gv N (F8 N.length M N.length) l):=by
 have bg:=EL.length Dd hB.el;have ba:=hB.len;have hN:=hB.nm;have bh:=aL N.length;refine Z9 49 [.tmp 2] Tryz.func176 ?_
 repeat' (first|refine Z1 ?_|(refine Z8 ?_;intro yb ya)|(refine Z4 ?_;clear ya yb)|(refine Z5 ?_;refine Xi (N0 N l cs idn idi hB _) ?_;rintro _ _ ⟨idu,B,M0,rfl,ak,bb,au,aw,a3⟩;(rw[Aa]at bb;have af:=ak.obj;have an:=ak.nobj;(try simp only[Aa,Ab,Aw]at an af)))|refine Z3 ?_|exact Zt|(apply ya.out;clear ya yb))
 rename_i σ1;have am:Akc (Dq N l M0):=a3;clear a3 af;have bd:=Ii B N.length N.length;have bi:Keep σ σ1:=((Keep.refl σ).new _).trans ak;clear ak;generalize hU:F8 N.length M0 N.length=U at aw;have HU:Akc _:=hU;clear hU
 refine Af (fun m s σ'=>∃i:Nat,m=l.length-i/\i<=l.length/\s 3=sl idu N.length (Fc B N.length N.length)/\s 4=fx σ1.nobj 0 N.length/\s 16=sl idi l.length cs/\s 17=sc (.int .i64 l.length)/\s 18=sc (.int .i64 i)/\Keep σ σ'/\σ1.nobj<σ'.nobj/\σ'.obj σ1.nobj=H1 N.length (Gv N U (l.take i))/\Akc (Mat B N.length U σ')) l.length
  ⟨0,Aj6,Aj6,Aj8,Aj8,Aj8,Aj8,rfl,Xs,Aka,by rw[Ao];rfl,Mat.new aw au _⟩ ?_
 clear aw;rintro m s σ' ⟨i,rfl,hi,h3,h4,a6,a5,a4,hK,ae,aa,hM⟩;have ax:=hK.nobj;by_cases a9:i<l.length
 ·have ab:=Agz a9;obtain⟨hm,ih,id,b,r,hb,hd⟩:=Em hB.el ab;generalize l[i]=x at hd ab hb hm;have ad:=kQ (N:=N) (U:=U) ab;have ap:=Air hm;cases aj:x.out with
  |false=>
   rw[aj]at hd ad;have ai:σ'.obj σ1.nobj=H1 N.length (Gv N U (l.take (i+1))):=by
    rw[aa];exact V5 fun q _=>by rw[ad q];simp
   clear ad ab aa aj;generalize N.idxOf x.head.pred=ph at*
   repeat' (first|refine Z1 ?_|(refine Z8 ?_;intro yb ya)|(refine Z4 ?_;clear ya yb)|(refine Z2 ?_ ?_<;>intro h ac<;>try exact Xp)|refine Z3 ?_|exact Zt|(apply ya.out;clear ya yb))
   refine⟨l.length-(i+1),Aj6,i+1,?_⟩
   ((repeat' refine Zi ?_ ?_)<;>first|exact Xq|exact (Mat.put (Mat.new hM.out Aj6 _) Aj6 _)|exact (by rw[Ah Aj6,Ag Aj6,ai])|exact Xs)
  |true=>
   rw[aj]at hd ad;clear ab aj;generalize N.idxOf x.head.pred=ph at*
   generalize Gv N U (l.take i)=w0 at aa ad;generalize ah:Gv N U (l.take (i+1))=w1 at ad;have a7:Akc _:=ah;have a8:Akc (∀q,w1 q=(w0 q||(true&&(decide (ph=q)||U ph q)))):=ad;clear ad ah;have be:=Ij (B:=B) (n:=N.length) (k:=N.length) ap;have a0:=hM.out _ ap;have bc:=Eg N.length (U ph);have ao:=Eg N.length w0;have ay:=V4 (n:=N.length) (i:=ph) w0 true
   repeat' (first|refine Z1 ?_|(refine Z8 ?_;intro yb ya)|(refine Z4 ?_;clear ya yb)|(refine Z2 ?_ ?_<;>intro h ac<;>try exact Xp)|refine Z3 ?_|exact Zt|(apply ya.out;clear ya yb))
   refine Af (fun m s σ2=>∃(p:Nat) (g:Nat->Bool),m=N.length-p/\p<=N.length/\s 3=sl idu N.length (Fc B N.length N.length)/\s 4=fx σ1.nobj 0 N.length/\s 16=sl idi l.length cs/\s 17=sc (.int .i64 l.length)/\s 18=sc (.int .i64 i)/\s 35=fx (B+ph) 0 N.length/\s 36=sc (.int .i64 N.length)/\s 37=sc (.int .i64 p)/\Keep σ σ2/\σ1.nobj<σ2.nobj/\σ2.obj σ1.nobj=H1 N.length g/\Akc (Mat B N.length U σ2)/\Akc (∀q,g q=(w0 q||decide (ph=q)||(decide (q<p)&&U ph q)))) N.length
    ⟨0,fun j=>if j=ph then true else w0 j,Aj6,Aj6,Aj7,Aj7,Aj7,Aj7,Aj7,Aj8,Aj8,Aj8,Xs,Akb,by rw[Aj],Mat.put (Mat.put (Mat.new hM.out Aj6 _) Aj6 _) Aj6 _,fun q=>by
     by_cases h:q=ph
     ·simp[h]
     ·simp[h,Ne.symm h]⟩ ?_
   clear h3 h4 a6 a5 a4 hK ae aa hM a0 ay ao ax;rintro m s σ2 ⟨p,g,rfl,hp,h3,h4,a6,a5,a4,bn,bm,bl,hK,ae,aa,hM,hg⟩;have ax:=hK.nobj;by_cases av:p<N.length
   ·have a0:=hM.out _ ap;have az:=Gp (U ph) av;have bf:=Eg N.length g;cases hu:U ph p with
    |true=>
     rw[hu]at az;have ay:=V4 (n:=N.length) (i:=p) g true;have HG:Akc (∀q,(if q=p then true else g q)=(w0 q||decide (ph=q)||(decide (q<p+1)&&U ph q))):=fun q=>by
      by_cases h:q=p
      ·simp[h,hu]
      ·rw[if_neg h,hg.out q,show decide (q<p+1)=decide (q<p)from by rw[decide_eq_decide];omega]
     clear hg hu
     repeat' (first|refine Z1 ?_|(refine Z8 ?_;intro yb ya)|(refine Z4 ?_;clear ya yb)|(refine Z2 ?_ ?_<;>intro h ac<;>try exact Xp)|refine Z3 ?_|exact Zt|(apply ya.out;clear ya yb))
     refine⟨N.length-(p+1),Aj6,p+1,fun q=>if q=p then true else g q,?_⟩
     ((repeat' refine Zi ?_ ?_)<;>first|exact Xq|exact HG|exact (Mat.put hM.out Aj6 _)|exact (by rw[Aj])|exact Xs)
    |false=>
     rw[hu]at az;have HG:Akc (∀q,g q=(w0 q||decide (ph=q)||(decide (q<p+1)&&U ph q))):=fun q=>by
      by_cases h:q=p
      ·rw[hg.out q];simp[h,hu]
      ·rw[hg.out q,show decide (q<p+1)=decide (q<p)from by rw[decide_eq_decide];omega]
     clear hg hu
     repeat' (first|refine Z1 ?_|(refine Z8 ?_;intro yb ya)|(refine Z4 ?_;clear ya yb)|(refine Z2 ?_ ?_<;>intro h ac<;>try exact Xp)|refine Z3 ?_|exact Zt|(apply ya.out;clear ya yb))
     refine⟨N.length-(p+1),Aj6,p+1,g,?_⟩
     ((repeat' refine Zi ?_ ?_)<;>first|exact Xq|exact HG|exact Xs)
   ·have hpl:p=N.length:=Aj6;have ai:σ2.obj σ1.nobj=H1 N.length (Gv N U (l.take (i+1))):=by
     rw[aa,a7.out];exact V5 fun q hq=>by rw[a8.out q,hg.out q,hpl];simp[hq,Bool.or_assoc]
    clear hg aa a8 a7
    repeat' (first|refine Z1 ?_|(refine Z8 ?_;intro yb ya)|(refine Z4 ?_;clear ya yb)|(refine Z2 ?_ ?_<;>intro h ac<;>try exact Xp)|refine Z3 ?_|exact Zt|(apply ya.out;clear ya yb))
    refine⟨l.length-(i+1),Aj6,i+1,?_⟩
    ((repeat' refine Zi ?_ ?_)<;>first|exact Xq|exact hM|exact Xs)
 ·have hil:i=l.length:=Aj6;subst hil;rw[Ag7]at aa
  repeat' (first|refine Z1 ?_|(refine Z8 ?_;intro yb ya)|(refine Z4 ?_;clear ya yb)|(refine Z2 ?_ ?_<;>intro h ac<;>try exact Xp)|refine Z3 ?_|exact Zt|(apply ya.out;clear ya yb))
  first|exact⟨_,rfl,_,M0,rfl,hK,Aj6,ae,am.out,by rw[HU.out];exact aa⟩|exact⟨_,rfl,_,M0,rfl,Aj6,ae,am.out,by rw[HU.out];exact aa⟩|exact⟨_,rfl,_,M0,Aj6,ae,am.out,by rw[HU.out];exact aa⟩|(trace_state;exact⟨_,rfl,_,M0,rfl,hK,Aj6,ae,am.out,by rw[HU.out];exact aa⟩)
theorem GL.sub {N:List Tx}{l l':List RItem}(h:GL N l)(hs:∀x∈l',x∈l)(hl:l'.length<=16):GL N l':=
 ⟨hl,h.nm,fun x hx=>h.msr x (hs x hx),fun x hx=>h.fits x (hs x hx),fun x hx=>h.pos x (hs x hx),fun x hx=>h.va x (hs x hx),fun x hx=>h.ar x (hs x hx)⟩
def G3 (N:List Tx)(U:Nat->Nat->Bool)(l:List RItem):List RItem:=l.filter fun x=>Gv N U l (N.idxOf x.head.pred)
def chS (N:List Tx)(l:List RItem)(idn:Nat)(x:AV)(b:Bool):Prop:=∃M,Dq N l M/\
 (((G3 N (F8 N.length M N.length) l).length=l.length/\b=false)\/
  ((G3 N (F8 N.length M N.length) l).length≠l.length/\b=Cy N l (G3 N (F8 N.length M N.length) l)/\(b=true->∃id c',x=Bn N idn (G3 N (F8 N.length M N.length) l) id c'/\EL (PI N) (G3 N (F8 N.length M N.length) l) c')))
theorem tH {α:Type}{f:α->Bool}{l:List α}{i:Nat}{x:α}(h:l[i]?=some x):(l.take (i+1)).filter f=(l.take i).filter f++if f x=true then [x]else []:=by
 rw[Ahd,h,Ais,Ajk];cases hf:f x<;>simp[hf]
theorem Lm (N:List Tx)(l:List RItem)(cs:List AV)(idn idi:Nat)(hG:GL N l)(hE:EL (PI N) l cs)(σ:St):
  ACalls Tryz.prog 124 [Bn N idn l idi cs] σ fun r σ'=>(∃x b,r=tp [x,sc (.bool b)]/\chS N l idn x b/\kC x)/\Keep σ σ':=by
 have bo:=EL.length Dd hE;have an:=hG.len;have hN:=hG.nm;have bi:Bk N l cs:=(hG.bkm hE).bk an;have ay:=fun σ=>bM N l cs idn idi bi σ;refine Z9 41 [.cell 2 62,.tmp 3] Tryz.func124 ?_
 repeat' (first|refine Z1 ?_|(refine Z8 ?_;intro yb ya)|(refine Z4 ?_;clear ya yb)|(refine Z5 ?_;refine Xi (ay _) ?_;rintro _ _ ⟨ow,M0,rfl,ai,ak,be,a5,ad⟩;(have aj:=ai.nobj;have ac:=ai.obj;(try simp only[Aa,Ab]at aj ac ak)))|refine Z3 ?_|exact Zt|(apply ya.out;clear ya yb))
 rename_i σ1;have obk:σ1.obj σ.nobj=[sl idn N.length (N.map str),sl idi l.length cs]:=by rw[ac _ Aj6,Ag Aka,Ao]
 have obr:σ1.obj (σ.nobj+1)=[nilS,nilS]:=by rw[ac _ Aj6];first|exact Ao|simp[Ao]
 have a8:Akc (Dq N l M0):=a5;generalize az:F8 N.length M0 N.length=U at ad;have HU:Akc _:=az;have a3:Keep σ σ1:=(((Keep.refl σ).new _).new _).trans ai;clear a5 az ai ac ay;generalize au:Gv N U l=w at ad;have HW:Akc _:=au;clear au
 refine Af (fun m s σ'=>∃(i id:Nat) (R:List RItem) (c:List AV),m=l.length-i/\i<=l.length/\s 1=ptr σ.nobj 0/\s 2=ptr (σ.nobj+1) 0/\s 4=fx ow 0 N.length/\s 5=sl id R.length c/\s 12=sl idi l.length cs/\s 13=sc (.int .i64 l.length)/\s 14=sc (.int .i64 i)/\Keep σ σ'/\σ1.nobj<=σ'.nobj/\σ'.obj ow=H1 N.length w/\σ'.obj σ.nobj=[sl idn N.length (N.map str),sl idi l.length cs]/\σ'.obj (σ.nobj+1)=[nilS,nilS]/\Own σ σ' id R.length/\c.length=R.length*4/\R.length<=i/\Akc (R=(l.take i).filter (fun x=>w (N.idxOf x.head.pred))/\EL (PI N) R c)) l.length
  ⟨0,1,[],[],Aj6,Aj6,Aj8,Aj8,Aj8,Aj8,Aj8,Aj8,rfl,a3,Aj6,ad,obk,obr,Own.nil _ _,by simp,by simp,⟨by simp,rfl⟩⟩ ?_
 clear a3 ad obk obr;rintro m s σ' ⟨i,id,R,c,rfl,hi,h1,h2,h4,h5,bw,bv,bu,hK,bn,obw,obk,obr,hO,aw,bq,hA⟩;have bm:=hK.nobj;have bp:=Eg N.length w;by_cases bf:i<l.length
 ·have ab:=Agz bf;obtain⟨am,ih,idb,b,r,ax,hd⟩:=Em hE ab;generalize l[i]=x at hd ab am ax;have bd:=Air am;have af:=tH (f:=fun x:RItem=>w (N.idxOf x.head.pred)) ab;have av:=Gp w bd;cases hw:w (N.idxOf x.head.pred)with
  |true=>
   simp only[hw,if_true]at af;rw[hw]at av;have HA:Akc (R++[x]=(l.take (i+1)).filter (fun x=>w (N.idxOf x.head.pred))/\EL (PI N) (R++[x]) (c++[sc (.bool x.out),sc (.int .i64 (N.idxOf x.head.pred:Nat)),sl ih x.head.terms.length (Au x.head.terms),sl idb x.body.length b])):=⟨by rw[af,<-hA.out.1],EL.append hA.out.2 (EL.single (PI.of am ax))⟩;clear af ab hA hw
   repeat' (first|refine Z1 ?_|(refine Z8 ?_;intro yb ya)|(refine Z4 ?_;clear ya yb)|(refine Z2 ?_ ?_<;>intro h ae<;>try exact Xp)|refine Z3 ?_|exact Zt)
   refine Bg (by first|exact Ki) ((hK.new _).put hK.nobj _) (Own.put (Own.new hO _) _ _) (by decide) (by rfl) (aw) (by rfl) (by rfl) (by decide) Aj6 Aj6 ?_;intro idn' σn bh br ap ah bl a7;simp only[Ab,Aa]at ah;have eob:∀p,p<σ'.nobj->σn.obj p=σ'.obj p:=fun p hp=>by rw[ap,Ah Aj6,Ag Aj6]
   refine Z3 ?_
   repeat' (first|refine Z1 ?_|(refine Z8 ?_;intro yb ya)|(refine Z4 ?_;clear ya yb)|refine Z3 ?_|exact Zt|(apply ya.out;clear ya yb))
   refine⟨l.length-(i+1),Aj6,i+1,idn',R++[x],c++[sc (.bool x.out),sc (.int .i64 (N.idxOf x.head.pred:Nat)),sl ih x.head.terms.length (Au x.head.terms),sl idb x.body.length b],?_⟩
   ((repeat' refine Zi ?_ ?_)<;>first|exact Xq|exact HA|exact ((by simpa using bh))|exact ((by simp[aw];omega))|exact (by rw[eob _ Aj6,obw])|exact (by rw[eob _ Aj6,obk])|exact (by rw[eob _ Aj6,obr])|exact Xs)
  |false=>
   simp only[hw,Ahv,if_false,Ahh]at af;rw[hw]at av;have HA:Akc (R=(l.take (i+1)).filter (fun x=>w (N.idxOf x.head.pred))/\EL (PI N) R c):=⟨by rw[af,<-hA.out.1],hA.out.2⟩;clear af ab hA hw
   repeat' (first|refine Z1 ?_|(refine Z8 ?_;intro yb ya)|(refine Z4 ?_;clear ya yb)|(refine Z2 ?_ ?_<;>intro h ae<;>try exact Xp)|refine Z3 ?_|exact Zt|(apply ya.out;clear ya yb))
   refine⟨l.length-(i+1),Aj6,i+1,id,R,c,?_⟩
   ((repeat' refine Zi ?_ ?_)<;>first|exact Xq|exact HA|exact (Own.put (Own.new hO _) _ _)|exact (by rw[Ah Aj6,Ag Aj6,obw])|exact (by rw[Ah Aj6,Ag Aj6,obk])|exact (by rw[Ah Aj6,Ag Aj6,obr])|exact Xs)
 ·have hil:i=l.length:=Aj6;subst hil;rw[Ag7]at hA;have a0:R=G3 N (F8 N.length M0 N.length) l:=by rw[hA.out.1,G3,HU.out,HW.out]
  have HR:Akc _:=a0;have HE:Akc (EL (PI N) R c):=hA.out.2;have a6:GL N R:=hG.sub (fun x hx=>(Ai7.1 (by rw[<-hA.out.1];exact hx)).1) Aj6;have ao:=fun σ=>Hu N l R cs c idn idi id (hG.bkm hE) (a6.bkm HE.out).bj σ;clear hA a0 a6;by_cases aa:R.length=l.length
  ·have bg:((R.length:Int)==(l.length:Int))=true:=by simp[aa]
   have HC:Akc (∀x,chS N l idn x false):=fun x=>⟨M0,a8.out,.inl ⟨by rw[<-HR.out];exact aa,rfl⟩⟩;clear ao aa
   repeat' (first|refine Z1 ?_|(refine Z8 ?_;intro yb ya)|(refine Z4 ?_;clear ya yb)|(refine Z2 ?_ ?_<;>intro h ae<;>try exact Xp)|refine Z3 ?_|exact Zt|(apply ya.out;clear ya yb))
   exact⟨_,rfl,⟨_,false,rfl,HC.out _,_,_,_,_,_,_,rfl⟩,Xs⟩
  ·have bg:((R.length:Int)==(l.length:Int))=false:=by simpa using (by omega:¬(R.length:Int)=l.length)
   have HC:Akc (∀x,(Cy N l R=true->x=Bn N idn R id c)->chS N l idn x (Cy N l R)):=fun x hx=>⟨M0,a8.out,.inr ⟨by rw[<-HR.out];exact aa,by rw[<-HR.out],fun hb=>⟨id,c,by rw[<-HR.out];exact hx hb,by rw[<-HR.out];exact HE.out⟩⟩⟩;generalize Cy N l R=bb at ao HC;clear aa
   repeat' (first|refine Z1 ?_|(refine Z8 ?_;intro yb ya)|(refine Z4 ?_;clear ya yb)|(refine Z2 ?_ ?_<;>intro h ae<;>try exact Xp)|(refine Z5 ?_;refine Xi (ao _) ?_;rintro _ _ ⟨⟨x7,rfl,bc,⟨id71,n71,c71,id72,n72,c72,rfl⟩⟩,a4⟩;(have ba:=a4.nobj;have a9:=a4.obj))|refine Z3 ?_|exact Zt|(apply ya.out;clear ya yb))
   exact⟨_,rfl,⟨_,bb,rfl,HC.out _ bc,_,_,_,_,_,_,rfl⟩,Xs⟩
def W1 (t:Tx):Bool:=decide (t.head?=some 63)
theorem bY (t:Tx)(σ:St):ACalls Tryz.prog 41 [str t] σ fun r σ'=>r=sc (.bool (W1 t))/\σ'=σ:=by
 cases t with
 |nil=>
  have he:(([]:Tx) !=[])=false:=rfl;refine Z9 10 [.tmp 2] Tryz.func41 ?_
  repeat' (first|refine Z1 ?_|(refine Z8 ?_;intro yb ya)|(refine Z4 ?_;clear ya yb)|refine Z3 ?_|exact Zt|(apply ya.out;clear ya yb))
  exact⟨_,rfl,rfl⟩
 |cons c r=>
  have he:((c::r:Tx) !=[])=true:=rfl;have aa:((c::r:Tx)==[])=false:=rfl;have hg:(c::r:Tx)[0]?=some c:=rfl;have HO:Akc (W1 (c::r)=((c.toNat:Int)==63)):=by
   rw[Akc,show (63:Int)=((63:UInt8).toNat:Int)from rfl,S6,W1];simp
  generalize hb:((c.toNat:Int)==63)=b at HO;cases b with
  |true=>
   refine Z9 10 [.tmp 2] Tryz.func41 ?_
   repeat' (first|refine Z1 ?_|(refine Z8 ?_;intro yb ya)|(refine Z4 ?_;clear ya yb)|refine Z3 ?_|exact Zt|(apply ya.out;clear ya yb))
   first|exact⟨_,rfl,by rw[HO.out]⟩|exact⟨_,rfl,by rw[HO.out],rfl⟩
  |false=>
   refine Z9 10 [.tmp 2] Tryz.func41 ?_
   repeat' (first|refine Z1 ?_|(refine Z8 ?_;intro yb ya)|(refine Z4 ?_;clear ya yb)|refine Z3 ?_|exact Zt|(apply ya.out;clear ya yb))
   first|exact⟨_,rfl,by rw[HO.out]⟩|exact⟨_,rfl,by rw[HO.out],rfl⟩
def GNm (p:Tx):Prop:=Ke p/\p.length<=6
def GTm (t:Tx):Prop:=(∃b,t=[b]/\Bl b.toNat=true)\/t=[48]\/∃b r,t=b::r/\Gz b.toNat=true/\(∀c∈r,Az c.toNat=true)/\r.length<=2
structure GA' (a:RAtom):Prop where
 nm:GNm a.pred
 ne:a.terms≠[]
 few:a.terms.length<=3
 tm:∀t∈a.terms,GTm t
structure GIt (x:RItem):Prop where
 nm:GNm x.head.pred
 out:x.out=true->x.head.nt=false/\x.head.terms=[]/\x.body=[]
 rule:x.out=false->GA' x.head/\x.head.nt=false/\x.body.length<=5/\∀a∈x.body,GA' a
theorem Qu (p:Int->Bool):∀(n:Nat) (t r:Tx),(∀b∈t,p b.toNat=true)->t.length<=n->(∀b q,r=b::q->p b.toNat=false)->Av p n (t++r)=(t,r)
 |n,[],r,_,_,hr=>by
  cases n with
  |zero=>rfl
  |succ n=>
   cases r with
   |nil=>rfl
   |cons b q=>
    show Av p (n+1) (b::q)=_;unfold Av;rw[if_neg (by simp[hr b q rfl])]
 |0,b::t,r,_,hl,_=>by simp at hl
 |n+1,b::t,r,ht,hl,hr=>by
  show Av p (n+1) (b::(t++r))=_;unfold Av;rw[if_pos (ht b (by simp)),Qu p n t r (fun c hc=>ht c (by simp[hc])) (by simpa using hl) hr]
theorem N7 (p:Int->Bool):∀(n:Nat) (s:Tx),(Av p n s).1.length<=n
 |0,s=>by simp[Av]
 |n+1,[]=>by simp[Av]
 |n+1,b::r=>by
  unfold Av;split
  ·have:=N7 p n r;simp;omega
  ·simp
theorem gN {p r:Tx}(h:GNm p)(hr:∀b q,r=b::q->Bp b.toNat=false):El (p++r)= .got p r:=by
 unfold El;rw[Qu Bp 6 p r h.1.2 h.2 hr];rw[if_neg h.1.1]
theorem gO {s r p:Tx}(h:El s= .got p r):GNm p:=by
 refine⟨(N8 h).2,?_⟩;unfold El at h;split at h
 ·cases h
 ·cases h;exact N7 _ _ _
theorem gL {t r:Tx}(h:GTm t)(hr:∀b q,r=b::q->Az b.toNat=false):Ci (t++r)= .got t r:=by
 rcases h with⟨b,rfl,hb⟩|rfl|⟨b,q,rfl,hb,hq,hl⟩
 ·show Ci (b::r)=_;unfold Ci;dsimp only;rw[if_pos hb]
 ·show Ci (48::r)=_;unfold Ci;dsimp only;rw[if_neg (by decide),if_pos (by decide)]
 ·show Ci (b::(q++r))=_;unfold Ci;dsimp only;rw[if_neg,if_neg,if_pos hb,Qu Az 2 q r hq hl hr]
  ·intro e;simp only[Gz,Ag3,Aj3]at hb;simp at e;omega
  ·intro e;rw[L3 e]at hb;cases hb
theorem xH {s r t:Tx}(h:Ci s= .got t r):GTm t:=by
 cases s with
 |nil=>cases h
 |cons b q=>
  unfold Ci at h;dsimp only at h;split at h
  ·rename_i hl;cases h;exact .inl ⟨b,rfl,hl⟩
  split at h
  ·rename_i h0;cases h;have:b=48:=K3 48 h0;rw[this];exact .inr (.inl rfl)
  split at h
  ·rename_i h9;cases h;exact .inr (.inr ⟨b,_,rfl,h9,(D7 Az 2 q).2,N7 _ _ _⟩)
  ·cases h
theorem Ec {α β:Type}(x:α)(r:Tx)(f:α->Tx->Rd β):(Rd.got x r).bnd f=f x r:=rfl
theorem J5 {c:UInt8}{r:Tx}:Ay c.toNat (c::r)= .got () r:=by unfold Ay;dsimp only;rw[if_pos (by simp)]
theorem Nw (t:Tx)(ts:List Tx):Bz (t::ts)=44::(t++Bz ts):=by simp[Bz]
theorem U2 {α:Type}{f:Tx->Rd α}{u:α->Tx}{c:UInt8}(hc:c≠44){P:α->Prop}(hf:∀x r,P x->(∀b q,r=b::q->b=44\/b=c)->f (u x++r)= .got x r):∀(n:Nat) (xs:List α) (r:Tx),(∀x∈xs,P x)->xs.length<=n->Du f n (Bz (xs.map u)++c::r)= .got xs (c::r)
 |0,[],r,_,_=>rfl
 |n+1,[],r,_,_=>by
  show Du f (n+1) (c::r)=_;unfold Du
  rw[if_neg (by
   intro h
   exact hc (K3 44 h))]
 |0,x::xs,r,_,hl=>by simp at hl
 |n+1,x::xs,r,hP,hl=>by
  rw[Ahj,Nw];show Du f (n+1) (44::((u x++Bz (xs.map u))++c::r))=_;unfold Du;rw[if_pos (by decide),Ahq,hf x _ (hP x (by simp)) ?_]
  ·rw[Ec,U2 hc hf n xs r (fun y hy=>hP y (by simp[hy])) (by simpa using hl)];rfl
  ·intro b q e;cases xs with
   |nil=>simp[Bz]at e;exact .inr e.1.symm
   |cons y ys=>rw[Ahj,Nw]at e;simp at e;exact .inl e.1.symm
theorem nd {b:UInt8}(h:b=44\/b=41):Az b.toNat=false:=by rcases h with rfl|rfl<;>decide
theorem gR {a:RAtom}(h:GA' a)(r:Tx):C9 a.nt (A6 a++r)= .got a r:=by
 unfold C9 A6;rw[Ahq,gN h.nm (fun b q e=>by simp at e;rw[<-e.1];decide)];rw[Ec,Ah4];rw[show (40:Int)=((40:UInt8).toNat:Int)from rfl,J5];rw[Ec];obtain⟨t,ts,e⟩:=Ajq h.ne;have ab:=h.tm;have aa:=h.few;rw[e]at ab aa;rw[e,Bj];unfold U7;have e2:((t++Bz ts++[41])++r:Tx)=t++(Bz (ts.map id)++41::r):=by simp
 rw[e2,gL (ab t (by simp)) ?_]
 ·rw[Ec,U2 (u:=id) (c:=41) (by decide) (P:=GTm) (fun x r hx hr=>gL hx fun b q e=>nd (hr b q e)) 2 ts r (fun y hy=>ab y (by simp[hy])) (by simpa using aa)];rw[Ec,show (41:Int)=((41:UInt8).toNat:Int)from rfl,J5];rw[Ec,<-e]
 ·intro b q eb;cases ts with
  |nil=>simp[Bz]at eb;exact nd (.inr eb.1.symm)
  |cons y ys=>rw[Ahj,Nw]at eb;simp at eb;exact nd (.inl eb.1.symm)
theorem pV {a:RAtom}(h:GA' a)(r:Tx):J3 (B8 a++r)= .got a r:=by
 have hp:=gR h r;cases hn:a.nt with
 |true=>
  rw[hn]at hp;rw[show B8 a++r=33::(A6 a++r)by simp[B8,hn]];unfold J3;dsimp only;rw[if_pos (by decide)];exact hp
 |false=>
  rw[hn]at hp;rw[show B8 a++r=A6 a++r by simp[B8,hn]];obtain⟨b,q,e,h1,h2⟩:=Kv h.nm.1;have e2:A6 a++r=b::(q++40::(Bj a.terms++[41])++r):=by unfold A6;rw[e];simp
  rw[e2]at hp⊢;unfold J3;dsimp only;rw[if_neg (by simp;omega)];exact hp
theorem xJ {x:RItem}(h:GIt x)(r:Tx):Fe (Bc x++46::r)= .got x r:=by
 cases ho:x.out with
 |true=>
  obtain⟨h1,h2,h3⟩:=h.out ho;rw[Bc,if_pos ho];show Fe (63::(x.head.pred++46::r))=_;unfold Fe;dsimp only;rw[if_pos (by decide)];unfold bQ;rw[gN h.nm (fun b q e=>by simp at e;rw[<-e.1];decide)];rw[Ec,show (46:Int)=((46:UInt8).toNat:Int)from rfl,J5];rw[Ec];obtain⟨o,⟨n,p,ts⟩,bd⟩:=x;simp only at h1 h2 h3 ho;subst h1;subst h2;subst h3;subst ho;rfl
 |false=>
  obtain⟨h1,h2,h3,h4⟩:=h.rule ho;have hR:Fe (Bc x++46::r)=Nr (Bc x++46::r):=by
   obtain⟨b,q,e,g1,g2⟩:=Kv h.nm.1;have e2:Bc x++46::r=b::(q++40::(Bj x.head.terms++[41])++(if x.body=[]then []else 58::45::Bj (x.body.map B8))++46::r):=by
    unfold Bc Dh A6;rw[if_neg (by simp[ho]),e];simp
   rw[e2];unfold Fe;dsimp only;rw[if_neg (by simp;omega)]
  rw[hR,Bc,if_neg (by simp[ho]),Dh,Ahq];unfold Nr;have hp:=gR h1 ((if x.body=[]then []else 58::45::Bj (x.body.map B8))++46::r);rw[h2]at hp;rw[hp,Ec];by_cases hb:x.body=[]
  ·rw[if_pos hb];show Nq x.head (46::r)=_;unfold Nq;dsimp only;rw[if_pos (by decide)];rw[<-hb,<-ho]
  ·rw[if_neg hb];obtain⟨l,ls,e⟩:=Ajq hb;rw[e]at h3 h4;rw[e,Ahj,Bj];have e2:(58::45::(B8 l++Bz (ls.map B8))++46::r:Tx)=58::45::(B8 l++(Bz (ls.map B8)++46::r)):=by simp
   rw[e2];unfold Nq;dsimp only;rw[if_neg (by decide)];rw[show (58:Int)=((58:UInt8).toNat:Int)from rfl,J5];rw[Ec,show (45:Int)=((45:UInt8).toNat:Int)from rfl,J5];rw[Ec];unfold Ro;rw[pV (h4 l (by simp)),Ec,U2 (u:=B8) (c:=46) (by decide) (P:=GA') (fun y q hy _=>pV hy q) 4 ls r (fun y hy=>h4 y (by simp[hy])) (by simpa using h3)];rw[Ec,show (46:Int)=((46:UInt8).toNat:Int)from rfl,J5];rw[Ec,<-e,<-ho]
theorem Zn:∀(n:Nat) (l:List RItem),(∀x∈l,GIt x)->l.length<=n->Bq n (Bu l)= .got l []
 |n,[],_,_=>by cases n<;>rfl
 |0,x::l,_,hl=>by simp at hl
 |n+1,x::l,h,hl=>by
  have e:Bu (x::l)=Bc x++46::Bu l:=by simp[Bu]
  have aa:Bc x++46::Bu l≠[]:=by simp
  obtain⟨b,q,e2⟩:=Ajq aa;rw[e];have hp:=xJ (h x (by simp)) (Bu l);rw[e2]at hp⊢;show ((Fe (b::q)).bnd fun x r=>(Bq n r).bnd fun xs r=>.got (x::xs) r)=_;rw[hp,Ec,Zn n l (fun y hy=>h y (by simp[hy])) (by simpa using hl)];rfl
theorem xI {α:Type}{f:Tx->Rd α}{P:α->Prop}(hf:∀s x r,f s= .got x r->P x){n:Nat}{s:Tx}{xs:List α}{r:Tx}(h:Du f n s= .got xs r):∀x∈xs,P x:=Ms hf n s xs r h
theorem U6 {nt:Bool}{s r:Tx}{a:RAtom}(h:C9 nt s= .got a r):GA' a:=by
 have hw:=(Fz h).2.1;have ht:=J7 (T:=GTm) (fun _ _ _ h=>xH h) h;refine⟨?_,hw.2.1,hw.2.2.1,ht⟩;unfold C9 at h;obtain⟨p,q,h1,h⟩:=A0 h;obtain⟨u,q2,h2,h⟩:=A0 h;unfold U7 at h;obtain⟨t,q3,h3,h⟩:=A0 h;obtain⟨ts,q4,h4,h⟩:=A0 h;obtain⟨u2,q5,h5,h⟩:=A0 h;cases h;exact gO h1
theorem pW {s r:Tx}{a:RAtom}(h:J3 s= .got a r):GA' a:=by
 cases s with
 |nil=>cases h
 |cons b q=>
  unfold J3 at h;dsimp only at h;split at h
  ·exact U6 h
  ·exact U6 h
theorem xK {s r:Tx}{x:RItem}(h:Fe s= .got x r):GIt x:=by
 have hw:=(U4 h).2;cases s with
 |nil=>cases h
 |cons b q=>
  unfold Fe at h;dsimp only at h;split at h
  ·unfold bQ at h;obtain⟨p,q,h1,h⟩:=A0 h;obtain⟨u,q2,h2,h⟩:=A0 h;cases h;exact⟨gO h1,hw.2.1,(fun e=>by cases e)⟩
  ·unfold Nr at h;obtain⟨hd,q,h1,h⟩:=A0 h;have hg:=U6 h1;have key:x.head=hd/\x.out=false/\∀a∈x.body,GA' a:=by
    cases q with
    |nil=>cases h
    |cons c q=>
     unfold Nq at h;dsimp only at h;split at h
     ·cases h;exact⟨rfl,rfl,by simp⟩
     ·obtain⟨_,q2,_,h⟩:=A0 h;obtain⟨_,q3,_,h⟩:=A0 h;unfold Ro at h;obtain⟨l,q4,h4,h⟩:=A0 h;obtain⟨ls,q5,h5,h⟩:=A0 h;obtain⟨_,q6,_,h⟩:=A0 h;cases h;refine⟨rfl,rfl,fun a ha=>?_⟩;rcases Ah2.1 ha with rfl|ha
      ·exact pW h4
      ·exact xI (fun _ _ _ h=>pW h) h5 a ha
   obtain⟨e1,e2,e3⟩:=key;refine⟨by rw[e1];exact hg.nm,hw.2.1,fun ho=>⟨by rw[e1];exact hg,(hw.2.2 ho).2.1,(hw.2.2 ho).2.2.1,e3⟩⟩
theorem Mt:∀(n:Nat) (s:Tx) (l:List RItem) (r:Tx),Bq n s= .got l r->∀x∈l,GIt x
 |n,[],l,r,h=>by
  cases n<;>(cases h;intro x hx;cases hx)
 |0,b::s,l,r,h=>by cases h
 |n+1,b::s,l,r,h=>by
  have h':((Fe (b::s)).bnd fun x r=>(Bq n r).bnd fun xs r=>.got (x::xs) r)= .got l r:=h;obtain⟨x,q,h1,h2⟩:=A0 h';obtain⟨xs,q2,h3,h4⟩:=A0 h2;cases h4;intro y hy;rcases Ah2.1 hy with rfl|hy
  ·exact xK h1
  ·exact Mt n _ _ _ h3 y hy
def Gy (P:List Tx):Tx:=(P.filter W1).flatten
theorem Zo {P:List Tx}{i:Nat}{p:Tx}(h:P[i]?=some p):Gy (P.take (i+1))=Gy (P.take i)++if W1 p=true then p else []:=by
 unfold Gy;rw[Ahd,h,Ais,Ajk,List.flatten_append];cases hp:W1 p<;>simp[hp]
theorem xL {P:List Tx}{B:Nat}(h:∀p∈P,p.length<=B)(i:Nat):(Gy (P.take i)).length<=i*B:=by
 induction i with
 |zero=>simp[Gy]
 |succ i ih=>
  rw[Ahe];cases hg:P[i]? with
  |none=>rw[Ahd,hg,Option.toList_none,Ahh];omega
  |some p=>
   have:=h p (Ag1 hg);rw[Zo hg,Aho];split
   ·omega
   ·simp;omega
theorem Ns (t:Tx)(ht:t.length<=100000)(hn:(Jo t).length<=1000)(hp:∀p∈Jo t,p.length<=100000)(σ:St):ACalls Tryz.prog 17 [str t] σ fun r σ'=>r=str (Gy (Jo t))/\Keep σ σ':=by
 have ai:=fun σ=>bX t Aj6 σ;have ab:=fun p σ=>bY p σ;have am:({data:=#[]}:ByteArray)=bs []:=rfl;generalize Jo t=P at*
 refine Z9 26 [.tmp 2] Tryz.func17 ?_
 repeat' (first|refine Z1 ?_|(refine Z8 ?_;intro yb ya)|(refine Z4 ?_;clear ya yb)|(refine Z5 ?_;refine Xi (ai _) ?_;rintro _ _ ⟨⟨idp,rfl⟩,ae⟩;(have ad:=ae.nobj))|refine Z7 ?_|exact Zt|(apply ya.out;clear ya yb))
 rename_i σ1
 refine Af (fun m s σ'=>∃(i:Nat) (u:Tx),m=P.length-i/\i<=P.length/\s 3=sl idp P.length (P.map str)/\s 4=str u/\s 5=sc (.int .i64 i)/\Keep σ σ'/\Akc (u=Gy (P.take i))) P.length
  ⟨0,[],Aj6,Aj6,rfl,rfl,rfl,ae,by simp[Akc,Gy]⟩ ?_
 clear ae ad;rintro m s σ2 ⟨i,u,rfl,hi,h3,h4,h5,hK,hU⟩;have aj:=hK.nobj;by_cases af:i<P.length
 ·have aa:=Agz af;have ah:=Ez af;generalize P[i]=p at aa ah;have ab:=ab p;have ak:u.length+p.length<=1099511627776:=by
   have h1:=xL hp i;rw[<-hU.out]at h1;have h2:=hp p (Ag1 aa);omega
  have HS:Akc (Gy (P.take (i+1))=u++if W1 p=true then p else []):=by
   rw[Akc,Zo aa,<-hU.out]
  clear hp aa hU;cases ho:W1 p with
  |true=>
   rw[ho]at ab HS;have HU:Akc (u++p=Gy (P.take (i+1))):=by rw[Akc,HS.out];rfl
   clear HS
   repeat' (first|refine Z1 ?_|(refine Z8 ?_;intro yb ya)|(refine Z4 ?_;clear ya yb)|(refine Z2 ?_ ?_<;>intro h ac<;>try exact Xp)|(refine Z5 ?_;refine Xi (ab _) ?_;rintro _ _ ⟨rfl,rfl⟩)|refine Z7 ?_|exact Zt|(apply ya.out;clear ya yb))
   refine⟨P.length-(i+1),Aj6,i+1,u++p,?_⟩
   ((repeat' refine Zi ?_ ?_)<;>first|exact Xq|exact HU|exact Xs)
  |false=>
   rw[ho]at ab HS;have HU:Akc (u=Gy (P.take (i+1))):=by rw[Akc,HS.out];simp
   clear HS
   repeat' (first|refine Z1 ?_|(refine Z8 ?_;intro yb ya)|(refine Z4 ?_;clear ya yb)|(refine Z2 ?_ ?_<;>intro h ac<;>try exact Xp)|(refine Z5 ?_;refine Xi (ab _) ?_;rintro _ _ ⟨rfl,rfl⟩)|refine Z7 ?_|exact Zt|(apply ya.out;clear ya yb))
   refine⟨P.length-(i+1),Aj6,i+1,u,?_⟩
   ((repeat' refine Zi ?_ ?_)<;>first|exact Xq|exact HU|exact Xs)
 ·have hil:i=P.length:=Aj6;have hu:u=Gy P:=by rw[hU.out,hil,Ag7]
  rw[hu]at h4;clear hU hu hp;generalize Gy P=v at*
  repeat' (first|refine Z1 ?_|(refine Z8 ?_;intro yb ya)|(refine Z4 ?_;clear ya yb)|(refine Z2 ?_ ?_<;>intro h ac<;>try exact Xp)|refine Z7 ?_|exact Zt|(apply ya.out;clear ya yb))
  first|exact⟨_,rfl,rfl,hK⟩|exact⟨_,rfl,hK⟩|exact⟨_,rfl,rfl⟩
end Go.Proofs.YtmoeoppbmhfbpabGreatDoorL
namespace Go.Abs
theorem kA {P:Program}{t:TypeId}{z b:Nat}{zc:List Value}{σ:St}{id2 m n:Nat}{x:AV}{xs ys:List AV}{K:AV->St->Prop}(ht:Nm P t=some (z,b,zc))
  (hz:0<z) (hzc:zc.length=z) (hy:ys.length=m*z) (hf:ys.all flat=true) (hm:0<m) (hb:(n+m)*b<=140737488355328) (hl:n+m<=1099511627776)
  (hx:(x=nilS/\n=0/\xs=[])\/∃o cap,x=gx o n cap/\0<n/\n<=cap/\(σ.obj o).length=cap*z/\(σ.obj o).take (n*z)=xs)
  (hO:∀o cap cs,((∃c0,x=gx o n c0/\n+m<=c0/\cap=c0)->cs.length=cap*z->cs.take ((n+m)*z)=xs++ys->K (gx o (n+m) cap) (σ.put o cs)))
  (hN:∀cap cs,cs.length=cap*z->n+m<=cap->cs.take ((n+m)*z)=xs++ys->K (gx σ.nobj (n+m) cap) (σ.new cs)):Ib P t t x (sl id2 m ys) σ K:=by
 right;refine⟨z,b,zc,id2,m,ys,ht,rfl,rfl,hz,hzc,hy,hf,hm,?_⟩;have ab:∀k,(List.replicate k (zc.map cst1)).flatten.length=k*z:=fun k=>by
  induction k with
  |zero=>simp
  |succ k ih=>rw[List.replicate_succ,List.flatten_cons,Aho,ih,Ai1,hzc,Ahe,Nat.add_comm]
 rcases hx with⟨rfl,rfl,rfl⟩|⟨o,cap,rfl,af,ah,aa,ac⟩
 ·refine .inl ⟨rfl,by simpa using hb,by simpa using hl,fun cap hc=>?_⟩;have:=hN cap (ys++(List.replicate (cap-m) (zc.map cst1)).flatten) (by rw[Aho,hy,ab,<-Ahm];congr 1;omega) Aj6 (by rw[Ahn,<-hy,List.take_left];rfl);rw[Ahn]at this;exact this
 ·have ad:xs.length=n*z:=by rw[<-ac,Ahp,aa];exact Ahu (Agv _ ah)
  refine .inr ⟨o,n,cap,rfl,hb,hl,aa,af,fun hc=>?_,fun hc cap' ai=>?_⟩
  ·have ae:n*z+ys.length<=(σ.obj o).length:=by rw[hy,aa,<-Ahm];exact Agv _ hc
   refine hO o cap _ ⟨cap,rfl,hc,rfl⟩ (by rw[Ix];exact aa) ?_;rw[Gk _ _ _ ae,ac];have:(n+m)*z=(xs++ys).length:=by rw[Aho,ad,hy,Ahm]
   rw[this,List.take_left]
  ·refine hN cap' _ ?_ ai ?_
   ·rw[ac,Aho,Aho,ad,hy,ab,<-Ahm,<-Ahm];congr 1;omega
   ·rw[ac];have:(n+m)*z=(xs++ys).length:=by rw[Aho,ad,hy,Ahm]
    rw[this,List.take_left]
theorem V9 {P:Program}{N:Nat}{c:Code}{Q:Hg}{s:Sl}{σ:St}{o p n cap j k:Nat}{ys:List AV}(ho:o<σ.nobj)(hp:p<σ.nobj)(aj:o≠p)(hy:σ.obj p=ys)(hj:ys[j]?=some (gx o n cap))(hk:k<=(σ.obj o).length)
  (h:Kf P N c Q s ((σ.put o []).put p (ys.set j (sl 0 n ((σ.obj o).take k))))):Kf P N c Q s σ:=fun G a w R=>by
 obtain⟨G',I',E,ab,aa⟩:=R.inv.freeze ho;have ad:(σ.put o []).obj p=ys:=by simp[St.put,aj.symm,hy]
 have am:(σ.put o []).obj p≠[]:=fun e=>by rw[ad]at e;rw[e]at hj;simp at hj
 obtain⟨I2,E2⟩:=I'.retell (o:=p) hp am (ys.set j (sl 0 n ((σ.obj o).take k))) (fun arr ha=>by
  rw[ad]at ha;refine⟨by rw[Ajr];exact ha.1,fun i v x hv hx=>?_⟩;by_cases ae:i=j
  ·subst ae;have an:=(Agy.1 hj).1;rw[List.getElem?_set_self an]at hx;cases hx;obtain⟨e1,e2,e3⟩:=VR.of_gx (ha.2 i v _ hv hj);refine VR.fold ⟨some ⟨G'.blk o,0,none⟩,cap,e1,⟨e2,fun h=>by cases h⟩,fun af=>⟨G'.blk o,0,rfl,fun q y hq=>?_⟩,fun k' ap=>Aj6⟩;have ak:σ.obj o≠[]:=fun e=>af (by rw[e];simp);obtain⟨⟨cur,ecur,ac,ao⟩,-⟩:=(R.inv.obj o ho).2.2 ak;rw[Agw]at hq;split at hq
   case isFalse=>cases hq
   obtain⟨u,ai,ah⟩:=ao.get hq;refine⟨by rw[aa];exact ab _,u,?_,ah.ext E⟩;rw[aa];simp only[World.cell?,ac,Ahn];simpa using ai
  ·rw[Ajs (Ne.symm ae)]at hx
   exact ha.2 i v x hv hx)
 have R2:Rel N G' s ((σ.put o []).put p (ys.set j (sl 0 n ((σ.obj o).take k)))) a w:=⟨R.defers,R.size,fun t=>(R.tmps t).ext (E.trans E2),I2⟩;exact wp_mono (h G' a w R2) fun e a' w' hc=>hc.ext (E.trans E2)
theorem V8 {P:Program}{N:Nat}{c:Code}{Q:Hg}{s:Sl}{σ:St}{o n cap k t:Nat}(ho:o<σ.nobj)(ht:s t=gx o n cap)(hk:k<=(σ.obj o).length)
  (h:Kf P N c Q (upd s t (sl 0 n ((σ.obj o).take k))) (σ.put o [])):Kf P N c Q s σ:=fun G a w R=>by
 obtain⟨G',I',E,aa,ai⟩:=R.inv.freeze ho
 have R2:Rel N G' (upd s t (sl 0 n ((σ.obj o).take k))) (σ.put o []) a w:=⟨R.defers,R.size,fun q=>by
  unfold upd;by_cases hq:q=t
  ·rw[if_pos hq];subst hq;have hv:=R.tmps q;rw[ht]at hv;obtain⟨e1,e2,e3⟩:=VR.of_gx hv;refine VR.fold ⟨some ⟨G.blk o,0,none⟩,cap,e1,⟨e2,fun h=>by cases h⟩,fun ac=>⟨G.blk o,0,rfl,fun q y hq=>?_⟩,fun k' aj=>Aj6⟩;have af:σ.obj o≠[]:=fun e=>ac (by rw[e];simp);obtain⟨⟨cur,ecur,ab,ah⟩,-⟩:=(R.inv.obj o ho).2.2 af;rw[Agw]at hq;split at hq
   case isFalse=>cases hq
   obtain⟨u,ae,ad⟩:=ah.get hq;refine⟨aa _,u,?_,ad.ext E⟩;simp only[World.cell?,ab,Ahn];simpa using ae
  ·rw[if_neg hq];exact (R.tmps q).ext E,I'⟩
 exact wp_mono (h G' a w R2) fun e a' w' hc=>hc.ext E
end Go.Abs
namespace Go.Proofs.YtmoeoppbmhfbpabGreatDoorL
open Go.Abs
theorem Pe {a:De}(h:Hw a.ts=true)(ν:Nu):Be a ν=Cr a:=by
 unfold Be Cr;congr 1;apply Aid;intro t ht;unfold Hw at h;rw[Ag0]at h;have:=h t ht;obtain⟨b,w⟩:=t;cases b with
 |false=>rfl
 |true=>simp at this
def nR (t:Bb)(ts:List Tm)(x:Tm×Nat):List Tm:=if x.1.1=true then Bf x.1.2 (H4 t (x.2:Nat)) ts else ts
def P6 (ps:List Tm)(t:Bb)(ts:List Tm):List Tm:=ps.zipIdx.foldl (nR t) ts
def On (l:List Bb)(a:De)(p:Part):Part:=⟨p.a,p.tups.filter fun t=>!decide (Cr ⟨a.p,P6 p.a.ts t a.ts⟩∈l)⟩
theorem tT (ps:List Tm)(x:Tm)(t:Bb)(ts:List Tm):P6 (ps++[x]) t ts=nR t (P6 ps t ts) (x,ps.length):=by
 unfold P6;rw[List.zipIdx_append,Aix];simp
theorem vA (μ:Nu)(v:Int):Ni μ v (μ v)=μ:=by
 funext w;unfold Ni;split
 ·rename_i e;rw[e]
 ·rfl
theorem qN {t:Bb}{v:Int}:∀(l:List (Tm×Nat)) (ts:List Tm),A7 (l.foldl (nR t) ts) v=true->A7 ts v=true/\∀x∈l,x.1≠(true,v)
 |[],ts,h=>⟨h,by simp⟩
 |x::l,ts,h=>by
  rw[Ag6]at h;obtain⟨h1,h2⟩:=qN l _ h;unfold nR at h1;obtain⟨⟨xb,xv⟩,xi⟩:=x;cases xb with
  |false=>
   simp only[Ahv,if_false]at h1
   exact⟨h1,fun y hy=>by
    rcases Ah2.1 hy with rfl|hy
    ·simp
    ·exact h2 y hy⟩
  |true=>
   simp only[if_true]at h1;have:=(hasV_put (a:=⟨0,ts⟩)).1 h1
   exact⟨this.1,fun y hy=>by
    rcases Ah2.1 hy with rfl|hy
    ·simp only[ne_eq,Prod.mk.injEq,true_and];exact fun e=>this.2 e.symm
    ·exact h2 y hy⟩
theorem Acz {pa a:De}{μ:Nu}(h3:pa.ts.length<=3)(hv:∀v,A7 a.ts v=true->A7 pa.ts v=true):Cr ⟨a.p,P6 pa.ts (Be pa μ) a.ts⟩=Be a μ:=by
 have key:∀(l:List (Tm×Nat)) (ts:List Tm),(∀x∈l,pa.ts[x.2]?=some x.1)->Be ⟨a.p,l.foldl (nR (Be pa μ)) ts⟩ μ=Be ⟨a.p,ts⟩ μ:=by
  intro l;induction l with
  |nil=>intro ts _;rfl
  |cons x l ih=>
   intro ts hl;rw[Ag6,ih _ (fun y hy=>hl y (Ah5 _ hy))];unfold nR;split
   ·rename_i hx;obtain⟨⟨xb,xv⟩,xi⟩:=x;simp only at hx;subst hx;have hg:pa.ts[xi]?=some (true,xv):=hl _ Ah3;have aa:=(Agy.1 hg).1;have ht:H4 (Be pa μ) ((xi:Nat):Int)=μ xv:=by
     unfold H4;rw[Ajn,Be,Jy (by simpa using aa) (by simpa using h3)];have:=(Agy.1 hg).2;simp[this,En]
    show Be ⟨a.p,Bf xv (H4 (Be pa μ) ((xi:Nat):Int)) ts⟩ μ=_;rw[ht];have:=Kj ⟨a.p,ts⟩ xv (μ xv) μ;rw[vA]at this;exact this
   ·rfl
 have hz:∀x∈pa.ts.zipIdx,pa.ts[x.2]?=some x.1:=fun x hx=>by
  obtain⟨y,i⟩:=x;exact List.mem_zipIdx_iff_getElem?.1 hx
 have h1:=key pa.ts.zipIdx a.ts hz;have h2:Hw (P6 pa.ts (Be pa μ) a.ts)=true:=by
  unfold Hw;rw[Ag0];intro t ht;obtain⟨b,w⟩:=t;cases b with
  |false=>rfl
  |true=>
   exfalso;obtain⟨g1,g2⟩:=qN pa.ts.zipIdx a.ts (hasV_iff.2 ht);have:=hasV_iff.1 (hv w g1);obtain⟨i,hi⟩:=Aif this;exact g2 ((true,w),i) (List.mem_zipIdx_iff_getElem?.2 hi) rfl
 rw[<-Pe (a:=⟨a.p,P6 pa.ts (Be pa μ) a.ts⟩) h2 μ];exact h1
theorem Ac0 {l:List Bb}{a:De}{p:Part}{ν:Nu}(h3:p.a.ts.length<=3)(hv:∀v,A7 a.ts v=true->A7 p.a.ts v=true):Be p.a ν∈(On l a p).tups↔Be p.a ν∈p.tups/\Be a ν∉l:=by
 unfold On;rw[Ai7,Acz h3 hv];simp
theorem cP (om ot:Nat)(M:MM)(d b:Int)(p:Part)(a:De)(id idt ida k:Nat)(x:Nat×List Bb)(b6:p.a.ts.length<=3)(b5:p.tups.length<=5000)(h3:T3 p.tups)(ha:a.ts.length<=3)(hk:a.p=(k:Int))(hx:M[k]?=some x)(σ:St)(hM:MOb σ om ot M d b):ACalls Tryz.prog 219 [ptr om 0,ag [ic p.a.p,sl id p.a.ts.length (Ac p.a.ts),sl idt p.tups.length (Dc p.tups)],ag [ic a.p,sl ida a.ts.length (Ac a.ts)]] σ fun r σ'=>(∃idn,r=ag [ic p.a.p,sl id p.a.ts.length (Ac p.a.ts),sl idn (On x.2 a p).tups.length (Dc (On x.2 a p).tups)])/\Keep σ σ':=by
 have b4:=E6 h3;have ca:=Ch p.a.ts;have HR:Akc ((On x.2 a p).tups=p.tups.filter fun t=>!decide (Cr ⟨a.p,P6 p.a.ts t a.ts⟩∈x.2)):=rfl;have a3:Akc (∀(ts:List Tm) (i:Nat) (σ1:St),ts.length<=3->Keep σ σ1->ACalls Tryz.prog 81 [ptr om 0,ag [ic a.p,sl i ts.length (Ac ts)]] σ1 fun r σ'=>r=sc (.bool (decide (Cr ⟨a.p,ts⟩∈x.2)))/\Keep σ1 σ'):=fun ts i σ1 h1 h2=>I0 om ot M d b ⟨a.p,ts⟩ i k x h1 hk hx σ1 (hM.keep h2);generalize hG:(fun t:Bb=>Cr ⟨a.p,P6 p.a.ts t a.ts⟩)=bT at*
 have HG:Akc (∀t,bT t=Cr ⟨a.p,P6 p.a.ts t a.ts⟩):=fun t=>by rw[<-hG]
 have bz:Akc ((On x.2 a p).tups=p.tups.filter fun t=>!decide (bT t∈x.2)):=by
  rw[Akc,HR.out];congr 1;funext t;rw[HG.out t]
 clear hG HR hk hx hM;generalize On x.2 a p=bp at*
 refine Z9 55 [.cell 6 239] Tryz.func219 ?_
 repeat' (first|refine Z1 ?_|(refine Z8 ?_;intro yb ya)|(refine Z4 ?_;clear ya yb)|refine Z3 ?_|exact Zt|(apply ya.out;clear ya yb))
 refine Af (fun m s σ'=>∃(i i3:Nat) (o:List Bb) (xs:List AV),m=p.tups.length-i/\i<=p.tups.length/\s 0=ptr om 0/\s 4=ptr σ.nobj 0/\s 5=ptr (σ.nobj+1) 0/\s 6=ptr (σ.nobj+2) 0/\s 7=ptr (σ.nobj+3) 0/\s 17=sl idt p.tups.length (Dc p.tups)/\s 18=ic p.tups.length/\s 19=ic i/\Keep σ σ'/\σ.nobj+3<σ'.nobj/\σ'.obj σ.nobj=[ic p.a.p,sl id p.a.ts.length (Ac p.a.ts),sl idt p.tups.length (Dc p.tups)]/\σ'.obj (σ.nobj+1)=[ic a.p,sl ida a.ts.length (Ac a.ts)]/\σ'.obj (σ.nobj+2)=[ic 0,nilS,nilS]/\σ'.obj (σ.nobj+3)=[ic p.a.p,sl id p.a.ts.length (Ac p.a.ts),sl i3 o.length xs]/\Own σ σ' i3 o.length/\o.length<=i/\xs.length=o.length*3/\Akc (xs=Dc o/\o=(p.tups.take i).filter fun t=>!decide (bT t∈x.2))) p.tups.length
  ⟨0,1,[],[],Aj6,Aj6,by simp[upd,initS],Aj8,Aj8,Aj8,Aj8,Aj8,Aj8,rfl,Xs,Akb,?_,?_,?_,?_,Own.nil _ _,by simp,by simp,⟨rfl,by simp⟩⟩ ?_
 ·rw[Ah Aj6,Ag Aka,Ag Aka,Ag Aka,Ao]
 ·rw[Ah Aj6,Ag Aka,Ag Aka,Bs Aka Aka]
 ·rw[Ah Aj6,Ag Aka,Bs Aka Aka]
 ·rw[show σ.nobj+3=σ.nobj+1+1+1 from rfl,Aj];simp
 rintro m s σ' ⟨i,i3,o,xs,rfl,hi,h0,h4,h5,h6,h7,a6,a5,a4,hK,b8,b2,b1,b0,bd,hO,b7,be,hX⟩;have b3:=hK.nobj;by_cases bf:i<p.tups.length
 ·have ae:=Agz bf;obtain⟨ah,r,hd⟩:=Gi h3 ae;generalize p.tups[i]=t at hd ae ah;have HF:Akc ((p.tups.take (i+1)).filter (fun t=>!decide (bT t∈x.2))=(p.tups.take i).filter (fun t=>!decide (bT t∈x.2))++if (!decide (bT t∈x.2))=true then [t]else []):=by
   rw[Akc,Ahd,ae,Ais,Dv]
  clear ae;have f1:=Dr ah;have f2:=H9 ah;have f3:=D4 ah;have f4:=Hz ah;have f5:=Cn t;have f6:=Pw ah
  repeat' (first|refine Z1 ?_|(refine Z8 ?_;intro yb ya)|(refine Z4 ?_;clear ya yb)|(refine Z2 ?_ ?_<;>intro h ab<;>try exact Xp)|refine Z3 ?_|exact Zt|(apply ya.out;clear ya yb))
  refine Af (fun m s σ2=>∃(j idj:Nat) (ts:List Tm),m=p.a.ts.length-j/\j<=p.a.ts.length/\s 0=ptr om 0/\s 4=ptr σ.nobj 0/\s 5=ptr (σ.nobj+1) 0/\s 6=ptr (σ.nobj+2) 0/\s 7=ptr (σ.nobj+3) 0/\s 9=ptr σ'.nobj 0/\s 10=ptr (σ'.nobj+1) 0/\s 17=sl idt p.tups.length (Dc p.tups)/\s 18=ic p.tups.length/\s 19=ic i/\s 26=sl id p.a.ts.length (Ac p.a.ts)/\s 27=ic p.a.ts.length/\s 28=ic j/\Keep σ' σ2/\σ'.nobj+1<σ2.nobj/\σ2.obj σ'.nobj=Al t/\σ2.obj (σ'.nobj+1)=[ic a.p,sl idj ts.length (Ac ts)]/\ts.length<=3/\Akc (ts=P6 (p.a.ts.take j) t a.ts)) p.a.ts.length
   ⟨0,ida,a.ts,Aj6,Aj6,Aj7,Aj7,Aj7,Aj7,Aj7,Aj7,Aj7,Aj7,Aj7,Aj7,Aj7,Aj7,Aj8,Xs,Akb,?_,?_,ha,rfl⟩ ?_
  ·rw[Ah Aj6,Ag Akb,Aj]
  ·rw[Aj]
  clear h0 h4 h5 h6 h7 a6 a5 a4;rintro m s σ2 ⟨j,idj,ts,rfl,hj,h0,h4,h5,h6,h7,h9,bv,a6,a5,a4,bu,br,bq,af,ay,oc0,oc1,a9,hT⟩;have aj:=af.nobj;by_cases ak:j<p.a.ts.length
  ·have aa:=Agz ak;obtain⟨rj,bl⟩:=Cl aa;generalize p.a.ts[j]=w at bl aa;obtain⟨w1,w2⟩:=w;have an:t[j]?=some t[j]:=Agz Aj6;have bh:=Jr an;have ax:Akc (H4 t (j:Nat)=t[j]):=by simp[Akc,H4,an]
   generalize t[j]=y at an bh ax;have HT:Akc (P6 (p.a.ts.take (j+1)) t a.ts=if w1=true then Bf w2 y ts else ts):=by
    rw[Akc,Ahd,aa,Ais,tT,Ahp,Ahu hj,<-hT.out];unfold nR;simp only[ax.out]
   clear aa an ax hT;cases w1 with
   |false=>
    have a8:Akc (ts=P6 (p.a.ts.take (j+1)) t a.ts):=by rw[Akc,HT.out];rfl
    clear HT
    repeat' (first|refine Z1 ?_|(refine Z8 ?_;intro yb ya)|(refine Z4 ?_;clear ya yb)|(refine Z2 ?_ ?_<;>intro h ab<;>try exact Xp)|refine Z3 ?_|exact Zt|(apply ya.out;clear ya yb))
    refine⟨p.a.ts.length-(j+1),Aj6,j+1,idj,ts,?_⟩
    ((repeat' refine Zi ?_ ?_)<;>first|exact Xq|exact a8|exact Xs)
   |true=>
    have a8:Akc (Bf w2 y ts=P6 (p.a.ts.take (j+1)) t a.ts):=by rw[Akc,HT.out];rfl
    clear HT;have bm:=fun σ=>M8 a.p idj ts w2 y Aj6 σ;have bi:(Bf w2 y ts).length<=3:=by simpa[Bf]using a9
    repeat' (first|refine Z1 ?_|(refine Z8 ?_;intro yb ya)|(refine Z4 ?_;clear ya yb)|(refine Z2 ?_ ?_<;>intro h ab<;>try exact Xp)|refine Z3 ?_|exact Zt|(apply ya.out;clear ya yb))
    have ba:Keep σ' ((σ2.new [sc (.bool false),ic 0]).put σ2.nobj [sc (.bool true),ic w2]):=(af.new _).put aj _;refine Bt (Q:=fun e s' σ''=>e= .normal/\s' 0=ptr om 0/\s' 4=ptr σ.nobj 0/\s' 5=ptr (σ.nobj+1) 0/\s' 6=ptr (σ.nobj+2) 0/\s' 7=ptr (σ.nobj+3) 0/\s' 9=ptr σ'.nobj 0/\s' 10=ptr (σ'.nobj+1) 0/\s' 17=sl idt p.tups.length (Dc p.tups)/\s' 18=ic p.tups.length/\s' 19=ic i/\s' 26=sl id p.a.ts.length (Ac p.a.ts)/\s' 27=ic p.a.ts.length/\s' 28=ic j/\Keep σ' σ''/\σ'.nobj+1<σ''.nobj/\σ''.obj σ'.nobj=Al t/\∃idn,σ''.obj (σ'.nobj+1)=[ic a.p,sl idn (Bf w2 y ts).length (Ac (Bf w2 y ts))]) ?_ ?_
    ·refine A1 Ai (fun _=>True) [7] [0,1,2,3,4,5] 2 #[true,true,true,true,true,true,false,false] Aj9 (fun _ _ _ h=>by cases h.1) ?_;intro yb ya;refine Z3 ?_;refine ya.out _ ?_;clear ya yb;refine Am (i:=6) Aj9 ?_;refine Aq ?_;intro yb ya;refine Z3 ?_;refine ACalls.mono (bm _) ?_;rintro _ σb ⟨⟨idn,rfl⟩,ao⟩;have knb:=ao.nobj;simp only[Ab,Aa]at knb;have av:=ao.obj;simp only[Ab,Aa]at av;have og0:σb.obj σ'.nobj=Al t:=by rw[av _ Aj6,Ah Aj6,Ag Aj6,oc0]
     have og1:σb.obj (σ'.nobj+1)=[ic a.p,sl idj ts.length (Ac ts)]:=by rw[av _ Aj6,Ah Aj6,Ag Aj6,oc1]
     refine Z3 ?_;refine ya.out _ _ ⟨Ap ao,?_⟩;clear ya yb;refine Am (i:=7) Aj9 ?_;refine Aq ?_;intro yb ya;refine Z3 ?_;refine ya.out _ _ ⟨Br rfl,?_⟩;clear ya yb;refine A2 Aj9 ⟨rfl,Aj7,Aj7,Aj7,Aj7,Aj7,Aj7,Aj7,Aj7,Aj7,Aj7,Aj7,Aj7,Aj7,(ba.trans ao).put Aj6 _,by simp only[Ab];omega,by rw[Ah Aj6,og0],idn,Aj⟩
    ·rintro e s2 σ3 ⟨rfl,g0,g4,g5,g6,g7,g9,g10,g17,g18,g19,g26,g27,g28,cb,b9,oe0,idn,oe1⟩;clear h0 h4 h5 h6 h7 h9 bv a6 a5 a4 bu br bq oc0 oc1 ba af aj ay
     repeat' (first|refine Z1 ?_|(refine Z8 ?_;intro yb ya)|(refine Z4 ?_;clear ya yb)|refine Z3 ?_|exact Zt|(apply ya.out;clear ya yb))
     refine⟨p.a.ts.length-(j+1),Aj6,j+1,idn,Bf w2 y ts,?_⟩
     ((repeat' refine Zi ?_ ?_)<;>first|exact Xq|exact a8|exact Xs)
  ·have bg:j=p.a.ts.length:=Aj6;subst bg;have HB:Akc (Cr ⟨a.p,ts⟩=bT t):=by
    rw[Akc,HG.out t,hT.out,Ag7]
   have am:=fun σ1 hh=>a3.out ts idj σ1 a9 hh;rw[HB.out]at am;have ap:=hK.trans af;clear hT HB hj ak;cases ai:decide (bT t∈x.2)with
   |true=>
    have HX:Akc (xs=Dc o/\o=(p.tups.take (i+1)).filter fun t=>!decide (bT t∈x.2)):=by
     obtain⟨x1,x2⟩:=hX.out;refine⟨x1,?_⟩;rw[HF.out,ai,x2];simp
    rw[ai]at am;clear hX HF ai
    repeat' (first|refine Z1 ?_|(refine Z8 ?_;intro yb ya)|(refine Z4 ?_;clear ya yb)|(refine Z2 ?_ ?_<;>intro h ab<;>try exact Xp)|(refine Z5 ?_;refine Xi (am _ ap) ?_;rintro _ _ ⟨rfl,ac⟩;(have aw:=ac.nobj;have ad:=(af.trans ac).obj;have a0:=ap.trans ac;have az:=Own.keep hO (af.trans ac)))|refine Z3 ?_|exact Zt|(apply ya.out;clear ya yb))
    refine⟨p.tups.length-(i+1),Aj6,i+1,i3,o,xs,?_⟩
    ((repeat' refine Zi ?_ ?_)<;>first|exact Xq|exact a0|exact az|exact HX|exact (by rw[ad _ Aj6];assumption)|exact Xs)
   |false=>
    have HX:Akc (xs++Al t=Dc (o++[t])/\o++[t]=(p.tups.take (i+1)).filter fun t=>!decide (bT t∈x.2)):=by
     obtain⟨x1,x2⟩:=hX.out;refine⟨by rw[x1,Lp],?_⟩;rw[HF.out,ai,<-x2];simp
    rw[ai]at am;clear hX HF ai
    repeat' (first|refine Z1 ?_|(refine Z8 ?_;intro yb ya)|(refine Z4 ?_;clear ya yb)|(refine Z2 ?_ ?_<;>intro h ab<;>try exact Xp)|(refine Z5 ?_;refine Xi (am _ ap) ?_;rintro _ _ ⟨rfl,ac⟩;(have aw:=ac.nobj;have ad:=(af.trans ac).obj;have au:=ac.obj;have a0:=ap.trans ac;have az:=Own.keep hO (af.trans ac)))|refine Z3 ?_|exact Zt)
    rename_i σ5;have oh0:σ5.obj σ'.nobj=Al t:=by rw[au _ Aj6,oc0]
    have oh3:σ5.obj (σ.nobj+3)=[ic p.a.p,sl id p.a.ts.length (Ac p.a.ts),sl i3 o.length xs]:=by rw[ad _ Aj6,bd]
    repeat' (first|refine Z1 ?_|refine Z3 ?_|exact Zt)
    refine Bg (by first|exact Fw) (a0) (az) (by decide) (by rfl) (be) (by rw[f1]) (f5) (by decide) Aj6 Aj6 ?_;intro idn σn bn bo a7 bc bw bb;have eob:∀q,q<σ'.nobj->σn.obj q=σ'.obj q:=fun q hq=>by rw[a7,ad _ hq]
    refine Z3 ?_
    repeat' (first|refine Z1 ?_|(refine Z8 ?_;intro yb ya)|(refine Z4 ?_;clear ya yb)|refine Z3 ?_|exact Zt|(apply ya.out;clear ya yb))
    refine⟨p.tups.length-(i+1),Aj6,i+1,idn,o++[t],xs++Al t,?_⟩
    ((repeat' refine Zi ?_ ?_)<;>first|exact Xq|exact (bo.put Aj6 _)|exact (by simpa using Own.put bn _ _)|exact HX|exact Xs)
 ·have hil:i=p.tups.length:=Aj6;subst hil;obtain⟨x1,x2⟩:=hX.out;rw[Ag7]at x2
  repeat' (first|refine Z1 ?_|(refine Z8 ?_;intro yb ya)|(refine Z4 ?_;clear ya yb)|(refine Z2 ?_ ?_<;>intro h ab<;>try exact Xp)|refine Z3 ?_|exact Zt|(apply ya.out;clear ya yb))
  exact⟨_,rfl,⟨_,by rw[bz.out,<-x2]<;>first|rfl|rw[x1]⟩,hK.put Aj6 _⟩
def lU (a:De)(p:Part):Bool:=(Cb [a]).all (A7 p.a.ts)
theorem pwB_iff {a:De}{p:Part}:lU a p=true↔∀v,A7 a.ts v=true->A7 p.a.ts v=true:=by
 unfold lU;rw[Ag0];constructor
 ·intro h v hv;exact h v ((C3 _ _).2 ⟨a,by simp,hasV_iff.1 hv⟩)
 ·intro h v hv;obtain⟨b,hb,aa⟩:=(C3 _ _).1 hv;simp at hb;subst hb;exact h v (hasV_iff.2 aa)
theorem jA (h0 h1 h3:AV)(hf:([h0,h1,h3]:List AV).all flat=true)(a:De)(ida:Nat)(σ:St):ACalls Tryz.prog 218 [ag [h0,h1,nilS,h3],ag [ic a.p,sl ida a.ts.length (Ac a.ts)]] σ fun r σ'=>r=ic (-1)/\Keep σ σ':=by
 simp only[List.all_cons,List.all_nil,Bool.and_true,Ag3]at hf;obtain⟨f0,f1,f3⟩:=hf;refine Z9 23 [.tmp 4] Tryz.func218 ?_
 repeat' (first|refine Z1 ?_|(refine Z8 ?_;intro yb ya)|(refine Z4 ?_;clear ya yb)|refine Z3 ?_|exact Zt|(apply ya.out;clear ya yb))
 refine Af (fun m s σ'=>m=0/\s 9=ic 0/\s 10=ic 0/\Keep σ σ') 0
  ⟨rfl,Aj8,Aj8,Xs⟩ ?_
 rintro m s σ' ⟨rfl,h9,ab,hK⟩
 repeat' (first|refine Z1 ?_|(refine Z8 ?_;intro yb ya)|(refine Z4 ?_;clear ya yb)|(refine Z2 ?_ ?_<;>intro h aa<;>try exact Xp)|refine Z3 ?_|exact Zt|(apply ya.out;clear ya yb))
 first|exact⟨_,rfl,rfl⟩|exact⟨_,rfl,rfl,hK⟩
theorem iZ (h0 h1 h3:AV)(hf:([h0,h1,h3]:List AV).all flat=true)(L:List Part)(hL:∀p∈L,p.a.ts.length<=3)(a6:L.length<=64)(o cap:Nat)(pc:List AV)(hP:EL Mk L pc)(a:De)(ida:Nat)(ha:a.ts.length<=3)(σ:St)(ho:o<σ.nobj)(au:L.length<=cap)(a5:(σ.obj o).length=cap*3)(an:(σ.obj o).take (L.length*3)=pc):ACalls Tryz.prog 218 [ag [h0,h1,gx o L.length cap,h3],ag [ic a.p,sl ida a.ts.length (Ac a.ts)]] σ fun r σ'=>((∃(i:Nat) (p:Part),r=ic i/\L[i]?=some p/\lU a p=true)\/(r=ic (-1)/\∀p∈L,lU a p=false))/\Keep σ σ':=by
 simp only[List.all_cons,List.all_nil,Bool.and_true,Ag3]at hf;obtain⟨f0,f1,f3⟩:=hf;have ab:=fun (i:Nat) (σ:St)=>Hb [a] [ic a.p,sl ida a.ts.length (Ac a.ts)] i (EL.single ⟨ida,rfl⟩) (by simp;exact ha) (by simp) σ;have am:=E4 (l:=[a]) (by simp;exact ha);have HV:Akc (∀p,lU a p=(Cb [a]).all (A7 p.a.ts)):=fun p=>rfl;generalize Cb [a]=vs at*
 simp only[Ahy,Ahx]at am ab;have hpl:=EL.length Ee hP;refine Z9 23 [.tmp 4] Tryz.func218 ?_
 repeat' (first|refine Z1 ?_|(refine Z8 ?_;intro yb ya)|(refine Z4 ?_;clear ya yb)|refine Z3 ?_|exact Zt|(apply ya.out;clear ya yb))
 refine Af (fun m s σ'=>∃i:Nat,m=L.length-i/\i<=L.length/\s 2=ptr σ.nobj 0/\s 3=ptr (σ.nobj+1) 0/\s 8=gx o L.length cap/\s 9=ic L.length/\s 10=ic i/\Keep σ σ'/\σ.nobj+1<σ'.nobj/\σ'.obj (σ.nobj+1)=[ic a.p,sl ida a.ts.length (Ac a.ts)]/\Akc (∀p∈L.take i,lU a p=false)) L.length
  ⟨0,Aj6,Aj6,Aj8,Aj8,Aj8,Aj8,rfl,Xs,Akb,?_,by simp[Akc]⟩ ?_
 ·rw[Bs Aka Aka]
 rintro m s σ' ⟨i,rfl,hi,h2,ax,h8,h9,ay,hK,a4,ai,hA⟩;have a0:=hK.nobj;by_cases aj:i<L.length
 ·have aa:=Agz aj;obtain⟨id,idt,r,hd⟩:=E9 hP aa;have ak:=hL _ (Ain aj);generalize L[i]=w at hd aa ak;have oo:σ'.obj o=σ.obj o:=hK.obj o ho;have ao:(σ'.obj o).drop (i*3)=ic w.a.p::sl id w.a.ts.length (Ac w.a.ts)::sl idt w.tups.length (Dc w.tups)::(r++(σ.obj o).drop (L.length*3)):=by
   rw[oo]
   conv=>lhs;rw[<-Aje (L.length*3) (σ.obj o),an]
   rw[Ah9 (by rw[hpl];omega),hd];rfl
  have ap:o≠σ'.nobj:=Aj6;have HA:Akc (lU a w=false->∀p∈L.take (i+1),lU a p=false):=fun hw p hp=>by
   rw[Ahd,aa,Ais]at hp;rcases Ah8.1 hp with h|h
   ·exact hA.out p h
   ·simp at h;subst h;exact hw
  have HW:Akc (L[i]?=some w):=aa;have af:=fun (i:Nat) (σ:St)=>cL w.a.p id w.a.ts vs i Aj6 Aj6 σ;rw[<-HV.out w]at af;have a3:σ'.nobj≠o:=fun e=>ap e.symm;clear aa hA oo
  repeat' (first|refine Z1 ?_|(refine Z8 ?_;intro yb ya)|(refine Z4 ?_;clear ya yb)|(refine Z2 ?_ ?_<;>intro h ae<;>try exact Xp)|refine Z3 ?_|exact Zt|(apply ya.out;clear ya yb))
  have aw:Keep σ ((σ'.new [ic 0,nilS,nilS]).put σ'.nobj [ic w.a.p,sl id w.a.ts.length (Ac w.a.ts),sl idt w.tups.length (Dc w.tups)]):=(hK.new _).put hK.nobj _;have kv:∀p,p<σ'.nobj->((σ'.new [ic 0,nilS,nilS]).put σ'.nobj [ic w.a.p,sl id w.a.ts.length (Ac w.a.ts),sl idt w.tups.length (Dc w.tups)]).obj p=σ'.obj p:=fun p hp=>by rw[Ah Aj6,Ag Aj6]
  generalize hσb:(σ'.new [ic 0,nilS,nilS]).put σ'.nobj [ic w.a.p,sl id w.a.ts.length (Ac w.a.ts),sl idt w.tups.length (Dc w.tups)]=σb at*
  have nb:σb.nobj=σ'.nobj+1:=by rw[<-hσb];rfl
  have o6:σb.obj σ'.nobj=[ic w.a.p,sl id w.a.ts.length (Ac w.a.ts),sl idt w.tups.length (Dc w.tups)]:=by rw[<-hσb,Aj]
  have o3:σb.obj (σ.nobj+1)=[ic a.p,sl ida a.ts.length (Ac a.ts)]:=by rw[kv _ Aj6,ai]
  clear hσb;refine Bt (Q:=fun e s' σ''=>e= .normal/\s' 20=sc (.bool (lU a w))/\s' 2=ptr σ.nobj 0/\s' 3=ptr (σ.nobj+1) 0/\s' 5=ic i/\s' 8=gx o L.length cap/\s' 9=ic L.length/\s' 10=ic i/\Keep σb σ'') ?_ ?_
  ·refine A1 Ai (fun _=>True) [] [0,1,2] 3 #[true,true,true,false,false,false] Aj9 (fun _ _ _ h=>by cases h.1) ?_;intro yb ya;refine Z3 ?_;refine ya.out _ ?_;clear ya yb;refine Am (i:=3) Aj9 ?_;refine Aq ?_;intro yb ya;refine Z3 ?_;refine ya.out _ _ ⟨Ap ((Keep.refl _).lay 1),?_⟩;clear ya yb;refine Am (i:=4) Aj9 ?_;refine Aq ?_;intro yb ya;refine Z3 ?_;refine ACalls.mono (ab _ _) ?_;rintro _ σc ⟨⟨idv,rfl⟩,ah⟩;have knc:=ah.nobj;refine Z3 ?_;refine ya.out _ _ ⟨Ap (((Keep.refl _).lay 1).trans ah),?_⟩;clear ya yb;refine Am (i:=5) Aj9 ?_;refine Aq ?_;intro yb ya;refine Z3 ?_;refine ACalls.mono (af _ _) ?_;rintro _ σd ⟨rfl,ad⟩;refine Z3 ?_;refine ya.out _ _ ⟨Ap ((((Keep.refl _).lay 1).trans ah).trans ad),?_⟩;clear ya yb;refine A2 Aj9 ⟨rfl,Aj7,Aj7,Aj7,Aj7,Aj7,Aj7,Aj7,(((Keep.refl _).lay 1).trans ah).trans ad⟩
  ·rintro e s' σd ⟨rfl,g20,g2,g3,g5,g8,g9,g10,ad⟩;have av:=aw.trans ad;have knd:=ad.nobj;have oe:σd.obj (σ.nobj+1)=[ic a.p,sl ida a.ts.length (Ac a.ts)]:=by rw[ad.obj _ Aj6,o3]
   clear h2 ax h8 h9 ay h ae ai hd ao;cases ac:lU a w with
   |true=>
    have HP:Akc (lU a w=true):=ac;rw[ac]at g20;clear ac;refine F3 g20 ?_
    repeat' (first|refine Z1 ?_|(refine Z8 ?_;intro yb ya)|(refine Z4 ?_;clear ya yb)|refine Z3 ?_|exact Zt|(apply ya.out;clear ya yb))
    first|exact⟨_,rfl,.inl ⟨i,w,rfl,HW.out,HP.out⟩⟩|exact⟨_,rfl,.inl ⟨i,w,rfl,HW.out,HP.out⟩,av⟩
   |false=>
    have az:Akc (∀p∈L.take (i+1),lU a p=false):=HA.out ac;rw[ac]at g20;clear ac HA;refine E3 g20 ?_
    repeat' (first|refine Z1 ?_|(refine Z8 ?_;intro yb ya)|(refine Z4 ?_;clear ya yb)|refine Z3 ?_|exact Zt|(apply ya.out;clear ya yb))
    refine⟨L.length-(i+1),Aj6,i+1,?_⟩
    ((repeat' refine Zi ?_ ?_)<;>first|exact Xq|exact az|exact Xs)
 ·have hil:i=L.length:=Aj6;subst hil;rw[Ag7]at hA
  repeat' (first|refine Z1 ?_|(refine Z8 ?_;intro yb ya)|(refine Z4 ?_;clear ya yb)|(refine Z2 ?_ ?_<;>intro h ae<;>try exact Xp)|refine Z3 ?_|exact Zt|(apply ya.out;clear ya yb))
  first|exact⟨_,rfl,.inr ⟨rfl,hA.out⟩,hK⟩|exact .inr ⟨rfl,hA.out⟩|exact⟨_,rfl,.inr ⟨rfl,hA.out⟩⟩
end Go.Proofs.YtmoeoppbmhfbpabGreatDoorL
