import Derived.Test.YtmoeoppbmhfbpabGreatDoorJFolD
import Derived.Test.YtmoeoppbmhfbpabGreatDoorJFacC
import Derived.Test.YtmoeoppbmhfbpabGreatDoorJTelB
import Derived.Test.YtmoeoppbmhfbpabGreatDoorJOptH
import Derived.Test.YtmoeoppbmhfbpabGreatDoorJEngA
set_option maxHeartbeats 64000000
set_option maxRecDepth 100000
set_option linter.all false
namespace Go.Proofs.YtmoeoppbmhfbpabGreatDoorJ
open Go.Abs
theorem L6 {p:Nat->Bool}{n:Nat}(h:¬0<=Bb p n):∀i,i<n->p i=false:=by
 intro i hi;unfold Bb at h;split at h
 ·rename_i j hj;exact absurd (Ac7 j) h
 ·rename_i hn;have:=List.find?_range_eq_none.1 hn i hi;simpa using this
structure RtI (l:List RItem):Prop where
 odd:∀i,i<l.length->Hb l i=false
 saf:∀x∈l,Iz x=true
 kn:∀i,i<l.length->G7 l i=false
theorem yH {l:List RItem}(h:(Ct l).1=0):RtI l:=by
 unfold Ct at h;split at h
 ·simp at h
 rename_i h1;split at h
 ·simp at h
 rename_i h2;split at h
 ·simp at h
 rename_i h3;refine⟨L6 h1,fun x hx=>?_,L6 h3⟩;obtain⟨i,hi⟩:=List.getElem?_of_mem hx;have:=L6 h2 i (List.getElem?_eq_some_iff.1 hi).1;unfold Ds at this;rw[hi]at this;simpa using this
theorem oP {t:Tx}{l:List RItem}(h:(Ax t).1=0)(hp:Bj 16 t= .got l []):t.length<=600/\(Ct l).1=0:=by
 unfold Ax at h;split at h
 ·simp at h
 rename_i h1;split at h
 ·simp at h
 obtain⟨-,e,-,-⟩:=Hv Ad6 hp;rw[e]at h;exact⟨Ad6,h⟩
theorem iE {l:List RItem}(h:∀i,i<l.length->Hb l i=false)(hp:∀x∈l,∀a∈Af x,0<a.terms.length):C4 (l.flatMap Af):=by
 have key:∀i,i<=l.length->C4 (C0 l i):=by
  intro i;induction i with
  |zero=>intro _;simp[C0,Tj]
  |succ i ih=>
   intro hi;have hg:=List.getElem?_eq_getElem (show i<l.length by omega);generalize l[i]=x at hg;rw[R7 hg];have inner:∀j,j<=(Af x).length->C4 (Cy l x i j):=by
    intro j;induction j with
    |zero=>intro _;simpa[Cy]using ih Ad6
    |succ j jh=>
     intro hj;have aa:=List.getElem?_eq_getElem (show j<(Af x).length by omega);have hm:=Ac2 (show j<(Af x).length by omega);generalize (Af x)[j]=a at aa hm;rw[Hk aa];refine Gg (jh Ad6) (hp x (Abm hg) a hm) ?_;have h1:=h i Ad6;unfold Hb at h1;rw[hg]at h1;have h2:=Ac1.1 h1 j (by rw[List.mem_range];omega);unfold Pn at h2;rw[aa]at h2;simpa using h2
   exact inner _ (Abf _)
 have:=key l.length (Abf _);simpa[C0]using this
theorem Tn {S:List Ai}(h:C4 S){a b:Ai}(ha:a∈S)(hb:b∈S):clash a b=false:=by
 unfold clash;by_cases e:b.pred=a.pred
 ·have h1:=(h a ha).2;have h2:=(h b hb).2;rw[e]at h2;simp[e];omega
 ·simp[e]
theorem sD {S:List Ai}(h:C4 S):∀T,T<+:S->∀a∈S,T.any (clash a)=false:=fun T hT a ha=>by
 rw[Ac1];intro b hb;rw[Tn h ha (hT.subset hb)];simp
theorem Tk:∀{F A:List Ai},C4 A->(∀a∈F,0<a.terms.length)->Kq A F=false->C4 (A++F)
 |[],A,h,_,_=>by simpa using h
 |a::F,A,h,hp,ho=>by
  unfold Kq at ho;rw[Bool.or_eq_false_iff]at ho;have:=Tk (F:=F) (A:=A++[a]) (Gg h (hp a (by simp)) ho.1) (fun b hb=>hp b (by simp[hb])) ho.2;simpa using this
theorem qT:∀{F A:List Ai},C4 (A++F)->Kq A F=false
 |[],A,_=>rfl
 |a::F,A,h=>by
  unfold Kq;rw[Bool.or_eq_false_iff];refine⟨?_,qT (by simpa using h)⟩;rw[Ac1];intro b hb;rw[Tn h (by simp) (by simp[hb])];simp
def xJ (N:List Tx)(S:List Ai)(k:Nat):Nat:=F3 S (N.getD k [])
theorem rN {N:List Tx}{p:Tx}(h:p∈N):N.getD (N.idxOf p) []=p:=by
 have hl:=Ac4 h;rw[List.getD_eq_getElem?_getD,List.getElem?_eq_getElem hl,Option.getD_some];exact Ac3 hl
theorem iQ {N:List Tx}{S:List Ai}(hS:C4 S){a:Ai}(ha:a∈S)(hm:a.pred∈N):a.terms.length=xJ N S (N.idxOf a.pred):=by
 unfold xJ;rw[rN hm];exact (hS a ha).2
theorem kW {w:Tx}(hv:VT w)(hd:DT w):((Az w).1=true->0<=(Az w).2/\(Az w).2<26)/\((Az w).1=false->∃n:Nat,(Az w).2=(n:Int)/\n<1026):=by
 rcases hv with⟨b,rfl,hl⟩|⟨hn,ab⟩
 ·rw[D7 hl];unfold Bl at hl;simp at hl;exact⟨(fun _=>by simp only;omega),(fun h=>by cases h)⟩
 ·have aa:Al w=false:=by
   cases w with
   |nil=>rfl
   |cons b r=>
    have:=ab b (by simp);unfold Al A0 at*
    unfold Bl;simp at this⊢;omega
  have he:=Ju (.inr ⟨hn,ab⟩:VT w);rw[he,aa];refine⟨(fun h=>by cases h),fun _=>?_⟩;rcases hd with h|⟨-,-,h1,h2⟩
  ·rw[aa]at h;cases h
  ·exact⟨(Az w).2.toNat,Ad6,Ad6⟩
theorem aP {N N':List Tx}(h:N<+:N'){x:RItem}(hx:x.head.pred∈N/\∀a∈x.body,a.pred∈N):A6 N' x=A6 N x:=by
 unfold A6;congr 1
 ·unfold Cm;rw[Jq h hx.1]
 ·apply Acu;intro a ha;unfold Hd Cm;rw[Jq h (hx.2 a ha)]
theorem yG {N:List Tx}{S:List Ai}{x:RItem}(hS:C4 S)(hA:∀a∈Af x,a∈S)(hm:x.head.pred∈N/\∀a∈x.body,a.pred∈N)(ho:x.out=false)(hw:Dh x)(hv:∀a∈Af x,VA a)(hd:∀a∈Af x,∀w∈a.terms,DT w)(hs:Iz x=true)(hn:∀a∈x.body,a.nt=true->a.pred≠x.head.pred):RW N.length (xJ N S) (A6 N x):=by
 have ac:∀a,a=x.head\/a∈x.body->a∈Af x:=fun a ha=>by
  rcases ha with rfl|ha<;>simp[Af,ho, *]
 obtain⟨w1,w2,w3,w4⟩:=hw.2.2 ho;have hb:∀l∈(A6 N x).body,∃a∈x.body,l=Hd N a:=fun l hl=>by
  obtain⟨a,ha,rfl⟩:=Acs.1 hl;exact⟨a,ha,rfl⟩
 have ae:∀(ts:List Tx) (v:Int),(true,v)∈ts.map Az->∃w∈ts,(Az w).1=true/\(Az w).2=v:=fun ts v h=>by
  obtain⟨w,hw,e⟩:=Acs.1 h;exact⟨w,hw,by rw[e],by rw[e]⟩
 have ab:∀a∈Af x,∀w∈a.terms,_:=fun a ha w aa=>kW (hv a ha w aa) (hd a ha w aa);have aj:∀p∈N,N.idxOf p<N.length:=fun p hp=>Ac4 hp;refine⟨⟨by simp[A6,Cm];exact w1.2.2.1,⟨_,rfl,aj _ hm.1⟩,by simp[A6];omega,fun l hl=>?_,fun l hl=>?_⟩,fun l hl am=>?_,?_,fun l hl=>?_,fun t ht hc=>?_,fun v ad=>?_,fun l hl v ad=>?_,fun v ad=>?_⟩
 ·obtain⟨a,ha,rfl⟩:=hb l hl;simp[Hd,Cm];exact (w4 a ha).2.2.1
 ·obtain⟨a,ha,rfl⟩:=hb l hl;exact⟨_,rfl,aj _ (hm.2 a ha)⟩
 ·obtain⟨a,ha,rfl⟩:=hb l hl;intro e;simp only[Hd,Cm,A6]at e;exact hn a ha am (Dy (hm.2 a ha) hm.1 Ad6)
 ·simp only[A6,Cm,Adc,Adu];exact iQ hS (hA _ (ac _ (.inl rfl))) hm.1
 ·obtain⟨a,ha,rfl⟩:=hb l hl;simp only[Hd,Cm,Adc,Adu];exact iQ hS (hA _ (ac _ (.inr ha))) (hm.2 a ha)
 ·obtain⟨w,aa,rfl⟩:=Acs.1 ht;exact (ab _ (ac _ (.inl rfl)) w aa).2 hc
 ·obtain⟨w,aa,e1,e2⟩:=ae _ v ad;rw[<-e2];exact (ab _ (ac _ (.inl rfl)) w aa).1 e1
 ·obtain⟨a,ha,rfl⟩:=hb l hl;obtain⟨w,aa,e1,e2⟩:=ae _ v ad;rw[<-e2];exact (ab _ (ac _ (.inr ha)) w aa).1 e1
 ·have hex:∃a∈Af x,∃w∈a.terms,(Az w).1=true/\(Az w).2=v:=by
   rcases ad with h|⟨l,hl,-,h⟩
   ·obtain⟨w,h1,h2,h3⟩:=ae _ v (hasV_iff.1 h);exact⟨_,ac _ (.inl rfl),w,h1,h2,h3⟩
   ·obtain⟨a,ha,rfl⟩:=hb l hl;obtain⟨w,h1,h2,h3⟩:=ae _ v (hasV_iff.1 h);exact⟨a,ac _ (.inr ha),w,h1,h2,h3⟩
  obtain⟨a,ha,w,ai,e1,e2⟩:=hex;have ah:Kz x w=true:=by
   unfold Iz at hs;simp only[Adw]at hs;have h1:=Ac1.1 hs a ha;unfold sN at h1;simp only[Acg,not_exists,not_and]at h1;have h2:=h1 w ai;unfold oD at h2;rw[<-Ju (hv a ha w ai),e1]at h2;simpa using h2
  unfold Kz at ah;rw[Acg]at ah;obtain⟨c,hc,ak⟩:=ah;rw[Acg]at ak;obtain⟨u,hu,af⟩:=ak;simp only[Abo,Adw,Ad4]at af;refine⟨Hd N c,Acs.2 ⟨c,hc,rfl⟩,af.1,?_⟩;rw[hasV_iff];refine Acs.2 ⟨u,hu,?_⟩;rw[af.2,<-e1,<-e2]
theorem Lz {T:Tx->Prop}(hT:∀s w r,Ca s= .got w r->T w):∀(n:Nat) (s:Tx) (F:List Ai) (r:Tx),Cl n s= .got F r->∀a∈F,∀w∈a.terms,T w
 |n,[],F,r,h=>by
  rw[Jn]at h;cases h;simp
 |0,b::s,F,r,h=>by cases h
 |n+1,b::s,F,r,h=>by
  rw[Gq]at h;cases h1:Hy (b::s)with
  |bad e=>rw[h1]at h;cases h
  |got x r1=>
   rw[h1]at h;simp only[Rd.bnd]at h;cases h2:Cl n r1 with
   |bad e=>rw[h2]at h;cases h
   |got xs r2=>
    rw[h2]at h;cases h;intro a ha;rcases Aci.1 ha with rfl|ha
    ·unfold Hy at h1;cases h3:C1 false (b::s)with
     |bad e=>rw[h3]at h1;cases h1
     |got a2 r3=>
      rw[h3]at h1;simp only[Rd.bnd]at h1;split at h1
      ·cases h4:Aw 46 r3 with
       |bad e=>rw[h4]at h1;cases h1
       |got u r4=>
        rw[h4]at h1;cases h1;exact K8 hT h3
      ·cases h1
    ·exact Lz hT n r1 xs r h2 a ha
theorem vI {σ0 m m':St}{om ot:Nat}{M M':MM}(hK:Keep σ0 m)(h:KM om ot M M' m m')(hm:σ0.nobj<=om)(ht:σ0.nobj<=ot)(hM:∀x∈M,x.1=1\/σ0.ntop+2<=x.1):Keep σ0 m':=
 ⟨Abg hK.nobj h.nobj,fun o ho=>by rw[h.obj o (Abh ho hK.nobj) Ad6 Ad6];exact hK.obj o ho,fun o ho=>by rw[h.ver o (Abh ho hK.nobj) Ad6 Ad6];exact hK.ver o ho,Abg hK.ntop h.ntop,fun k hk=>by
  rw[h.top k (Abh hk hK.ntop) (fun x hx=>by rcases hM x hx with e|e<;>omega)];exact hK.top k hk⟩
theorem sW {N N':List Tx}(h:N<+:N'){l:List RItem}(hl:∀x∈l,x.head.pred∈N/\∀a∈x.body,a.pred∈N)(s:Nat):(Kb l s).map (A6 N')=(Kb l s).map (A6 N):=by
 apply Acu;intro x hx;exact aP h (hl x (Adj.1 hx).1)
theorem Y1 {N N':List Tx}(h:N<+:N'){l:List RItem}(hl:∀x∈l,x.head.pred∈N/\∀a∈x.body,a.pred∈N)(B:Cj):∀s,PMi N' l B s=PMi N l B s
 |0=>rfl
 |s+1=>by
  show LstG _ _=LstG _ _;rw[sW h hl,Y1 h hl B s]
theorem Vp {N N':List Tx}(h:N<+:N')(rk:Nat->List Bc):∀{l:List RItem} (acc:Tx×List Int),(∀x∈l,x.head.pred∈N)->l.foldl (Ic N' rk) acc=l.foldl (Ic N rk) acc
 |[],acc,_=>rfl
 |x::l,acc,hl=>by
  rw[Abr,Abr];have:Ic N' rk acc x=Ic N rk acc x:=by
   unfold Ic;rw[Jq h (hl x (by simp))]
  rw[this];exact Vp h rk _ (fun y hy=>hl y (by simp[hy]))
theorem Gs {N:List Tx}{l:List RItem}{cs:List AV}(h:EL (PI N) l cs):∀x∈l,x.head.pred∈N/\∀a∈x.body,a.pred∈N:=fun x hx=>by
 obtain⟨i,hi⟩:=List.getElem?_of_mem hx;obtain⟨hm,ih,id,b,r,hb,-⟩:=Fi h hi;refine⟨hm,fun a ha=>?_⟩;obtain⟨j,hj⟩:=List.getElem?_of_mem ha;obtain⟨c,r2,⟨hc,-⟩,-⟩:=EL.get Eb hb hj;exact hc
def wH (l:List RItem)(F:List Ai)(n:Int)(x:Tx)(k e:Int):Prop:=
 ∃(N:List Tx) (M M':MM) (d:Int),(∀y∈l,y.head.pred∈N/\∀a∈y.body,a.pred∈N)/\(∀a∈F,a.pred∈N)/\MkM N.length (F.map (Cm N)) M/\(∀z∈M',T3 z.2)/\FolI N l M n (l.length+1) M' d/\
  if n<d then x=[]/\k=0/\e=9 else x=Pd N (fun j=>Ig (Au M' (j:Int))) l/\k=d/\e=0/\∀z∈M',∀u∈z.2,∀y∈u,-1<=y/\y<=9999
def O6 (t f:Tx)(n:Int)(x:Tx)(k e:Int):Prop:=
 if 600<t.length\/400<f.length then x=[]/\k=0/\e=1
 else if (Ax t).1≠0 then x=[]/\k=0/\e=(Ax t).1
 else if n<0\/200<n then x=[]/\k=0/\e=6
 else∃l,Bj 16 t= .got l []/\if J9 l f≠0 then x=[]/\k=0/\e=J9 l f else∃F,Cl 400 f= .got F []/\wH l F n x k e
structure BkT (N:List Tx)(l:List RItem)(cs:List AV):Prop where
 bk:Bk N l cs
 nl:N.length<=600
 rt:RtI l
 va:∀x∈l,∀a∈Af x,VA a
 dt:∀x∈l,∀a∈Af x,∀w∈a.terms,DT w
 wi:∀x∈l,Dh x
 nn:∀x∈l,x.head.pred.length<=600
theorem BkT.cons {N:List Tx}{l:List RItem}{cs:List AV}(h:BkT N l cs):C4 (l.flatMap Af):=iE h.rt.odd h.bk.pos
theorem BkT.bkr {N N':List Tx}{l:List RItem}{cs:List AV}(h:BkT N l cs)(hN:N<+:N'){F:List Ai}(hS:C4 (l.flatMap Af++F)):zO N l N'.length (xJ N' (l.flatMap Af++F)):=by
 have hn:=Gs h.bk.el;refine⟨hN.length_le,hn,h.rt.kn,fun x hx ho=>?_⟩;rw[<-aP hN (hn x hx)];refine yG hS (fun a ha=>Aco.2 (.inl (Acn.2 ⟨x,hx,ha⟩))) ⟨hN.subset (hn x hx).1,fun a ha=>hN.subset ((hn x hx).2 a ha)⟩ ho (h.wi x hx) (h.va x hx) (h.dt x hx) (h.rt.saf x hx) (fun a ha hnt e=>?_);have:=Wh h.bk.out h.rt.kn h.bk.len hx ha hnt;rw[e]at this;exact Nat.lt_irrefl _ this
theorem vO {N:List Tx}{S:List Ai}(hS:C4 S){a:Ai}(ha:a∈S)(hm:a.pred∈N)(hs:Mv a=true)(hv:∀w∈a.terms,VT w/\DT w):Sh (xJ N S) (N.idxOf a.pred) (C7 (Cm N a)):=by
 refine⟨(a.terms.map Az).map (·.2),rfl,?_,fun x hx=>?_⟩
 ·rw[Adc,Adc];exact iQ hS ha hm
 ·obtain⟨p,hp,rfl⟩:=Acs.1 hx;obtain⟨w,hw,rfl⟩:=Acs.1 hp;refine (kW (hv w hw).1 (hv w hw).2).2 ?_;unfold Mv F5 at hs;rw[Abl]at hs;have:=hs (Az w) (Acs.2 ⟨w,hw,rfl⟩);simpa using this
theorem yE {ar:Nat->Nat}{k:Nat}{t:Bc}(h:Sh ar k t):∀y∈t,-1<=y/\y<=9999:=fun y hy=>by
 obtain⟨l,rfl,-,hl⟩:=h;have key:∀i:Nat,-1<=(l[i]?).getD (-1)/\(l[i]?).getD (-1)<=9999:=fun i=>by
  cases hi:l[i]? with
  |none=>simp
  |some z=>
   obtain⟨n,rfl,hn⟩:=hl z (Abm hi);simp;omega
 unfold Es at hy;simp only[Aci,Ac0,Ad5]at hy;rcases hy with rfl|rfl|rfl
 ·exact key 0
 ·exact key 1
 ·exact key 2
theorem rK {t:Tx}{l:List RItem}(ht:t.length<=600)(h:Bj 16 t= .got l []):∀x∈l,x.head.pred.length<=600:=fun x hx=>by
 obtain⟨h1,-,-,-⟩:=Ii _ _ _ _ h;have hl:(Bh x).length<=(Bp l).length:=by
  unfold Bp;obtain⟨a,b,rfl⟩:=List.append_of_mem hx;simp;omega
 have h2:x.head.pred.length<=(Bh x).length:=by
  unfold Bh;split
  ·simp
  ·simp[C5,Ay]
 rw[<-h1]at hl;omega
theorem qD (t f:Tx)(n:Int)(m:St):ACalls Tryz.prog 25 [str t,str f,ic n] m fun r m'=>∃x k e,r=tp [str x,ic k,ic e]/\O6 t f n x k e/\Keep m m':=by
 have cu:({data:=#[]}:ByteArray)=bs []:=rfl;by_cases hL:600<t.length
 ·have cn:decide ((t.length:Int)>600)=true:=by rw[Ad3];omega
  have HP:Aec (O6 t f n [] 0 1):=by rw[Aec,O6,if_pos (.inl hL)];exact⟨rfl,rfl,rfl⟩
  clear hL;refine Z9 59 [.tmp 6,.tmp 7,.tmp 8] Tryz.func25 ?_
  repeat' (first|refine Z1 ?_|(refine Z8 ?_;intro κ hκ)|(refine Z4 ?_;clear hκ κ)|(refine Z2 ?_ ?_<;>intro h aa<;>try exact Xp)|refine Z7 ?_|exact⟨⟩|(apply hκ.out;clear hκ κ))
  exact⟨_,rfl,[],0,1,rfl,HP.out,Keep.refl _⟩
 ·have cn:decide ((t.length:Int)>600)=false:=by rw[decide_eq_false_iff_not];omega
  by_cases hF:400<f.length
  ·have bz:decide ((f.length:Int)>400)=true:=by rw[Ad3];omega
   have HP:Aec (O6 t f n [] 0 1):=by rw[Aec,O6,if_pos (.inr hF)];exact⟨rfl,rfl,rfl⟩
   clear hL hF;refine Z9 59 [.tmp 6,.tmp 7,.tmp 8] Tryz.func25 ?_
   repeat' (first|refine Z1 ?_|(refine Z8 ?_;intro κ hκ)|(refine Z4 ?_;clear hκ κ)|(refine Z2 ?_ ?_<;>intro h aa<;>try exact Xp)|refine Z7 ?_|exact⟨⟩|(apply hκ.out;clear hκ κ))
   exact⟨_,rfl,[],0,1,rfl,HP.out,Keep.refl _⟩
  ·have bz:decide ((f.length:Int)>400)=false:=by rw[decide_eq_false_iff_not];omega
   have HP:Aec (∀x k e,O6 t f n x k e↔if (Ax t).1≠0 then x=[]/\k=0/\e=(Ax t).1
 else if n<0\/200<n then x=[]/\k=0/\e=6
 else∃l,Bj 16 t= .got l []/\if J9 l f≠0 then x=[]/\k=0/\e=J9 l f else∃F,Cl 400 f= .got F []/\wH l F n x k e):=fun x k e=>by rw[O6,if_neg (by simp[hL,hF])]
   have br:=fun m=>Sy t m;have be:Aec ((Ax t).1=0->∀n1 c1 n2 c2,n1<=600/\gN t n1 c1 n2 c2->∃N l,Bj 16 t= .got l []/\BkT N l c2/\n1=N.length/\c1=N.map str/\n2=l.length):=fun h0 n1 c1 n2 c2 ⟨h6,N,l,hp,hB,e1,e2,e3,cg,cf⟩=>by
    obtain⟨ch,hw⟩:=oP h0 hp;refine⟨N,l,hp,⟨hB,Ad6,yH hw,cg,Hw (T:=DT) M9 16 t l [] hp,cf,rK ch hp⟩,e1,e2,e3⟩
   clear hL hF;generalize Ax t=rc at*
   obtain⟨e0,p0⟩:=rc;simp only at br HP be;refine Z9 59 [.tmp 6,.tmp 7,.tmp 8] Tryz.func25 ?_
   repeat' (first|refine Z1 ?_|(refine Z8 ?_;intro κ hκ)|(refine Z4 ?_;clear hκ κ)|(refine Z2 ?_ ?_<;>intro h aa<;>try exact Xp)|(refine Z5 ?_;refine Xi (br _) ?_;rintro _ _ ⟨idn,n1,c1,idi,n2,c2,rfl,ac,hb⟩;(have HB:Aec _:=hb;clear hb;have ce:=ac.nobj))|refine Z7 ?_|exact⟨⟩|(apply hκ.out;clear hκ κ))
   ·have he:e0≠0:=by simpa using h
    exact⟨_,rfl,[],0,e0,rfl,(HP.out _ _ _).2 (by rw[if_pos he];exact⟨rfl,rfl,rfl⟩),(ac.new _).put ac.nobj _⟩
   ·skip
    have he:¬e0≠0:=by
     have:(e0 !=0)=false:=by assumption
     simpa using this
    exact⟨_,rfl,[],0,6,rfl,(HP.out _ _ _).2 (by rw[if_neg he,if_pos (.inr (by assumption))];exact⟨rfl,rfl,rfl⟩),(ac.new _).put ac.nobj _⟩
   ·rename St=>m1;have he:e0=0:=by
     have:(e0 !=0)=false:=by assumption
     simpa using this
    have cj:0<=n:=by assumption
    have ct:n<=200:=by assumption
    obtain⟨N,l,hp,hT,rfl,rfl,rfl⟩:=be.out he _ _ _ _ (HB.out he);have bc:Aec (∀x k e,(if J9 l f≠0 then x=[]/\k=0/\e=J9 l f else∃F,Cl 400 f= .got F []/\wH l F n x k e)->O6 t f n x k e):=fun x k e h=>(HP.out x k e).2 (by rw[if_neg (by simp[he]),if_neg Ad6];exact⟨l,hp,h⟩);have a9:=fun m=>Sz N l c2 idn idi hT.bk hT.nl (sD hT.cons) f (by have:decide ((f.length:Int)>400)=false:=bz;rw[decide_eq_false_iff_not]at this;omega) m;unfold Bs at a9;have HT:Aec _:=hT;clear hT hp HP be HB;have bu:=(ac.new [nilS,nilS]).put ac.nobj [sl idn N.length (N.map str),sl idi l.length c2]
    repeat' (first|refine Z1 ?_|(refine Z8 ?_;intro κ hκ)|(refine Z4 ?_;clear hκ κ)|(refine Z2 ?_ ?_<;>intro h aa<;>try exact Xp)|(refine Z5 ?_;refine Xi (a9 _) ?_;rintro _ _ ⟨idf,nf,np,fc,rfl,a0,bl⟩;(have b7:Aec _:=bl;clear bl;have a6:=a0.nobj;have af:=a0.obj;simp only[Ab,Aa]at a6 af;have ba:=bu.trans a0;have a5:=af m1.nobj Ad6;rw[Ak]at a5))|refine Z7 ?_|exact⟨⟩|(apply hκ.out;clear hκ κ))
    ·have ab:J9 l f≠0:=by simpa using h
     exact⟨_,rfl,[],0,J9 l f,rfl,bc.out _ _ _ (by rw[if_pos ab];exact⟨rfl,rfl,rfl⟩)⟩
    ·rename St=>m2;have ab:J9 l f=0:=by simpa using h
     obtain⟨F,N',ak,rfl,rfl,ad,cv,hE⟩:=b7.out ab;have b4:Aec (∀x k e,wH l F n x k e->O6 t f n x k e):=fun x k e h=>bc.out x k e (by rw[if_neg (by simp[ab])];exact⟨F,ak,h⟩);obtain⟨-,b1,-,a3⟩:=Kp _ _ _ _ ak;have a4:∀a∈F,a.pred∈N':=fun a ha=>by
      obtain⟨i,hi⟩:=List.getElem?_of_mem ha;exact (Uc hE hi).1
     have ap:Kq (l.flatMap Af) F=false:=by
      unfold J9 at ab;rw[ak]at ab;simp only at ab;cases ho:Kq (l.flatMap Af) F with
      |false=>rfl
      |true=>rw[ho]at ab;simp at ab
     have ao:∀a∈F,0<a.terms.length:=fun a ha=>by
      have:=(a3 a ha).1.2.1;cases hh:a.terms with
      |nil=>exact absurd hh this
      |cons y ys=>simp
     have hS:=Tk HT.out.cons ao ap;have b2:=HT.out.bkr ad hS;have bm:∀a∈F,∀w∈a.terms,VT w/\DT w:=fun a ha w hw=>⟨Lz (T:=VT) (fun _ _ _ h=>bK h) _ _ _ _ ak a ha w hw,Lz (T:=DT) M9 _ _ _ _ ak a ha w hw⟩
     have a7:=fun m=>Ta N'.length (F.map (Cm N')) fc idf n (xR hE) Ad6 (by rw[Adc];omega) (fun a ha=>by
      obtain⟨b,hb,rfl⟩:=Acs.1 ha
      exact⟨by simp[Cm];exact (a3 b hb).1.2.2.1,_,rfl,Ac4 (a4 b hb)⟩) m
     rw[Adc]at a7;have bb:Aec (∀M,MkM N'.length (F.map (Cm N')) M->zM (xJ N' (l.flatMap Af++F)) M):=fun M ae k u hu=>by
      obtain⟨a,ha,e1,e2⟩:=(ae.mem k u).1 hu;obtain⟨b,hb,rfl⟩:=Acs.1 ha;have:=vO hS (Aco.2 (.inr hb)) (a4 b hb) (a3 b hb).2.2 (bm b hb);rw[e2];have e3:k=N'.idxOf b.pred:=by simp only[Cm]at e1;omega
      rw[e3];exact this
     have b6:Aec _:=b2;have b5:Aec _:=a4;have cq:F.length<=400:=b1;clear ak a3 a4 ap ao hS b2 bm b7 bc ab hE a9 b1
     repeat' (first|refine Z1 ?_|(refine Z8 ?_;intro κ hκ)|(refine Z4 ?_;clear hκ κ)|(refine Z2 ?_ ?_<;>intro h aa<;>try exact Xp)|(refine Z5 ?_;refine Xi (a7 _) ?_;rintro _ _ ⟨ot,M,rfl,ae,az,cr,a8,av⟩;(have cd:=az.nobj;have an:=az.obj))|refine Z7 ?_|exact⟨⟩|(apply hκ.out;clear hκ κ))
     rename St=>m3;obtain⟨m4,au⟩:∃τ,τ=((m3.new [nilS,ic 0,ic 0]).put m3.nobj [fx ot 0 N'.length,ic 0,ic n]):=⟨_,rfl⟩;rw[<-au];have aj:Keep m3 m4:=by rw[au];exact ((Keep.refl m3).new _).put (Abf _) _
     have cp:Keep m m4:=(ba.trans az).trans aj;have n4:m4.nobj=m3.nobj+1:=by rw[au];rfl
     have b9:m4.obj m1.nobj=[sl idn N.length (N.map str),sl idi l.length c2]:=by rw[aj.obj _ Ad6,an _ Ad6,a5]
     have ci:=a8.lt;have bo:=ae.len;have bq:MOb m4 m3.nobj ot M 0 n:=(a8.keep aj).mob (by rw[au,Ak,bo]) Ad6 Ad6;have bn:∀y∈M,y.1=1\/m.ntop+2<=y.1:=fun y hy=>by have:=ba.ntop;rcases av y hy with h|h<;>omega
     have bf:tot M<=1000:=by have:=ae.tot;rw[Adc]at this;omega
     have bw:=Ym N l c2 idn idi N'.length (xJ N' (l.flatMap Af++F)) HT.out.bk b6.out m3.nobj ot n cj Ad6 M bo (bb.out M ae) ae.nd bf m4 bq;have bg:=fU b6.out (B:=MD M) (bb.out M ae);unfold Bs at bw;have bd:Aec _:=ae;have b3:Aec _:=bg;clear au a8 av ae bq bg bb a7 az a0 bu ba af an a5 ac
     repeat' (first|refine Z1 ?_|(refine Z8 ?_;intro κ hκ)|(refine Z4 ?_;clear hκ κ)|(refine Z2 ?_ ?_<;>intro h aa<;>try exact Xp)|(refine Z5 ?_;first|(refine Xi (bw) ?_;rintro _ _ ⟨M',d',am,ai,bv⟩;(have ax:Aec _:=bv;clear bv;have cb:=ai.nobj;have co:=vI cp ai Ad6 Ad6 bn;have cm:=L9 m3.nobj ot M' d' n _ am;have b8:=ai.obj m1.nobj Ad6 Ad6 Ad6;rw[b9]at b8))|(refine Xi (cm) ?_;rintro _ _ ⟨rfl,rfl⟩))|refine Z7 ?_|exact⟨⟩|(apply hκ.out;clear hκ κ))
     ·refine⟨_,rfl,[],0,9,rfl,b4.out _ _ _ ⟨N',M,M',d',fun y hy=>⟨ad.subset ((Gs HT.out.bk.el y hy).1),fun a ha=>ad.subset ((Gs HT.out.bk.el y hy).2 a ha)⟩,b5.out,bd.out,am.t3,?_,by rw[if_pos (by assumption)];exact⟨rfl,rfl,rfl⟩⟩⟩;unfold FolI;rw[Y1 ad (Gs HT.out.bk.el)];exact ax.out
     ·rename St=>m5;have bh:¬n<d':=Ad6;have b0:FolI N' l M n (l.length+1) M' d':=by
       unfold FolI;rw[Y1 ad (Gs HT.out.bk.el)];exact ax.out
      have bp:∀k u,MD M' k u->Sh (xJ N' (l.flatMap Af++F)) k u:=fun k u hu=>by
       rcases ax.out.2.2 with⟨-,g,-⟩|⟨g,-⟩
       ·exact b3.out _ _ _ ((g k u).1 hu)
       ·exact absurd g bh
      have ah:∀x∈M',∀u∈x.2,∀y∈u,-1<=y/\y<=9999:=fun x hx u hu=>by
       obtain⟨k,hk⟩:=List.getElem?_of_mem hx;exact yE (bp k u (by unfold MD;rw[Bw hk];exact hu))
      have bi:N.length<=M'.length:=by
       have:=ax.out.1;have:=ad.length_le;omega
      have ay:=Qh N l c2 idn idi HT.out.bk HT.out.nn m3.nobj ot M' d' n bi ah m5 am;have e1:Pd N (fun j=>Ig (Au M' (j:Int))) l=Pd N' (fun j=>Ig (Au M' (j:Int))) l:=by
       unfold Pd Et;rw[Vp ad _ _ (fun x hx=>(Gs HT.out.bk.el x hx).1)]
      rw[e1]at ay;have HR:Aec (O6 t f n (Pd N' (fun j=>Ig (Au M' (j:Int))) l) d' 0):=b4.out _ _ _ ⟨N',M,M',d',fun y hy=>⟨ad.subset ((Gs HT.out.bk.el y hy).1),fun a ha=>ad.subset ((Gs HT.out.bk.el y hy).2 a ha)⟩,b5.out,bd.out,am.t3,b0,by rw[if_neg bh];exact⟨rfl,rfl,rfl,ah⟩⟩;generalize Pd N' (fun j=>Ig (Au M' (j:Int))) l=tx at ay HR;unfold Bs at ay;have ca:=am.ob;have lo14:=am.lo;clear e1 b0 bp ah bi ax b3 bd bn bf;refine Bq (Q:=fun e s' m''=>e= .normal/\s' 6=str tx/\s' 7=ic d'/\s' 8=ic 0/\Keep m5 m'') ?_ ?_
      ·refine A3 Ah (fun _=>True) [] [0,2,3] 4 #[true,false,true,true,false,false,false] Ad9 (fun _ _ _ h=>by cases h.1) ?_;intro κ hκ;refine Z7 ?_;refine hκ.out _ ?_;clear hκ κ;refine Am (i:=1) Ad9 ?_;refine Ar ?_;intro κ hκ;refine Z7 ?_;refine ACalls.mono ay ?_;rintro _ m6 ⟨rfl,aw⟩;refine Z7 ?_;refine hκ.out _ _ ⟨Aq aw,?_⟩;clear hκ κ;refine Ed [4,5,6] Ad9 Ad9 (fun _ _ _ h=>by cases h.1) aw.nobj (fun o ho _=>aw.ver o ho) ?_;intro κ hκ;refine Z7 ?_;refine hκ.out _ _ ⟨rfl,?_⟩;simp[upd, *]
      ·rintro e s' m6 ⟨rfl,g6,g7,g8,aw⟩
       repeat' (first|refine Z1 ?_|(refine Z8 ?_;intro κ hκ)|(refine Z4 ?_;clear hκ κ)|(refine Z2 ?_ ?_<;>intro h aa<;>try exact Xp)|refine Z7 ?_|exact⟨⟩|(apply hκ.out;clear hκ κ))
       first|exact⟨_,rfl,tx,d',0,rfl,HR.out,co.trans aw⟩|exact⟨_,rfl,tx,d',0,rfl,HR.out⟩
   ·skip
    have he:¬e0≠0:=by
     have:(e0 !=0)=false:=by assumption
     simpa using this
    exact⟨_,rfl,[],0,6,rfl,(HP.out _ _ _).2 (by rw[if_neg he,if_pos (.inl (by assumption))];exact⟨rfl,rfl,rfl⟩),(ac.new _).put ac.nobj _⟩
def Gv (c n:Int):Int:=(if c<0 then -(c+1)else c) % n
theorem Fu (c:Int){n:Int}(hn:0<n):0<=Gv c n/\Gv c n<n:=⟨Int.emod_nonneg _ Ad6,Int.emod_lt_of_pos _ hn⟩
theorem Fc (c n:Int)(h0: -9223372036854775808<=c)(h1:c<=9223372036854775807)(hn:0<n)(af:n<=1099511627776)(m:St):ACalls Tryz.prog 14 [ic c,ic n] m fun r m'=>r=ic (Gv c n)/\m'=m:=by
 have ae:¬n=0:=Ad6;by_cases hc:c<0
 ·have ad:decide (c<0)=true:=by simpa using hc
  have hw:IntKind.i64.wrap (0-(c+1))= -(c+1):=by rw[i64w Ad6 Ad6];omega
  have ac:(-(c+1)).tmod n=Gv c n:=by rw[Gv,if_pos hc,Int.tmod_eq_emod_of_nonneg Ad6]
  have ab:=Fu c hn;refine Z9 13 [.tmp 4] Tryz.func14 ?_
  repeat' (first|refine Z1 ?_|(refine Z8 ?_;intro κ hκ)|(refine Z4 ?_;clear hκ κ)|(refine Z2 ?_ ?_<;>intro h aa<;>try exact Xp)|refine Z3 ?_|exact⟨⟩|(apply hκ.out;clear hκ κ))
  exact⟨_,rfl,rfl⟩
 ·have ad:decide (c<0)=false:=by simpa using hc
  have ac:c.tmod n=Gv c n:=by rw[Gv,if_neg hc,Int.tmod_eq_emod_of_nonneg Ad6]
  have ab:=Fu c hn;refine Z9 13 [.tmp 4] Tryz.func14 ?_
  repeat' (first|refine Z1 ?_|(refine Z8 ?_;intro κ hκ)|(refine Z4 ?_;clear hκ κ)|(refine Z2 ?_ ?_<;>intro h aa<;>try exact Xp)|refine Z3 ?_|exact⟨⟩|(apply hκ.out;clear hκ κ))
  exact⟨_,rfl,rfl⟩
def Qr (base:Int)(a:Int):Int:=Gv base 900+7*a
def H9 (base a:Int):Tx:=Lib.itoa (Qr base a)
theorem K7 (base:Int){a:Int}(h0:0<=a)(h1:a<=7):0<=Qr base a/\Qr base a<=948:=by
 have:=Fu base (n:=900) Ad6;unfold Qr;omega
theorem I9 (base:Int){a:Int}(h0:0<=a)(h1:a<=7):(H9 base a).length<=10:=by
 have:=K7 base h0 h1;exact Fx _ Ad6 Ad6
theorem Jp (base a:Int)(h0: -9223372036854775808<=base)(h1:base<=9223372036854775807)(ab:0<=a)(aa:a<=7)(m:St):ACalls Tryz.prog 54 [ic base,ic a] m fun r m'=>r=str (H9 base a)/\m'=m:=by
 have hP:=fun m=>Fc base 900 h0 h1 Ad6 Ad6 m;have hr:=Fu base (n:=900) Ad6;have hI:=fun m=>Lc (Qr base a) (K7 base ab aa).1 (by have:=(K7 base ab aa).2;omega) m;rw[show Lib.itoa (Qr base a)=H9 base a from rfl]at hI;unfold Qr at hI;clear h0 h1;generalize Gv base 900=q at*
 refine Z9 11 [.tmp 4] Tryz.func54 ?_
 repeat' (first|refine Z1 ?_|(refine Z8 ?_;intro κ hκ)|(refine Z4 ?_;clear hκ κ)|(refine Z2 ?_ ?_<;>intro h ac<;>try exact Xp)|(refine Z5 ?_;first|(refine Xi (hP _) ?_;rintro _ _ ⟨rfl,rfl⟩)|(refine Xi (hI _) ?_;rintro _ _ ⟨rfl,rfl⟩))|refine Z7 ?_|exact⟨⟩|(apply hκ.out;clear hκ κ))
 exact⟨_,rfl,rfl⟩
def pairT (p:Tx)(base a b:Int):Tx:=p++[40]++H9 base a++[44]++H9 base b++[41,46]
theorem S2 (p:Tx)(base a b:Int)(hp:p.length<=100)(h0: -9223372036854775808<=base)(h1:base<=9223372036854775807)(ad:0<=a)(ac:a<=7)(ab:0<=b)(aa:b<=7)(m:St):ACalls Tryz.prog 53 [str p,ic base,ic a,ic b] m fun r m'=>r=str (pairT p base a b)/\m'=m:=by
 have hA:=fun m=>Jp base a h0 h1 ad ac m;have hB:=fun m=>Jp base b h0 h1 ab aa m;have ah:=I9 base ad ac;have af:=I9 base ab aa;have ak:({data:=#[40]}:ByteArray)=bs [40]:=rfl;have aj:({data:=#[41,46]}:ByteArray)=bs [41,46]:=rfl;have ai:({data:=#[44]}:ByteArray)=bs [44]:=rfl;have HR:Aec (pairT p base a b=p++[40]++H9 base a++[44]++H9 base b++[41,46]):=rfl;clear h0 h1;generalize H9 base a=x at*
 generalize H9 base b=y at*
 refine Z9 21 [.tmp 8] Tryz.func53 ?_
 repeat' (first|refine Z1 ?_|(refine Z8 ?_;intro κ hκ)|(refine Z4 ?_;clear hκ κ)|(refine Z2 ?_ ?_<;>intro h ae<;>try exact Xp)|(refine Z5 ?_;first|(refine Xi (hA _) ?_;rintro _ _ ⟨rfl,rfl⟩)|(refine Xi (hB _) ?_;rintro _ _ ⟨rfl,rfl⟩))|refine Z7 ?_|exact⟨⟩|(apply hκ.out;clear hκ κ))
 exact⟨_,rfl,by rw[HR.out]⟩
def wR:Tx:=[112,40,65,44,66,41,58,45,101,40,65,44,66,41,46,112,40,65,44,66,41,58,45,101,40,65,44,67,41,44,112,40,67,44,66,41,46]
def wQ:Tx:=[112,40,88,44,89,41,58,45,112,40,88,44,90,41,44,101,40,90,44,89,41,46,112,40,88,44,89,41,58,45,101,40,88,44,89,41,46]
def oV:Tx:=[112,40,67,44,65,41,58,45,112,40,67,44,66,41,44,112,40,66,44,65,41,46,112,40,65,44,66,41,58,45,101,40,65,44,66,41,46]
def oU:Tx:=[112,40,65,44,66,41,58,45,101,40,65,44,66,41,46,112,40,67,44,66,41,58,45,112,40,67,44,65,41,44,112,40,65,44,66,41,46]
def oW (k:Int):Tx:=if k=0 then wR else if k=1 then wQ else if k=2 then oV else oU
theorem gI (form:Int)(h0: -9223372036854775808<=form)(h1:form<=9223372036854775807)(m:St):ACalls Tryz.prog 27 [ic form] m fun r m'=>r=str (oW (Gv form 4))/\m'=m:=by
 have hP:=fun m=>Fc form 4 h0 h1 Ad6 Ad6 m;have hr:=Fu form (n:=4) Ad6;have ae:({data:=#[112,40,65,44,66,41,58,45,101,40,65,44,66,41,46,112,40,65,44,66,41,58,45,101,40,65,44,67,41,44,112,40,67,44,66,41,46]}:ByteArray)=bs wR:=rfl;have ad:({data:=#[112,40,88,44,89,41,58,45,112,40,88,44,90,41,44,101,40,90,44,89,41,46,112,40,88,44,89,41,58,45,101,40,88,44,89,41,46]}:ByteArray)=bs wQ:=rfl;have ac:({data:=#[112,40,67,44,65,41,58,45,112,40,67,44,66,41,44,112,40,66,44,65,41,46,112,40,65,44,66,41,58,45,101,40,65,44,66,41,46]}:ByteArray)=bs oV:=rfl;have ab:({data:=#[112,40,65,44,66,41,58,45,101,40,65,44,66,41,46,112,40,67,44,66,41,58,45,112,40,67,44,65,41,44,112,40,65,44,66,41,46]}:ByteArray)=bs oU:=rfl;clear h0 h1;generalize Gv form 4=q at*
 rcases (show q=0\/q=1\/q=2\/q=3 by omega)with rfl|rfl|rfl|rfl
 ·refine Z9 11 [.tmp 2] Tryz.func27 ?_
  repeat' (first|refine Z1 ?_|(refine Z8 ?_;intro κ hκ)|(refine Z4 ?_;clear hκ κ)|(refine Z2 ?_ ?_<;>intro h aa<;>try exact Xp)|(refine Z5 ?_;refine Xi (hP _) ?_;rintro _ _ ⟨rfl,rfl⟩)|refine Z7 ?_|exact⟨⟩|(apply hκ.out;clear hκ κ))
  exact⟨_,rfl,rfl⟩
 ·refine Z9 11 [.tmp 2] Tryz.func27 ?_
  repeat' (first|refine Z1 ?_|(refine Z8 ?_;intro κ hκ)|(refine Z4 ?_;clear hκ κ)|(refine Z2 ?_ ?_<;>intro h aa<;>try exact Xp)|(refine Z5 ?_;refine Xi (hP _) ?_;rintro _ _ ⟨rfl,rfl⟩)|refine Z7 ?_|exact⟨⟩|(apply hκ.out;clear hκ κ))
  exact⟨_,rfl,rfl⟩
 ·refine Z9 11 [.tmp 2] Tryz.func27 ?_
  repeat' (first|refine Z1 ?_|(refine Z8 ?_;intro κ hκ)|(refine Z4 ?_;clear hκ κ)|(refine Z2 ?_ ?_<;>intro h aa<;>try exact Xp)|(refine Z5 ?_;refine Xi (hP _) ?_;rintro _ _ ⟨rfl,rfl⟩)|refine Z7 ?_|exact⟨⟩|(apply hκ.out;clear hκ κ))
  exact⟨_,rfl,rfl⟩
 ·refine Z9 11 [.tmp 2] Tryz.func27 ?_
  repeat' (first|refine Z1 ?_|(refine Z8 ?_;intro κ hκ)|(refine Z4 ?_;clear hκ κ)|(refine Z2 ?_ ?_<;>intro h aa<;>try exact Xp)|(refine Z5 ?_;refine Xi (hP _) ?_;rintro _ _ ⟨rfl,rfl⟩)|refine Z7 ?_|exact⟨⟩|(apply hκ.out;clear hκ κ))
  exact⟨_,rfl,rfl⟩
end Go.Proofs.YtmoeoppbmhfbpabGreatDoorJ
