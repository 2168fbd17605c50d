import Derived.Test.YtmoeoppbmhfbpabGreatDoorGOpuB
set_option maxRecDepth 100000
set_option linter.all false
namespace Go.Proofs.YtmoeoppbmhfbpabGreatDoorG
open Go.Abs
theorem vA {d:Nat}(h:d<=9):Az ((UInt8.ofNat (48+d)).toNat:Int)=true:=by
 have:d=0\/d=1\/d=2\/d=3\/d=4\/d=5\/d=6\/d=7\/d=8\/d=9:=Agm;rcases this with rfl|rfl|rfl|rfl|rfl|rfl|rfl|rfl|rfl|rfl<;>decide
theorem iV {d:Nat}(h0:1<=d)(h:d<=9):Gb ((UInt8.ofNat (48+d)).toNat:Int)=true:=by
 have:d=1\/d=2\/d=3\/d=4\/d=5\/d=6\/d=7\/d=8\/d=9:=Agm;rcases this with rfl|rfl|rfl|rfl|rfl|rfl|rfl|rfl|rfl<;>decide
theorem Abx {n:Nat}(h:n<=999):GTm (Lib.decDigits n):=by
 by_cases h1:n<10
 ·rw[Lib.decDigits_one h1];by_cases h0:n=0
  ·subst h0;exact .inr (.inl rfl)
  ·exact .inr (.inr ⟨_,[],rfl,iV Agm Agm,by simp,by simp⟩)
 ·by_cases h2:n<100
  ·rw[Lib.decDigits_two h1 h2];exact .inr (.inr ⟨_,_,rfl,iV Agm Agm,fun c hc=>by simp only[Aeq,Ae8,Agk]at hc;subst hc;exact vA Agm,by simp⟩)
  ·rw[Lib.decDigits,dif_neg h1,Lib.decDigits_two Agm Agm];refine .inr (.inr ⟨UInt8.ofNat (48+n / 10 / 10),[UInt8.ofNat (48+n / 10 % 10),UInt8.ofNat (48+n % 10)],rfl,iV Agm Agm,fun c hc=>?_,by simp⟩);simp only[Aeq,Ae8,Agk]at hc;rcases hc with rfl|rfl<;>exact vA Agm
theorem Ace {t:Tx}(h:UT t):GTm t:=by
 cases hv:Ad t with
 |true=>
  obtain⟨k,hk,rfl⟩:=h.2.2.2 hv;exact .inl ⟨_,rfl,C7 Agm Agm⟩
 |false=>
  rcases h.1 with h1|⟨-,h1,h2,h3⟩
  ·rw[hv]at h1;cases h1
  ·obtain⟨n,hn⟩:=Int.eq_ofNat_of_zero_le h2;rw[hn]at h1 h3;rw[<-h1,Lib.itoa_nonneg];exact Abx Agm
theorem Ada {N:List Tx}{ar:Tx->Nat}{l:List RItem}(hR:RtL N ar l)(hN:∀x∈l,GNm x.head.pred/\∀a∈x.body,GNm a.pred):∀x∈l,zW x:=fun x hx=>by
 have hm:=hR.gl.msr x hx;have hw:=hR.wit x hx;refine⟨(hN x hx).1,hw.2.1,fun ho=>?_⟩;obtain⟨w1,w2,w3,w4⟩:=hw.2.2 ho;have key:∀a∈Ae x,GNm a.pred->Da a->wM a:=fun a ha h1 h2=>⟨h1,h2.2.1,h2.2.2.1,fun t ht=>Ace ((hm.at_ a ha).2.2 t ht)⟩;exact⟨key _ (Ak (.inl ⟨ho,rfl⟩)) (hN x hx).1 w1,w2,w3,fun a ha=>key a (Ak (.inr ha)) ((hN x hx).2 a ha) (w4 a ha)⟩
structure Bhd (N:List Tx)(ar:Tx->Nat)(l l':List RItem):Prop where
 rt:RtL N ar l'
 lim:Gy l'=true
 wr:(Cd l').1=0
 out:l'.filter (·.out)=l.filter (·.out)
theorem Bhd.step {N:List Tx}{ar:Tx->Nat}{c:UInt8}{l l1 l2:List RItem}(h:Bhd N ar l l1)(hs:St5 N c l1 (some l2))(hp:Ml (St5 N c) N ar c):Bhd N ar l l2:=by
 obtain⟨h1,h2⟩:=hs.kept h.rt;unfold Cj at h1;simp only[Adv,Agj]at h1;exact⟨hp.rt _ _ hs h.rt,h1.1,h1.2.2,h2.trans h.out⟩
theorem Bhd.chg {N:List Tx}{ar:Tx->Nat}{c:UInt8}{b m m':Int}{l l1 l2:List RItem}(h:Bhd N ar l l1)(hs:GChg (St5 N c) b l1 m l2 m')(hp:Ml (St5 N c) N ar c):Bhd N ar l l2:=by
 induction hs with
 |refl=>exact h
 |snoc _ _ hs ih=>exact ih.step hs hp
theorem Bhd.pss {N:List Tx}{ar:Tx->Nat}{ps:Tx}{b m m':Int}{l l1 l2:List RItem}(h:Bhd N ar l l1)(hs:GPss (St5 N) b l1 m ps l2 m')(hp:∀c∈ps,Ml (St5 N c) N ar c):Bhd N ar l l2:=by
 induction hs with
 |nil=>exact h
 |snoc _ h2 ih=>exact (ih fun c hc=>hp c (by simp[hc])).chg h2.1 (hp _ (by simp))
def J1 (l:List RItem)(p:Tx):Prop:=∃x∈l,x.head.pred=p\/∃a∈x.body,a.pred=p
def I9 (l:List RItem)(p:Tx):Prop:=∃x∈l,x.out=false/\x.head.pred=p
theorem sS {N:List Tx}{q:Tx}(h:q∈N)(b:Bool){a:C4}(ha:a.p=((N.idxOf q:Nat):Int)):(Lp N b a).pred=q:=by
 show (N[a.p.toNat]?).getD []=q;rw[ha,Afz,List.getElem?_eq_getElem (Afd h),Afc];rfl
theorem aO {N:List Tx}{ar:Tx->Nat}{l:List RItem}(hR:RtL N ar l){x:RItem}(hx:x∈l)(hxo:x.out=false){k:Nat}{q:Tx}{z:RItem}(hz:z∈uL N l x k q):z.head.pred=x.head.pred/\∀a∈z.body,∃y∈l,∃b∈y.body,b.pred=a.pred:=by
 obtain⟨r,hr,rfl⟩:=Aey.1 hz;obtain⟨y,hy,e⟩:=List.mem_filterMap.1 hr;obtain⟨ab,aa⟩:=Afx.1 hy;simp only[Jl,Adv,Af0,Agi]at aa;unfold Mh at e;obtain⟨a,ha,e⟩:=Option.bind_eq_some_iff.1 e;obtain⟨P,hP,rfl⟩:=Agd.1 e;refine⟨sS (hR.gl.msr x hx).mem false rfl,fun b hb=>?_⟩;obtain⟨m,hm,rfl⟩:=Aey.1 hb;obtain⟨m1,af,rfl⟩:=Aey.1 hm;obtain⟨m2,ae,rfl⟩:=Aey.1 af;have key:∀w∈l,w.out=false->∀d∈w.body,∀(m:Lit),m.a.p=((N.idxOf d.pred:Nat):Int)->∃y∈l,∃b∈y.body,b.pred=(Lp N m.neg (cT (Eh (El P ⟨(Bt N x).head,rpl k (El aprt (Bt N y)).body (Bt N x).body⟩)) (Nc P m.a))).pred:=fun w hw ho d hd m ac=>⟨w,hw,d,hd,(sS ((hR.ru w hw ho).body d hd).mem m.neg ac).symm⟩;rcases Dm ae with h|h
 ·obtain⟨d,hd,rfl⟩:=Aey.1 h;exact key x hx hxo d hd _ rfl
 ·obtain⟨m3,ad,rfl⟩:=Aey.1 h;obtain⟨d,hd,rfl⟩:=Aey.1 ad;exact key y ab aa.1 d hd _ rfl
theorem cH {l:List RItem}{i:Nat}{p e:Tx}(h:D6 l i p=some e):∃y∈l,∃b∈y.body,b.pred=e:=by
 unfold D6 at h;split at h
 case h_2=>cases h
 rename_i y ho;split at h
 case isFalse=>cases h
 split at h
 case h_2=>cases h
 rename_i a hb;cases h;have aa:y∈H0 l i p:=by rw[ho];simp
 obtain⟨⟨z,j⟩,hz,rfl⟩:=Aey.1 aa;exact⟨z,Af2 (Afx.1 hz).1,a,by rw[show z.body=[a]from hb];simp,rfl⟩
theorem St5.names {N:List Tx}{ar:Tx->Nat}{c:UInt8}{l l':List RItem}(hR:RtL N ar l)(h:St5 N c l (some l')):(∀p,J1 l' p->J1 l p)/\∀p,I9 l' p->I9 l p:=by
 have fin:(∀z∈l',z∈l\/(z.out=false/\∃x∈l,x.out=false/\z.head.pred=x.head.pred/\∀a∈z.body,∃y∈l,∃b∈y.body,b.pred=a.pred))->(∀p,J1 l' p->J1 l p)/\∀p,I9 l' p->I9 l p:=fun h=>by
  refine⟨fun p ⟨z,hz,hp⟩=>?_,fun p ⟨z,hz,ho,hp⟩=>?_⟩
  ·rcases h z hz with hz|⟨-,x,hx,-,e,hb⟩
   ·exact⟨z,hz,hp⟩
   ·rcases hp with hp|⟨a,ha,hp⟩
    ·exact⟨x,hx,.inl (e.symm.trans hp)⟩
    ·obtain⟨y,hy,b,hb,e2⟩:=hb a ha;exact⟨y,hy,.inr ⟨b,hb,e2.trans hp⟩⟩
  ·rcases h z hz with hz|⟨-,x,hx,hxo,e,-⟩
   ·exact⟨z,hz,ho,hp⟩
   ·exact⟨x,hx,hxo,e.symm.trans hp⟩
 refine fin ?_;rcases h with⟨-,M,-,h⟩|⟨-,h⟩|⟨-,h⟩|⟨-,M,-,h⟩|⟨-,h⟩
 ·rcases h with⟨-,h⟩|⟨-,⟨-,h⟩|⟨-,h⟩⟩
  ·cases h
  ·cases h
  ·cases h;exact fun z hz=>.inl (Afx.1 hz).1
 ·rcases h with⟨h,-⟩|⟨i,k,y,h,h1,h2,-⟩
  ·cases h
  ·cases h;intro z hz;rcases Dm hz with hz|hz
   ·exact .inl hz
   ·simp at hz;subst hz;have hy:=Adt h1;exact .inr ⟨rfl,y,hy,h2,rfl,fun a ha=>⟨y,hy,a,Afj ha,rfl⟩⟩
 ·rcases h with⟨h,-⟩|⟨i,y,h,-⟩
  ·cases h
  ·cases h;intro z hz;rcases Dm hz with hz|hz
   ·exact .inl hz
   ·cases hz
 ·rcases h with⟨h,-⟩|⟨i,k,y,a,h,h1,h2,h3,-⟩
  ·cases h
  ·cases h;intro z hz;rcases Dm hz with hz|hz
   ·exact .inl hz
   ·have hy:=Adt h1;obtain⟨e1,e2⟩:=aO hR hy h2 hz;exact .inr ⟨Yw z hz,y,hy,h2,e1,e2⟩
 ·rcases h with⟨h,-⟩|⟨i,y,e,h,h1,h2,h3,-⟩
  ·cases h
  ·cases h;intro z hz;rcases Dm hz with hz|hz
   ·exact .inl hz
   ·simp at hz;subst hz;have hy:=Adt h1;have hr:=U7 (hR.wit y hy) (hR.wi y hy) h2;have hp:∃b∈y.body,b.pred=y.head.pred:=by
     have hb:(y.body.map (Bg (Au y))).map (·.pred)=[y.head.pred,y.head.pred]:=by
      have:=congrArg (fun z:RItem=>z.body.map (·.pred)) hr;simpa[ren,C3]using this
     have hm:y.head.pred∈(y.body.map (Bg (Au y))).map (·.pred):=by rw[hb];simp
     obtain⟨b',ab,e2⟩:=Aey.1 hm;obtain⟨b,aa,rfl⟩:=Aey.1 ab;exact⟨b,aa,e2⟩
    refine .inr ⟨rfl,y,hy,(Gi hR h1 h2).1,rfl,fun a ha=>?_⟩;simp only[C3,Aeq,Ae8,Agk]at ha;rcases ha with rfl|rfl
    ·exact cH h3
    ·exact⟨y,hy,hp⟩
structure Nms (l l':List RItem):Prop where
 nmd:∀p,J1 l' p->J1 l p
 rld:∀p,I9 l' p->I9 l p
 lck:∀p,J1 l' p->I9 l p->I9 l' p
theorem Jx {N:List Tx}{l:List RItem}(hN:∀x∈l,x.head.pred∈N){p:Tx}(hp:p∈N):B8 N l (N.idxOf p)=true↔I9 l p:=by
 unfold B8 I9;simp only[Aeo,Adv,Af0,Agi];constructor
 ·rintro⟨x,hx,h1,h2⟩;refine⟨x,hx,h1,?_⟩;have e:=uK (hN x hx) hp;rw[h2]at e;simpa using e.symm
 ·rintro⟨x,hx,h1,rfl⟩;exact⟨x,hx,h1,rfl⟩
theorem Za {N:List Tx}{ar:Tx->Nat}{l:List RItem}(hR:RtL N ar l){p:Tx}(h:J1 l p):p∈N:=by
 obtain⟨x,hx,h⟩:=h;rcases h with rfl|⟨a,ha,rfl⟩
 ·exact (hR.gl.msr x hx).mem
 ·cases ho:x.out with
  |true=>rw[(hR.gl.msr x hx).out ho]at ha;cases ha
  |false=>exact ((hR.ru x hx ho).body a ha).mem
theorem yR {N:List Tx}{ar:Tx->Nat}{l l':List RItem}(hR:RtL N ar l)(aa:RtL N ar l')(h:He N l' l=false){p:Tx}(h1:J1 l' p)(h2:I9 l p):I9 l' p:=by
 have hp:=Za aa h1;have hk:=Afd hp;unfold He at h;have:=Ae9.1 h (N.idxOf p) (by simpa using hk);have e1:B8 N l (N.idxOf p)=true:=(Jx (fun x hx=>(hR.gl.msr x hx).mem) hp).2 h2;have e2:E6 N l' (N.idxOf p)=true:=by
  obtain⟨x,hx,h1⟩:=h1;unfold E6;refine Aeo.2 ⟨x,hx,?_⟩;rcases h1 with rfl|⟨a,ha,rfl⟩
  ·simp
  ·simp only[Bool.or_eq_true,Aeo,Agi];exact .inr ⟨a,ha,rfl⟩
 rw[e1,e2]at this;refine (Jx (fun x hx=>(aa.gl.msr x hx).mem) hp).1 ?_;simpa using this
theorem Nms.refl (l:List RItem):Nms l l:=⟨fun _ h=>h,fun _ h=>h,fun _ _ h=>h⟩
theorem Nms.step {N:List Tx}{ar:Tx->Nat}{c:UInt8}{l l1 l2:List RItem}(h:Nms l l1)(h1:RtL N ar l1)(hs:St5 N c l1 (some l2))(hp:Ml (St5 N c) N ar c):Nms l l2:=by
 obtain⟨g1,g2⟩:=hs.names h1;have hb:=(hs.kept h1).1;unfold Cj at hb;simp only[Adv,Af0]at hb;refine⟨fun p hp=>h.nmd p (g1 p hp),fun p hp=>h.rld p (g2 p hp),fun p hn hr=>?_⟩;exact yR h1 (hp.rt _ _ hs h1) hb.2.1 hn (h.lck p (g1 p hn) hr)
theorem Nms.pss {N:List Tx}{ar:Tx->Nat}{ps:Tx}{b m m':Int}{l l1 l2:List RItem}(h:Nms l l1)(hB:Bhd N ar l l1)(hs:GPss (St5 N) b l1 m ps l2 m')(hp:∀c∈ps,Ml (St5 N c) N ar c):Nms l l2:=by
 induction hs with
 |nil=>exact h
 |snoc h1 h2 ih=>
  rename_i ps c la lb m1 m2;have aa:=hp c (by simp);have ih:=ih fun c hc=>hp c (by simp[hc]);have ab:=hB.pss h1 fun c hc=>hp c (by simp[hc]);have key:∀l3 m3,GChg (St5 N c) b la m1 l3 m3->Nms l l3/\Bhd N ar l l3:=fun l3 m3 h=>by
   induction h with
   |refl=>exact⟨ih,ab⟩
   |snoc _ _ hs ih2=>exact⟨ih2.1.step ih2.2.rt hs aa,ih2.2.step hs aa⟩
  exact (key _ _ h2.1).1
def Ka (l:List RItem):Nat:=(l.map fun x=>(Ae x).length).sum
theorem Jp (x:RItem)(l:List RItem):Ka (x::l)=(Ae x).length+Ka l:=by simp[Ka]
theorem zQ (l m:List RItem):Ka (l++m)=Ka l+Ka m:=by simp[Ka]
theorem kL {o:List RItem}(i:Nat):∀(l:List RItem) (k:Nat) (y:RItem),k<=i->l[i-k]?=some y->Ka ((l.zipIdx k).flatMap fun p=>if p.2=i then o else [p.1])+(Ae y).length=Ka l+Ka o
 |[],_,_,_,h=>by simp at h
 |x::l,k,y,hk,h=>by
  rw[Ad0,Ae5,zQ,Jp];by_cases e:k=i
  ·subst e;have hx:x=y:=by simpa using h
   subst hx;have key:∀(l:List RItem) (j:Nat),k<j->((l.zipIdx j).flatMap fun p=>if p.2=k then o else [p.1])=l:=by
    intro l;induction l with
    |nil=>intro j _;rfl
    |cons z l ih=>intro j hj;rw[Ad0,Ae5,ih (j+1) Agm,if_neg Agm];rfl
   rw[key l (k+1) Agm,if_pos rfl];omega
  ·have:=kL (o:=o) i l (k+1) y Agm (by rw[show i-k=(i-(k+1))+1 by omega]at h;simpa using h);rw[if_neg e,Jp];have e0:Ka []=0:=rfl;dsimp only;omega
theorem Y2 {o l:List RItem}{i:Nat}{y:RItem}(hy:l[i]?=some y):Ka (rpl i o l)+(Ae y).length=Ka l+Ka o:=kL i l 0 y (Nat.zero_le _) (by simpa using hy)
theorem Lw {x:RItem}(h:x.out=false):(Ae x).length=1+x.body.length:=by simp[Ae,h];omega
theorem U1 (f:RItem->Bool):∀l:List RItem,(∀x∈l,f x=false->x.out=false)->Ka (l.filter f)+(l.length-(l.filter f).length)<=Ka l
 |[],_=>by simp[Ka]
 |x::l,h=>by
  have ih:=U1 f l fun y hy=>h y (by simp[hy]);have hl:=Afy f l;rw[Agc,Jp];split
  ·rw[Jp];simp only[Aen];omega
  ·rename_i hf;have:=Lw (h x (by simp) (by simpa using hf));simp only[Aen];omega
theorem St5.atoms {N:List Tx}{ar:Tx->Nat}{c:UInt8}{l l':List RItem}(hR:RtL N ar l)(h:St5 N c l (some l')):(c≠117->Ka l'<=Ka l)/\(c≠117->c≠108->Ka l'+1<=Ka l):=by
 rcases h with⟨rfl,M,-,h⟩|⟨rfl,h⟩|⟨rfl,h⟩|⟨rfl,h⟩|⟨rfl,h⟩
 ·rcases h with⟨-,h⟩|⟨aa,⟨-,h⟩|⟨hb,h⟩⟩
  ·cases h
  ·cases h
  ·cases h;have h1:=U1 (fun x=>Ey N (Ea N.length M N.length) l (N.idxOf x.head.pred)) l fun x hx hf=>by
    cases ho:x.out with
    |false=>rfl
    |true=>
     have:Ey N (Ea N.length M N.length) l (N.idxOf x.head.pred)=true:=by
      unfold Ey;exact Aeo.2 ⟨x,hx,by simp[ho]⟩
     rw[this]at hf;cases hf
   have h2:=Afy (fun x=>Ey N (Ea N.length M N.length) l (N.idxOf x.head.pred)) l;unfold Fc at aa⊢;constructor<;>intros<;>omega
 ·rcases h with⟨h,-⟩|⟨i,k,y,h,h1,h2,h3,-⟩
  ·cases h
  ·cases h;have e:=Y2 (o:=[D9 y k]) h1;have e1:=Lw h2;have e2:Ka [D9 y k]=1+(y.body.eraseIdx k).length:=by
    rw[Jp,Lw (x:=D9 y k) rfl];simp[Ka,D9]
   have e3:=List.length_eraseIdx_of_lt h3;constructor<;>intros<;>omega
 ·rcases h with⟨h,-⟩|⟨i,y,h,h1,h2,-⟩
  ·cases h
  ·cases h;have e:=Y2 (o:=[]) h1;have e1:=Lw h2;have e2:Ka []=0:=rfl;constructor<;>intros<;>omega
 ·exact⟨fun h=>absurd rfl h,fun h=>absurd rfl h⟩
 ·rcases h with⟨h,-⟩|⟨i,y,e,h,h1,h2,-⟩
  ·cases h
  ·cases h;obtain⟨ho,hb,-⟩:=Gi hR h1 h2;have e:=Y2 (o:=[C3 y.head.pred e]) h1;have e1:=Lw ho;refine⟨fun _=>?_,fun _ h=>absurd rfl h⟩;have e3:∀q,Ka [C3 y.head.pred q]=3:=fun _=>rfl;rw[e3]at e;omega
theorem GChg.num {T:List RItem->Option (List RItem)->Prop}{b m m':Int}{l l':List RItem}(h:GChg T b l m l' m'):m<=m'/\(m<=b->m'<=b)/\(m'=m->l'=l):=by
 induction h with
 |refl=>exact⟨Agm,fun h=>h,fun _=>rfl⟩
 |snoc _ hb _ ih=>exact⟨Agm,fun _=>Agm,fun e=>Agm⟩
theorem GPss.num {T:UInt8->List RItem->Option (List RItem)->Prop}{ps:Tx}{b m m':Int}{l l':List RItem}(h:GPss T b l m ps l' m'):m<=m'/\(m<=b->m'<=b)/\(m'=m->l'=l):=by
 induction h with
 |nil=>exact⟨Agm,fun h=>h,fun _=>rfl⟩
 |snoc h1 h2 ih=>
  have g:=h2.1.num;exact⟨Agm,fun hb=>g.2.1 (ih.2.1 hb),fun e=>by rw[g.2.2 Agm,ih.2.2 Agm]⟩
theorem pX {N:List Tx}{ar:Tx->Nat}{c:UInt8}{b m m':Int}{l l1 l2:List RItem}(hB:Bhd N ar l l1)(hs:GChg (St5 N c) b l1 m l2 m')(hp:Ml (St5 N c) N ar c):Bhd N ar l l2/\(c≠117->Ka l2<=Ka l1)/\(c≠117->c≠108->(Ka l2:Int)+(m'-m)<=Ka l1):=by
 induction hs with
 |refl=>exact⟨hB,fun _=>Adn _,fun _ _=>Agm⟩
 |snoc h1 hb hs ih=>
  obtain⟨ihB,ih1,ih2⟩:=ih;obtain⟨g1,g2⟩:=hs.atoms ihB.rt;refine⟨ihB.step hs hp,fun hu=>Ado (g1 hu) (ih1 hu),fun hu hl=>?_⟩;have a1:=g2 hu hl;have a2:=ih2 hu hl;omega
theorem oI {N:List Tx}{ar:Tx->Nat}{ps:Tx}{b m m':Int}{l l1 l2:List RItem}(hB:Bhd N ar l l1)(hs:GPss (St5 N) b l1 m ps l2 m')(hp:∀c∈ps,Ml (St5 N c) N ar c):(117∉ps->Ka l2<=Ka l1)/\(117∉ps->108∉ps->(Ka l2:Int)+(m'-m)<=Ka l1):=by
 induction hs with
 |nil=>exact⟨fun _=>Adn _,fun _ _=>Agm⟩
 |snoc h1 h2 ih=>
  rename_i ps c la lb m1 m2;obtain⟨ih1,ih2⟩:=ih fun c hc=>hp c (by simp[hc]);obtain⟨-,g1,g2⟩:=pX (hB.pss h1 fun c hc=>hp c (by simp[hc])) h2.1 (hp c (by simp));have hu:117∉ps++[c]->117∉ps/\c≠117:=fun h=>⟨fun g=>h (by simp[g]),fun g=>h (by simp[g])⟩;have hl:108∉ps++[c]->108∉ps/\c≠108:=fun h=>⟨fun g=>h (by simp[g]),fun g=>h (by simp[g])⟩;refine⟨fun h=>Ado (g1 (hu h).2) (ih1 (hu h).1),fun h h'=>?_⟩;have a1:=g2 (hu h).2 (hl h').2;have a2:=ih2 (hu h).1 (hl h').1;omega
theorem Aap {p:Tx}(h:G6 p):p.count 40=0:=List.count_eq_zero.2 fun hm=>by
 have:=h.2 40 hm;simp[Ba]at this
theorem Aaj {t:Tx}(h:Is t):t.count 40=0:=List.count_eq_zero.2 fun hm=>by
 rcases h.2 40 hm with h|h
 ·simp[A8]at h
 ·simp[Az]at h
theorem mN:∀{ts:List Tx},(∀t∈ts,Is t)->(A7 ts).count 40=0
 |[],_=>rfl
 |t::ts,h=>by
  have h1:=Aaj (h t (by simp));have h2:=mN (ts:=ts) fun u hu=>h u (by simp[hu]);unfold A7 at h2⊢;rw[Ae5,Agf,Agg,h1,h2];rfl
theorem yM {ts:List Tx}(h:∀t∈ts,Is t):(A2 ts).count 40=0:=by
 cases ts with
 |nil=>rfl
 |cons t ts=>rw[A2,Agf,Aaj (h t (by simp)),mN fun u hu=>h u (by simp[hu])]
theorem at_one {a:RAtom}(h:Da a):(A4 a).count 40=1:=by
 unfold A4;rw[Agf,Agg,Agf,Aap h.1,yM h.2.2.2];rfl
theorem yL {a:RAtom}(h:Da a):(Bb a).count 40=1:=by
 unfold Bb;rw[Agf,at_one h];split<;>rfl
theorem tW:∀{ls:List RAtom},(∀a∈ls,Da a)->(A7 (ls.map Bb)).count 40=ls.length
 |[],_=>rfl
 |a::ls,h=>by
  have h1:=yL (h a (by simp));have h2:=tW (ls:=ls) fun u hu=>h u (by simp[hu]);unfold A7 at h2⊢;rw[Ad9,Ae5,Agf,Agg,h1,h2];simp;omega
theorem Abt {x:RItem}(h:Bv x):(A0 x++[46]).count 40=(Ae x).length:=by
 rw[Agf,show ([46]:Tx).count 40=0 from rfl,Adu];cases ho:x.out with
 |true=>
  have:=(h.2.1 ho).2.2;rw[A0,if_pos ho,Agg,Aap h.1];simp[Ae,ho,this]
 |false=>
  obtain⟨w1,w2,w3,w4⟩:=h.2.2 ho;rw[A0,if_neg (by simp[ho]),Cv,Agf,at_one w1,Lw ho];cases hb:x.body with
  |nil=>rfl
  |cons a ls=>
   rw[hb]at w4;have e:A7 ((a::ls).map Bb)=44::A2 ((a::ls).map Bb):=by simp[A7,A2]
   have h1:=tW w4;rw[e,Agg]at h1;rw[if_neg (by simp),Agg,Agg];have h2:(A2 ((a::ls).map Bb)).count 40=(a::ls).length:=by simpa using h1
   rw[h2];simp
theorem Ze:∀{l:List RItem},(∀x∈l,Bv x)->(Bj l).count 40=Ka l
 |[],_=>rfl
 |x::l,h=>by
  have h1:=Abt (h x (by simp));have h2:=Ze (l:=l) fun y hy=>h y (by simp[hy]);unfold Bj at h2⊢;rw[Ae5,Agf,h1,h2,Jp]
def Mm:RItem:=⟨false,⟨false,[113],[[65]]⟩,[⟨false,[112],[[65],[66]]⟩,⟨false,[103],[[66]]⟩]⟩
def I0:RItem:=⟨false,⟨false,[112],[[65],[49]]⟩,[⟨false,[104],[[65]]⟩]⟩
def Iz:RItem:=⟨false,⟨false,[112],[[65],[66]]⟩,[⟨false,[107],[[66],[65]]⟩]⟩
def Fw:RItem:=⟨true,⟨false,[113],[]⟩,[]⟩
def Ik:RItem:=⟨false,⟨false,[113],[[65]]⟩,[⟨false,[104],[[65]]⟩,⟨false,[103],[[49]]⟩]⟩
def Ij:RItem:=⟨false,⟨false,[113],[[65]]⟩,[⟨false,[107],[[66],[65]]⟩,⟨false,[103],[[66]]⟩]⟩
theorem Aci (N:List Tx):Js N [Mm,I0,Iz,Fw] Mm 0 [112]=[Bt N Ik,Bt N Ij]:=by rfl
theorem Acg:UT [65]:=Sb (k:=0) (by decide) 65 rfl
theorem Acf:UT [66]:=Sb (k:=1) (by decide) 66 rfl
theorem Ach:UT [49]:=⟨.inr ⟨rfl,(by show Lib.itoa 1=[49];simp[Lib.itoa,Lib.decDigits]),by decide,by decide⟩,⟨by simp,by decide⟩,by simp,fun h=>by cases h⟩
theorem Acm {N:List Tx}(hN:∀q:Tx,q=[113]\/q=[112]\/q=[103]\/q=[104]\/q=[107]->q∈N):uL N [Mm,I0,Iz,Fw] Mm 0 [112]=[Ik,Ij]:=by
 unfold uL;rw[Aci];have h1:Ck N (Bt N Ik)=Ik:=Zf rfl rfl fun a ha=>by
  simp only[Ae,Ik,Aek,if_false,List.singleton_append,Aeq,Ae8,Agk]at ha;rcases ha with rfl|rfl|rfl<;>exact⟨hN _ (by simp),by simp[Acg,Acf,Ach]⟩
 have h2:Ck N (Bt N Ij)=Ij:=Zf rfl rfl fun a ha=>by
  simp only[Ae,Ij,Aek,if_false,List.singleton_append,Aeq,Ae8,Agk]at ha;rcases ha with rfl|rfl|rfl<;>exact⟨hN _ (by simp),by simp[Acg,Acf,Ach]⟩
 rw[Ad9,Ad9,Aea,h1,h2]
theorem Rr {N:List Tx}{l l':List RItem}(h:∀k,B8 N l k=true->B8 N l' k=true):He N l' l=false:=by
 unfold He;rw[Ae9];intro k _ hc;simp only[Adv,Af0]at hc;rw[h k hc.1.1]at hc;exact absurd hc.1.2 (by simp)
def xL0:RItem:=cG [112] [101]
def aG:RItem:=C3 [112] [112]
def Qe:RItem:=⟨true,⟨false,[112],[]⟩,[]⟩
def qN:RItem:=C3 [112] [101]
theorem yN (N:List Tx):Cj N [xL0,aG,Qe] [xL0,qN,Qe]=true:=by
 have h1:Gy [xL0,qN,Qe]=true:=Agp;have h2:(Cd [xL0,qN,Qe]).1=0:=Agp;have h3:He N [xL0,qN,Qe] [xL0,aG,Qe]=false:=Rr fun k h=>by simpa[B8,xL0,aG,Qe,qN,cG,C3]using h
 unfold Cj;rw[h1,h2,h3];rfl
theorem uB:Kc xL0=false:=Agp
theorem uA:Kc aG=true:=Agp
theorem mO:D6 [xL0,aG,Qe] 1 [112]=some [101]:=Agp
theorem tX {N:List Tx}{o:Option (List RItem)}(h:StL N [xL0,aG,Qe] o):o=some [xL0,qN,Qe]:=by
 have k1:Ro N [xL0,aG,Qe] 1=true:=by
  show (Kc aG&&(match D6 [xL0,aG,Qe] 1 [112]with|some e=>Cj N [xL0,aG,Qe] (rpl 1 [C3 [112] e] [xL0,aG,Qe])|none=>false))=true;rw[uA,mO];exact yN N
 have k0:Ro N [xL0,aG,Qe] 0=false:=by
  unfold Ro;show (Kc xL0&&(match D6 [xL0,aG,Qe] 0 xL0.head.pred with|some e=>Cj N [xL0,aG,Qe] (rpl 0 [C3 xL0.head.pred e] [xL0,aG,Qe])|none=>false))=false;rw[uB];rfl
 rcases h with⟨-,h⟩|⟨i,y,e,rfl,h1,h2,h3,h4,h5⟩
 ·rw[h 1 (by simp)]at k1;cases k1
 ·match i,h1,h2,h3,h4,h5 with
  |0,_,_,_,h4,_=>rw[k0]at h4;cases h4
  |1,h1,h2,h3,_,_=>
   cases h1;have e2:D6 [xL0,aG,Qe] 1 [112]=some e:=h3;rw[mO]at e2;cases e2;rfl
  |n+2,_,_,_,_,h5=>rw[h5 1 Agm]at k1;cases k1
theorem I4 {N:List Tx}{l:List RItem}{M:Nat->Nat->Bool}(hN:∀x∈l,x.head.pred∈N/\∀a∈x.body,a.pred∈N)(hM:C8 N l M){p q:Tx}(hp:p∈N)(hq:q∈N):Ea N.length M N.length (N.idxOf p) (N.idxOf q)=true↔Way (Dk l) p q:=by
 have hS:wG N.length M:=fun a b h=>by
  obtain⟨x,hx,e1,y,hy,e2⟩:=(hM a b).1 h;rw[<-e1,<-e2];exact⟨Afd (hN x hx).1,Afd ((hN x hx).2 y hy)⟩
 rw[Zm hS];have one:∀p q:Tx,p∈N->q∈N->(M (N.idxOf p) (N.idxOf q)=true↔Dk l p q):=fun p q hp hq=>by
  rw[hM];constructor
  ·rintro⟨x,hx,e1,y,hy,e2⟩;exact⟨x,hx,Ef (hN x hx).1 hp e1,y,hy,Ef ((hN x hx).2 y hy) hq e2⟩
  ·rintro⟨x,hx,rfl,y,hy,rfl⟩;exact⟨x,hx,rfl,y,hy,rfl⟩
 constructor
 ·intro h;have key:∀i j,Way (fun a b=>M a b=true) i j->∀p q:Tx,p∈N->q∈N->N.idxOf p=i->N.idxOf q=j->Way (Dk l) p q:=fun i j h=>by
   induction h with
   |one e=>
    rintro p q hp hq rfl rfl;exact .one ((one p q hp hq).1 e)
   |more e _ ih=>
    rintro p q hp hq rfl rfl;obtain⟨x,hx,e1,y,hy,rfl⟩:=(hM _ _).1 e;have aa:=(hN x hx).2 y hy;exact .more ((one p y.pred hp aa).1 e) (ih y.pred q aa hq rfl rfl)
  exact key _ _ h p q hp hq rfl rfl
 ·intro h;induction h with
  |one e=>exact .one ((one _ _ hp hq).2 e)
  |more e _ ih=>
   have e0:=e;obtain⟨x,hx,rfl,y,hy,rfl⟩:=e0;exact .more ((one _ _ hp ((hN x hx).2 y hy)).2 e) (ih ((hN x hx).2 y hy) hq)
end Go.Proofs.YtmoeoppbmhfbpabGreatDoorG
