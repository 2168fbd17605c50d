import Derived.Test.YtmoeoppbmhfbpabGreatDoorHOpuB
set_option linter.all false
namespace Go.Proofs.YtmoeoppbmhfbpabGreatDoorH
open Go.Abs
set_option maxRecDepth 100000
theorem sI {d:Nat}(h:d<=9):Ax ((UInt8.ofNat (48+d)).toNat:Int)=true:=by
 have:d=0\/d=1\/d=2\/d=3\/d=4\/d=5\/d=6\/d=7\/d=8\/d=9:=Ad2;rcases this with rfl|rfl|rfl|rfl|rfl|rfl|rfl|rfl|rfl|rfl<;>decide
theorem gA {d:Nat}(h0:1<=d)(h:d<=9):Fz ((UInt8.ofNat (48+d)).toNat:Int)=true:=by
 have:d=1\/d=2\/d=3\/d=4\/d=5\/d=6\/d=7\/d=8\/d=9:=Ad2;rcases this with rfl|rfl|rfl|rfl|rfl|rfl|rfl|rfl|rfl<;>decide
theorem zD {n:Nat}(h:n<=999):zV (Lib.decDigits n):=by
 by_cases h1:n<10
 ·rw[Lib.decDigits_one h1];by_cases h0:n=0
  ·subst h0;exact .inr (.inl rfl)
  ·exact .inr (.inr ⟨_,[],rfl,gA Ad2 Ad2,by simp,by simp⟩)
 ·by_cases h2:n<100
  ·rw[Lib.decDigits_two h1 h2];exact .inr (.inr ⟨_,_,rfl,gA Ad2 Ad2,fun c hc=>by simp only[Ace,Acx,Adz]at hc;subst hc;exact sI Ad2,by simp⟩)
  ·rw[Lib.decDigits,dif_neg h1,Lib.decDigits_two Ad2 Ad2];refine .inr (.inr ⟨UInt8.ofNat (48+n / 10 / 10),[UInt8.ofNat (48+n / 10 % 10),UInt8.ofNat (48+n % 10)],rfl,gA Ad2 Ad2,fun c hc=>?_,by simp⟩);simp only[Ace,Acx,Adz]at hc;rcases hc with rfl|rfl<;>exact sI Ad2
theorem Aad {t:Tx}(h:UT t):zV t:=by
 cases hv:Af t with
 |true=>
  obtain⟨k,hk,rfl⟩:=h.2.2.2 hv;exact .inl ⟨_,rfl,C5 Ad2 Ad2⟩
 |false=>
  rcases h.1 with h1|⟨-,h1,h2,h3⟩
  ·rw[hv]at h1;cases h1
  ·obtain⟨n,hn⟩:=Int.eq_ofNat_of_zero_le h2;rw[hn]at h1 h3;rw[<-h1,Lib.itoa_nonneg];exact zD Ad2
theorem Aaz {N:List Tx}{ar:Tx->Nat}{l:List RItem}(hR:RtL N ar l)(hN:∀x∈l,xX x.head.pred/\∀a∈x.body,xX a.pred):∀x∈l,wV x:=fun x hx=>by
 have hm:=hR.gl.msr x hx;have hw:=hR.wit x hx;refine⟨(hN x hx).1,hw.2.1,fun ho=>?_⟩;obtain⟨w1,w2,w3,w4⟩:=hw.2.2 ho;have key:∀a∈Ag x,xX a.pred->C9 a->tS a:=fun a ha h1 h2=>⟨h1,h2.2.1,h2.2.2.1,fun t ht=>Aad ((hm.at_ a ha).2.2 t ht)⟩;exact⟨key _ (Ay (.inl ⟨ho,rfl⟩)) (hN x hx).1 w1,w2,w3,fun a ha=>key a (Ay (.inr ha)) ((hN x hx).2 a ha) (w4 a ha)⟩
structure Bhd (N:List Tx)(ar:Tx->Nat)(l l':List RItem):Prop where
 rt:RtL N ar l'
 lim:Gr l'=true
 wr:(Ci l').1=0
 out:l'.filter (·.out)=l.filter (·.out)
theorem Bhd.step {N:List Tx}{ar:Tx->Nat}{c:UInt8}{l l1 l2:List RItem}(h:Bhd N ar l l1)(hs:St5 N c l1 (some l2))(hp:Uf (St5 N c) N ar c):Bhd N ar l l2:=by
 obtain⟨h1,h2⟩:=hs.kept h.rt;unfold Cr at h1;simp only[Abj,Ady]at h1;exact⟨hp.rt _ _ hs h.rt,h1.1,h1.2.2,h2.trans h.out⟩
theorem Bhd.chg {N:List Tx}{ar:Tx->Nat}{c:UInt8}{b m m':Int}{l l1 l2:List RItem}(h:Bhd N ar l l1)(hs:GChg (St5 N c) b l1 m l2 m')(hp:Uf (St5 N c) N ar c):Bhd N ar l l2:=by
 induction hs with
 |refl=>exact h
 |snoc _ _ hs ih=>exact ih.step hs hp
theorem Bhd.pss {N:List Tx}{ar:Tx->Nat}{ps:Tx}{b m m':Int}{l l1 l2:List RItem}(h:Bhd N ar l l1)(hs:GPss (St5 N) b l1 m ps l2 m')(hp:∀c∈ps,Uf (St5 N c) N ar c):Bhd N ar l l2:=by
 induction hs with
 |nil=>exact h
 |snoc _ h2 ih=>exact (ih fun c hc=>hp c (by simp[hc])).chg h2.1 (hp _ (by simp))
def Nl (l:List RItem)(p:Tx):Prop:=∃x∈l,x.head.pred=p\/∃a∈x.body,a.pred=p
def Lo (l:List RItem)(p:Tx):Prop:=∃x∈l,x.out=false/\x.head.pred=p
theorem qK {N:List Tx}{q:Tx}(h:q∈N)(b:Bool){a:C3}(ha:a.p=((N.idxOf q:Nat):Int)):(Lr N b a).pred=q:=by
 show (N[a.p.toNat]?).getD []=q;rw[ha,Adk,List.getElem?_eq_getElem (Ac1 h),Ac0];rfl
theorem pG {N:List Tx}{ar:Tx->Nat}{l:List RItem}(hR:RtL N ar l){x:RItem}(hx:x∈l)(ac:x.out=false){k:Nat}{q:Tx}{z:RItem}(hz:z∈uL N l x k q):z.head.pred=x.head.pred/\∀a∈z.body,∃y∈l,∃b∈y.body,b.pred=a.pred:=by
 obtain⟨r,hr,rfl⟩:=Acm.1 hz;obtain⟨y,hy,e⟩:=List.mem_filterMap.1 hr;obtain⟨ab,aa⟩:=Adi.1 hy;simp only[O3,Abj,Adl,Adx]at aa;unfold eU at e;obtain⟨a,ha,e⟩:=Option.bind_eq_some_iff.1 e;obtain⟨P,hP,rfl⟩:=Option.map_eq_some_iff.1 e;refine⟨qK (hR.gl.msr x hx).mem false rfl,fun b hb=>?_⟩;obtain⟨m,hm,rfl⟩:=Acm.1 hb;obtain⟨m1,ah,rfl⟩:=Acm.1 hm;obtain⟨m2,af,rfl⟩:=Acm.1 ah;have key:∀w∈l,w.out=false->∀d∈w.body,∀(m:Lit),m.a.p=((N.idxOf d.pred:Nat):Int)->∃y∈l,∃b∈y.body,b.pred=(Lr N m.neg (fP (Ev (F2 P ⟨(Bz N x).head,Ct k (F2 aprt (Bz N y)).body (Bz N x).body⟩)) (Un P m.a))).pred:=fun w hw ho d hd m ad=>⟨w,hw,d,hd,(qK ((hR.ru w hw ho).body d hd).mem m.neg ad).symm⟩;rcases E4 af with h|h
 ·obtain⟨d,hd,rfl⟩:=Acm.1 h;exact key x hx ac d hd _ rfl
 ·obtain⟨m3,ae,rfl⟩:=Acm.1 h;obtain⟨d,hd,rfl⟩:=Acm.1 ae;exact key y ab aa.1 d hd _ rfl
theorem pZ {l:List RItem}{i:Nat}{p e:Tx}(h:E9 l i p=some e):∃y∈l,∃b∈y.body,b.pred=e:=by
 unfold E9 at h;split at h
 case h_2=>cases h
 rename_i y ho;split at h
 case isFalse=>cases h
 split at h
 case h_2=>cases h
 rename_i a hb;cases h;have aa:y∈Lp l i p:=by rw[ho];simp
 obtain⟨⟨z,j⟩,hz,rfl⟩:=Acm.1 aa;exact⟨z,List.fst_mem_of_mem_zipIdx (Adi.1 hz).1,a,by rw[show z.body=[a]from hb];simp,rfl⟩
theorem St5.names {N:List Tx}{ar:Tx->Nat}{c:UInt8}{l l':List RItem}(hR:RtL N ar l)(h:St5 N c l (some l')):(∀p,Nl l' p->Nl l p)/\∀p,Lo l' p->Lo l p:=by
 have fin:(∀z∈l',z∈l\/(z.out=false/\∃x∈l,x.out=false/\z.head.pred=x.head.pred/\∀a∈z.body,∃y∈l,∃b∈y.body,b.pred=a.pred))->(∀p,Nl l' p->Nl l p)/\∀p,Lo l' p->Lo l p:=fun h=>by
  refine⟨fun p ⟨z,hz,hp⟩=>?_,fun p ⟨z,hz,ho,hp⟩=>?_⟩
  ·rcases h z hz with hz|⟨-,x,hx,-,e,hb⟩
   ·exact⟨z,hz,hp⟩
   ·rcases hp with hp|⟨a,ha,hp⟩
    ·exact⟨x,hx,.inl (e.symm.trans hp)⟩
    ·obtain⟨y,hy,b,hb,e2⟩:=hb a ha;exact⟨y,hy,.inr ⟨b,hb,e2.trans hp⟩⟩
  ·rcases h z hz with hz|⟨-,x,hx,aa,e,-⟩
   ·exact⟨z,hz,ho,hp⟩
   ·exact⟨x,hx,aa,e.symm.trans hp⟩
 refine fin ?_;rcases h with⟨-,M,-,h⟩|⟨-,h⟩|⟨-,h⟩|⟨-,M,-,h⟩|⟨-,h⟩
 ·rcases h with⟨-,h⟩|⟨-,⟨-,h⟩|⟨-,h⟩⟩
  ·cases h
  ·cases h
  ·cases h;exact fun z hz=>.inl (Adi.1 hz).1
 ·rcases h with⟨h,-⟩|⟨i,k,y,h,h1,h2,-⟩
  ·cases h
  ·cases h;intro z hz;rcases E4 hz with hz|hz
   ·exact .inl hz
   ·simp at hz;subst hz;have hy:=Abh h1;exact .inr ⟨rfl,y,hy,h2,rfl,fun a ha=>⟨y,hy,a,Ada ha,rfl⟩⟩
 ·rcases h with⟨h,-⟩|⟨i,y,h,-⟩
  ·cases h
  ·cases h;intro z hz;rcases E4 hz with hz|hz
   ·exact .inl hz
   ·cases hz
 ·rcases h with⟨h,-⟩|⟨i,k,y,a,h,h1,h2,h3,-⟩
  ·cases h
  ·cases h;intro z hz;rcases E4 hz with hz|hz
   ·exact .inl hz
   ·have hy:=Abh h1;obtain⟨e1,e2⟩:=pG hR hy h2 hz;exact .inr ⟨pF z hz,y,hy,h2,e1,e2⟩
 ·rcases h with⟨h,-⟩|⟨i,y,e,h,h1,h2,h3,-⟩
  ·cases h
  ·cases h;intro z hz;rcases E4 hz with hz|hz
   ·exact .inl hz
   ·simp at hz;subst hz;have hy:=Abh h1;have hr:=Ua (hR.wit y hy) (hR.wi y hy) h2;have hp:∃b∈y.body,b.pred=y.head.pred:=by
     have hb:(y.body.map (Ch (Ba y))).map (·.pred)=[y.head.pred,y.head.pred]:=by
      have:=congrArg (fun z:RItem=>z.body.map (·.pred)) hr;simpa[ren,C7]using this
     have hm:y.head.pred∈(y.body.map (Ch (Ba y))).map (·.pred):=by rw[hb];simp
     obtain⟨b',ac,e2⟩:=Acm.1 hm;obtain⟨b,ab,rfl⟩:=Acm.1 ac;exact⟨b,ab,e2⟩
    refine .inr ⟨rfl,y,hy,(F4 hR h1 h2).1,rfl,fun a ha=>?_⟩;simp only[C7,Ace,Acx,Adz]at ha;rcases ha with rfl|rfl
    ·exact pZ h3
    ·exact⟨y,hy,hp⟩
structure Nms (l l':List RItem):Prop where
 nmd:∀p,Nl l' p->Nl l p
 rld:∀p,Lo l' p->Lo l p
 lck:∀p,Nl l' p->Lo l p->Lo l' p
theorem jY {N:List Tx}{l:List RItem}(hN:∀x∈l,x.head.pred∈N){p:Tx}(hp:p∈N):Cd N l (N.idxOf p)=true↔Lo l p:=by
 unfold Cd Lo;simp only[Acb,Abj,Adl,Adx];constructor
 ·rintro⟨x,hx,h1,h2⟩;refine⟨x,hx,h1,?_⟩;have e:=rX (hN x hx) hp;rw[h2]at e;simpa using e.symm
 ·rintro⟨x,hx,h1,rfl⟩;exact⟨x,hx,h1,rfl⟩
theorem vM {N:List Tx}{ar:Tx->Nat}{l:List RItem}(hR:RtL N ar l){p:Tx}(h:Nl l p):p∈N:=by
 obtain⟨x,hx,h⟩:=h;rcases h with rfl|⟨a,ha,rfl⟩
 ·exact (hR.gl.msr x hx).mem
 ·cases ho:x.out with
  |true=>rw[(hR.gl.msr x hx).out ho]at ha;cases ha
  |false=>exact ((hR.ru x hx ho).body a ha).mem
theorem vW {N:List Tx}{ar:Tx->Nat}{l l':List RItem}(hR:RtL N ar l)(aa:RtL N ar l')(h:Hm N l' l=false){p:Tx}(h1:Nl l' p)(h2:Lo l p):Lo l' p:=by
 have hp:=vM aa h1;have hk:=Ac1 hp;unfold Hm at h;have:=Acy.1 h (N.idxOf p) (by simpa using hk);have e1:Cd N l (N.idxOf p)=true:=(jY (fun x hx=>(hR.gl.msr x hx).mem) hp).2 h2;have e2:E6 N l' (N.idxOf p)=true:=by
  obtain⟨x,hx,h1⟩:=h1;unfold E6;refine Acb.2 ⟨x,hx,?_⟩;rcases h1 with rfl|⟨a,ha,rfl⟩
  ·simp
  ·simp only[Bool.or_eq_true,Acb,Adx];exact .inr ⟨a,ha,rfl⟩
 rw[e1,e2]at this;refine (jY (fun x hx=>(aa.gl.msr x hx).mem) hp).1 ?_;simpa using this
theorem Nms.refl (l:List RItem):Nms l l:=⟨fun _ h=>h,fun _ h=>h,fun _ _ h=>h⟩
theorem Nms.step {N:List Tx}{ar:Tx->Nat}{c:UInt8}{l l1 l2:List RItem}(h:Nms l l1)(h1:RtL N ar l1)(hs:St5 N c l1 (some l2))(hp:Uf (St5 N c) N ar c):Nms l l2:=by
 obtain⟨g1,g2⟩:=hs.names h1;have hb:=(hs.kept h1).1;unfold Cr at hb;simp only[Abj,Adl]at hb;refine⟨fun p hp=>h.nmd p (g1 p hp),fun p hp=>h.rld p (g2 p hp),fun p hn hr=>?_⟩;exact vW h1 (hp.rt _ _ hs h1) hb.2.1 hn (h.lck p (g1 p hn) hr)
theorem Nms.pss {N:List Tx}{ar:Tx->Nat}{ps:Tx}{b m m':Int}{l l1 l2:List RItem}(h:Nms l l1)(hB:Bhd N ar l l1)(hs:GPss (St5 N) b l1 m ps l2 m')(hp:∀c∈ps,Uf (St5 N c) N ar c):Nms l l2:=by
 induction hs with
 |nil=>exact h
 |snoc h1 h2 ih=>
  rename_i ps c la lb m1 m2;have aa:=hp c (by simp);have ih:=ih fun c hc=>hp c (by simp[hc]);have ab:=hB.pss h1 fun c hc=>hp c (by simp[hc]);have key:∀l3 m3,GChg (St5 N c) b la m1 l3 m3->Nms l l3/\Bhd N ar l l3:=fun l3 m3 h=>by
   induction h with
   |refl=>exact⟨ih,ab⟩
   |snoc _ _ hs ih2=>exact⟨ih2.1.step ih2.2.rt hs aa,ih2.2.step hs aa⟩
  exact (key _ _ h2.1).1
def Jp (l:List RItem):Nat:=(l.map fun x=>(Ag x).length).sum
theorem I6 (x:RItem)(l:List RItem):Jp (x::l)=(Ag x).length+Jp l:=by simp[Jp]
theorem wP (l m:List RItem):Jp (l++m)=Jp l+Jp m:=by simp[Jp]
theorem iP {o:List RItem}(i:Nat):∀(l:List RItem) (k:Nat) (y:RItem),k<=i->l[i-k]?=some y->Jp ((l.zipIdx k).flatMap fun p=>if p.2=i then o else [p.1])+(Ag y).length=Jp l+Jp o
 |[],_,_,_,h=>by simp at h
 |x::l,k,y,hk,h=>by
  rw[Abo,Acv,wP,I6];by_cases e:k=i
  ·subst e;have hx:x=y:=by simpa using h
   subst hx;have key:∀(l:List RItem) (j:Nat),k<j->((l.zipIdx j).flatMap fun p=>if p.2=k then o else [p.1])=l:=by
    intro l;induction l with
    |nil=>intro j _;rfl
    |cons z l ih=>intro j hj;rw[Abo,Acv,ih (j+1) Ad2,if_neg Ad2];rfl
   rw[key l (k+1) Ad2,if_pos rfl];omega
  ·have:=iP (o:=o) i l (k+1) y Ad2 (by rw[show i-k=(i-(k+1))+1 by omega]at h;simpa using h);rw[if_neg e,I6];have e0:Jp []=0:=rfl;dsimp only;omega
theorem Xz {o l:List RItem}{i:Nat}{y:RItem}(hy:l[i]?=some y):Jp (Ct i o l)+(Ag y).length=Jp l+Jp o:=iP i l 0 y (Nat.zero_le _) (by simpa using hy)
theorem K2 {x:RItem}(h:x.out=false):(Ag x).length=1+x.body.length:=by simp[Ag,h];omega
theorem T4 (f:RItem->Bool):∀l:List RItem,(∀x∈l,f x=false->x.out=false)->Jp (l.filter f)+(l.length-(l.filter f).length)<=Jp l
 |[],_=>by simp[Jp]
 |x::l,h=>by
  have ih:=T4 f l fun y hy=>h y (by simp[hy]);have hl:=Adj f l;rw[Adu,I6];split
  ·rw[I6];simp only[Aca];omega
  ·rename_i hf;have:=K2 (h x (by simp) (by simpa using hf));simp only[Aca];omega
theorem St5.atoms {N:List Tx}{ar:Tx->Nat}{c:UInt8}{l l':List RItem}(hR:RtL N ar l)(h:St5 N c l (some l')):(c≠117->Jp l'<=Jp l)/\(c≠117->c≠108->Jp l'+1<=Jp l):=by
 rcases h with⟨rfl,M,-,h⟩|⟨rfl,h⟩|⟨rfl,h⟩|⟨rfl,h⟩|⟨rfl,h⟩
 ·rcases h with⟨-,h⟩|⟨hne,⟨-,h⟩|⟨hb,h⟩⟩
  ·cases h
  ·cases h
  ·cases h;have h1:=T4 (fun x=>E8 N (Fb N.length M N.length) l (N.idxOf x.head.pred)) l fun x hx hf=>by
    cases ho:x.out with
    |false=>rfl
    |true=>
     have:E8 N (Fb N.length M N.length) l (N.idxOf x.head.pred)=true:=by
      unfold E8;exact Acb.2 ⟨x,hx,by simp[ho]⟩
     rw[this]at hf;cases hf
   have h2:=Adj (fun x=>E8 N (Fb N.length M N.length) l (N.idxOf x.head.pred)) l;unfold Gi at hne⊢;constructor<;>intros<;>omega
 ·rcases h with⟨h,-⟩|⟨i,k,y,h,h1,h2,h3,-⟩
  ·cases h
  ·cases h;have e:=Xz (o:=[Gx y k]) h1;have e1:=K2 h2;have e2:Jp [Gx y k]=1+(y.body.eraseIdx k).length:=by
    rw[I6,K2 (x:=Gx y k) rfl];simp[Jp,Gx]
   have e3:=List.length_eraseIdx_of_lt h3;constructor<;>intros<;>omega
 ·rcases h with⟨h,-⟩|⟨i,y,h,h1,h2,-⟩
  ·cases h
  ·cases h;have e:=Xz (o:=[]) h1;have e1:=K2 h2;have e2:Jp []=0:=rfl;constructor<;>intros<;>omega
 ·exact⟨fun h=>absurd rfl h,fun h=>absurd rfl h⟩
 ·rcases h with⟨h,-⟩|⟨i,y,e,h,h1,h2,-⟩
  ·cases h
  ·cases h;obtain⟨ho,hb,-⟩:=F4 hR h1 h2;have e:=Xz (o:=[C7 y.head.pred e]) h1;have e1:=K2 ho;refine⟨fun _=>?_,fun _ h=>absurd rfl h⟩;have e3:∀q,Jp [C7 y.head.pred q]=3:=fun _=>rfl;rw[e3]at e;omega
theorem GChg.num {T:List RItem->Option (List RItem)->Prop}{b m m':Int}{l l':List RItem}(h:GChg T b l m l' m'):m<=m'/\(m<=b->m'<=b)/\(m'=m->l'=l):=by
 induction h with
 |refl=>exact⟨Ad2,fun h=>h,fun _=>rfl⟩
 |snoc _ hb _ ih=>exact⟨Ad2,fun _=>Ad2,fun e=>Ad2⟩
theorem GPss.num {T:UInt8->List RItem->Option (List RItem)->Prop}{ps:Tx}{b m m':Int}{l l':List RItem}(h:GPss T b l m ps l' m'):m<=m'/\(m<=b->m'<=b)/\(m'=m->l'=l):=by
 induction h with
 |nil=>exact⟨Ad2,fun h=>h,fun _=>rfl⟩
 |snoc h1 h2 ih=>
  have g:=h2.1.num;exact⟨Ad2,fun hb=>g.2.1 (ih.2.1 hb),fun e=>by rw[g.2.2 Ad2,ih.2.2 Ad2]⟩
theorem nX {N:List Tx}{ar:Tx->Nat}{c:UInt8}{b m m':Int}{l l1 l2:List RItem}(hB:Bhd N ar l l1)(hs:GChg (St5 N c) b l1 m l2 m')(hp:Uf (St5 N c) N ar c):Bhd N ar l l2/\(c≠117->Jp l2<=Jp l1)/\(c≠117->c≠108->(Jp l2:Int)+(m'-m)<=Jp l1):=by
 induction hs with
 |refl=>exact⟨hB,fun _=>Abb _,fun _ _=>Ad2⟩
 |snoc h1 hb hs ih=>
  obtain⟨ihB,ih1,ih2⟩:=ih;obtain⟨g1,g2⟩:=hs.atoms ihB.rt;refine⟨ihB.step hs hp,fun hu=>Abc (g1 hu) (ih1 hu),fun hu hl=>?_⟩;have a1:=g2 hu hl;have a2:=ih2 hu hl;omega
theorem mJ {N:List Tx}{ar:Tx->Nat}{ps:Tx}{b m m':Int}{l l1 l2:List RItem}(hB:Bhd N ar l l1)(hs:GPss (St5 N) b l1 m ps l2 m')(hp:∀c∈ps,Uf (St5 N c) N ar c):(117∉ps->Jp l2<=Jp l1)/\(117∉ps->108∉ps->(Jp l2:Int)+(m'-m)<=Jp l1):=by
 induction hs with
 |nil=>exact⟨fun _=>Abb _,fun _ _=>Ad2⟩
 |snoc h1 h2 ih=>
  rename_i ps c la lb m1 m2;obtain⟨ih1,ih2⟩:=ih fun c hc=>hp c (by simp[hc]);obtain⟨-,g1,g2⟩:=nX (hB.pss h1 fun c hc=>hp c (by simp[hc])) h2.1 (hp c (by simp));have hu:117∉ps++[c]->117∉ps/\c≠117:=fun h=>⟨fun g=>h (by simp[g]),fun g=>h (by simp[g])⟩;have hl:108∉ps++[c]->108∉ps/\c≠108:=fun h=>⟨fun g=>h (by simp[g]),fun g=>h (by simp[g])⟩;refine⟨fun h=>Abc (g1 (hu h).2) (ih1 (hu h).1),fun h h'=>?_⟩;have a1:=g2 (hu h).2 (hl h').2;have a2:=ih2 (hu h).1 (hl h').1;omega
theorem xO {p:Tx}(h:Gm p):p.count 40=0:=List.count_eq_zero.2 fun hm=>by
 have:=h.2 40 hm;simp[A5]at this
theorem xI {t:Tx}(h:Ia t):t.count 40=0:=List.count_eq_zero.2 fun hm=>by
 rcases h.2 40 hm with h|h
 ·simp[A3]at h
 ·simp[Ax]at h
theorem kP:∀{ts:List Tx},(∀t∈ts,Ia t)->(A8 ts).count 40=0
 |[],_=>rfl
 |t::ts,h=>by
  have h1:=xI (h t (by simp));have h2:=kP (ts:=ts) fun u hu=>h u (by simp[hu]);unfold A8 at h2⊢;rw[Acv,Adm,Adw,h1,h2];rfl
theorem vR {ts:List Tx}(h:∀t∈ts,Ia t):(A2 ts).count 40=0:=by
 cases ts with
 |nil=>rfl
 |cons t ts=>rw[A2,Adm,xI (h t (by simp)),kP fun u hu=>h u (by simp[hu])]
theorem at_one {a:RAtom}(h:C9 a):(A9 a).count 40=1:=by
 unfold A9;rw[Adm,Adw,Adm,xO h.1,vR h.2.2.2];rfl
theorem vQ {a:RAtom}(h:C9 a):(Bg a).count 40=1:=by
 unfold Bg;rw[Adm,at_one h];split<;>rfl
theorem rN:∀{ls:List RAtom},(∀a∈ls,C9 a)->(A8 (ls.map Bg)).count 40=ls.length
 |[],_=>rfl
 |a::ls,h=>by
  have h1:=vQ (h a (by simp));have h2:=rN (ls:=ls) fun u hu=>h u (by simp[hu]);unfold A8 at h2⊢;rw[Abx,Acv,Adm,Adw,h1,h2];simp;omega
theorem yZ {x:RItem}(h:Bv x):(A0 x++[46]).count 40=(Ag x).length:=by
 rw[Adm,show ([46]:Tx).count 40=0 from rfl,Abi];cases ho:x.out with
 |true=>
  have:=(h.2.1 ho).2.2;rw[A0,if_pos ho,Adw,xO h.1];simp[Ag,ho,this]
 |false=>
  obtain⟨w1,w2,w3,w4⟩:=h.2.2 ho;rw[A0,if_neg (by simp[ho]),Cw,Adm,at_one w1,K2 ho];cases hb:x.body with
  |nil=>rfl
  |cons a ls=>
   rw[hb]at w4;have e:A8 ((a::ls).map Bg)=44::A2 ((a::ls).map Bg):=by simp[A8,A2]
   have h1:=rN w4;rw[e,Adw]at h1;rw[if_neg (by simp),Adw,Adw];have h2:(A2 ((a::ls).map Bg)).count 40=(a::ls).length:=by simpa using h1
   rw[h2];simp
theorem Yd:∀{l:List RItem},(∀x∈l,Bv x)->(Bl l).count 40=Jp l
 |[],_=>rfl
 |x::l,h=>by
  have h1:=yZ (h x (by simp));have h2:=Yd (l:=l) fun y hy=>h y (by simp[hy]);unfold Bl at h2⊢;rw[Acv,Adm,h1,h2,I6]
def Lv:RItem:=⟨false,⟨false,[113],[[65]]⟩,[⟨false,[112],[[65],[66]]⟩,⟨false,[103],[[66]]⟩]⟩
def Il:RItem:=⟨false,⟨false,[112],[[65],[49]]⟩,[⟨false,[104],[[65]]⟩]⟩
def Ik:RItem:=⟨false,⟨false,[112],[[65],[66]]⟩,[⟨false,[107],[[66],[65]]⟩]⟩
def Fi:RItem:=⟨true,⟨false,[113],[]⟩,[]⟩
def H4:RItem:=⟨false,⟨false,[113],[[65]]⟩,[⟨false,[104],[[65]]⟩,⟨false,[103],[[49]]⟩]⟩
def H3:RItem:=⟨false,⟨false,[113],[[65]]⟩,[⟨false,[107],[[66],[65]]⟩,⟨false,[103],[[66]]⟩]⟩
theorem Aah (N:List Tx):Jy N [Lv,Il,Ik,Fi] Lv 0 [112]=[Bz N H4,Bz N H3]:=by rfl
theorem Aaf:UT [65]:=Q8 (k:=0) (by decide) 65 rfl
theorem Aae:UT [66]:=Q8 (k:=1) (by decide) 66 rfl
theorem Aag:UT [49]:=⟨.inr ⟨rfl,(by show Lib.itoa 1=[49];simp[Lib.itoa,Lib.decDigits]),by decide,by decide⟩,⟨by simp,by decide⟩,by simp,fun h=>by cases h⟩
theorem Aal {N:List Tx}(hN:∀q:Tx,q=[113]\/q=[112]\/q=[103]\/q=[104]\/q=[107]->q∈N):uL N [Lv,Il,Ik,Fi] Lv 0 [112]=[H4,H3]:=by
 unfold uL;rw[Aah];have h1:C2 N (Bz N H4)=H4:=Ye rfl rfl fun a ha=>by
  simp only[Ag,H4,Ab7,if_false,List.singleton_append,Ace,Acx,Adz]at ha;rcases ha with rfl|rfl|rfl<;>exact⟨hN _ (by simp),by simp[Aaf,Aae,Aag]⟩
 have h2:C2 N (Bz N H3)=H3:=Ye rfl rfl fun a ha=>by
  simp only[Ag,H3,Ab7,if_false,List.singleton_append,Ace,Acx,Adz]at ha;rcases ha with rfl|rfl|rfl<;>exact⟨hN _ (by simp),by simp[Aaf,Aae,Aag]⟩
 rw[Abx,Abx,Aby,h1,h2]
theorem Qr {N:List Tx}{l l':List RItem}(h:∀k,Cd N l k=true->Cd N l' k=true):Hm N l' l=false:=by
 unfold Hm;rw[Acy];intro k _ hc;simp only[Abj,Adl]at hc;rw[h k hc.1.1]at hc;exact absurd hc.1.2 (by simp)
def xL0:RItem:=aN [112] [101]
def Y1:RItem:=C7 [112] [112]
def Pk:RItem:=⟨true,⟨false,[112],[]⟩,[]⟩
def oM:RItem:=C7 [112] [101]
theorem vS (N:List Tx):Cr N [xL0,Y1,Pk] [xL0,oM,Pk]=true:=by
 have h1:Gr [xL0,oM,Pk]=true:=Ad5;have h2:(Ci [xL0,oM,Pk]).1=0:=Ad5;have h3:Hm N [xL0,oM,Pk] [xL0,Y1,Pk]=false:=Qr fun k h=>by simpa[Cd,xL0,Y1,Pk,oM,aN,C7]using h
 unfold Cr;rw[h1,h2,h3];rfl
theorem rS:Lu xL0=false:=Ad5
theorem rR:Lu Y1=true:=Ad5
theorem kQ:E9 [xL0,Y1,Pk] 1 [112]=some [101]:=Ad5
theorem rO {N:List Tx}{o:Option (List RItem)}(h:StL N [xL0,Y1,Pk] o):o=some [xL0,oM,Pk]:=by
 have k1:Up N [xL0,Y1,Pk] 1=true:=by
  show (Lu Y1&&(match E9 [xL0,Y1,Pk] 1 [112]with|some e=>Cr N [xL0,Y1,Pk] (Ct 1 [C7 [112] e] [xL0,Y1,Pk])|none=>false))=true;rw[rR,kQ];exact vS N
 have k0:Up N [xL0,Y1,Pk] 0=false:=by
  unfold Up;show (Lu xL0&&(match E9 [xL0,Y1,Pk] 0 xL0.head.pred with|some e=>Cr N [xL0,Y1,Pk] (Ct 0 [C7 xL0.head.pred e] [xL0,Y1,Pk])|none=>false))=false;rw[rS];rfl
 rcases h with⟨-,h⟩|⟨i,y,e,rfl,h1,h2,h3,h4,h5⟩
 ·rw[h 1 (by simp)]at k1;cases k1
 ·match i,h1,h2,h3,h4,h5 with
  |0,_,_,_,h4,_=>rw[k0]at h4;cases h4
  |1,h1,h2,h3,_,_=>
   cases h1;have e2:E9 [xL0,Y1,Pk] 1 [112]=some e:=h3;rw[kQ]at e2;cases e2;rfl
  |n+2,_,_,_,_,h5=>rw[h5 1 Ad2]at k1;cases k1
theorem Y8 {N:List Tx}{l:List RItem}{M:Nat->Nat->Bool}(hN:∀x∈l,x.head.pred∈N/\∀a∈x.body,a.pred∈N)(hM:Dl N l M){p q:Tx}(hp:p∈N)(hq:q∈N):Fb N.length M N.length (N.idxOf p) (N.idxOf q)=true↔Way (Eu l) p q:=by
 have hS:tM N.length M:=fun a b h=>by
  obtain⟨x,hx,e1,y,hy,e2⟩:=(hM a b).1 h;rw[<-e1,<-e2];exact⟨Ac1 (hN x hx).1,Ac1 ((hN x hx).2 y hy)⟩
 rw[Yk hS];have one:∀p q:Tx,p∈N->q∈N->(M (N.idxOf p) (N.idxOf q)=true↔Eu l p q):=fun p q hp hq=>by
  rw[hM];constructor
  ·rintro⟨x,hx,e1,y,hy,e2⟩;exact⟨x,hx,G3 (hN x hx).1 hp e1,y,hy,G3 ((hN x hx).2 y hy) hq e2⟩
  ·rintro⟨x,hx,rfl,y,hy,rfl⟩;exact⟨x,hx,rfl,y,hy,rfl⟩
 constructor
 ·intro h;have key:∀i j,Way (fun a b=>M a b=true) i j->∀p q:Tx,p∈N->q∈N->N.idxOf p=i->N.idxOf q=j->Way (Eu l) p q:=fun i j h=>by
   induction h with
   |one e=>
    rintro p q hp hq rfl rfl;exact .one ((one p q hp hq).1 e)
   |more e _ ih=>
    rintro p q hp hq rfl rfl;obtain⟨x,hx,e1,y,hy,rfl⟩:=(hM _ _).1 e;have aa:=(hN x hx).2 y hy;exact .more ((one p y.pred hp aa).1 e) (ih y.pred q aa hq rfl rfl)
  exact key _ _ h p q hp hq rfl rfl
 ·intro h;induction h with
  |one e=>exact .one ((one _ _ hp hq).2 e)
  |more e _ ih=>
   have e0:=e;obtain⟨x,hx,rfl,y,hy,rfl⟩:=e0;exact .more ((one _ _ hp ((hN x hx).2 y hy)).2 e) (ih ((hN x hx).2 y hy) hq)
end Go.Proofs.YtmoeoppbmhfbpabGreatDoorH
