import Derived.Test.YtmoeoppbmhfbpabGreatDoorHShelf
import Derived.Test.YtmoeoppbmhfbpabGreatDoorHAbsWp
set_option linter.all false
namespace Go.Proofs.YtmoeoppbmhfbpabGreatDoorH
set_option maxHeartbeats 16000000
open Go.Abs
set_option maxRecDepth 100000
def RL (N l:List Tx)(a:RAtom)(c:List AV):Prop:=∃ids,c=[sc (.bool a.nt),sc (.int .i64 (N.idxOf a.pred:Nat)),sl ids a.terms.length (Db l a.terms)]
theorem tN {N l:List Tx}(a:RAtom)(c:List AV)(h:RL N l a c):c.length=3:=by obtain⟨ids,rfl⟩:=h;rfl
theorem Aa4 {N l:List Tx}{ls:List RAtom}{cs:List AV}{i:Nat}{a:RAtom}(h:EL (RL N l) ls cs)(hi:ls[i]?=some a):∃ia r,cs.drop (i*3)=sc (.bool a.nt)::sc (.int .i64 (N.idxOf a.pred:Nat))::sl ia a.terms.length (Db l a.terms)::r:=by
 obtain⟨c,r,⟨ia,rfl⟩,e⟩:=EL.get tN h hi;exact⟨ia,r,e⟩
def RI (N l:List Tx)(x:RItem)(c:List AV):Prop:=∃ih id b,EL (RL N l) x.body b/\c=[sc (.bool x.out),sc (.int .i64 (N.idxOf x.head.pred:Nat)),sl ih x.head.terms.length (Db l x.head.terms),sl id x.body.length b]
theorem Yi (N:List Tx)(x:RItem)(c:List AV)(hc:PI N x c)(ho:x.out=true->x.body=[])(hx:x.fits)(hV:∀a∈Ag x,VA a)(bf:VA x.head)(bg:∀a∈x.body,VA a)(j:St):
  ACalls Tryz.prog 93 [ag c] j fun r j'=>∃c',r=ag c'/\RI N (Ba x) x c'/\VL (Ba x)/\Keep j j':=by
 have a7:=fun j=>P7 N x c hc ho hx hV j;have a3:=rH hx;have bn:=hx.1;have bd:=hx.2.2;obtain⟨hm,ih,id,b,hb,rfl⟩:=hc;have bp:=EL.length Dm hb;have av:=fun lo ido (hl:lo.length<=10000000) hL j=>Nj lo ido (N.idxOf x.head.pred:Nat) ih x.head hl hL bf hx.2.1 j;have bi:=fun lo ido (a:RAtom) ia ha (hl:lo.length<=10000000) hL hv j=>Nj lo ido (N.idxOf a.pred:Nat) ia a hl hL hv (bd a ha) j;generalize Ba x=lo at a7 a3;have av:=fun ido hL j=>av lo ido a3 hL j;refine Z9 39 [.cell 2 125] Tryz.func93 ?_
 repeat' (first|refine Z1 ?_|(refine Z8 ?_;intro κ hκ)|(refine Z4 ?_;clear hκ κ)|(refine Z2 ?_ ?_<;>intro h ai<;>try exact Xp)|(refine Z6 ?_;intro idn jn ak am af aa ae ab)|(refine Z5 ?_;refine Xi (a7 _) ?_;rintro _ _ ⟨ido,rfl,bh,a4⟩;(have aj:=a4.obj;have ao:=a4.nobj;simp only[Aa]at ao))|refine Z3 ?_|exact⟨⟩|(apply hκ.out;clear hκ κ))
 rename_i j1;have ar:j1.obj j.nobj=[sc (.bool x.out),sc (.int .i64 (N.idxOf x.head.pred:Nat)),sl ih x.head.terms.length (Aw x.head.terms),sl id x.body.length b]:=by
  rw[aj _ Ad6,Ae Ad6,Am]
 have ap:j1.obj (j.nobj+1)=[sc (.bool false),sc (.int .i64 0),nilS,nilS]:=by
  rw[aj _ Ad6,Bp (by rw[Aa];omega) (by rw[Aa];omega)]
 have ax:Keep j j1:=Xs;clear aj a4;have a9:Ad8 (VL lo):=bh;refine Br (Q:=fun e s j'=>e= .normal/\∃o i2:Nat,s 1=ptr j.nobj 0/\s 2=ptr (j.nobj+1) 0/\s 3=sl ido lo.length (lo.map encI)/\s 4=ptr o 0/\j.nobj+1<o/\o<j'.nobj/\j'.obj j.nobj=[sc (.bool x.out),sc (.int .i64 (N.idxOf x.head.pred:Nat)),sl ih x.head.terms.length (Aw x.head.terms),sl id x.body.length b]/\j'.obj (j.nobj+1)=[sc (.bool false),sc (.int .i64 0),nilS,nilS]/\j'.obj o=[sc (.bool x.out),sc (.int .i64 (N.idxOf x.head.pred:Nat)),sl i2 x.head.terms.length (Db lo x.head.terms),nilS]/\Keep j j') ?_ ?_
 ·refine A4 Ak (fun _=>True) [8] [0,1,2,3,4] 4 #[true,true,true,true,true,false,false,false,false] Ad5 (fun _ _ _ h=>by cases h.1) ?_;intro κ hκ;refine Z3 ?_;refine hκ.out _ ?_;clear hκ κ;have a8:=fun j=>av ido a9.out j;refine Dy (rs:=[5,7]) Ad5 (by simp) ?_;intro i hi;simp only[Ace,Acx,Adz]at hi;rcases hi with rfl|rfl
  ·refine Aq ?_;intro κ hκ;refine Z3 ?_;refine ACalls.mono (a8 _) ?_;rintro _ j2 ⟨i2,rfl,ad⟩;have ac:=ad.obj;have an:=ad.nobj;refine Z3 ?_;refine hκ.out _ _ ⟨Ao ad,?_⟩;clear hκ κ;refine Dy (rs:=[6,7]) Ad5 (by simp) ?_;intro i hi;simp only[Ace,Acx,Adz]at hi;rcases hi with rfl|rfl
   ·refine Aq ?_;intro κ hκ;refine Z3 ?_;refine hκ.out _ _ ⟨Ao ad,?_⟩;clear hκ κ;refine Al (i:=7) Ad5 ?_;refine Aq ?_;intro κ hκ;refine Z3 ?_;refine hκ.out _ _ ⟨Ao (ad.new _),?_⟩;clear hκ κ;refine Al (i:=8) Ad5 ?_;refine Aq ?_;intro κ hκ;refine Z3 ?_;refine hκ.out _ _ ⟨Bo rfl,?_⟩;clear hκ κ;refine A7 Ad5 ⟨rfl,j2.nobj,i2,Ad4,Ad4,Ad4,Ad4,Ad2,Ad7,?_,?_,Aj,?_⟩
    ·rw[Ai Ad2,Ae Ad2,ac _ Ad2,ar]
    ·rw[Ai Ad2,Ae Ad2,ac _ Ad2,ap]
    ·exact ((ax.trans ad).new _).put Ad2 _
   ·refine Aq ?_;intro κ hκ;refine Z3 ?_;refine hκ.out _ _ ⟨Ao (ad.new _),?_⟩;clear hκ κ;refine Al (i:=6) Ad5 ?_;refine Aq ?_;intro κ hκ;refine Z3 ?_;refine hκ.out _ _ ⟨Ao (ad.new _),?_⟩;clear hκ κ;refine Al (i:=8) Ad5 ?_;refine Aq ?_;intro κ hκ;refine Z3 ?_;refine hκ.out _ _ ⟨Bo rfl,?_⟩;clear hκ κ;refine A7 Ad5 ⟨rfl,j2.nobj,i2,Ad4,Ad4,Ad4,Ad4,Ad2,Ad7,?_,?_,Aj,?_⟩
    ·rw[Ai Ad2,Ae Ad2,ac _ Ad2,ar]
    ·rw[Ai Ad2,Ae Ad2,ac _ Ad2,ap]
    ·exact ((ax.trans ad).new _).put Ad2 _
  ·refine Aq ?_;intro κ hκ;refine Z3 ?_;refine hκ.out _ _ ⟨Ao ((Keep.refl _).new _),?_⟩;clear hκ κ;refine Al (i:=5) Ad5 ?_;refine Aq ?_;intro κ hκ;refine Z3 ?_;refine ACalls.mono (a8 _) ?_;rintro _ j2 ⟨i2,rfl,ad⟩;have ac:=ad.obj;have an:=ad.nobj;simp only[Aa]at an;refine Z3 ?_;refine hκ.out _ _ ⟨Ao (((Keep.refl _).new _).trans ad),?_⟩;clear hκ κ;refine Al (i:=6) Ad5 ?_;refine Aq ?_;intro κ hκ;refine Z3 ?_;refine hκ.out _ _ ⟨Ao (((Keep.refl _).new _).trans ad),?_⟩;clear hκ κ;refine Al (i:=8) Ad5 ?_;refine Aq ?_;intro κ hκ;refine Z3 ?_;refine hκ.out _ _ ⟨Bo rfl,?_⟩;clear hκ κ;refine A7 Ad5 ⟨rfl,j1.nobj,i2,Ad4,Ad4,Ad4,Ad4,Ad2,Ad7,?_,?_,Aj,?_⟩
   ·rw[Ai Ad2,ac _ (by rw[Aa];omega),Ae Ad2,ar]
   ·rw[Ai Ad2,ac _ (by rw[Aa];omega),Ae Ad2,ap]
   ·exact ((ax.new _).trans ad).put Ad2 _
 ·rintro e s j2 ⟨rfl,o,i2,h1,h2,h3,h4,bo,a0,ba,ay,ob,hK⟩;have a5:=hK.nobj;clear ax ar ap ao av
  repeat' (first|refine Z1 ?_|(refine Z8 ?_;intro κ hκ)|(refine Z4 ?_;clear hκ κ)|(refine Z2 ?_ ?_<;>intro h ai<;>try exact Xp)|(refine Z6 ?_;intro idn jn ak am af aa ae ab)|refine Z3 ?_|exact⟨⟩|(apply hκ.out;clear hκ κ))
  refine Ad (fun m s j'=>∃(k i3:Nat) (xs:List AV),m=x.body.length-k/\k<=x.body.length/\s 2=ptr (j.nobj+1) 0/\s 3=sl ido lo.length (lo.map encI)/\s 4=ptr o 0/\s 18=sl id x.body.length b/\s 19=sc (.int .i64 x.body.length)/\s 20=sc (.int .i64 k)/\Keep j j'/\o<j'.nobj/\j'.obj (j.nobj+1)=[sc (.bool false),sc (.int .i64 0),nilS,nilS]/\j'.obj o=[sc (.bool x.out),sc (.int .i64 (N.idxOf x.head.pred:Nat)),sl i2 x.head.terms.length (Db lo x.head.terms),sl i3 k xs]/\Own j j' i3 k/\xs.length=k*3/\Ad8 (EL (RL N lo) (x.body.take k) xs)) x.body.length
   ⟨0,1,[],Ad2,Ad2,by simp[upd,h2],by simp[upd,h3],by simp[upd,h4],Ad4,Ad4,rfl,hK,a0,ay,ob,Own.nil _ _,by simp,rfl⟩ ?_
  clear h1 h2 h3 h4 ba ay ob hK a0 a5;rintro m s j' ⟨k,i3,xs,rfl,hk,h2,h3,h4,bu,br,bq,hK,a0,ay,ob,hO,bc,hX⟩;have a5:=hK.nobj;by_cases a6:k<x.body.length
  ·have ah:=List.getElem?_eq_getElem a6;have au:=Acz a6;obtain⟨ha,ia,r,hd⟩:=L4 hb ah;have hR:=fun j=>bi lo ido x.body[k] ia au a3 a9.out (bg _ au) j;generalize x.body[k]=a at hd ah ha hR au;have HG:Ad8 (x.body[k]?=some a):=ah;clear ah au
   repeat' (first|refine Z1 ?_|(refine Z8 ?_;intro κ hκ)|(refine Z4 ?_;clear hκ κ)|(refine Z2 ?_ ?_<;>intro h ai<;>try exact Xp)|(refine Z6 ?_;intro idn jn ak am af aa ae ab)|(refine Z5 ?_;refine Xi (hR _) ?_;rintro _ _ ⟨i4,rfl,aw⟩;(have bb:=aw.obj;have az:=aw.nobj;simp only[Aa,Ab]at az))|refine Z3 ?_|exact⟨⟩|(apply hκ.out;clear hκ κ))
   rename_i j4;have bm:=((hK.new [sc (.bool false),sc (.int .i64 0),nilS]).put hK.nobj _).trans aw;have bl:=Own.keep (Own.put (Own.new hO [sc (.bool false),sc (.int .i64 0),nilS]) j'.nobj [sc (.bool a.nt),sc (.int .i64 (N.idxOf a.pred:Nat)),sl ia a.terms.length (Aw a.terms)]) aw;refine Bj (by first|exact D5) ((bm.new _).put Ad2 _) (Own.put (Own.new bl _) _ _) (by decide) (by rfl) bc (by rfl) (by rfl) (by decide) Ad2 Ad2 ?_;intro idn jn ak am af aa ae ab;simp only[Ab,Aa]at aa;refine Z3 ?_
   repeat' (first|refine Z1 ?_|(refine Z8 ?_;intro κ hκ)|(refine Z4 ?_;clear hκ κ)|(refine Z2 ?_ ?_<;>intro h ai<;>try exact Xp)|(refine Z6 ?_;intro idn jn ak am af aa ae ab)|refine Z3 ?_|exact⟨⟩|(apply hκ.out;clear hκ κ))
   refine⟨x.body.length-(k+1),Ad2,k+1,idn,_,rfl,Ad2,by simp,am.put Ad2 _,Ad2,rfl,Own.put ak _ _,by simp;omega,?_⟩;rw[Ad8,Abq,HG.out];exact EL.append hX.out (EL.single ⟨i4,rfl⟩)
  ·have be:k=x.body.length:=Ad2;subst be;rw[Abn]at hX
   repeat' (first|refine Z1 ?_|(refine Z8 ?_;intro κ hκ)|(refine Z4 ?_;clear hκ κ)|(refine Z2 ?_ ?_<;>intro h ai<;>try exact Xp)|(refine Z6 ?_;intro idn jn ak am af aa ae ab)|refine Z3 ?_|exact⟨⟩|(apply hκ.out;clear hκ κ))
   exact⟨_,rfl,_,rfl,⟨i2,i3,xs,hX.out,rfl⟩,hK.put Ad2 _⟩
theorem Mi {k:Int}(h0:0<=k)(h1:k<26):Cl k=UInt8.ofNat (IntKind.u8.wrap (65+k)).toNat:=by
 unfold Cl;rw[Int.tmod_eq_of_lt h0 h1,i64w Ad2 Ad2]
def WT (l:List Tx)(a:RAtom):Prop:=∀w∈a.terms,DT w/\w.length<=1000/\(Af w=true->0<=Bs l w/\Bs l w<26)
def WA (N l:List Tx)(a:RAtom):Prop:=a.pred∈N/\0<a.terms.length/\a.terms.length<=1000/\a.pred.length<=1000/\WT l a
structure WI (N:List Tx)(x:RItem):Prop where
 fits:x.fits
 short:x.short
 va:∀a∈Ag x,VA a
 vh:VA x.head
 vb:∀a∈x.body,VA a
 mem:x.head.pred∈N
 body:x.body.length<=5
 out:x.out=true->x.body=[]
 head:x.out=false->x.head.nt=false/\WA N (Ba x) x.head
 wa:∀a∈x.body,WA N (Ba x) a
theorem S4 {acc:List Tx}{t u:Tx}(h:t∈acc\/(t=u/\Af u=true)):t∈Dd acc u:=by
 unfold Dd;split
 ·rcases h with h|⟨rfl,-⟩
  ·exact Ack.2 (.inl h)
  ·exact Ack.2 (.inr (by simp))
 ·rename_i hn;rcases h with h|⟨rfl,hv⟩
  ·exact h
  ·exact Classical.byContradiction fun hm=>hn ⟨hv,hm⟩
theorem Np:∀(ts acc:List Tx) (t:Tx),(t∈acc\/(t∈ts/\Af t=true))->t∈Dc acc ts
 |[],acc,t,h=>by
  rcases h with h|⟨h,-⟩
  ·exact h
  ·cases h
 |u::ts,acc,t,h=>by
  show t∈Dc (Dd acc u) ts;apply Np ts;rcases h with h|⟨h,hv⟩
  ·exact .inl (S4 (.inl h))
  ·rcases Ace.1 h with rfl|h
   ·exact .inl (S4 (.inr ⟨rfl,hv⟩))
   ·exact .inr ⟨h,hv⟩
theorem dA {ls:List RAtom}(h:∀a∈ls,a.terms.length<=3):(ls.flatMap (·.terms)).length<=ls.length*3:=by
 induction ls with
 |nil=>simp
 |cons a ls ih=>
  have h2:=ih fun b hb=>h b (by simp[hb]);have h3:=h a (by simp);simp only[Acv,Ab2,Aca];omega
theorem Ay {x:RItem}{a:RAtom}(h:(x.out=false/\a=x.head)\/a∈x.body):a∈Ag x:=by
 unfold Ag;rcases h with⟨h,rfl⟩|h
 ·exact Ack.2 (.inl (by rw[h];simp))
 ·exact Ack.2 (.inr h)
theorem K8 {x:RItem}(hw:Bv x){a:RAtom}(ha:a∈Ag x){w:Tx}(hm:w∈a.terms)(hv:Af w=true):0<=Bs (Ba x) w/\Bs (Ba x) w<26:=by
 have h1:w∈Ba x:=Np _ _ _ (.inr ⟨Acj.2 ⟨a,ha,hm⟩,hv⟩);have h2:=Ac1 h1;have h3:=Sv ((Ag x).flatMap (·.terms)) [];obtain⟨q1,q2,q3⟩:=hw;have h4:(Ag x).length<=6/\∀b∈Ag x,b.terms.length<=3:=by
  cases ho:x.out with
  |true=>
   obtain⟨-,-,e⟩:=q2 ho;simp[Ag,ho,e]
  |false=>
   obtain⟨e1,-,e2,e3⟩:=q3 ho;refine⟨by simp[Ag,ho];omega,fun b hb=>?_⟩;simp[Ag,ho]at hb;rcases hb with rfl|hb
   ·exact e1.2.2.1
   ·exact (e3 b hb).2.2.1
 have h5:=dA h4.2;have h6:(Ba x).length<=18:=by
  unfold Ba;rw[Ab9,Ab1]at h3;omega
 unfold Bs;rw[if_pos h1];omega
theorem wZ {t:Tx}{N:List Tx}{l:List RItem}{cs:List AV}{r:Tx}(hl:t.length<=1000)(hp:Bu 16 t= .got l r)(hB:Bk N l cs)(af:∀x∈l,Bv x):∀x∈l,WI N x:=by
 intro x hx;have aa:=Ow 16 t l r hp x hx;have ae:=Jf (T:=DT) bS 16 t l r hp x hx;have ab:=Pq hl hp x hx;have hm:=Ga hB.el x hx;have hw:=af x hx;have hf:=hB.fits x hx;have ac:∀a,a∈Ag x->a.pred∈N->C9 a->short a->a.terms.length<=1000->WA N (Ba x) a:=fun a ha hN hW hs hn=>
  ⟨hN,List.length_pos_iff.2 hW.2.1,hn,hs.1,fun w hm=>⟨ae a ha w hm,hs.2.2 w hm,fun hv=>K8 hw ha hm hv⟩⟩
 refine⟨hf,ab,aa,?_,?_,hm.1,?_,hB.out x hx,?_,?_⟩
 ·cases ho:x.out with
  |true=>intro w ad;rw[(hw.2.1 ho).2.1]at ad;cases ad
  |false=>exact aa x.head (Ay (.inl ⟨ho,rfl⟩))
 ·exact fun a ha=>aa a (Ay (.inr ha))
 ·cases ho:x.out with
  |true=>rw[hB.out x hx ho];simp
  |false=>exact (hw.2.2 ho).2.2.1
 ·intro ho;obtain⟨e1,e2,-⟩:=hw.2.2 ho;exact⟨e2,ac x.head (Ay (.inl ⟨ho,rfl⟩)) hm.1 e1 ab.1 hf.2.1⟩
 ·intro a ha;have ho:x.out=false:=by
   cases h:x.out with
   |false=>rfl
   |true=>rw[hB.out x hx h]at ha;cases ha
  exact ac a (Ay (.inr ha)) (hm.2 a ha) ((hw.2.2 ho).2.2.2 a ha) (ab.2 a ha) (hf.2.2 a ha)
def Ch (l:List Tx)(a:RAtom):RAtom:={nt:=a.nt,pred:=a.pred,terms:=a.terms.map (Gq l)}
def ren (x:RItem):RItem:={out:=x.out,head:=Ch (Ba x) x.head,body:=x.body.map (Ch (Ba x))}
theorem Dk {k:Int}(h0:0<=k)(h1:k<26):((Cl k).toNat:Int)=65+k:=by
 rw[Mi h0 h1,u8w Ad2 Ad2];rw[UInt8.toNat_ofNat_of_lt' (by show (65+k).toNat<256;omega)];omega
theorem C5 {k:Int}(h0:0<=k)(h1:k<26):A3 (Cl k).toNat=true:=by
 rw[Dk h0 h1];simp[A3];omega
theorem L6 {l:List Tx}{w:Tx}(hv:Af w=true->0<=Bs l w/\Bs l w<26):Af (Gq l w)=Af w:=by
 unfold Gq;split
 ·rename_i h;obtain⟨h0,h1⟩:=hv h;rw[h];exact C5 h0 h1
 ·rfl
theorem zH {l:List Tx}{w:Tx}(hD:DT w)(hv:Af w=true->0<=Bs l w/\Bs l w<26):Ap (Gq l w)=(Af w,if Af w=true then Bs l w else (Ap w).2):=by
 unfold Gq;split
 ·rename_i h;obtain⟨h0,h1⟩:=hv h;rw[Ef (C5 h0 h1),Dk h0 h1,h];congr 1;omega
 ·rename_i h;have h':Af w=false:=by simpa using h
  rw[h'];cases w with
  |nil=>rfl
  |cons b r=>rw[Kr h']
theorem xT {N l:List Tx}{a:RAtom}(h:WA N l a):∀w∈a.terms,DT w/\(Af w=true->0<=Bs l w/\Bs l w<26):=fun w hw=>⟨(h.2.2.2.2 w hw).1,(h.2.2.2.2 w hw).2.2⟩
theorem oO (l:List Tx):∀(ts:List Tx) (k:Nat),0<k->I8 l k ts=A8 (ts.map (Gq l))
 |[],k,_=>rfl
 |t::ts,k,hk=>by
  rw[I8,oO l ts (k+1) Ad2,wY,if_neg Ad2];simp[A8]
theorem lH {l ts:List Tx}(h:ts≠[]):I8 l 0 ts=40::A2 (ts.map (Gq l)):=by
 cases ts with
 |nil=>exact absurd rfl h
 |cons t ts=>rw[I8,oO l ts 1 Ad2];simp[wY,A2]
theorem Qz {l:List Tx}{a:RAtom}(h:a.terms≠[]):Hc l a=Bg (Ch l a):=by
 unfold Hc Bg A9;rw[lH h];cases ha:a.nt<;>simp[Ch,ha]
theorem oP {l:List Tx}:∀(ls:List RAtom) (k:Nat),0<k->(∀a∈ls,a.terms≠[])->Gw l k ls=A8 ((ls.map (Ch l)).map Bg)
 |[],k,_,_=>rfl
 |a::ls,k,hk,h=>by
  rw[Gw,oP ls (k+1) Ad2 (fun a' h'=>h a' (by simp[h'])),lJ,if_neg Ad2,Qz (h a (by simp))];simp[A8]
theorem lI {l:List Tx}{ls:List RAtom}(h:∀a∈ls,a.terms≠[]):Gw l 0 ls=if ls=[]then []else 58::45::A2 ((ls.map (Ch l)).map Bg):=by
 cases ls with
 |nil=>rfl
 |cons a ls=>
  rw[Gw,oP ls 1 Ad2 (fun a' h'=>h a' (by simp[h'])),Qz (h a (by simp)),if_neg (by simp)];simp[lJ,A2]
theorem Oe {x:RItem}(hw:Bv x):C6 x=A0 (ren x)++[46]:=by
 obtain⟨-,h2,h3⟩:=hw;unfold C6 A0;cases ho:x.out with
 |true=>simp[ren,Ch,ho]
 |false=>
  obtain⟨q1,q2,-,q3⟩:=h3 ho;rw[if_neg (by simp),if_neg (by simp[ren,ho]),Qz q1.2.1,lI (fun a ha=>(q3 a ha).2.1),Ra (by simpa[Ch]using q2)];unfold Cw;simp[ren]
theorem V2 {N l:List Tx}{a:RAtom}(h:C9 a)(hw:∀w∈a.terms,Af w=true->0<=Bs l w/\Bs l w<26):C9 (Ch l a):=by
 obtain⟨h1,h2,h3,h4⟩:=h;refine⟨h1,by simpa[Ch]using h2,by simpa[Ch]using h3,fun t ht=>?_⟩;simp only[Ch,Acm]at ht;obtain⟨w,hm,rfl⟩:=ht;unfold Gq;split
 ·rename_i hv;obtain⟨q0,q1⟩:=hw w hm hv;exact⟨by simp,fun b hb=>by simp at hb;subst hb;exact .inl (C5 q0 q1)⟩
 ·exact h4 w hm
theorem K3 {N:List Tx}{x:RItem}(hw:Bv x)(hi:WI N x):Bv (ren x):=by
 obtain⟨h1,h2,h3⟩:=hw;refine⟨h1,fun ho=>?_,fun ho=>?_⟩
 ·obtain⟨q1,q2,q3⟩:=h2 ho;exact⟨q1,by simp[ren,Ch,q2],by simp[ren,q3]⟩
 ·obtain⟨q1,q2,q3,q4⟩:=h3 ho;refine⟨V2 (N:=N) q1 (fun w hm=>(xT (hi.head ho).2 w hm).2),q2,by simpa[ren]using q3,fun a ha=>?_⟩;simp only[ren,Acm]at ha;obtain⟨a',aa,rfl⟩:=ha;exact V2 (N:=N) (q4 a' aa) (fun w hm=>(xT (hi.wa a' aa) w hm).2)
theorem Kz {l:List RItem}(hw:∀x∈l,Bv x):B8 l=Bl (l.map ren):=by
 unfold B8 Bl;induction l with
 |nil=>rfl
 |cons x l ih=>
  rw[Acv,Abx,Acv,Oe (hw x (by simp)),ih fun y hy=>hw y (by simp[hy])]
theorem cT {N:List Tx}{l:List RItem}(hw:∀x∈l,Bv x)(hi:∀x∈l,WI N x):Cj (B8 l)=l.map ren:=by
 have h2:∀y∈l.map ren,Bv y:=fun y hy=>by
  obtain⟨x,hx,rfl⟩:=Acm.1 hy;exact K3 (hw x hx) (hi x hx)
 rw[Kz hw];unfold Cj;rw[Wt _ h2,Abu]
 conv=>rhs;rw[<-Acn (l.map ren)]
 apply Aco;intro y hy;exact (Km (h2 y hy)).1
theorem eY (l:List Tx)(w:Tx)(hD:DT w)(hv:Af w=true->0<=Bs l w/\Bs l w<26)(j:St):ACalls Tryz.prog 149 [ag (Is l w)] j fun r j'=>r=str (Gq l w)/\Keep j j':=by
 have ab:∀z:UInt8,({data:=#[z]}:ByteArray)=bs [z]:=fun _=>rfl;unfold Is;cases hb:Af w with
 |true=>
  obtain⟨h0,h1⟩:=hv hb;have hL:Ad8 (Gq l w=[UInt8.ofNat (IntKind.u8.wrap (65+Bs l w)).toNat]):=by rw[Ad8,Gq,if_pos hb,Mi h0 h1]
  rw[if_pos rfl];generalize Bs l w=k at h0 h1 hL;clear hv;refine Z9 14 [.tmp 2] Tryz.func149 ?_
  repeat' (first|refine Z1 ?_|(refine Z8 ?_;intro κ hκ)|(refine Z4 ?_;clear hκ κ)|(refine Z2 ?_ ?_<;>intro h aa<;>try exact Xp)|refine Z7 ?_|exact⟨⟩|(apply hκ.out;clear hκ κ))
  exact⟨_,rfl,by rw[hL.out],Xs⟩
 |false=>
  obtain⟨d1,d2,d3⟩:Lib.itoa (Ap w).2=w/\0<=(Ap w).2/\(Ap w).2<=999:=by
   rcases hD with h|h
   ·rw[hb]at h;cases h
   ·exact h.2
  have hI:=fun j=>Wk (Ap w).2 d2 Ad2 j;rw[if_neg (by simp)];rw[d1]at hI;have hL:Ad8 (Gq l w=w):=by rw[Ad8,Gq,if_neg (by rw[hb];simp)]
  generalize (Ap w).2=v at hI;clear hv hD;refine Z9 14 [.tmp 2] Tryz.func149 ?_
  repeat' (first|refine Z1 ?_|(refine Z8 ?_;intro κ hκ)|(refine Z4 ?_;clear hκ κ)|(refine Z2 ?_ ?_<;>intro h aa<;>try exact Xp)|(refine Z5 ?_;refine Xi (hI _) ?_;rintro _ _ ⟨rfl,rfl⟩)|refine Z7 ?_|exact⟨⟩|(apply hκ.out;clear hκ κ))
  exact⟨_,rfl,by rw[hL.out],Xs⟩
theorem fR {l ts:List Tx}{k:Nat}{w:Tx}(h:ts[k]?=some w):∃r,(Db l ts).drop (k*2)=sc (.bool (Af w))::sc (.int .i64 (if Af w=true then Bs l w else (Ap w).2))::r:=by
 have hE:∀ts:List Tx,EL (fun w c=>c=Is l w) ts (Db l ts):=by
  intro ts;induction ts with
  |nil=>rfl
  |cons a l ih=>exact⟨Is _ a,Db _ l,rfl,ih,by simp[Db]⟩
 obtain⟨c,r,rfl,e⟩:=EL.get (z:=2) (fun a c h=>by rw[h];rfl) (hE ts) h;exact⟨r,e⟩
def vD (l:List Tx)(k:Nat)(ts:List Tx):Tx:=if k=0 then [40]else I8 l 0 (ts.take k)
theorem qN {l ts:List Tx}{k:Nat}{w:Tx}(h:ts[k]?=some w):vD l (k+1) ts=vD l k ts++((if k=0 then []else [44])++Gq l w):=by
 have hk:k<ts.length:=(List.getElem?_eq_some_iff.1 h).1;unfold vD;rw[if_neg Ad2,Abq,h,Ac2,Uy,Ab3,Ab6 Ad2,Ab1];by_cases h0:k=0
 ·subst h0;simp[I8,wY]
 ·rw[if_neg h0,if_neg h0];simp[wY,h0]
theorem T5 (N l:List Tx)(idn ids:Nat)(a:RAtom)(ha:a.pred∈N)(hN:N.length<=2000)(hp:0<a.terms.length)(hn:a.terms.length<=1000)(hpl:a.pred.length<=1000)(hw:WT l a)(j:St):
  ACalls Tryz.prog 182 [ag [sc (.int .i64 (N.idxOf a.pred:Nat)),sl ids a.terms.length (Db l a.terms)],sl idn N.length (N.map str)] j fun r j'=>r=str (a.pred++I8 l 0 a.terms++[41])/\Keep j j':=by
 have au:=fQ l a.terms;have ay:({data:=#[40]}:ByteArray)=bs [40]:=rfl;have aw:({data:=#[44]}:ByteArray)=bs [44]:=rfl;have ax:({data:=#[41]}:ByteArray)=bs [41]:=rfl;have ai:=Ac1 ha;have ap:(N.map str).drop (N.idxOf a.pred)=str a.pred::(N.map str).drop (N.idxOf a.pred+1):=by
  have:=Cm ai;rwa[Ac0 ai]at this
 generalize N.idxOf a.pred=ix at ai ap;refine Z9 33 [.tmp 4] Tryz.func182 ?_
 repeat' (first|refine Z1 ?_|(refine Z8 ?_;intro κ hκ)|(refine Z4 ?_;clear hκ κ)|(refine Z2 ?_ ?_<;>intro h ac<;>try exact Xp)|refine Z7 ?_|exact⟨⟩|(apply hκ.out;clear hκ κ))
 refine Ad (fun m s j'=>∃(k:Nat) (acc:Tx),m=a.terms.length-k/\k<=a.terms.length/\s 5=str acc/\s 15=sl ids a.terms.length (Db l a.terms)/\s 16=sc (.int .i64 a.terms.length)/\s 17=sc (.int .i64 k)/\Keep j j'/\acc.length<=1001+k*1001/\Ad8 (acc=a.pred++vD l k a.terms)) a.terms.length
  ⟨0,a.pred++[40],Ad2,Ad2,Ad4,Ad4,Ad4,rfl,Xs,by simp;omega,by simp[Ad8,vD]⟩ ?_
 rintro m s j' ⟨k,acc,rfl,hk,h5,a3,a0,az,hK,av,hA⟩;have ar:=hK.nobj;by_cases aj:k<a.terms.length
 ·have ab:=List.getElem?_eq_getElem aj;obtain⟨w1,w2,w3⟩:=hw a.terms[k] (Acz aj);obtain⟨r,hd⟩:=fR (l:=l) ab;have aa:Ad8 (a.pred++vD l (k+1) a.terms=acc++((if k=0 then []else [44])++Gq l a.terms[k])):=by
   rw[Ad8,qN ab,hA.out,Ab4]
  have am:=iQ l a.terms[k] w2;have hT:=fun j=>eY l a.terms[k] w1 w3 j;unfold Is at hT;generalize Gq l a.terms[k]=tw at aa hT am;generalize (if Af a.terms[k]=true then Bs l a.terms[k]else (Ap a.terms[k]).2)=vw at hT hd;generalize Af a.terms[k]=bw at hT hd;clear ab w1 w2 w3;by_cases ae:k=0
  ·have ao:decide ((0:Int)<(k:Int))=false:=by simp[ae]
   have aa:Ad8 (a.pred++vD l (k+1) a.terms=acc++tw):=by rw[Ad8,aa.out,if_pos ae];simp
   clear ae
   repeat' (first|refine Z1 ?_|(refine Z8 ?_;intro κ hκ)|(refine Z4 ?_;clear hκ κ)|(refine Z2 ?_ ?_<;>intro h ac<;>try exact Xp)|(refine Z5 ?_;refine Xi (hT _) ?_;rintro _ _ ⟨rfl,ad⟩;(have af:=ad.obj;have ah:=ad.nobj))|refine Z7 ?_|exact⟨⟩|(apply hκ.out;clear hκ κ))
   exact⟨a.terms.length-(k+1),Ad2,k+1,acc++tw,rfl,Ad2,rfl,by simp,((hK.new _).put hK.nobj _).trans ad,by simp only[Ab2];omega,by rw[Ad8,aa.out]⟩
  ·have ao:decide ((0:Int)<(k:Int))=true:=by simp;omega
   have aa:Ad8 (a.pred++vD l (k+1) a.terms=acc++([44]++tw)):=by rw[Ad8,aa.out,if_neg ae]
   clear ae
   repeat' (first|refine Z1 ?_|(refine Z8 ?_;intro κ hκ)|(refine Z4 ?_;clear hκ κ)|(refine Z2 ?_ ?_<;>intro h ac<;>try exact Xp)|(refine Z5 ?_;refine Xi (hT _) ?_;rintro _ _ ⟨rfl,ad⟩;(have af:=ad.obj;have ah:=ad.nobj))|refine Z7 ?_|exact⟨⟩|(apply hκ.out;clear hκ κ))
   exact⟨a.terms.length-(k+1),Ad2,k+1,acc++([44]++tw),rfl,Ad2,by rw[Ab4],by simp,((hK.new _).put hK.nobj _).trans ad,by simp only[Ab2,Acu];omega,by rw[Ad8,aa.out]⟩
 ·have an:k=a.terms.length:=Ad2;subst an;have ak:acc=a.pred++I8 l 0 a.terms:=by rw[hA.out,vD,if_neg Ad2,Abn]
  have HA:Ad8 _:=ak;clear hA ak
  repeat' (first|refine Z1 ?_|(refine Z8 ?_;intro κ hκ)|(refine Z4 ?_;clear hκ κ)|(refine Z2 ?_ ?_<;>intro h ac<;>try exact Xp)|refine Z7 ?_|exact⟨⟩|(apply hκ.out;clear hκ κ))
  first
  |exact⟨_,rfl,by rw[HA.out],hK⟩
  |exact⟨_,rfl,by rw[HA.out]⟩
end Go.Proofs.YtmoeoppbmhfbpabGreatDoorH
