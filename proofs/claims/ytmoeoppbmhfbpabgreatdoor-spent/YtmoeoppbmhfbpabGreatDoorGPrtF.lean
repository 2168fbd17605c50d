import Derived.Test.YtmoeoppbmhfbpabGreatDoorGShelf
import Derived.Test.YtmoeoppbmhfbpabGreatDoorGAbsWp
set_option maxHeartbeats 16000000
set_option maxRecDepth 100000
set_option linter.all false
namespace Go.Proofs.YtmoeoppbmhfbpabGreatDoorG
open Go.Abs
def RL (N l:List Tx)(a:RAtom)(c:List AV):Prop:=∃ids,c=[sc (.bool a.nt),sc (.int .i64 (N.idxOf a.pred:Nat)),sl ids a.terms.length (Dc l a.terms)]
theorem wH {N l:List Tx}(a:RAtom)(c:List AV)(h:RL N l a c):c.length=3:=by obtain⟨ids,rfl⟩:=h;rfl
theorem Adf {N l:List Tx}{ls:List RAtom}{cs:List AV}{i:Nat}{a:RAtom}(h:EL (RL N l) ls cs)(hi:ls[i]?=some a):∃ia r,cs.drop (i*3)=sc (.bool a.nt)::sc (.int .i64 (N.idxOf a.pred:Nat))::sl ia a.terms.length (Dc l a.terms)::r:=by
 obtain⟨c,r,⟨ia,rfl⟩,e⟩:=EL.get wH h hi;exact⟨ia,r,e⟩
def RI (N l:List Tx)(x:RItem)(c:List AV):Prop:=∃ih id b,EL (RL N l) x.body b/\c=[sc (.bool x.out),sc (.int .i64 (N.idxOf x.head.pred:Nat)),sl ih x.head.terms.length (Dc l x.head.terms),sl id x.body.length b]
theorem Zj (N:List Tx)(x:RItem)(c:List AV)(hc:PI N x c)(ho:x.out=true->x.body=[])(hx:x.fits)(hV:∀a∈Ae x,VA a)(bh:VA x.head)(bi:∀a∈x.body,VA a)(j:St):
  ACalls Tryz.prog 93 [ag c] j fun r j'=>∃c',r=ag c'/\RI N (Au x) x c'/\VL (Au x)/\Keep j j':=by
 have a8:=fun j=>Q3 N x c hc ho hx hV j;have a4:=tP hx;have bq:=hx.1;have bf:=hx.2.2;obtain⟨hm,ih,id,b,hb,rfl⟩:=hc;have bu:=EL.length Dp hb;have aw:=fun lo ido (hl:lo.length<=10000000) hL j=>Oj lo ido (N.idxOf x.head.pred:Nat) ih x.head hl hL bh hx.2.1 j;have bn:=fun lo ido (a:RAtom) ia ha (hl:lo.length<=10000000) hL hv j=>Oj lo ido (N.idxOf a.pred:Nat) ia a hl hL hv (bf a ha) j;generalize Au x=lo at a8 a4;have aw:=fun ido hL j=>aw lo ido a4 hL j;refine Z9 39 [.cell 2 125] Tryz.func93 ?_
 repeat' (first|refine Z1 ?_|(refine Z8 ?_;intro κ hκ)|(refine Z4 ?_;clear hκ κ)|(refine Z2 ?_ ?_<;>intro h ai<;>try exact Xp)|(refine Z6 ?_;intro idn jn ak am af aa ae ab)|(refine Z5 ?_;refine Xi (a8 _) ?_;rintro _ _ ⟨ido,rfl,bm,a5⟩;(have aj:=a5.obj;have ao:=a5.nobj;simp only[Aa]at ao))|refine Z3 ?_|exact⟨⟩|(apply hκ.out;clear hκ κ))
 rename_i j1;have au:j1.obj j.nobj=[sc (.bool x.out),sc (.int .i64 (N.idxOf x.head.pred:Nat)),sl ih x.head.terms.length (Ay x.head.terms),sl id x.body.length b]:=by
  rw[aj _ Agq,Af Agq,Ap]
 have ap:j1.obj (j.nobj+1)=[sc (.bool false),sc (.int .i64 0),nilS,nilS]:=by
  rw[aj _ Agq,Bs (by rw[Aa];omega) (by rw[Aa];omega)]
 have ay:Keep j j1:=Xs;clear aj a5;have ba:Agt (VL lo):=bm;refine B6 (Q:=fun e s j'=>e= .normal/\∃o i2:Nat,s 1=ptr j.nobj 0/\s 2=ptr (j.nobj+1) 0/\s 3=sl ido lo.length (lo.map encI)/\s 4=ptr o 0/\j.nobj+1<o/\o<j'.nobj/\j'.obj j.nobj=[sc (.bool x.out),sc (.int .i64 (N.idxOf x.head.pred:Nat)),sl ih x.head.terms.length (Ay x.head.terms),sl id x.body.length b]/\j'.obj (j.nobj+1)=[sc (.bool false),sc (.int .i64 0),nilS,nilS]/\j'.obj o=[sc (.bool x.out),sc (.int .i64 (N.idxOf x.head.pred:Nat)),sl i2 x.head.terms.length (Dc lo x.head.terms),nilS]/\Keep j j') ?_ ?_
 ·refine Bh Al (fun _=>True) [8] [0,1,2,3,4] 4 #[true,true,true,true,true,false,false,false,false] Agp (fun _ _ _ h=>by cases h.1) ?_;intro κ hκ;refine Z3 ?_;refine hκ.out _ ?_;clear hκ κ;have a9:=fun j=>aw ido ba.out j;refine D4 (rs:=[5,7]) Agp (by simp) ?_;intro i hi;simp only[Aeq,Ae8,Agk]at hi;rcases hi with rfl|rfl
  ·refine Ar ?_;intro κ hκ;refine Z3 ?_;refine ACalls.mono (a9 _) ?_;rintro _ j2 ⟨i2,rfl,ad⟩;have ac:=ad.obj;have an:=ad.nobj;refine Z3 ?_;refine hκ.out _ _ ⟨Aq ad,?_⟩;clear hκ κ;refine D4 (rs:=[6,7]) Agp (by simp) ?_;intro i hi;simp only[Aeq,Ae8,Agk]at hi;rcases hi with rfl|rfl
   ·refine Ar ?_;intro κ hκ;refine Z3 ?_;refine hκ.out _ _ ⟨Aq ad,?_⟩;clear hκ κ;refine Ao (i:=7) Agp ?_;refine Ar ?_;intro κ hκ;refine Z3 ?_;refine hκ.out _ _ ⟨Aq (ad.new _),?_⟩;clear hκ κ;refine Ao (i:=8) Agp ?_;refine Ar ?_;intro κ hκ;refine Z3 ?_;refine hκ.out _ _ ⟨Bq rfl,?_⟩;clear hκ κ;refine A6 Agp ⟨rfl,j2.nobj,i2,Ago,Ago,Ago,Ago,Agm,Ags,?_,?_,Aj,?_⟩
    ·rw[Ai Agm,Af Agm,ac _ Agm,au]
    ·rw[Ai Agm,Af Agm,ac _ Agm,ap]
    ·exact ((ay.trans ad).new _).put Agm _
   ·refine Ar ?_;intro κ hκ;refine Z3 ?_;refine hκ.out _ _ ⟨Aq (ad.new _),?_⟩;clear hκ κ;refine Ao (i:=6) Agp ?_;refine Ar ?_;intro κ hκ;refine Z3 ?_;refine hκ.out _ _ ⟨Aq (ad.new _),?_⟩;clear hκ κ;refine Ao (i:=8) Agp ?_;refine Ar ?_;intro κ hκ;refine Z3 ?_;refine hκ.out _ _ ⟨Bq rfl,?_⟩;clear hκ κ;refine A6 Agp ⟨rfl,j2.nobj,i2,Ago,Ago,Ago,Ago,Agm,Ags,?_,?_,Aj,?_⟩
    ·rw[Ai Agm,Af Agm,ac _ Agm,au]
    ·rw[Ai Agm,Af Agm,ac _ Agm,ap]
    ·exact ((ay.trans ad).new _).put Agm _
  ·refine Ar ?_;intro κ hκ;refine Z3 ?_;refine hκ.out _ _ ⟨Aq ((Keep.refl _).new _),?_⟩;clear hκ κ;refine Ao (i:=5) Agp ?_;refine Ar ?_;intro κ hκ;refine Z3 ?_;refine ACalls.mono (a9 _) ?_;rintro _ j2 ⟨i2,rfl,ad⟩;have ac:=ad.obj;have an:=ad.nobj;simp only[Aa]at an;refine Z3 ?_;refine hκ.out _ _ ⟨Aq (((Keep.refl _).new _).trans ad),?_⟩;clear hκ κ;refine Ao (i:=6) Agp ?_;refine Ar ?_;intro κ hκ;refine Z3 ?_;refine hκ.out _ _ ⟨Aq (((Keep.refl _).new _).trans ad),?_⟩;clear hκ κ;refine Ao (i:=8) Agp ?_;refine Ar ?_;intro κ hκ;refine Z3 ?_;refine hκ.out _ _ ⟨Bq rfl,?_⟩;clear hκ κ;refine A6 Agp ⟨rfl,j1.nobj,i2,Ago,Ago,Ago,Ago,Agm,Ags,?_,?_,Aj,?_⟩
   ·rw[Ai Agm,ac _ (by rw[Aa];omega),Af Agm,au]
   ·rw[Ai Agm,ac _ (by rw[Aa];omega),Af Agm,ap]
   ·exact ((ay.new _).trans ad).put Agm _
 ·rintro e s j2 ⟨rfl,o,i2,h1,h2,h3,h4,br,a3,bb,az,ob,hK⟩;have a6:=hK.nobj;clear ay au ap ao aw
  repeat' (first|refine Z1 ?_|(refine Z8 ?_;intro κ hκ)|(refine Z4 ?_;clear hκ κ)|(refine Z2 ?_ ?_<;>intro h ai<;>try exact Xp)|(refine Z6 ?_;intro idn jn ak am af aa ae ab)|refine Z3 ?_|exact⟨⟩|(apply hκ.out;clear hκ κ))
  refine Ag (fun m s j'=>∃(k i3:Nat) (xs:List AV),m=x.body.length-k/\k<=x.body.length/\s 2=ptr (j.nobj+1) 0/\s 3=sl ido lo.length (lo.map encI)/\s 4=ptr o 0/\s 18=sl id x.body.length b/\s 19=sc (.int .i64 x.body.length)/\s 20=sc (.int .i64 k)/\Keep j j'/\o<j'.nobj/\j'.obj (j.nobj+1)=[sc (.bool false),sc (.int .i64 0),nilS,nilS]/\j'.obj o=[sc (.bool x.out),sc (.int .i64 (N.idxOf x.head.pred:Nat)),sl i2 x.head.terms.length (Dc lo x.head.terms),sl i3 k xs]/\Own j j' i3 k/\xs.length=k*3/\Agt (EL (RL N lo) (x.body.take k) xs)) x.body.length
   ⟨0,1,[],Agm,Agm,by simp[upd,h2],by simp[upd,h3],by simp[upd,h4],Ago,Ago,rfl,hK,a3,az,ob,Own.nil _ _,by simp,rfl⟩ ?_
  clear h1 h2 h3 h4 bb az ob hK a3 a6;rintro m s j' ⟨k,i3,xs,rfl,hk,h2,h3,h4,bz,bw,bv,hK,a3,az,ob,hO,be,hX⟩;have a6:=hK.nobj;by_cases a7:k<x.body.length
  ·have ah:=List.getElem?_eq_getElem a7;have av:=Afa a7;obtain⟨ha,ia,r,hd⟩:=Mx hb ah;have hR:=fun j=>bn lo ido x.body[k] ia av a4 ba.out (bi _ av) j;generalize x.body[k]=a at hd ah ha hR av;have HG:Agt (x.body[k]?=some a):=ah;clear ah av
   repeat' (first|refine Z1 ?_|(refine Z8 ?_;intro κ hκ)|(refine Z4 ?_;clear hκ κ)|(refine Z2 ?_ ?_<;>intro h ai<;>try exact Xp)|(refine Z6 ?_;intro idn jn ak am af aa ae ab)|(refine Z5 ?_;refine Xi (hR _) ?_;rintro _ _ ⟨i4,rfl,ax⟩;(have bd:=ax.obj;have a0:=ax.nobj;simp only[Aa,Ab]at a0))|refine Z3 ?_|exact⟨⟩|(apply hκ.out;clear hκ κ))
   rename_i j4;have bp:=((hK.new [sc (.bool false),sc (.int .i64 0),nilS]).put hK.nobj _).trans ax;have bo:=Own.keep (Own.put (Own.new hO [sc (.bool false),sc (.int .i64 0),nilS]) j'.nobj [sc (.bool a.nt),sc (.int .i64 (N.idxOf a.pred:Nat)),sl ia a.terms.length (Ay a.terms)]) ax;refine Bm (by first|exact Ed) ((bp.new _).put Agm _) (Own.put (Own.new bo _) _ _) (by decide) (by rfl) be (by rfl) (by rfl) (by decide) Agm Agm ?_;intro idn jn ak am af aa ae ab;simp only[Ab,Aa]at aa;refine Z3 ?_
   repeat' (first|refine Z1 ?_|(refine Z8 ?_;intro κ hκ)|(refine Z4 ?_;clear hκ κ)|(refine Z2 ?_ ?_<;>intro h ai<;>try exact Xp)|(refine Z6 ?_;intro idn jn ak am af aa ae ab)|refine Z3 ?_|exact⟨⟩|(apply hκ.out;clear hκ κ))
   refine⟨x.body.length-(k+1),Agm,k+1,idn,_,rfl,Agm,by simp,am.put Agm _,Agm,rfl,Own.put ak _ _,by simp;omega,?_⟩;rw[Agt,Ad3,HG.out];exact EL.append hX.out (EL.single ⟨i4,rfl⟩)
  ·have bg:k=x.body.length:=Agm;subst bg;rw[Adz]at hX
   repeat' (first|refine Z1 ?_|(refine Z8 ?_;intro κ hκ)|(refine Z4 ?_;clear hκ κ)|(refine Z2 ?_ ?_<;>intro h ai<;>try exact Xp)|(refine Z6 ?_;intro idn jn ak am af aa ae ab)|refine Z3 ?_|exact⟨⟩|(apply hκ.out;clear hκ κ))
   exact⟨_,rfl,_,rfl,⟨i2,i3,xs,hX.out,rfl⟩,hK.put Agm _⟩
theorem Nk {k:Int}(h0:0<=k)(h1:k<26):Co k=UInt8.ofNat (IntKind.u8.wrap (65+k)).toNat:=by
 unfold Co;rw[Int.tmod_eq_of_lt h0 h1,i64w Agm Agm]
def WT (l:List Tx)(a:RAtom):Prop:=∀w∈a.terms,DT w/\w.length<=1000/\(Ad w=true->0<=Br l w/\Br l w<26)
def WA (N l:List Tx)(a:RAtom):Prop:=a.pred∈N/\0<a.terms.length/\a.terms.length<=1000/\a.pred.length<=1000/\WT l a
structure WI (N:List Tx)(x:RItem):Prop where
 fits:x.fits
 short:x.short
 va:∀a∈Ae x,VA a
 vh:VA x.head
 vb:∀a∈x.body,VA a
 mem:x.head.pred∈N
 body:x.body.length<=5
 out:x.out=true->x.body=[]
 head:x.out=false->x.head.nt=false/\WA N (Au x) x.head
 wa:∀a∈x.body,WA N (Au x) a
theorem T9 {acc:List Tx}{t u:Tx}(h:t∈acc\/(t=u/\Ad u=true)):t∈De acc u:=by
 unfold De;split
 ·rcases h with h|⟨rfl,-⟩
  ·exact Aew.2 (.inl h)
  ·exact Aew.2 (.inr (by simp))
 ·rename_i hn;rcases h with h|⟨rfl,hv⟩
  ·exact h
  ·exact Classical.byContradiction fun hm=>hn ⟨hv,hm⟩
theorem Ov:∀(ts acc:List Tx) (t:Tx),(t∈acc\/(t∈ts/\Ad t=true))->t∈Dd acc ts
 |[],acc,t,h=>by
  rcases h with h|⟨h,-⟩
  ·exact h
  ·cases h
 |u::ts,acc,t,h=>by
  show t∈Dd (De acc u) ts;apply Ov ts;rcases h with h|⟨h,hv⟩
  ·exact .inl (T9 (.inl h))
  ·rcases Aeq.1 h with rfl|h
   ·exact .inl (T9 (.inr ⟨rfl,hv⟩))
   ·exact .inr ⟨h,hv⟩
theorem eS {ls:List RAtom}(h:∀a∈ls,a.terms.length<=3):(ls.flatMap (·.terms)).length<=ls.length*3:=by
 induction ls with
 |nil=>simp
 |cons a ls ih=>
  have h2:=ih fun b hb=>h b (by simp[hb]);have h3:=h a (by simp);simp only[Ae5,Aee,Aen];omega
theorem Ak {x:RItem}{a:RAtom}(h:(x.out=false/\a=x.head)\/a∈x.body):a∈Ae x:=by
 unfold Ae;rcases h with⟨h,rfl⟩|h
 ·exact Aew.2 (.inl (by rw[h];simp))
 ·exact Aew.2 (.inr h)
theorem L1 {x:RItem}(hw:Bv x){a:RAtom}(ha:a∈Ae x){w:Tx}(hm:w∈a.terms)(hv:Ad w=true):0<=Br (Au x) w/\Br (Au x) w<26:=by
 have h1:w∈Au x:=Ov _ _ _ (.inr ⟨Aev.2 ⟨a,ha,hm⟩,hv⟩);have h2:=Afd h1;have h3:=T1 ((Ae x).flatMap (·.terms)) [];obtain⟨q1,q2,q3⟩:=hw;have h4:(Ae x).length<=6/\∀b∈Ae x,b.terms.length<=3:=by
  cases ho:x.out with
  |true=>
   obtain⟨-,-,e⟩:=q2 ho;simp[Ae,ho,e]
  |false=>
   obtain⟨e1,-,e2,e3⟩:=q3 ho;refine⟨by simp[Ae,ho];omega,fun b hb=>?_⟩;simp[Ae,ho]at hb;rcases hb with rfl|hb
   ·exact e1.2.2.1
   ·exact (e3 b hb).2.2.1
 have h5:=eS h4.2;have h6:(Au x).length<=18:=by
  unfold Au;rw[Aem,Aed]at h3;omega
 unfold Br;rw[if_pos h1];omega
theorem Aca {t:Tx}{N:List Tx}{l:List RItem}{cs:List AV}{r:Tx}(hl:t.length<=1000)(hp:Bz 16 t= .got l r)(hB:Bk N l cs)(af:∀x∈l,Bv x):∀x∈l,WI N x:=by
 intro x hx;have aa:=Px 16 t l r hp x hx;have ae:=J0 (T:=DT) dN 16 t l r hp x hx;have ab:=Qk hl hp x hx;have hm:=Gq hB.el x hx;have hw:=af x hx;have hf:=hB.fits x hx;have ac:∀a,a∈Ae x->a.pred∈N->Da a->short a->a.terms.length<=1000->WA N (Au x) a:=fun a ha hN hW hs hn=>
  ⟨hN,List.length_pos_iff.2 hW.2.1,hn,hs.1,fun w hm=>⟨ae a ha w hm,hs.2.2 w hm,fun hv=>L1 hw ha hm hv⟩⟩
 refine⟨hf,ab,aa,?_,?_,hm.1,?_,hB.out x hx,?_,?_⟩
 ·cases ho:x.out with
  |true=>intro w ad;rw[(hw.2.1 ho).2.1]at ad;cases ad
  |false=>exact aa x.head (Ak (.inl ⟨ho,rfl⟩))
 ·exact fun a ha=>aa a (Ak (.inr ha))
 ·cases ho:x.out with
  |true=>rw[hB.out x hx ho];simp
  |false=>exact (hw.2.2 ho).2.2.1
 ·intro ho;obtain⟨e1,e2,-⟩:=hw.2.2 ho;exact⟨e2,ac x.head (Ak (.inl ⟨ho,rfl⟩)) hm.1 e1 ab.1 hf.2.1⟩
 ·intro a ha;have ho:x.out=false:=by
   cases h:x.out with
   |false=>rfl
   |true=>rw[hB.out x hx h]at ha;cases ha
  exact ac a (Ak (.inr ha)) (hm.2 a ha) ((hw.2.2 ho).2.2.2 a ha) (ab.2 a ha) (hf.2.2 a ha)
def Bg (l:List Tx)(a:RAtom):RAtom:={nt:=a.nt,pred:=a.pred,terms:=a.terms.map (Cx l)}
def ren (x:RItem):RItem:={out:=x.out,head:=Bg (Au x) x.head,body:=x.body.map (Bg (Au x))}
theorem C6 {k:Int}(h0:0<=k)(h1:k<26):((Co k).toNat:Int)=65+k:=by
 rw[Nk h0 h1,u8w Agm Agm];rw[UInt8.toNat_ofNat_of_lt' (by show (65+k).toNat<256;omega)];omega
theorem C7 {k:Int}(h0:0<=k)(h1:k<26):A8 (Co k).toNat=true:=by
 rw[C6 h0 h1];simp[A8];omega
theorem Gd {l:List Tx}{w:Tx}(hv:Ad w=true->0<=Br l w/\Br l w<26):Ad (Cx l w)=Ad w:=by
 unfold Cx;split
 ·rename_i h;obtain⟨h0,h1⟩:=hv h;rw[h];exact C7 h0 h1
 ·rfl
theorem Ab0 {l:List Tx}{w:Tx}(hD:DT w)(hv:Ad w=true->0<=Br l w/\Br l w<26):Am (Cx l w)=(Ad w,if Ad w=true then Br l w else (Am w).2):=by
 unfold Cx;split
 ·rename_i h;obtain⟨h0,h1⟩:=hv h;rw[Dy (C7 h0 h1),C6 h0 h1,h];congr 1;omega
 ·rename_i h;have h':Ad w=false:=by simpa using h
  rw[h'];cases w with
  |nil=>rfl
  |cons b r=>rw[Li h']
theorem Aav {N l:List Tx}{a:RAtom}(h:WA N l a):∀w∈a.terms,DT w/\(Ad w=true->0<=Br l w/\Br l w<26):=fun w hw=>⟨(h.2.2.2.2 w hw).1,(h.2.2.2.2 w hw).2.2⟩
theorem qS (l:List Tx):∀(ts:List Tx) (k:Nat),0<k->Jr l k ts=A7 (ts.map (Cx l))
 |[],k,_=>rfl
 |t::ts,k,hk=>by
  rw[Jr,qS l ts (k+1) Agm,wrS,if_neg Agm];simp[A7]
theorem nI {l ts:List Tx}(h:ts≠[]):Jr l 0 ts=40::A2 (ts.map (Cx l)):=by
 cases ts with
 |nil=>exact absurd rfl h
 |cons t ts=>rw[Jr,qS l ts 1 Agm];simp[wrS,A2]
theorem Ry {l:List Tx}{a:RAtom}(h:a.terms≠[]):Hs l a=Bb (Bg l a):=by
 unfold Hs Bb A4;rw[nI h];cases ha:a.nt<;>simp[Bg,ha]
theorem qT {l:List Tx}:∀(ls:List RAtom) (k:Nat),0<k->(∀a∈ls,a.terms≠[])->Hg l k ls=A7 ((ls.map (Bg l)).map Bb)
 |[],k,_,_=>rfl
 |a::ls,k,hk,h=>by
  rw[Hg,qT ls (k+1) Agm (fun a' h'=>h a' (by simp[h'])),nK,if_neg Agm,Ry (h a (by simp))];simp[A7]
theorem nJ {l:List Tx}{ls:List RAtom}(h:∀a∈ls,a.terms≠[]):Hg l 0 ls=if ls=[]then []else 58::45::A2 ((ls.map (Bg l)).map Bb):=by
 cases ls with
 |nil=>rfl
 |cons a ls=>
  rw[Hg,qT ls 1 Agm (fun a' h'=>h a' (by simp[h'])),Ry (h a (by simp)),if_neg (by simp)];simp[nK,A2]
theorem I3 {x:RItem}(hw:Bv x):Cu x=A0 (ren x)++[46]:=by
 obtain⟨-,h2,h3⟩:=hw;unfold Cu A0;cases ho:x.out with
 |true=>simp[ren,Bg,ho]
 |false=>
  obtain⟨q1,q2,-,q3⟩:=h3 ho;rw[if_neg (by simp),if_neg (by simp[ren,ho]),Ry q1.2.1,nJ (fun a ha=>(q3 a ha).2.1),Sd (by simpa[Bg]using q2)];unfold Cv;simp[ren]
theorem W2 {N l:List Tx}{a:RAtom}(h:Da a)(hw:∀w∈a.terms,Ad w=true->0<=Br l w/\Br l w<26):Da (Bg l a):=by
 obtain⟨h1,h2,h3,h4⟩:=h;refine⟨h1,by simpa[Bg]using h2,by simpa[Bg]using h3,fun t ht=>?_⟩;simp only[Bg,Aey]at ht;obtain⟨w,hm,rfl⟩:=ht;unfold Cx;split
 ·rename_i hv;obtain⟨q0,q1⟩:=hw w hm hv;exact⟨by simp,fun b hb=>by simp at hb;subst hb;exact .inl (C7 q0 q1)⟩
 ·exact h4 w hm
theorem Ja {N:List Tx}{x:RItem}(hw:Bv x)(hi:WI N x):Bv (ren x):=by
 obtain⟨h1,h2,h3⟩:=hw;refine⟨h1,fun ho=>?_,fun ho=>?_⟩
 ·obtain⟨q1,q2,q3⟩:=h2 ho;exact⟨q1,by simp[ren,Bg,q2],by simp[ren,q3]⟩
 ·obtain⟨q1,q2,q3,q4⟩:=h3 ho;refine⟨W2 (N:=N) q1 (fun w hm=>(Aav (hi.head ho).2 w hm).2),q2,by simpa[ren]using q3,fun a ha=>?_⟩;simp only[ren,Aey]at ha;obtain⟨a',aa,rfl⟩:=ha;exact W2 (N:=N) (q4 a' aa) (fun w hm=>(Aav (hi.wa a' aa) w hm).2)
theorem Il {l:List RItem}(hw:∀x∈l,Bv x):Cg l=Bj (l.map ren):=by
 unfold Cg Bj;induction l with
 |nil=>rfl
 |cons x l ih=>
  rw[Ae5,Ad9,Ae5,I3 (hw x (by simp)),ih fun y hy=>hw y (by simp[hy])]
theorem Qq {N:List Tx}{l:List RItem}(hw:∀x∈l,Bv x)(hi:∀x∈l,WI N x):Cp (Cg l)=l.map ren:=by
 have h2:∀y∈l.map ren,Bv y:=fun y hy=>by
  obtain⟨x,hx,rfl⟩:=Aey.1 hy;exact Ja (hw x hx) (hi x hx)
 rw[Il hw];unfold Cp;rw[Yh _ h2,Ad6]
 conv=>rhs;rw[<-Aez (l.map ren)]
 apply Ae0;intro y hy;exact (Lf (h2 y hy)).1
theorem gR (l:List Tx)(w:Tx)(hD:DT w)(hv:Ad w=true->0<=Br l w/\Br l w<26)(j:St):ACalls Tryz.prog 149 [ag (Jb l w)] j fun r j'=>r=str (Cx l w)/\Keep j j':=by
 have ab:∀z:UInt8,({data:=#[z]}:ByteArray)=bs [z]:=fun _=>rfl;unfold Jb;cases hb:Ad w with
 |true=>
  obtain⟨h0,h1⟩:=hv hb;have hL:Agt (Cx l w=[UInt8.ofNat (IntKind.u8.wrap (65+Br l w)).toNat]):=by rw[Agt,Cx,if_pos hb,Nk h0 h1]
  rw[if_pos rfl];generalize Br l w=k at h0 h1 hL;clear hv;refine Z9 14 [.tmp 2] Tryz.func149 ?_
  repeat' (first|refine Z1 ?_|(refine Z8 ?_;intro κ hκ)|(refine Z4 ?_;clear hκ κ)|(refine Z2 ?_ ?_<;>intro h aa<;>try exact Xp)|refine Z7 ?_|exact⟨⟩|(apply hκ.out;clear hκ κ))
  exact⟨_,rfl,by rw[hL.out],Xs⟩
 |false=>
  obtain⟨d1,d2,d3⟩:Lib.itoa (Am w).2=w/\0<=(Am w).2/\(Am w).2<=999:=by
   rcases hD with h|h
   ·rw[hb]at h;cases h
   ·exact h.2
  have hI:=fun j=>X7 (Am w).2 d2 Agm j;rw[if_neg (by simp)];rw[d1]at hI;have hL:Agt (Cx l w=w):=by rw[Agt,Cx,if_neg (by rw[hb];simp)]
  generalize (Am w).2=v at hI;clear hv hD;refine Z9 14 [.tmp 2] Tryz.func149 ?_
  repeat' (first|refine Z1 ?_|(refine Z8 ?_;intro κ hκ)|(refine Z4 ?_;clear hκ κ)|(refine Z2 ?_ ?_<;>intro h aa<;>try exact Xp)|(refine Z5 ?_;refine Xi (hI _) ?_;rintro _ _ ⟨rfl,rfl⟩)|refine Z7 ?_|exact⟨⟩|(apply hκ.out;clear hκ κ))
  exact⟨_,rfl,by rw[hL.out],Xs⟩
theorem iJ {l ts:List Tx}{k:Nat}{w:Tx}(h:ts[k]?=some w):∃r,(Dc l ts).drop (k*2)=sc (.bool (Ad w))::sc (.int .i64 (if Ad w=true then Br l w else (Am w).2))::r:=by
 have hE:∀ts:List Tx,EL (fun w c=>c=Jb l w) ts (Dc l ts):=by
  intro ts;induction ts with
  |nil=>rfl
  |cons a l ih=>exact⟨Jb _ a,Dc _ l,rfl,ih,by simp[Dc]⟩
 obtain⟨c,r,rfl,e⟩:=EL.get (z:=2) (fun a c h=>by rw[h];rfl) (hE ts) h;exact⟨r,e⟩
def yC (l:List Tx)(k:Nat)(ts:List Tx):Tx:=if k=0 then [40]else Jr l 0 (ts.take k)
theorem sU {l ts:List Tx}{k:Nat}{w:Tx}(h:ts[k]?=some w):yC l (k+1) ts=yC l k ts++((if k=0 then []else [44])++Cx l w):=by
 have hk:k<ts.length:=(List.getElem?_eq_some_iff.1 h).1;unfold yC;rw[if_neg Agm,Ad3,h,Afe,Vu,Aef,Aej Agm,Aed];by_cases h0:k=0
 ·subst h0;simp[Jr,wrS]
 ·rw[if_neg h0,if_neg h0];simp[wrS,h0]
theorem U2 (N l:List Tx)(idn ids:Nat)(a:RAtom)(ha:a.pred∈N)(hN:N.length<=2000)(hp:0<a.terms.length)(hn:a.terms.length<=1000)(hpl:a.pred.length<=1000)(hw:WT l a)(j:St):
  ACalls Tryz.prog 182 [ag [sc (.int .i64 (N.idxOf a.pred:Nat)),sl ids a.terms.length (Dc l a.terms)],sl idn N.length (N.map str)] j fun r j'=>r=str (a.pred++Jr l 0 a.terms++[41])/\Keep j j':=by
 have av:=iI l a.terms;have az:({data:=#[40]}:ByteArray)=bs [40]:=rfl;have ax:({data:=#[44]}:ByteArray)=bs [44]:=rfl;have ay:({data:=#[41]}:ByteArray)=bs [41]:=rfl;have ai:=Afd ha;have ap:(N.map str).drop (N.idxOf a.pred)=str a.pred::(N.map str).drop (N.idxOf a.pred+1):=by
  have:=En ai;rwa[Afc ai]at this
 generalize N.idxOf a.pred=ix at ai ap;refine Z9 33 [.tmp 4] Tryz.func182 ?_
 repeat' (first|refine Z1 ?_|(refine Z8 ?_;intro κ hκ)|(refine Z4 ?_;clear hκ κ)|(refine Z2 ?_ ?_<;>intro h ac<;>try exact Xp)|refine Z7 ?_|exact⟨⟩|(apply hκ.out;clear hκ κ))
 refine Ag (fun m s j'=>∃(k:Nat) (acc:Tx),m=a.terms.length-k/\k<=a.terms.length/\s 5=str acc/\s 15=sl ids a.terms.length (Dc l a.terms)/\s 16=sc (.int .i64 a.terms.length)/\s 17=sc (.int .i64 k)/\Keep j j'/\acc.length<=1001+k*1001/\Agt (acc=a.pred++yC l k a.terms)) a.terms.length
  ⟨0,a.pred++[40],Agm,Agm,Ago,Ago,Ago,rfl,Xs,by simp;omega,by simp[Agt,yC]⟩ ?_
 rintro m s j' ⟨k,acc,rfl,hk,h5,a4,a3,a0,hK,aw,hA⟩;have au:=hK.nobj;by_cases aj:k<a.terms.length
 ·have ab:=List.getElem?_eq_getElem aj;obtain⟨w1,w2,w3⟩:=hw a.terms[k] (Afa aj);obtain⟨r,hd⟩:=iJ (l:=l) ab;have aa:Agt (a.pred++yC l (k+1) a.terms=acc++((if k=0 then []else [44])++Cx l a.terms[k])):=by
   rw[Agt,sU ab,hA.out,Aeg]
  have am:=kM l a.terms[k] w2;have hT:=fun j=>gR l a.terms[k] w1 w3 j;unfold Jb at hT;generalize Cx l a.terms[k]=tw at aa hT am;generalize (if Ad a.terms[k]=true then Br l a.terms[k]else (Am a.terms[k]).2)=vw at hT hd;generalize Ad a.terms[k]=bw at hT hd;clear ab w1 w2 w3;by_cases ae:k=0
  ·have ao:decide ((0:Int)<(k:Int))=false:=by simp[ae]
   have aa:Agt (a.pred++yC l (k+1) a.terms=acc++tw):=by rw[Agt,aa.out,if_pos ae];simp
   clear ae
   repeat' (first|refine Z1 ?_|(refine Z8 ?_;intro κ hκ)|(refine Z4 ?_;clear hκ κ)|(refine Z2 ?_ ?_<;>intro h ac<;>try exact Xp)|(refine Z5 ?_;refine Xi (hT _) ?_;rintro _ _ ⟨rfl,ad⟩;(have af:=ad.obj;have ah:=ad.nobj))|refine Z7 ?_|exact⟨⟩|(apply hκ.out;clear hκ κ))
   exact⟨a.terms.length-(k+1),Agm,k+1,acc++tw,rfl,Agm,rfl,by simp,((hK.new _).put hK.nobj _).trans ad,by simp only[Aee];omega,by rw[Agt,aa.out]⟩
  ·have ao:decide ((0:Int)<(k:Int))=true:=by simp;omega
   have aa:Agt (a.pred++yC l (k+1) a.terms=acc++([44]++tw)):=by rw[Agt,aa.out,if_neg ae]
   clear ae
   repeat' (first|refine Z1 ?_|(refine Z8 ?_;intro κ hκ)|(refine Z4 ?_;clear hκ κ)|(refine Z2 ?_ ?_<;>intro h ac<;>try exact Xp)|(refine Z5 ?_;refine Xi (hT _) ?_;rintro _ _ ⟨rfl,ad⟩;(have af:=ad.obj;have ah:=ad.nobj))|refine Z7 ?_|exact⟨⟩|(apply hκ.out;clear hκ κ))
   exact⟨a.terms.length-(k+1),Agm,k+1,acc++([44]++tw),rfl,Agm,by rw[Aeg],by simp,((hK.new _).put hK.nobj _).trans ad,by simp only[Aee,Ae4];omega,by rw[Agt,aa.out]⟩
 ·have an:k=a.terms.length:=Agm;subst an;have ak:acc=a.pred++Jr l 0 a.terms:=by rw[hA.out,yC,if_neg Agm,Adz]
  have HA:Agt _:=ak;clear hA ak
  repeat' (first|refine Z1 ?_|(refine Z8 ?_;intro κ hκ)|(refine Z4 ?_;clear hκ κ)|(refine Z2 ?_ ?_<;>intro h ac<;>try exact Xp)|refine Z7 ?_|exact⟨⟩|(apply hκ.out;clear hκ κ))
  first
  |exact⟨_,rfl,by rw[HA.out],hK⟩
  |exact⟨_,rfl,by rw[HA.out]⟩
end Go.Proofs.YtmoeoppbmhfbpabGreatDoorG
