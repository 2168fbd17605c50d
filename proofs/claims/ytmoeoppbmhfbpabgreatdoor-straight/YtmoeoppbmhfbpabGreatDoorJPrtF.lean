import Derived.Test.YtmoeoppbmhfbpabGreatDoorJShelf
import Derived.Test.YtmoeoppbmhfbpabGreatDoorJAbsWp
set_option maxHeartbeats 16000000
set_option maxRecDepth 100000
set_option linter.all false
namespace Go.Proofs.YtmoeoppbmhfbpabGreatDoorJ
open Go.Abs
def RL (N l:List Tx)(a:Ai)(c:List AV):Prop:=∃ids,c=[sc (.bool a.nt),sc (.int .i64 (N.idxOf a.pred:Nat)),sl ids a.terms.length (C8 l a.terms)]
theorem sX {N l:List Tx}(a:Ai)(c:List AV)(h:RL N l a c):c.length=3:=by obtain⟨ids,rfl⟩:=h;rfl
theorem Aay {N l:List Tx}{ls:List Ai}{cs:List AV}{i:Nat}{a:Ai}(h:EL (RL N l) ls cs)(hi:ls[i]?=some a):∃ia r,cs.drop (i*3)=sc (.bool a.nt)::sc (.int .i64 (N.idxOf a.pred:Nat))::sl ia a.terms.length (C8 l a.terms)::r:=by
 obtain⟨c,r,⟨ia,rfl⟩,e⟩:=EL.get sX h hi;exact⟨ia,r,e⟩
def RI (N l:List Tx)(x:RItem)(c:List AV):Prop:=∃ih id b,EL (RL N l) x.body b/\c=[sc (.bool x.out),sc (.int .i64 (N.idxOf x.head.pred:Nat)),sl ih x.head.terms.length (C8 l x.head.terms),sl id x.body.length b]
theorem Yh (N:List Tx)(x:RItem)(c:List AV)(hc:PI N x c)(ho:x.out=true->x.body=[])(hx:x.fits)(hV:∀a∈Af x,VA a)(bg:VA x.head)(bh:∀a∈x.body,VA a)(y:St):
  ACalls Tryz.prog 93 [ag c] y fun r y'=>∃c',r=ag c'/\RI N (Dw x) x c'/\VL (Dw x)/\Keep y y':=by
 have a8:=fun y=>P7 N x c hc ho hx hV y;have a4:=qW hx;have bo:=hx.1;have be:=hx.2.2;obtain⟨hm,ih,id,b,hb,rfl⟩:=hc;have bq:=EL.length Eb hb;have aw:=fun lo ido (hl:lo.length<=10000000) hL y=>M4 lo ido (N.idxOf x.head.pred:Nat) ih x.head hl hL bg hx.2.1 y;have bl:=fun lo ido (a:Ai) ia ha (hl:lo.length<=10000000) hL hv y=>M4 lo ido (N.idxOf a.pred:Nat) ia a hl hL hv (be a ha) y;generalize Dw x=lo at a8 a4;have aw:=fun ido hL y=>aw lo ido a4 hL y;refine Z9 39 [.cell 2 125] Tryz.func93 ?_
 repeat' (first|refine Z1 ?_|(refine Z8 ?_;intro κ hκ)|(refine Z4 ?_;clear hκ κ)|(refine Z2 ?_ ?_<;>intro h ai<;>try exact Xp)|(refine Z6 ?_;intro idn yn ak am af aa ae ab)|(refine Z5 ?_;refine Xi (a8 _) ?_;rintro _ _ ⟨ido,rfl,bi,a5⟩;(have aj:=a5.obj;have ao:=a5.nobj;simp only[Aa]at ao))|refine Z3 ?_|exact⟨⟩|(apply hκ.out;clear hκ κ))
 rename_i y1;have au:y1.obj y.nobj=[sc (.bool x.out),sc (.int .i64 (N.idxOf x.head.pred:Nat)),sl ih x.head.terms.length (Av x.head.terms),sl id x.body.length b]:=by
  rw[aj _ Aea,Ae Aea,Ao]
 have ap:y1.obj (y.nobj+1)=[sc (.bool false),sc (.int .i64 0),nilS,nilS]:=by
  rw[aj _ Aea,Bu (by rw[Aa];omega) (by rw[Aa];omega)]
 have ay:Keep y y1:=Xs;clear aj a5;have ba:Aec (VL lo):=bi;refine Bq (Q:=fun e s y'=>e= .normal/\∃o i2:Nat,s 1=ptr y.nobj 0/\s 2=ptr (y.nobj+1) 0/\s 3=sl ido lo.length (lo.map encI)/\s 4=ptr o 0/\y.nobj+1<o/\o<y'.nobj/\y'.obj y.nobj=[sc (.bool x.out),sc (.int .i64 (N.idxOf x.head.pred:Nat)),sl ih x.head.terms.length (Av x.head.terms),sl id x.body.length b]/\y'.obj (y.nobj+1)=[sc (.bool false),sc (.int .i64 0),nilS,nilS]/\y'.obj o=[sc (.bool x.out),sc (.int .i64 (N.idxOf x.head.pred:Nat)),sl i2 x.head.terms.length (C8 lo x.head.terms),nilS]/\Keep y y') ?_ ?_
 ·refine A3 Ah (fun _=>True) [8] [0,1,2,3,4] 4 #[true,true,true,true,true,false,false,false,false] Ad9 (fun _ _ _ h=>by cases h.1) ?_;intro κ hκ;refine Z3 ?_;refine hκ.out _ ?_;clear hκ κ;have a9:=fun y=>aw ido ba.out y;refine Dz (rs:=[5,7]) Ad9 (by simp) ?_;intro i hi;simp only[Aci,Ac0,Ad5]at hi;rcases hi with rfl|rfl
  ·refine Ar ?_;intro κ hκ;refine Z3 ?_;refine ACalls.mono (a9 _) ?_;rintro _ y2 ⟨i2,rfl,ad⟩;have ac:=ad.obj;have an:=ad.nobj;refine Z3 ?_;refine hκ.out _ _ ⟨Aq ad,?_⟩;clear hκ κ;refine Dz (rs:=[6,7]) Ad9 (by simp) ?_;intro i hi;simp only[Aci,Ac0,Ad5]at hi;rcases hi with rfl|rfl
   ·refine Ar ?_;intro κ hκ;refine Z3 ?_;refine hκ.out _ _ ⟨Aq ad,?_⟩;clear hκ κ;refine Am (i:=7) Ad9 ?_;refine Ar ?_;intro κ hκ;refine Z3 ?_;refine hκ.out _ _ ⟨Aq (ad.new _),?_⟩;clear hκ κ;refine Am (i:=8) Ad9 ?_;refine Ar ?_;intro κ hκ;refine Z3 ?_;refine hκ.out _ _ ⟨Bt rfl,?_⟩;clear hκ κ;refine A7 Ad9 ⟨rfl,y2.nobj,i2,Ad8,Ad8,Ad8,Ad8,Ad6,Aeb,?_,?_,Ak,?_⟩
    ·rw[Aj Ad6,Ae Ad6,ac _ Ad6,au]
    ·rw[Aj Ad6,Ae Ad6,ac _ Ad6,ap]
    ·exact ((ay.trans ad).new _).put Ad6 _
   ·refine Ar ?_;intro κ hκ;refine Z3 ?_;refine hκ.out _ _ ⟨Aq (ad.new _),?_⟩;clear hκ κ;refine Am (i:=6) Ad9 ?_;refine Ar ?_;intro κ hκ;refine Z3 ?_;refine hκ.out _ _ ⟨Aq (ad.new _),?_⟩;clear hκ κ;refine Am (i:=8) Ad9 ?_;refine Ar ?_;intro κ hκ;refine Z3 ?_;refine hκ.out _ _ ⟨Bt rfl,?_⟩;clear hκ κ;refine A7 Ad9 ⟨rfl,y2.nobj,i2,Ad8,Ad8,Ad8,Ad8,Ad6,Aeb,?_,?_,Ak,?_⟩
    ·rw[Aj Ad6,Ae Ad6,ac _ Ad6,au]
    ·rw[Aj Ad6,Ae Ad6,ac _ Ad6,ap]
    ·exact ((ay.trans ad).new _).put Ad6 _
  ·refine Ar ?_;intro κ hκ;refine Z3 ?_;refine hκ.out _ _ ⟨Aq ((Keep.refl _).new _),?_⟩;clear hκ κ;refine Am (i:=5) Ad9 ?_;refine Ar ?_;intro κ hκ;refine Z3 ?_;refine ACalls.mono (a9 _) ?_;rintro _ y2 ⟨i2,rfl,ad⟩;have ac:=ad.obj;have an:=ad.nobj;simp only[Aa]at an;refine Z3 ?_;refine hκ.out _ _ ⟨Aq (((Keep.refl _).new _).trans ad),?_⟩;clear hκ κ;refine Am (i:=6) Ad9 ?_;refine Ar ?_;intro κ hκ;refine Z3 ?_;refine hκ.out _ _ ⟨Aq (((Keep.refl _).new _).trans ad),?_⟩;clear hκ κ;refine Am (i:=8) Ad9 ?_;refine Ar ?_;intro κ hκ;refine Z3 ?_;refine hκ.out _ _ ⟨Bt rfl,?_⟩;clear hκ κ;refine A7 Ad9 ⟨rfl,y1.nobj,i2,Ad8,Ad8,Ad8,Ad8,Ad6,Aeb,?_,?_,Ak,?_⟩
   ·rw[Aj Ad6,ac _ (by rw[Aa];omega),Ae Ad6,au]
   ·rw[Aj Ad6,ac _ (by rw[Aa];omega),Ae Ad6,ap]
   ·exact ((ay.new _).trans ad).put Ad6 _
 ·rintro e s y2 ⟨rfl,o,i2,h1,h2,h3,h4,bp,a3,bb,az,ob,hK⟩;have a6:=hK.nobj;clear ay au ap ao aw
  repeat' (first|refine Z1 ?_|(refine Z8 ?_;intro κ hκ)|(refine Z4 ?_;clear hκ κ)|(refine Z2 ?_ ?_<;>intro h ai<;>try exact Xp)|(refine Z6 ?_;intro idn yn ak am af aa ae ab)|refine Z3 ?_|exact⟨⟩|(apply hκ.out;clear hκ κ))
  refine Ad (fun m s y'=>∃(k i3:Nat) (xs:List AV),m=x.body.length-k/\k<=x.body.length/\s 2=ptr (y.nobj+1) 0/\s 3=sl ido lo.length (lo.map encI)/\s 4=ptr o 0/\s 18=sl id x.body.length b/\s 19=sc (.int .i64 x.body.length)/\s 20=sc (.int .i64 k)/\Keep y y'/\o<y'.nobj/\y'.obj (y.nobj+1)=[sc (.bool false),sc (.int .i64 0),nilS,nilS]/\y'.obj o=[sc (.bool x.out),sc (.int .i64 (N.idxOf x.head.pred:Nat)),sl i2 x.head.terms.length (C8 lo x.head.terms),sl i3 k xs]/\Own y y' i3 k/\xs.length=k*3/\Aec (EL (RL N lo) (x.body.take k) xs)) x.body.length
   ⟨0,1,[],Ad6,Ad6,by simp[upd,h2],by simp[upd,h3],by simp[upd,h4],Ad8,Ad8,rfl,hK,a3,az,ob,Own.nil _ _,by simp,rfl⟩ ?_
  clear h1 h2 h3 h4 bb az ob hK a3 a6;rintro m s y' ⟨k,i3,xs,rfl,hk,h2,h3,h4,bv,bu,br,hK,a3,az,ob,hO,bd,hX⟩;have a6:=hK.nobj;by_cases a7:k<x.body.length
  ·have ah:=List.getElem?_eq_getElem a7;have av:=Ac2 a7;obtain⟨ha,ia,r,hd⟩:=N5 hb ah;have hR:=fun y=>bl lo ido x.body[k] ia av a4 ba.out (bh _ av) y;generalize x.body[k]=a at hd ah ha hR av;have HG:Aec (x.body[k]?=some a):=ah;clear ah av
   repeat' (first|refine Z1 ?_|(refine Z8 ?_;intro κ hκ)|(refine Z4 ?_;clear hκ κ)|(refine Z2 ?_ ?_<;>intro h ai<;>try exact Xp)|(refine Z6 ?_;intro idn yn ak am af aa ae ab)|(refine Z5 ?_;refine Xi (hR _) ?_;rintro _ _ ⟨i4,rfl,ax⟩;(have bc:=ax.obj;have a0:=ax.nobj;simp only[Aa,Ab]at a0))|refine Z3 ?_|exact⟨⟩|(apply hκ.out;clear hκ κ))
   rename_i y4;have bn:=((hK.new [sc (.bool false),sc (.int .i64 0),nilS]).put hK.nobj _).trans ax;have bm:=Own.keep (Own.put (Own.new hO [sc (.bool false),sc (.int .i64 0),nilS]) y'.nobj [sc (.bool a.nt),sc (.int .i64 (N.idxOf a.pred:Nat)),sl ia a.terms.length (Av a.terms)]) ax;refine Bn (by first|exact Fp) ((bn.new _).put Ad6 _) (Own.put (Own.new bm _) _ _) (by decide) (by rfl) bd (by rfl) (by rfl) (by decide) Ad6 Ad6 ?_;intro idn yn ak am af aa ae ab;simp only[Ab,Aa]at aa;refine Z3 ?_
   repeat' (first|refine Z1 ?_|(refine Z8 ?_;intro κ hκ)|(refine Z4 ?_;clear hκ κ)|(refine Z2 ?_ ?_<;>intro h ai<;>try exact Xp)|(refine Z6 ?_;intro idn yn ak am af aa ae ab)|refine Z3 ?_|exact⟨⟩|(apply hκ.out;clear hκ κ))
   refine⟨x.body.length-(k+1),Ad6,k+1,idn,_,rfl,Ad6,by simp,am.put Ad6 _,Ad6,rfl,Own.put ak _ _,by simp;omega,?_⟩;rw[Aec,Abv,HG.out];exact EL.append hX.out (EL.single ⟨i4,rfl⟩)
  ·have bf:k=x.body.length:=Ad6;subst bf;rw[Abt]at hX
   repeat' (first|refine Z1 ?_|(refine Z8 ?_;intro κ hκ)|(refine Z4 ?_;clear hκ κ)|(refine Z2 ?_ ?_<;>intro h ai<;>try exact Xp)|(refine Z6 ?_;intro idn yn ak am af aa ae ab)|refine Z3 ?_|exact⟨⟩|(apply hκ.out;clear hκ κ))
   exact⟨_,rfl,_,rfl,⟨i2,i3,xs,hX.out,rfl⟩,hK.put Ad6 _⟩
theorem L2 {k:Int}(h0:0<=k)(h1:k<26):Qc k=UInt8.ofNat (IntKind.u8.wrap (65+k)).toNat:=by
 unfold Qc;rw[Int.tmod_eq_of_lt h0 h1,i64w Ad6 Ad6]
def WT (l:List Tx)(a:Ai):Prop:=∀w∈a.terms,DT w/\w.length<=1000/\(Al w=true->0<=Cf l w/\Cf l w<26)
def WA (N l:List Tx)(a:Ai):Prop:=a.pred∈N/\0<a.terms.length/\a.terms.length<=1000/\a.pred.length<=1000/\WT l a
structure WI (N:List Tx)(x:RItem):Prop where
 fits:x.fits
 short:x.short
 va:∀a∈Af x,VA a
 vh:VA x.head
 vb:∀a∈x.body,VA a
 mem:x.head.pred∈N
 body:x.body.length<=5
 out:x.out=true->x.body=[]
 head:x.out=false->x.head.nt=false/\WA N (Dw x) x.head
 wa:∀a∈x.body,WA N (Dw x) a
theorem cA {acc:List Tx}{t u:Tx}(h:t∈acc\/(t=u/\Al u=true)):t∈Gx acc u:=by
 unfold Gx;split
 ·rcases h with h|⟨rfl,-⟩
  ·exact Aco.2 (.inl h)
  ·exact Aco.2 (.inr (by simp))
 ·rename_i hn;rcases h with h|⟨rfl,hv⟩
  ·exact h
  ·exact Classical.byContradiction fun hm=>hn ⟨hv,hm⟩
theorem Sx:∀(ts acc:List Tx) (t:Tx),(t∈acc\/(t∈ts/\Al t=true))->t∈Is acc ts
 |[],acc,t,h=>by
  rcases h with h|⟨h,-⟩
  ·exact h
  ·cases h
 |u::ts,acc,t,h=>by
  show t∈Is (Gx acc u) ts;apply Sx ts;rcases h with h|⟨h,hv⟩
  ·exact .inl (cA (.inl h))
  ·rcases Aci.1 h with rfl|h
   ·exact .inl (cA (.inr ⟨rfl,hv⟩))
   ·exact .inr ⟨h,hv⟩
theorem rS {ls:List Ai}(h:∀a∈ls,a.terms.length<=3):(ls.flatMap (·.terms)).length<=ls.length*3:=by
 induction ls with
 |nil=>simp
 |cons a ls ih=>
  have h2:=ih fun b hb=>h b (by simp[hb]);have h3:=h a (by simp);simp only[Acz,Ab6,Acf];omega
theorem Bv {x:RItem}{a:Ai}(h:(x.out=false/\a=x.head)\/a∈x.body):a∈Af x:=by
 unfold Af;rcases h with⟨h,rfl⟩|h
 ·exact Aco.2 (.inl (by rw[h];simp))
 ·exact Aco.2 (.inr h)
theorem Oo {x:RItem}(hw:Dh x){a:Ai}(ha:a∈Af x){w:Tx}(hm:w∈a.terms)(hv:Al w=true):0<=Cf (Dw x) w/\Cf (Dw x) w<26:=by
 have h1:w∈Dw x:=Sx _ _ _ (.inr ⟨Acn.2 ⟨a,ha,hm⟩,hv⟩);have h2:=Ac4 h1;have h3:=bS ((Af x).flatMap (·.terms)) [];obtain⟨q1,q2,q3⟩:=hw;have h4:(Af x).length<=6/\∀b∈Af x,b.terms.length<=3:=by
  cases ho:x.out with
  |true=>
   obtain⟨-,-,e⟩:=q2 ho;simp[Af,ho,e]
  |false=>
   obtain⟨e1,-,e2,e3⟩:=q3 ho;refine⟨by simp[Af,ho];omega,fun b hb=>?_⟩;simp[Af,ho]at hb;rcases hb with rfl|hb
   ·exact e1.2.2.1
   ·exact (e3 b hb).2.2.1
 have h5:=rS h4.2;have h6:(Dw x).length<=18:=by
  unfold Dw;rw[Ace,Ab5]at h3;omega
 unfold Cf;rw[if_pos h1];omega
theorem zQ {t:Tx}{N:List Tx}{l:List RItem}{cs:List AV}{r:Tx}(hl:t.length<=1000)(hp:Bj 16 t= .got l r)(hB:Bk N l cs)(af:∀x∈l,Dh x):∀x∈l,WI N x:=by
 intro x hx;have aa:=On 16 t l r hp x hx;have ae:=Hw (T:=DT) M9 16 t l r hp x hx;have ab:=Pk hl hp x hx;have hm:=O8 hB.el x hx;have hw:=af x hx;have hf:=hB.fits x hx;have ac:∀a,a∈Af x->a.pred∈N->Ea a->short a->a.terms.length<=1000->WA N (Dw x) a:=fun a ha hN hW hs hn=>
  ⟨hN,List.length_pos_iff.2 hW.2.1,hn,hs.1,fun w hm=>⟨ae a ha w hm,hs.2.2 w hm,fun hv=>Oo hw ha hm hv⟩⟩
 refine⟨hf,ab,aa,?_,?_,hm.1,?_,hB.out x hx,?_,?_⟩
 ·cases ho:x.out with
  |true=>intro w ad;rw[(hw.2.1 ho).2.1]at ad;cases ad
  |false=>exact aa x.head (Bv (.inl ⟨ho,rfl⟩))
 ·exact fun a ha=>aa a (Bv (.inr ha))
 ·cases ho:x.out with
  |true=>rw[hB.out x hx ho];simp
  |false=>exact (hw.2.2 ho).2.2.1
 ·intro ho;obtain⟨e1,e2,-⟩:=hw.2.2 ho;exact⟨e2,ac x.head (Bv (.inl ⟨ho,rfl⟩)) hm.1 e1 ab.1 hf.2.1⟩
 ·intro a ha;have ho:x.out=false:=by
   cases h:x.out with
   |false=>rfl
   |true=>rw[hB.out x hx h]at ha;cases ha
  exact ac a (Bv (.inr ha)) (hm.2 a ha) ((hw.2.2 ho).2.2.2 a ha) (ab.2 a ha) (hf.2.2 a ha)
def I3 (l:List Tx)(a:Ai):Ai:={nt:=a.nt,pred:=a.pred,terms:=a.terms.map (W7 l)}
def ren (x:RItem):RItem:={out:=x.out,head:=I3 (Dw x) x.head,body:=x.body.map (I3 (Dw x))}
theorem Ja {k:Int}(h0:0<=k)(h1:k<26):((Qc k).toNat:Int)=65+k:=by
 rw[L2 h0 h1,u8w Ad6 Ad6];rw[UInt8.toNat_ofNat_of_lt' (by show (65+k).toNat<256;omega)];omega
theorem Jb {k:Int}(h0:0<=k)(h1:k<26):Bl (Qc k).toNat=true:=by
 rw[Ja h0 h1];simp[Bl];omega
theorem yZ {l:List Tx}{w:Tx}(hD:DT w)(hv:Al w=true->0<=Cf l w/\Cf l w<26):Az (W7 l w)=(Al w,if Al w=true then Cf l w else (Az w).2):=by
 unfold W7;split
 ·rename_i h;obtain⟨h0,h1⟩:=hv h;rw[D7 (Jb h0 h1),Ja h0 h1,h];congr 1;omega
 ·rename_i h;have h':Al w=false:=by simpa using h
  rw[h'];cases w with
  |nil=>rfl
  |cons b r=>rw[Gr h']
theorem xO {N l:List Tx}{a:Ai}(h:WA N l a):∀w∈a.terms,DT w/\(Al w=true->0<=Cf l w/\Cf l w<26):=fun w hw=>⟨(h.2.2.2.2 w hw).1,(h.2.2.2.2 w hw).2.2⟩
theorem oQ (l:List Tx):∀(ts:List Tx) (k:Nat),0<k->Jh l k ts=Br (ts.map (W7 l))
 |[],k,_=>rfl
 |t::ts,k,hk=>by
  rw[Jh,oQ l ts (k+1) Ad6,wO,if_neg Ad6];simp[Br]
theorem lP {l ts:List Tx}(h:ts≠[]):Jh l 0 ts=40::Bf (ts.map (W7 l)):=by
 cases ts with
 |nil=>exact absurd rfl h
 |cons t ts=>rw[Jh,oQ l ts 1 Ad6];simp[wO,Bf]
theorem Qx {l:List Tx}{a:Ai}(h:a.terms≠[]):Hp l a=B9 (I3 l a):=by
 unfold Hp B9 Ay;rw[lP h];cases ha:a.nt<;>simp[I3,ha]
theorem oR {l:List Tx}:∀(ls:List Ai) (k:Nat),0<k->(∀a∈ls,a.terms≠[])->G8 l k ls=Br ((ls.map (I3 l)).map B9)
 |[],k,_,_=>rfl
 |a::ls,k,hk,h=>by
  rw[G8,oR ls (k+1) Ad6 (fun a' h'=>h a' (by simp[h'])),lR,if_neg Ad6,Qx (h a (by simp))];simp[Br]
theorem lQ {l:List Tx}{ls:List Ai}(h:∀a∈ls,a.terms≠[]):G8 l 0 ls=if ls=[]then []else 58::45::Bf ((ls.map (I3 l)).map B9):=by
 cases ls with
 |nil=>rfl
 |cons a ls=>
  rw[G8,oR ls 1 Ad6 (fun a' h'=>h a' (by simp[h'])),Qx (h a (by simp)),if_neg (by simp)];simp[lR,Bf]
theorem Uv {x:RItem}(hw:Dh x):Cz x=Bh (ren x)++[46]:=by
 obtain⟨-,h2,h3⟩:=hw;unfold Cz Bh;cases ho:x.out with
 |true=>simp[ren,I3,ho]
 |false=>
  obtain⟨q1,q2,-,q3⟩:=h3 ho;rw[if_neg (by simp),if_neg (by simp[ren,ho]),Qx q1.2.1,lQ (fun a ha=>(q3 a ha).2.1),Q7 (by simpa[I3]using q2)];unfold C5;simp[ren]
theorem V1 {N l:List Tx}{a:Ai}(h:Ea a)(hw:∀w∈a.terms,Al w=true->0<=Cf l w/\Cf l w<26):Ea (I3 l a):=by
 obtain⟨h1,h2,h3,h4⟩:=h;refine⟨h1,by simpa[I3]using h2,by simpa[I3]using h3,fun t ht=>?_⟩;simp only[I3,Acs]at ht;obtain⟨w,hm,rfl⟩:=ht;unfold W7;split
 ·rename_i hv;obtain⟨q0,q1⟩:=hw w hm hv;exact⟨by simp,fun b hb=>by simp at hb;subst hb;exact .inl (Jb q0 q1)⟩
 ·exact h4 w hm
theorem V0 {N:List Tx}{x:RItem}(hw:Dh x)(hi:WI N x):Dh (ren x):=by
 obtain⟨h1,h2,h3⟩:=hw;refine⟨h1,fun ho=>?_,fun ho=>?_⟩
 ·obtain⟨q1,q2,q3⟩:=h2 ho;exact⟨q1,by simp[ren,I3,q2],by simp[ren,q3]⟩
 ·obtain⟨q1,q2,q3,q4⟩:=h3 ho;refine⟨V1 (N:=N) q1 (fun w hm=>(xO (hi.head ho).2 w hm).2),q2,by simpa[ren]using q3,fun a ha=>?_⟩;simp only[ren,Acs]at ha;obtain⟨a',aa,rfl⟩:=ha;exact V1 (N:=N) (q4 a' aa) (fun w hm=>(xO (hi.wa a' aa) w hm).2)
theorem eU (l:List Tx)(w:Tx)(hD:DT w)(hv:Al w=true->0<=Cf l w/\Cf l w<26)(y:St):ACalls Tryz.prog 149 [ag (I4 l w)] y fun r y'=>r=str (W7 l w)/\Keep y y':=by
 have ab:∀z:UInt8,({data:=#[z]}:ByteArray)=bs [z]:=fun _=>rfl;unfold I4;cases hb:Al w with
 |true=>
  obtain⟨h0,h1⟩:=hv hb;have hL:Aec (W7 l w=[UInt8.ofNat (IntKind.u8.wrap (65+Cf l w)).toNat]):=by rw[Aec,W7,if_pos hb,L2 h0 h1]
  rw[if_pos rfl];generalize Cf l w=k at h0 h1 hL;clear hv;refine Z9 14 [.tmp 2] Tryz.func149 ?_
  repeat' (first|refine Z1 ?_|(refine Z8 ?_;intro κ hκ)|(refine Z4 ?_;clear hκ κ)|(refine Z2 ?_ ?_<;>intro h aa<;>try exact Xp)|refine Z7 ?_|exact⟨⟩|(apply hκ.out;clear hκ κ))
  exact⟨_,rfl,by rw[hL.out],Xs⟩
 |false=>
  obtain⟨d1,d2,d3⟩:Lib.itoa (Az w).2=w/\0<=(Az w).2/\(Az w).2<=999:=by
   rcases hD with h|h
   ·rw[hb]at h;cases h
   ·exact h.2
  have hI:=fun y=>Lc (Az w).2 d2 Ad6 y;rw[if_neg (by simp)];rw[d1]at hI;have hL:Aec (W7 l w=w):=by rw[Aec,W7,if_neg (by rw[hb];simp)]
  generalize (Az w).2=v at hI;clear hv hD;refine Z9 14 [.tmp 2] Tryz.func149 ?_
  repeat' (first|refine Z1 ?_|(refine Z8 ?_;intro κ hκ)|(refine Z4 ?_;clear hκ κ)|(refine Z2 ?_ ?_<;>intro h aa<;>try exact Xp)|(refine Z5 ?_;refine Xi (hI _) ?_;rintro _ _ ⟨rfl,rfl⟩)|refine Z7 ?_|exact⟨⟩|(apply hκ.out;clear hκ κ))
  exact⟨_,rfl,by rw[hL.out],Xs⟩
theorem fQ {l ts:List Tx}{k:Nat}{w:Tx}(h:ts[k]?=some w):∃r,(C8 l ts).drop (k*2)=sc (.bool (Al w))::sc (.int .i64 (if Al w=true then Cf l w else (Az w).2))::r:=by
 have hE:∀ts:List Tx,EL (fun w c=>c=I4 l w) ts (C8 l ts):=by
  intro ts;induction ts with
  |nil=>rfl
  |cons a l ih=>exact⟨I4 _ a,C8 _ l,rfl,ih,by simp[C8]⟩
 obtain⟨c,r,rfl,e⟩:=EL.get (z:=2) (fun a c h=>by rw[h];rfl) (hE ts) h;exact⟨r,e⟩
def uM (l:List Tx)(k:Nat)(ts:List Tx):Tx:=if k=0 then [40]else Jh l 0 (ts.take k)
theorem qL {l ts:List Tx}{k:Nat}{w:Tx}(h:ts[k]?=some w):uM l (k+1) ts=uM l k ts++((if k=0 then []else [44])++W7 l w):=by
 have hk:k<ts.length:=(List.getElem?_eq_some_iff.1 h).1;unfold uM;rw[if_neg Ad6,Abv,h,Ac5,Uw,Ab7,Aca Ad6,Ab5];by_cases h0:k=0
 ·subst h0;simp[Jh,wO]
 ·rw[if_neg h0,if_neg h0];simp[wO,h0]
theorem T4 (N l:List Tx)(idn ids:Nat)(a:Ai)(ha:a.pred∈N)(hN:N.length<=2000)(hp:0<a.terms.length)(hn:a.terms.length<=1000)(hpl:a.pred.length<=1000)(hw:WT l a)(y:St):
  ACalls Tryz.prog 182 [ag [sc (.int .i64 (N.idxOf a.pred:Nat)),sl ids a.terms.length (C8 l a.terms)],sl idn N.length (N.map str)] y fun r y'=>r=str (a.pred++Jh l 0 a.terms++[41])/\Keep y y':=by
 have av:=fP l a.terms;have az:({data:=#[40]}:ByteArray)=bs [40]:=rfl;have ax:({data:=#[44]}:ByteArray)=bs [44]:=rfl;have ay:({data:=#[41]}:ByteArray)=bs [41]:=rfl;have ai:=Ac4 ha;have ap:(N.map str).drop (N.idxOf a.pred)=str a.pred::(N.map str).drop (N.idxOf a.pred+1):=by
  have:=Fb ai;rwa[Ac3 ai]at this
 generalize N.idxOf a.pred=ix at ai ap;refine Z9 33 [.tmp 4] Tryz.func182 ?_
 repeat' (first|refine Z1 ?_|(refine Z8 ?_;intro κ hκ)|(refine Z4 ?_;clear hκ κ)|(refine Z2 ?_ ?_<;>intro h ac<;>try exact Xp)|refine Z7 ?_|exact⟨⟩|(apply hκ.out;clear hκ κ))
 refine Ad (fun m s y'=>∃(k:Nat) (acc:Tx),m=a.terms.length-k/\k<=a.terms.length/\s 5=str acc/\s 15=sl ids a.terms.length (C8 l a.terms)/\s 16=sc (.int .i64 a.terms.length)/\s 17=sc (.int .i64 k)/\Keep y y'/\acc.length<=1001+k*1001/\Aec (acc=a.pred++uM l k a.terms)) a.terms.length
  ⟨0,a.pred++[40],Ad6,Ad6,Ad8,Ad8,Ad8,rfl,Xs,by simp;omega,by simp[Aec,uM]⟩ ?_
 rintro m s y' ⟨k,acc,rfl,hk,h5,a4,a3,a0,hK,aw,hA⟩;have au:=hK.nobj;by_cases aj:k<a.terms.length
 ·have ab:=List.getElem?_eq_getElem aj;obtain⟨w1,w2,w3⟩:=hw a.terms[k] (Ac2 aj);obtain⟨r,hd⟩:=fQ (l:=l) ab;have aa:Aec (a.pred++uM l (k+1) a.terms=acc++((if k=0 then []else [44])++W7 l a.terms[k])):=by
   rw[Aec,qL ab,hA.out,Ab8]
  have am:=iW l a.terms[k] w2;have hT:=fun y=>eU l a.terms[k] w1 w3 y;unfold I4 at hT;generalize W7 l a.terms[k]=tw at aa hT am;generalize (if Al a.terms[k]=true then Cf l a.terms[k]else (Az a.terms[k]).2)=vw at hT hd;generalize Al a.terms[k]=bw at hT hd;clear ab w1 w2 w3;by_cases ae:k=0
  ·have ao:decide ((0:Int)<(k:Int))=false:=by simp[ae]
   have aa:Aec (a.pred++uM l (k+1) a.terms=acc++tw):=by rw[Aec,aa.out,if_pos ae];simp
   clear ae
   repeat' (first|refine Z1 ?_|(refine Z8 ?_;intro κ hκ)|(refine Z4 ?_;clear hκ κ)|(refine Z2 ?_ ?_<;>intro h ac<;>try exact Xp)|(refine Z5 ?_;refine Xi (hT _) ?_;rintro _ _ ⟨rfl,ad⟩;(have af:=ad.obj;have ah:=ad.nobj))|refine Z7 ?_|exact⟨⟩|(apply hκ.out;clear hκ κ))
   exact⟨a.terms.length-(k+1),Ad6,k+1,acc++tw,rfl,Ad6,rfl,by simp,((hK.new _).put hK.nobj _).trans ad,by simp only[Ab6];omega,by rw[Aec,aa.out]⟩
  ·have ao:decide ((0:Int)<(k:Int))=true:=by simp;omega
   have aa:Aec (a.pred++uM l (k+1) a.terms=acc++([44]++tw)):=by rw[Aec,aa.out,if_neg ae]
   clear ae
   repeat' (first|refine Z1 ?_|(refine Z8 ?_;intro κ hκ)|(refine Z4 ?_;clear hκ κ)|(refine Z2 ?_ ?_<;>intro h ac<;>try exact Xp)|(refine Z5 ?_;refine Xi (hT _) ?_;rintro _ _ ⟨rfl,ad⟩;(have af:=ad.obj;have ah:=ad.nobj))|refine Z7 ?_|exact⟨⟩|(apply hκ.out;clear hκ κ))
   exact⟨a.terms.length-(k+1),Ad6,k+1,acc++([44]++tw),rfl,Ad6,by rw[Ab8],by simp,((hK.new _).put hK.nobj _).trans ad,by simp only[Ab6,Acx];omega,by rw[Aec,aa.out]⟩
 ·have an:k=a.terms.length:=Ad6;subst an;have ak:acc=a.pred++Jh l 0 a.terms:=by rw[hA.out,uM,if_neg Ad6,Abt]
  have HA:Aec _:=ak;clear hA ak
  repeat' (first|refine Z1 ?_|(refine Z8 ?_;intro κ hκ)|(refine Z4 ?_;clear hκ κ)|(refine Z2 ?_ ?_<;>intro h ac<;>try exact Xp)|refine Z7 ?_|exact⟨⟩|(apply hκ.out;clear hκ κ))
  first
  |exact⟨_,rfl,by rw[HA.out],hK⟩
  |exact⟨_,rfl,by rw[HA.out]⟩
end Go.Proofs.YtmoeoppbmhfbpabGreatDoorJ
