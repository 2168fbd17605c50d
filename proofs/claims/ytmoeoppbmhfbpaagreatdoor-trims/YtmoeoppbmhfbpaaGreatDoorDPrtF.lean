import Derived.Test.YtmoeoppbmhfbpaaGreatDoorDShelf
import Derived.Test.YtmoeoppbmhfbpaaGreatDoorDAbsWp
import Derived.Test.YtmoeoppbmhfbpaaGreatDoorDProgM
import Derived.Test.YtmoeoppbmhfbpaaGreatDoorDLawA
set_option maxHeartbeats 16000000
set_option maxRecDepth 100000
set_option linter.all false
namespace Go.Proofs.YtmoeoppbmhfbpaaGreatDoorD
open Go.Abs
def RL (N l:List Tx)(a:RAtom)(c:List AV):Prop:=∃ids,c=[sc (.bool a.nt),sc (.int .i64 (N.idxOf a.pred:Nat)),sl ids a.terms.length (Dm l a.terms)]
theorem xV {N l:List Tx}(a:RAtom)(c:List AV)(h:RL N l a c):c.length=3:=by obtain⟨ids,rfl⟩:=h;rfl
theorem Ac3 {N l:List Tx}{ls:List RAtom}{cs:List AV}{i:Nat}{a:RAtom}(h:EL (RL N l) ls cs)(hi:ls[i]?=some a):∃ia r,cs.drop (i*3)=sc (.bool a.nt)::sc (.int .i64 (N.idxOf a.pred:Nat))::sl ia a.terms.length (Dm l a.terms)::r:=by
 obtain⟨c,r,⟨ia,rfl⟩,e⟩:=EL.get xV h hi;exact⟨ia,r,e⟩
def RI (N l:List Tx)(x:RItem)(c:List AV):Prop:=∃ih id b,EL (RL N l) x.body b/\c=[sc (.bool x.out),sc (.int .i64 (N.idxOf x.head.pred:Nat)),sl ih x.head.terms.length (Dm l x.head.terms),sl id x.body.length b]
theorem bV (N:List Tx)(x:RItem)(c:List AV)(hc:PI N x c)(ho:x.out=true->x.body=[])(hx:x.fits)(hV:∀a∈Ae x,VA a)(bb:VA x.head)(bc:∀a∈x.body,VA a)(σ:St):
  ACalls Tryz.prog 63 [ag c] σ fun r σ'=>∃c',r=ag c'/\RI N (Au x) x c'/\VL (Au x)/\Keep σ σ':=by
 have a3:=fun σ=>Rm N x c hc ho hx hV σ;have aw:=gZ hx;have bo:=hx.1;have a9:=hx.2.2;obtain⟨hm,ih,id,b,hb,rfl⟩:=hc;have bq:=EL.length Fe hb;have am:=fun lo ido (hl:lo.length<=10000000) hL σ=>O9 lo ido (N.idxOf x.head.pred:Nat) ih x.head hl hL bb hx.2.1 σ;have be:=fun lo ido (a:RAtom) ia ha (hl:lo.length<=10000000) hL hv σ=>O9 lo ido (N.idxOf a.pred:Nat) ia a hl hL hv (a9 a ha) σ;generalize Au x=lo at a3 aw;have am:=fun ido hL σ=>am lo ido aw hL σ;refine Z9 39 [.cell 2 97] Tryz.func63 ?_
 repeat' first|refine Z1 ?_|refine Z8 fun ya J=>?_|refine Z4 ?_;clear J ya|refine Z5 ?_;refine Xi (a3 _) ?_;rintro _ _ ⟨ido,rfl,bd,ay⟩;(have ad:=ay.obj;have af:=ay.nobj;simp only[Aa]at af)|refine Z3 ?_|exact Zt|apply J.out;clear J ya
 rename_i σ1;have aj:σ1.obj σ.nobj=[sc (.bool x.out),sc (.int .i64 (N.idxOf x.head.pred:Nat)),sl ih x.head.terms.length (A0 x.head.terms),sl id x.body.length b]:=by
  rw[ad _ Agq,Ah Agq,Al]
 have ai:σ1.obj (σ.nobj+1)=[sc (.bool false),sc (.int .i64 0),nilS,nilS]:=by
  rw[ad _ Agq,Ca (by rw[Aa];omega) (by rw[Aa];omega)]
 have ao:Keep σ σ1:=Xs;clear ad ay;have a5:Agt (VL lo):=bd;refine Bl (Q:=fun e s σ'=>e= .normal/\∃o i2:Nat,s 1=ptr σ.nobj 0/\s 2=ptr (σ.nobj+1) 0/\s 3=sl ido lo.length (lo.map encI)/\s 4=ptr o 0/\σ.nobj+1<o/\o<σ'.nobj/\σ'.obj σ.nobj=[sc (.bool x.out),sc (.int .i64 (N.idxOf x.head.pred:Nat)),sl ih x.head.terms.length (A0 x.head.terms),sl id x.body.length b]/\σ'.obj (σ.nobj+1)=[sc (.bool false),sc (.int .i64 0),nilS,nilS]/\σ'.obj o=[sc (.bool x.out),sc (.int .i64 (N.idxOf x.head.pred:Nat)),sl i2 x.head.terms.length (Dm lo x.head.terms),nilS]/\Keep σ σ') ?_ ?_
 ·refine Ay Ag (fun _=>True) [8] [0,1,2,3,4] 4 #[true,true,true,true,true,false,false,false,false] Agp (fun _ _ _ h=>by cases h.1) ?_;intro ya J;refine Z3 ?_;refine J.out _ ?_;clear J ya;have hR2:=fun σ=>am ido a5.out σ;refine Gz (rs:=[5,7]) Agp (by simp) ?_;intro i hi;simp only[Ae2,Afg,Agj]at hi;rcases hi with rfl|rfl
  ·refine Am ?_;intro ya J;refine Z3 ?_;refine ACalls.mono (hR2 _) ?_;rintro _ σ2 ⟨i2,rfl,ab⟩;have aa:=ab.obj;have ae:=ab.nobj;refine Z3 ?_;refine J.out _ _ ⟨Ao ab,?_⟩;clear J ya;refine Gz (rs:=[6,7]) Agp (by simp) ?_;intro i hi;simp only[Ae2,Afg,Agj]at hi;rcases hi with rfl|rfl
   ·refine Am ?_;intro ya J;refine Z3 ?_;refine J.out _ _ ⟨Ao ab,?_⟩;clear J ya;refine Ai (i:=7) Agp ?_;refine Am ?_;intro ya J;refine Z3 ?_;refine J.out _ _ ⟨Ao (ab.new _),?_⟩;clear J ya;refine Ai (i:=8) Agp ?_;refine Am ?_;intro ya J;refine Z3 ?_;refine J.out _ _ ⟨Bf rfl,?_⟩;clear J ya;refine Bb Agp ⟨rfl,σ2.nobj,i2,Ago,Ago,Ago,Ago,Agm,Ags,?_,?_,Aj,?_⟩
    ·rw[Ak Agm,Ah Agm,aa _ Agm,aj]
    ·rw[Ak Agm,Ah Agm,aa _ Agm,ai]
    ·exact ((ao.trans ab).new _).put Agm _
   ·refine Am ?_;intro ya J;refine Z3 ?_;refine J.out _ _ ⟨Ao (ab.new _),?_⟩;clear J ya;refine Ai (i:=6) Agp ?_;refine Am ?_;intro ya J;refine Z3 ?_;refine J.out _ _ ⟨Ao (ab.new _),?_⟩;clear J ya;refine Ai (i:=8) Agp ?_;refine Am ?_;intro ya J;refine Z3 ?_;refine J.out _ _ ⟨Bf rfl,?_⟩;clear J ya;refine Bb Agp ⟨rfl,σ2.nobj,i2,Ago,Ago,Ago,Ago,Agm,Ags,?_,?_,Aj,?_⟩
    ·rw[Ak Agm,Ah Agm,aa _ Agm,aj]
    ·rw[Ak Agm,Ah Agm,aa _ Agm,ai]
    ·exact ((ao.trans ab).new _).put Agm _
  ·refine Am ?_;intro ya J;refine Z3 ?_;refine J.out _ _ ⟨Ao ((Keep.refl _).new _),?_⟩;clear J ya;refine Ai (i:=5) Agp ?_;refine Am ?_;intro ya J;refine Z3 ?_;refine ACalls.mono (hR2 _) ?_;rintro _ σ2 ⟨i2,rfl,ab⟩;have aa:=ab.obj;have ae:=ab.nobj;simp only[Aa]at ae;refine Z3 ?_;refine J.out _ _ ⟨Ao (((Keep.refl _).new _).trans ab),?_⟩;clear J ya;refine Ai (i:=6) Agp ?_;refine Am ?_;intro ya J;refine Z3 ?_;refine J.out _ _ ⟨Ao (((Keep.refl _).new _).trans ab),?_⟩;clear J ya;refine Ai (i:=8) Agp ?_;refine Am ?_;intro ya J;refine Z3 ?_;refine J.out _ _ ⟨Bf rfl,?_⟩;clear J ya;refine Bb Agp ⟨rfl,σ1.nobj,i2,Ago,Ago,Ago,Ago,Agm,Ags,?_,?_,Aj,?_⟩
   ·rw[Ak Agm,aa _ (by rw[Aa];omega),Ah Agm,aj]
   ·rw[Ak Agm,aa _ (by rw[Aa];omega),Ah Agm,ai]
   ·exact ((ao.new _).trans ab).put Agm _
 ·rintro e s σ2 ⟨rfl,o,i2,h1,h2,h3,h4,bp,av,a6,ap,ob,hK⟩;have az:=hK.nobj;clear ao aj ai af am
  refine zz ?_
  refine Ad (fun m s σ'=>∃(k i3:Nat) (xs:List AV),m=x.body.length-k/\k<=x.body.length/\s 2=ptr (σ.nobj+1) 0/\s 3=sl ido lo.length (lo.map encI)/\s 4=ptr o 0/\s 18=sl id x.body.length b/\s 19=sc (.int .i64 x.body.length)/\s 20=sc (.int .i64 k)/\Keep σ σ'/\o<σ'.nobj/\σ'.obj (σ.nobj+1)=[sc (.bool false),sc (.int .i64 0),nilS,nilS]/\σ'.obj o=[sc (.bool x.out),sc (.int .i64 (N.idxOf x.head.pred:Nat)),sl i2 x.head.terms.length (Dm lo x.head.terms),sl i3 k xs]/\Own σ σ' i3 k/\xs.length=k*3/\Agt (EL (RL N lo) (x.body.take k) xs)) x.body.length
   ⟨0,1,[],Agm,Agm,by simp[upd,h2],by simp[upd,h3],by simp[upd,h4],Ago,Ago,rfl,hK,av,ap,ob,Own.nil _ _,by simp,rfl⟩ ?_
  clear h1 h2 h3 h4 a6 ap ob hK av az;rintro m s σ' ⟨k,i3,xs,rfl,hk,h2,h3,h4,bv,bu,br,hK,av,ap,ob,hO,a8,hX⟩;have az:=hK.nobj;by_cases a0:k<x.body.length
  ·have ac:=Adn a0;have ak:=Aes a0;obtain⟨ha,ia,r,hd⟩:=Wb hb ac;have hR:=fun σ=>be lo ido x.body[k] ia ak aw a5.out (bc _ ak) σ;generalize x.body[k]=a at hd ac ha hR ak;have HG:Agt (x.body[k]?=some a):=ac;clear ac ak
   repeat' first|refine Z1 ?_|refine Z8 fun ya J=>?_|refine Z4 ?_;clear J ya|refine Z2 ?_ ?_<;>intro h ax<;>try exact Xp|refine Z5 ?_;refine Xi (hR _) ?_;rintro _ _ ⟨i4,rfl,an⟩;(have a7:=an.obj;have au:=an.nobj;simp only[Aa,Ac]at au)|refine Z3 ?_|exact Zt
   rename_i σ4;have bh:=((hK.new [sc (.bool false),sc (.int .i64 0),nilS]).put hK.nobj _).trans an;have bf:=Own.keep (Own.put (Own.new hO [sc (.bool false),sc (.int .i64 0),nilS]) σ'.nobj [sc (.bool a.nt),sc (.int .i64 (N.idxOf a.pred:Nat)),sl ia a.terms.length (A0 a.terms)]) an;refine Bz (by first|exact J9) ((bh.new _).put Agm _) (Own.put (Own.new bf _) _ _) (by decide) (by rfl) a8 (by rfl) (by rfl) (by decide) Agm Agm ?_;intro idn σn bg bi bn ah bm a4;simp only[Ac,Aa]at ah;refine Z3 ?_
   refine zz ?_
   refine⟨x.body.length-(k+1),Agm,k+1,idn,_,rfl,Agm,by simp,bi.put Agm _,Agm,rfl,Own.put bg _ _,by simp;omega,?_⟩;rw[Agt,Ad0,HG.out];exact EL.append hX.out (EL.single ⟨i4,rfl⟩)
  ·have ba:k=x.body.length:=Agm;subst ba;rw[Adu]at hX
   repeat' first|refine Z1 ?_|refine Z8 fun ya J=>?_|refine Z4 ?_;clear J ya|refine Z2 ?_ ?_<;>intro h ax<;>try exact Xp|refine Z3 ?_|exact Zt|apply J.out;clear J ya
   exact⟨_,rfl,_,rfl,⟨i2,i3,xs,hX.out,rfl⟩,hK.put Agm _⟩
theorem N5 {k:Int}(h0:0<=k)(h1:k<26):Kk k=UInt8.ofNat (IntKind.u8.wrap (65+k)).toNat:=by
 unfold Kk;rw[Int.tmod_eq_of_lt h0 h1,i64w Agm Agm]
def WT (l:List Tx)(a:RAtom):Prop:=∀w∈a.terms,DT w/\w.length<=1000/\(Ab w=true->0<=Bt l w/\Bt l w<26)
def WA (N l:List Tx)(a:RAtom):Prop:=a.pred∈N/\0<a.terms.length/\a.terms.length<=1000/\a.pred.length<=1000/\WT l a
structure WI (N:List Tx)(x:RItem):Prop where
 fits:x.fits
 short:x.short
 va:∀a∈Ae x,VA a
 vh:VA x.head
 vb:∀a∈x.body,VA a
 mem:x.head.pred∈N
 body:x.body.length<=5
 out:x.out=true->x.body=[]
 head:x.out=false->x.head.nt=false/\WA N (Au x) x.head
 wa:∀a∈x.body,WA N (Au x) a
theorem iH {acc:List Tx}{t u:Tx}(h:t∈acc\/(t=u/\Ab u=true)):t∈Fp acc u:=by
 unfold Fp;split
 ·rcases h with h|⟨rfl,-⟩
  ·exact Aet.2 (.inl h)
  ·exact Aet.2 (.inr (by simp))
 ·rename_i hn;rcases h with h|⟨rfl,hv⟩
  ·exact h
  ·exact Classical.byContradiction fun hm=>hn ⟨hv,hm⟩
theorem Uz:∀(ts acc:List Tx) (t:Tx),(t∈acc\/(t∈ts/\Ab t=true))->t∈Gi acc ts
 |[],acc,t,h=>by
  rcases h with h|⟨h,-⟩
  ·exact h
  ·cases h
 |u::ts,acc,t,h=>by
  show t∈Gi (Fp acc u) ts;apply Uz ts;rcases h with h|⟨h,hv⟩
  ·exact .inl (iH (.inl h))
  ·rcases Ae2.1 h with rfl|h
   ·exact .inl (iH (.inr ⟨rfl,hv⟩))
   ·exact .inr ⟨h,hv⟩
theorem iV {ls:List RAtom}(h:∀a∈ls,a.terms.length<=3):(ls.flatMap (·.terms)).length<=ls.length*3:=by
 induction ls with
 |nil=>simp
 |cons a ls ih=>
  have h2:=ih fun b hb=>h b (by simp[hb]);have h3:=h a (by simp);simp only[Ae0,Aeb,Aem];omega
theorem Aq {x:RItem}{a:RAtom}(h:(x.out=false/\a=x.head)\/a∈x.body):a∈Ae x:=by
 unfold Ae;rcases h with⟨h,rfl⟩|h
 ·exact Aet.2 (.inl (by rw[h];simp))
 ·exact Aet.2 (.inr h)
theorem Ze {x:RItem}(hw:Du x){a:RAtom}(ha:a∈Ae x){w:Tx}(hm:w∈a.terms)(hv:Ab w=true):0<=Bt (Au x) w/\Bt (Au x) w<26:=by
 have h1:w∈Au x:=Uz _ _ _ (.inr ⟨Ae9.2 ⟨a,ha,hm⟩,hv⟩);have h2:=Afj h1;have h3:=Ut ((Ae x).flatMap (·.terms)) [];obtain⟨q1,q2,q3⟩:=hw;have h4:(Ae x).length<=6/\∀b∈Ae x,b.terms.length<=3:=by
  cases ho:x.out with
  |true=>
   obtain⟨-,-,e⟩:=q2 ho;simp[Ae,ho,e]
  |false=>
   obtain⟨e1,-,e2,e3⟩:=q3 ho;refine⟨by simp[Ae,ho];omega,fun b hb=>?_⟩;simp[Ae,ho]at hb;rcases hb with rfl|hb
   ·exact e1.2.2.1
   ·exact (e3 b hb).2.2.1
 have h5:=iV h4.2;have h6:(Au x).length<=18:=by
  unfold Au;rw[Ael,Aea]at h3;omega
 unfold Bt;rw[if_pos h1];omega
theorem Ab8 {t:Tx}{N:List Tx}{l:List RItem}{cs:List AV}{r:Tx}(hl:t.length<=1000)(hp:Bv 16 t= .got l r)(hB:Bk N l cs)(af:∀x∈l,Du x):∀x∈l,WI N x:=by
 intro x hx;have aa:=Qi 16 t l r hp x hx;have ae:=Kh (T:=DT) gR 16 t l r hp x hx;have ab:=Q3 hl hp x hx;have hm:=Qw hB.el x hx;have hw:=af x hx;have hf:=hB.fits x hx;have ac:∀a,a∈Ae x->a.pred∈N->F1 a->short a->a.terms.length<=1000->WA N (Au x) a:=fun a ha hN hW hs hn=>
  ⟨hN,List.length_pos_iff.2 hW.2.1,hn,hs.1,fun w hm=>⟨ae a ha w hm,hs.2.2 w hm,fun hv=>Ze hw ha hm hv⟩⟩
 refine⟨hf,ab,aa,?_,?_,hm.1,?_,hB.out x hx,?_,?_⟩
 ·cases ho:x.out with
  |true=>intro w ad;rw[(hw.2.1 ho).2.1]at ad;cases ad
  |false=>exact aa x.head (Aq (.inl ⟨ho,rfl⟩))
 ·exact fun a ha=>aa a (Aq (.inr ha))
 ·cases ho:x.out with
  |true=>rw[hB.out x hx ho];simp
  |false=>exact (hw.2.2 ho).2.2.1
 ·intro ho;obtain⟨e1,e2,-⟩:=hw.2.2 ho;exact⟨e2,ac x.head (Aq (.inl ⟨ho,rfl⟩)) hm.1 e1 ab.1 hf.2.1⟩
 ·intro a ha;have ho:x.out=false:=by
   cases h:x.out with
   |false=>rfl
   |true=>rw[hB.out x hx h]at ha;cases ha
  exact ac a (Aq (.inr ha)) (hm.2 a ha) ((hw.2.2 ho).2.2.2 a ha) (ab.2 a ha) (hf.2.2 a ha)
def B9 (l:List Tx)(a:RAtom):RAtom:={nt:=a.nt,pred:=a.pred,terms:=a.terms.map (Da l)}
def ren (x:RItem):RItem:={out:=x.out,head:=B9 (Au x) x.head,body:=x.body.map (B9 (Au x))}
theorem Gr {k:Int}(h0:0<=k)(h1:k<26):((Kk k).toNat:Int)=65+k:=by
 rw[N5 h0 h1,u8w Agm Agm];rw[UInt8.toNat_ofNat_of_lt' (by show (65+k).toNat<256;omega)];omega
theorem Gs {k:Int}(h0:0<=k)(h1:k<26):Bo (Kk k).toNat=true:=by
 rw[Gr h0 h1];simp[Bo];omega
theorem H1 {l:List Tx}{w:Tx}(hv:Ab w=true->0<=Bt l w/\Bt l w<26):Ab (Da l w)=Ab w:=by
 unfold Da;split
 ·rename_i h;obtain⟨h0,h1⟩:=hv h;rw[h];exact Gs h0 h1
 ·rfl
theorem Aba {N l:List Tx}{a:RAtom}(h:WA N l a):∀w∈a.terms,DT w/\(Ab w=true->0<=Bt l w/\Bt l w<26):=fun w hw=>⟨(h.2.2.2.2 w hw).1,(h.2.2.2.2 w hw).2.2⟩
theorem tN (l:List Tx):∀(ts:List Tx) (k:Nat),0<k->Hb l k ts=Cd (ts.map (Da l))
 |[],k,_=>rfl
 |t::ts,k,hk=>by
  rw[Hb,tN l ts (k+1) Agm,Mz,if_neg Agm];simp[Cd]
theorem qF {l ts:List Tx}(h:ts≠[]):Hb l 0 ts=40::Bj (ts.map (Da l)):=by
 cases ts with
 |nil=>exact absurd rfl h
 |cons t ts=>rw[Hb,tN l ts 1 Agm];simp[Mz,Bj]
theorem Sf {l:List Tx}{a:RAtom}(h:a.terms≠[]):Dv l a=Ch (B9 l a):=by
 unfold Dv Ch Be;rw[qF h];cases ha:a.nt<;>simp[B9,ha]
theorem tO {l:List Tx}:∀(ls:List RAtom) (k:Nat),0<k->(∀a∈ls,a.terms≠[])->Gn l k ls=Cd ((ls.map (B9 l)).map Ch)
 |[],k,_,_=>rfl
 |a::ls,k,hk,h=>by
  rw[Gn,tO ls (k+1) Agm (fun a' h'=>h a' (by simp[h'])),Wg,if_neg Agm,Sf (h a (by simp))];simp[Cd]
theorem qG {l:List Tx}{ls:List RAtom}(h:∀a∈ls,a.terms≠[]):Gn l 0 ls=if ls=[]then []else 58::45::Bj ((ls.map (B9 l)).map Ch):=by
 cases ls with
 |nil=>rfl
 |cons a ls=>
  rw[Gn,tO ls 1 Agm (fun a' h'=>h a' (by simp[h'])),Sf (h a (by simp)),if_neg (by simp)];simp[Wg,Bj]
theorem qE {x:RItem}(hw:Du x):Dq x=Cb (ren x)++[46]:=by
 obtain⟨-,h2,h3⟩:=hw;unfold Dq Cb;cases ho:x.out with
 |true=>simp[ren,B9,ho]
 |false=>
  obtain⟨q1,q2,-,q3⟩:=h3 ho;rw[if_neg (by simp),if_neg (by simp[ren,ho]),Sf q1.2.1,qG (fun a ha=>(q3 a ha).2.1),Sr (by simpa[B9]using q2)];unfold Dz;simp[ren]
theorem Y5 {N l:List Tx}{a:RAtom}(h:F1 a)(hw:∀w∈a.terms,Ab w=true->0<=Bt l w/\Bt l w<26):F1 (B9 l a):=by
 obtain⟨h1,h2,h3,h4⟩:=h;refine⟨h1,by simpa[B9]using h2,by simpa[B9]using h3,fun t ht=>?_⟩;simp only[B9,Ae4]at ht;obtain⟨w,hm,rfl⟩:=ht;unfold Da;split
 ·rename_i hv;obtain⟨q0,q1⟩:=hw w hm hv;exact⟨by simp,fun b hb=>by simp at hb;subst hb;exact .inl (Gs q0 q1)⟩
 ·exact h4 w hm
theorem Y4 {N:List Tx}{x:RItem}(hw:Du x)(hi:WI N x):Du (ren x):=by
 obtain⟨h1,h2,h3⟩:=hw;refine⟨h1,fun ho=>?_,fun ho=>?_⟩
 ·obtain⟨q1,q2,q3⟩:=h2 ho;exact⟨q1,by simp[ren,B9,q2],by simp[ren,q3]⟩
 ·obtain⟨q1,q2,q3,q4⟩:=h3 ho;refine⟨Y5 (N:=N) q1 (fun w hm=>(Aba (hi.head ho).2 w hm).2),q2,by simpa[ren]using q3,fun a ha=>?_⟩;simp only[ren,Ae4]at ha;obtain⟨a',aa,rfl⟩:=ha;exact Y5 (N:=N) (q4 a' aa) (fun w hm=>(Aba (hi.wa a' aa) w hm).2)
theorem L4 {l:List RItem}(hw:∀x∈l,Du x):Bm l=Cr (l.map ren):=by
 unfold Bm Cr;induction l with
 |nil=>rfl
 |cons x l ih=>
  rw[Ae0,Ad7,Ae0,qE (hw x (by simp)),ih fun y hy=>hw y (by simp[hy])]
theorem Lq {N:List Tx}{l:List RItem}(hw:∀x∈l,Du x)(hi:∀x∈l,WI N x):Bh (Bm l)=l.map ren:=by
 have h2:∀y∈l.map ren,Du y:=fun y hy=>by
  obtain⟨x,hx,rfl⟩:=Ae4.1 hy;exact Y4 (hw x hx) (hi x hx)
 rw[L4 hw];unfold Bh;rw[aE _ h2,Ad3]
 conv=>rhs;rw[<-List.map_id (l.map ren)]
 apply Afa;intro y hy;exact (U2 (h2 y hy)).1
theorem kO (l:List Tx)(w:Tx)(hD:DT w)(hv:Ab w=true->0<=Bt l w/\Bt l w<26)(σ:St):ACalls Tryz.prog 110 [ag (Jn l w)] σ fun r σ'=>r=str (Da l w)/\Keep σ σ':=by
 have ab:∀z:UInt8,({data:=#[z]}:ByteArray)=bs [z]:=fun _=>rfl;unfold Jn;cases hb:Ab w with
 |true=>
  obtain⟨h0,h1⟩:=hv hb;have hL:Agt (Da l w=[UInt8.ofNat (IntKind.u8.wrap (65+Bt l w)).toNat]):=by rw[Agt,Da,if_pos hb,N5 h0 h1]
  rw[if_pos rfl];generalize Bt l w=k at h0 h1 hL;clear hv;refine Z9 14 [.tmp 2] Tryz.func110 ?_
  repeat' first|refine Z1 ?_|refine Z8 fun ya J=>?_|refine Z4 ?_;clear J ya|refine Z2 ?_ ?_<;>intro h aa<;>try exact Xp|refine Z7 ?_|exact Zt|apply J.out;clear J ya
  exact⟨_,rfl,by rw[hL.out],Xs⟩
 |false=>
  obtain⟨d1,d2,d3⟩:Lib.itoa (Ap w).2=w/\0<=(Ap w).2/\(Ap w).2<=999:=by
   rcases hD with h|h
   ·rw[hb]at h;cases h
   ·exact h.2
  have hI:=fun σ=>Zo (Ap w).2 d2 Agm σ;rw[if_neg (by simp)];rw[d1]at hI;have hL:Agt (Da l w=w):=by rw[Agt,Da,if_neg (by rw[hb];simp)]
  generalize (Ap w).2=v at hI;clear hv hD;refine Z9 14 [.tmp 2] Tryz.func110 ?_
  repeat' first|refine Z1 ?_|refine Z8 fun ya J=>?_|refine Z4 ?_;clear J ya|refine Z2 ?_ ?_<;>intro h aa<;>try exact Xp|refine Z5 ?_;refine Xi (hI _) ?_;rintro _ _ ⟨rfl,rfl⟩|refine Z7 ?_|exact Zt|apply J.out;clear J ya
  exact⟨_,rfl,by rw[hL.out],Xs⟩
theorem lJ {l ts:List Tx}{k:Nat}{w:Tx}(h:ts[k]?=some w):∃r,(Dm l ts).drop (k*2)=sc (.bool (Ab w))::sc (.int .i64 (if Ab w=true then Bt l w else (Ap w).2))::r:=by
 have hE:∀ts:List Tx,EL (fun w c=>c=Jn l w) ts (Dm l ts):=by
  intro ts;induction ts with
  |nil=>rfl
  |cons a l ih=>exact⟨Jn _ a,Dm _ l,rfl,ih,by simp[Dm]⟩
 obtain⟨c,r,rfl,e⟩:=EL.get (z:=2) (fun a c h=>by rw[h];rfl) (hE ts) h;exact⟨r,e⟩
def zI (l:List Tx)(k:Nat)(ts:List Tx):Tx:=if k=0 then [40]else Hb l 0 (ts.take k)
theorem vN {l ts:List Tx}{k:Nat}{w:Tx}(h:ts[k]?=some w):zI l (k+1) ts=zI l k ts++((if k=0 then []else [44])++Da l w):=by
 have hk:k<ts.length:=(Adm.1 h).1;unfold zI;rw[if_neg Agm,Ad0,h,Aez,L3,Aec,Aeh Agm,Aea];by_cases h0:k=0
 ·subst h0;simp[Hb,Mz]
 ·rw[if_neg h0,if_neg h0];simp[Mz,h0]
theorem Vx (N l:List Tx)(idn ids:Nat)(a:RAtom)(ha:a.pred∈N)(hN:N.length<=2000)(hp:0<a.terms.length)(hn:a.terms.length<=1000)(hpl:a.pred.length<=1000)(hw:WT l a)(σ:St):
  ACalls Tryz.prog 198 [ag [sc (.int .i64 (N.idxOf a.pred:Nat)),sl ids a.terms.length (Dm l a.terms)],sl idn N.length (N.map str)] σ fun r σ'=>r=str (a.pred++Hb l 0 a.terms++[41])/\Keep σ σ':=by
 have av:=lI l a.terms;have az:({data:=#[40]}:ByteArray)=bs [40]:=rfl;have ax:({data:=#[44]}:ByteArray)=bs [44]:=rfl;have ay:({data:=#[41]}:ByteArray)=bs [41]:=rfl;have ai:=Afj ha;have ap:(N.map str).drop (N.idxOf a.pred)=str a.pred::(N.map str).drop (N.idxOf a.pred+1):=by
  have:=A2 ai;rwa[Afi ai]at this
 generalize N.idxOf a.pred=ix at ai ap;refine Z9 33 [.tmp 4] Tryz.func198 ?_
 refine zx ?_
 refine Ad (fun m s σ'=>∃(k:Nat) (acc:Tx),m=a.terms.length-k/\k<=a.terms.length/\s 5=str acc/\s 15=sl ids a.terms.length (Dm l a.terms)/\s 16=sc (.int .i64 a.terms.length)/\s 17=sc (.int .i64 k)/\Keep σ σ'/\acc.length<=1001+k*1001/\Agt (acc=a.pred++zI l k a.terms)) a.terms.length
  ⟨0,a.pred++[40],Agm,Agm,Ago,Ago,Ago,rfl,Xs,by simp;omega,by simp[Agt,zI]⟩ ?_
 rintro m s σ' ⟨k,acc,rfl,hk,h5,a4,a3,a0,hK,aw,hA⟩;have au:=hK.nobj;by_cases aj:k<a.terms.length
 ·have ab:=Adn aj;obtain⟨w1,w2,w3⟩:=hw a.terms[k] (Aes aj);obtain⟨r,hd⟩:=lJ (l:=l) ab;have aa:Agt (a.pred++zI l (k+1) a.terms=acc++((if k=0 then []else [44])++Da l a.terms[k])):=by
   rw[Agt,vN ab,hA.out,Aed]
  have am:=Rx l a.terms[k] w2;have hT:=fun σ=>kO l a.terms[k] w1 w3 σ;unfold Jn at hT;generalize Da l a.terms[k]=tw at aa hT am;generalize (if Ab a.terms[k]=true then Bt l a.terms[k]else (Ap a.terms[k]).2)=vw at hT hd;generalize Ab a.terms[k]=bw at hT hd;clear ab w1 w2 w3;by_cases ad:k=0
  ·have ao:decide ((0:Int)<(k:Int))=false:=by simp[ad]
   have aa:Agt (a.pred++zI l (k+1) a.terms=acc++tw):=by rw[Agt,aa.out,if_pos ad];simp
   clear ad
   repeat' first|refine Z1 ?_|refine Z8 fun ya J=>?_|refine Z4 ?_;clear J ya|refine Z2 ?_ ?_<;>intro h ae<;>try exact Xp|refine Z5 ?_;refine Xi (hT _) ?_;rintro _ _ ⟨rfl,ac⟩;(have af:=ac.obj;have ah:=ac.nobj)|refine Z7 ?_|exact Zt|apply J.out;clear J ya
   exact⟨a.terms.length-(k+1),Agm,k+1,acc++tw,rfl,Agm,rfl,by simp,((hK.new _).put hK.nobj _).trans ac,by simp only[Aeb];omega,by rw[Agt,aa.out]⟩
  ·have ao:decide ((0:Int)<(k:Int))=true:=by simp;omega
   have aa:Agt (a.pred++zI l (k+1) a.terms=acc++([44]++tw)):=by rw[Agt,aa.out,if_neg ad]
   clear ad
   repeat' first|refine Z1 ?_|refine Z8 fun ya J=>?_|refine Z4 ?_;clear J ya|refine Z2 ?_ ?_<;>intro h ae<;>try exact Xp|refine Z5 ?_;refine Xi (hT _) ?_;rintro _ _ ⟨rfl,ac⟩;(have af:=ac.obj;have ah:=ac.nobj)|refine Z7 ?_|exact Zt|apply J.out;clear J ya
   exact⟨a.terms.length-(k+1),Agm,k+1,acc++([44]++tw),rfl,Agm,by rw[Aed],by simp,((hK.new _).put hK.nobj _).trans ac,by simp only[Aeb,Aff];omega,by rw[Agt,aa.out]⟩
 ·have an:k=a.terms.length:=Agm;subst an;have ak:acc=a.pred++Hb l 0 a.terms:=by rw[hA.out,zI,if_neg Agm,Adu]
  have HA:Agt _:=ak;clear hA ak
  repeat' first|refine Z1 ?_|refine Z8 fun ya J=>?_|refine Z4 ?_;clear J ya|refine Z2 ?_ ?_<;>intro h ae<;>try exact Xp|refine Z7 ?_|exact Zt|apply J.out;clear J ya
  first
  |exact⟨_,rfl,by rw[HA.out],hK⟩
  |exact⟨_,rfl,by rw[HA.out]⟩
def yM (l:List Tx)(a:RAtom):Tx:=a.pred++Hb l 0 a.terms++[41]
theorem pB {N l:List Tx}{a:RAtom}(h:WA N l a):(yM l a).length<=1003000:=by
 obtain⟨h1,h2,h3,h4,h5⟩:=h;have:=Si l a.terms 0 fun t ht=>(h5 t ht).2.1;simp only[yM,Aeb,Aff];omega
def prN (a:RAtom):Tx:=if a.nt=true then [33]else []
theorem Sg (l:List Tx)(a:RAtom):Dv l a=prN a++yM l a:=by simp[Dv,prN,yM]
theorem lZ (N l:List Tx)(idn:Nat)(x:RItem)(c:List AV)(hc:RI N l x c)(hN:N.length<=2000)(hm:x.head.pred∈N)(hpl:x.head.pred.length<=1000)(a8:x.body.length<=5)(hh:x.out=false->x.head.nt=false/\WA N l x.head)(hb:∀a∈x.body,WA N l a)(σ:St):
  ACalls Tryz.prog 160 [ag c,sl idn N.length (N.map str)] σ fun r σ'=>r=str (if x.out=true then 63::x.head.pred++[46]else Dv l x.head++Gn l 0 x.body++[46])/\Keep σ σ':=by
 obtain⟨ih,id,b,a0,rfl⟩:=hc;have a7:=EL.length xV a0;have ba:({data:=#[63]}:ByteArray)=bs [63]:=rfl;have bc:({data:=#[46]}:ByteArray)=bs [46]:=rfl;have bd:({data:=#[44]}:ByteArray)=bs [44]:=rfl;have be:({data:=#[33]}:ByteArray)=bs [33]:=rfl;have bb:({data:=#[58,45]}:ByteArray)=bs [58,45]:=rfl;cases ho:x.out with
 |true=>
  have ax:=Afj hm;have a5:(N.map str).drop (N.idxOf x.head.pred)=str x.head.pred::(N.map str).drop (N.idxOf x.head.pred+1):=by
   have:=A2 ax;rwa[Afi ax]at this
  generalize N.idxOf x.head.pred=ix at ax a5;clear hh hb;refine Z9 49 [.tmp 4] Tryz.func160 ?_
  repeat' first|refine Z1 ?_|refine Z8 fun ya J=>?_|refine Z4 ?_;clear J ya|refine Z2 ?_ ?_<;>intro h ac<;>try exact Xp|refine Z7 ?_|exact Zt|apply J.out;clear J ya
  exact⟨_,rfl,by simp,Xs⟩
 |false=>
  obtain⟨hnt,ai⟩:=hh ho;have a4:=pB ai;have au:=fun σ=>Vx N l idn ih x.head ai.1 hN ai.2.1 ai.2.2.1 ai.2.2.2.1 ai.2.2.2.2 σ;have ao:Agt (Dv l x.head=yM l x.head):=by rw[Agt,Sg,prN,hnt];simp
  have au:∀σ,ACalls Tryz.prog 198 [ag [sc (.int .i64 (N.idxOf x.head.pred:Nat)),sl ih x.head.terms.length (Dm l x.head.terms)],sl idn N.length (N.map str)] σ fun r σ'=>r=str (yM l x.head)/\Keep σ σ':=au;generalize yM l x.head=ae at a4 au ao;clear hh ai hm hnt;rw[if_neg (by simp),ao.out];refine Z9 49 [.tmp 4] Tryz.func160 ?_
  repeat' first|refine Z1 ?_|refine Z8 fun ya J=>?_|refine Z4 ?_;clear J ya|refine Z2 ?_ ?_<;>intro h ac<;>try exact Xp|refine Z5 ?_;refine Xi (au _) ?_;rintro _ _ ⟨rfl,ay⟩;(have av:=ay.obj;have an:=ay.nobj;simp only[Aa]at an)|refine Z7 ?_|exact Zt|apply J.out;clear J ya
  rename_i σ1
  refine Ad (fun m s σ'=>∃(j:Nat) (acc:Tx),m=x.body.length-j/\j<=x.body.length/\s 1=sl idn N.length (N.map str)/\s 5=str acc/\s 23=sl id x.body.length b/\s 24=sc (.int .i64 x.body.length)/\s 25=sc (.int .i64 j)/\Keep σ σ'/\acc.length<=1003000+j*1003010/\Agt (acc=ae++Gn l 0 (x.body.take j))) x.body.length
   ⟨0,ae,Agm,Agm,by simp[upd,initS],Ago,Ago,Ago,rfl,Xs,Agm,by simp[Agt,Gn]⟩ ?_
  clear ay av an;rintro m s σ' ⟨j,acc,rfl,hj,h1,h5,bh,bg,bf,hK,a9,hA⟩;have a6:=hK.nobj;by_cases az:j<x.body.length
  ·have ak:=Adn az;have aj:=hb x.body[j] (Aes az);obtain⟨ia,r,hd⟩:=Ac3 a0 ak;have aa:Agt (ae++Gn l 0 (x.body.take (j+1))=acc++(Wg j++(prN x.body[j]++yM l x.body[j]))):=by
    rw[Agt,Ad0,ak,Aez,P5,Sg,hA.out,Aec,Aeh Agm,Aea,Aed]
   have ao:=pB aj;have am:∀σ,ACalls Tryz.prog 198 [ag [sc (.int .i64 (N.idxOf x.body[j].pred:Nat)),sl ia x.body[j].terms.length (Dm l x.body[j].terms)],sl idn N.length (N.map str)] σ fun r σ'=>r=str (yM l x.body[j])/\Keep σ σ':=fun σ=>Vx N l idn ia x.body[j] aj.1 hN aj.2.1 aj.2.2.1 aj.2.2.2.1 aj.2.2.2.2 σ;have ap:Agt (prN x.body[j]=if x.body[j].nt=true then [33]else []):=rfl;clear ak aj;generalize x.body[j]=a at hd aa ao am ap;generalize yM l a=wa at aa ao am;cases hnt:a.nt with
   |true=>
    rw[hnt]at hd;have aa:Agt (ae++Gn l 0 (x.body.take (j+1))=acc++(Wg j++([33]++wa))):=by rw[Agt,aa.out,ap.out,if_pos hnt]
    clear ap;by_cases ad:j=0
    ·have aw:((j:Int)==0)=true:=by simp[ad]
     have aa:Agt (ae++Gn l 0 (x.body.take (j+1))=acc++([58,45]++([33]++wa))):=by rw[Agt,aa.out,Wg,if_pos ad]
     clear ad
     repeat' first|refine Z1 ?_|refine Z8 fun ya J=>?_|refine Z4 ?_;clear J ya|refine Z2 ?_ ?_<;>intro h ac<;>try exact Xp|refine Z5 ?_;refine Xi (am _) ?_;rintro _ _ ⟨rfl,ab⟩;(have af:=ab.obj;have ah:=ab.nobj)|refine Z7 ?_|exact Zt|apply J.out;clear J ya
     exact⟨x.body.length-(j+1),Agm,j+1,acc++([58,45]++([33]++wa)),rfl,Agm,by simp,by simp,((hK.new _).put hK.nobj _).trans ab,by simp;omega,by rw[Agt,aa.out]⟩
    ·have aw:((j:Int)==0)=false:=by simp;omega
     have aa:Agt (ae++Gn l 0 (x.body.take (j+1))=acc++([44]++([33]++wa))):=by rw[Agt,aa.out,Wg,if_neg ad]
     clear ad
     repeat' first|refine Z1 ?_|refine Z8 fun ya J=>?_|refine Z4 ?_;clear J ya|refine Z2 ?_ ?_<;>intro h ac<;>try exact Xp|refine Z5 ?_;refine Xi (am _) ?_;rintro _ _ ⟨rfl,ab⟩;(have af:=ab.obj;have ah:=ab.nobj)|refine Z7 ?_|exact Zt|apply J.out;clear J ya
     exact⟨x.body.length-(j+1),Agm,j+1,acc++([44]++([33]++wa)),rfl,Agm,by simp,by simp,((hK.new _).put hK.nobj _).trans ab,by simp;omega,by rw[Agt,aa.out]⟩
   |false=>
    rw[hnt]at hd;have aa:Agt (ae++Gn l 0 (x.body.take (j+1))=acc++(Wg j++([]++wa))):=by rw[Agt,aa.out,ap.out,if_neg (by rw[hnt];simp)]
    clear ap;by_cases ad:j=0
    ·have aw:((j:Int)==0)=true:=by simp[ad]
     have aa:Agt (ae++Gn l 0 (x.body.take (j+1))=acc++([58,45]++([]++wa))):=by rw[Agt,aa.out,Wg,if_pos ad]
     clear ad
     repeat' first|refine Z1 ?_|refine Z8 fun ya J=>?_|refine Z4 ?_;clear J ya|refine Z2 ?_ ?_<;>intro h ac<;>try exact Xp|refine Z5 ?_;refine Xi (am _) ?_;rintro _ _ ⟨rfl,ab⟩;(have af:=ab.obj;have ah:=ab.nobj)|refine Z7 ?_|exact Zt|apply J.out;clear J ya
     exact⟨x.body.length-(j+1),Agm,j+1,acc++([58,45]++([]++wa)),rfl,Agm,by simp,by simp,((hK.new _).put hK.nobj _).trans ab,by simp;omega,by rw[Agt,aa.out]⟩
    ·have aw:((j:Int)==0)=false:=by simp;omega
     have aa:Agt (ae++Gn l 0 (x.body.take (j+1))=acc++([44]++([]++wa))):=by rw[Agt,aa.out,Wg,if_neg ad]
     clear ad
     repeat' first|refine Z1 ?_|refine Z8 fun ya J=>?_|refine Z4 ?_;clear J ya|refine Z2 ?_ ?_<;>intro h ac<;>try exact Xp|refine Z5 ?_;refine Xi (am _) ?_;rintro _ _ ⟨rfl,ab⟩;(have af:=ab.obj;have ah:=ab.nobj)|refine Z7 ?_|exact Zt|apply J.out;clear J ya
     exact⟨x.body.length-(j+1),Agm,j+1,acc++([44]++([]++wa)),rfl,Agm,by simp,by simp,((hK.new _).put hK.nobj _).trans ab,by simp;omega,by rw[Agt,aa.out]⟩
  ·have a3:j=x.body.length:=Agm;subst a3;rw[Adu]at hA
   repeat' first|refine Z1 ?_|refine Z8 fun ya J=>?_|refine Z4 ?_;clear J ya|refine Z2 ?_ ?_<;>intro h ac<;>try exact Xp|refine Z7 ?_|exact Zt|apply J.out;clear J ya
   first
   |exact⟨_,rfl,by rw[hA.out],hK⟩
   |exact⟨_,rfl,by rw[hA.out]⟩
theorem Wq (N:List Tx)(l:List RItem)(cs:List AV)(idn idi:Nat)(hB:Bk N l cs)(x:RItem)(c:List AV)(hx:PI N x c)(hw:WI N x)(σ:St):ACalls Tryz.prog 104 [C8 N idn l idi cs,ag c] σ fun r σ'=>r=str (Dq x)/\Keep σ σ':=by
 have hN:=hB.nm;have ae:=J7 hw.fits hw.short;obtain⟨hm,ih,id,b,hb,rfl⟩:=hx;have hO:=fun σ=>bV N x _ (PI.of (ih:=ih) (id:=id) hm hb) hw.out hw.fits hw.va hw.vh hw.vb σ;have hT:=fun c hc σ=>lZ N (Au x) idn x c hc hN hw.mem hw.short.1.1 hw.body hw.head hw.wa σ;have hT:∀c,RI N (Au x) x c->∀σ,ACalls Tryz.prog 160 [ag c,sl idn N.length (N.map str)] σ fun r σ'=>r=str (Dq x)/\Keep σ σ':=hT;generalize af:Dq x=wx at hT ae⊢;clear af hw;refine Z9 12 [.tmp 4] Tryz.func104 ?_
 repeat' first|refine Z1 ?_|refine Z8 fun ya J=>?_|refine Z4 ?_;clear J ya|refine Z2 ?_ ?_<;>intro h ai<;>try exact Xp|(refine Z5 ?_;first|(refine Xi (hO _) ?_;rintro _ _ ⟨c2,rfl,aj,an,ac⟩;(have ad:=ac.obj;have aa:=ac.nobj;(try simp only[Aa,Ac,Ax]at aa);obtain⟨ih2,id2,b2,ah,rfl⟩:=aj))|(refine Xi (hT _ ⟨_,_,_,ah,rfl⟩ _) ?_;rintro _ _ ⟨rfl,am⟩))|refine Z7 ?_|exact Zt|apply J.out;clear J ya
 rename_i σ2 σ3;have ak:=(((Keep.refl σ).new _).new _).trans ac;have ab:=((ak.new _).put Agm _).trans am
 first
  |exact⟨_,rfl,rfl,ab⟩
  |exact⟨rfl,ab⟩
  |exact ab
theorem mQ (N:List Tx)(l:List RItem)(cs:List AV)(idn idi:Nat)(hB:Bk N l cs)(hW:∀x∈l,WI N x)(σ:St):ACalls Tryz.prog 60 [C8 N idn l idi cs] σ fun r σ'=>r=str (Bm l)/\Keep σ σ':=by
 have av:=EL.length Gg hB.el;have ak:=hB.len;have hN:=hB.nm;have hE:=hB.el;refine Z9 20 [.tmp 2] Tryz.func60 ?_
 repeat' first|refine Z1 ?_|refine Z8 fun ya J=>?_|refine Z4 ?_;clear J ya|refine Z2 ?_ ?_<;>intro h ab<;>try exact Xp|refine Z7 ?_|exact Zt|apply J.out;clear J ya
 refine Ad (fun m s σ'=>∃(i:Nat) (acc:Tx),m=l.length-i/\i<=l.length/\s 1=ptr σ.nobj 0/\s 3=str acc/\s 7=sl idi l.length cs/\s 8=sc (.int .i64 l.length)/\s 9=sc (.int .i64 i)/\Keep σ σ'/\σ.nobj<σ'.nobj/\σ'.obj σ.nobj=[sl idn N.length (N.map str),sl idi l.length cs]/\acc.length<=i*1100000000/\Agt (acc=Bm (l.take i))) l.length
  ⟨0,[],Agm,Agm,Ago,Ago,Ago,Ago,rfl,Xs,Agq,Al,by simp,by simp[Agt,Bm]⟩ ?_
 rintro m s σ' ⟨i,acc,rfl,hi,h1,h3,h7,h8,h9,hK,au,aj,aw,hA⟩;have ap:=hK.nobj;by_cases af:i<l.length
 ·have aa:=Adn af;have hw:=hW l[i] (Aes af);obtain⟨hm,ih,id,b,r,hb,hd⟩:=J6 hE aa;generalize l[i]=x at hd aa hw hm hb;have HG:Agt (l[i]?=some x):=aa;clear aa;have ai:=J7 hw.fits hw.short;have hT:=fun σ=>Wq N l cs idn idi hB x _ (PI.of (ih:=ih) (id:=id) hm hb) hw σ;generalize ae:Dq x=wx at hT ai;have ao:Agt _:=ae;clear ae hw
  repeat' first|refine Z1 ?_|refine Z8 fun ya J=>?_|refine Z4 ?_;clear J ya|refine Z2 ?_ ?_<;>intro h ab<;>try exact Xp|refine Z5 ?_;refine Xi (hT _) ?_;rintro _ _ ⟨rfl,ac⟩;(have ah:=ac.obj;have ad:=ac.nobj;(try simp only[Aa,Ac,Ax]at ad))|refine Z7 ?_|exact Zt|apply J.out;clear J ya
  rename_i σ3;have an:=((hK.new _).put hK.nobj _).trans ac;have HA:Agt (acc++wx=Bm (l.take (i+1))):=by
   rw[Agt,Ad0,HG.out,hA.out];simp[Bm,ao.out]
  have HL:List.length (acc++wx)<=(i+1)*1100000000:=by simp only[Aeb];omega
  refine⟨l.length-(i+1),Agm,i+1,acc++wx,?_⟩
  ((repeat' refine Zi ?_ ?_)<;>first|exact Xq|exact an|exact HA|exact HL|exact (by rw[ac.obj _ Ags,Ak Agm,Ah Agm,aj])|exact Xs)
 ·have am:i=l.length:=Agm;subst am;rw[Adu]at hA
  repeat' first|refine Z1 ?_|refine Z8 fun ya J=>?_|refine Z4 ?_;clear J ya|refine Z2 ?_ ?_<;>intro h ab<;>try exact Xp|refine Z7 ?_|exact Zt|apply J.out;clear J ya
  first
  |exact⟨_,rfl,by rw[hA.out],hK⟩
  |exact⟨_,rfl,by rw[hA.out]⟩
def T5 (p:Tx)(x:RItem):Bool:=!x.out&&x.head.pred==p
def Nr (l:List RItem)(p:Tx):Bool:=l.any (T5 p)
theorem kY (l:List RItem)(cs:List AV)(idl:Nat)(p:Tx)(hE:EL EItem l cs)(hl:l.length<=16)(σ:St):ACalls Tryz.prog 140 [sl idl l.length cs,str p] σ fun r σ'=>r=sc (.bool (Nr l p))/\σ'=σ:=by
 have af:=EL.length Ci hE;refine Z9 28 [.tmp 4] Tryz.func140 ?_
 repeat' first|refine Z1 ?_|refine Z8 fun ya J=>?_|refine Z4 ?_;clear J ya|refine Z2 ?_ ?_<;>intro h ab<;>try exact Xp|refine Z3 ?_|exact Zt|apply J.out;clear J ya
 refine Ad (fun m s σ'=>∃i:Nat,m=l.length-i/\i<=l.length/\s 0=sl idl l.length cs/\s 1=str p/\s 5=sc (.int .i64 i)/\σ'=σ/\Agt ((l.take i).any (T5 p)=false)) l.length
  ⟨0,Agm,Agm,rfl,rfl,rfl,rfl,by simp[Agt]⟩ ?_
 rintro m s σ' ⟨i,rfl,hi,h0,h1,h5,hσ,ac⟩;subst hσ;by_cases ad:i<l.length
 ·have aa:=Adn ad;obtain⟨ih,id,b,r,hb,hd⟩:=C4 hE aa;generalize l[i]=x at hd aa hb;have HG:Agt (l[i]?=some x):=aa;clear aa
  repeat' first|refine Z1 ?_|refine Z8 fun ya J=>?_|refine Z4 ?_;clear J ya|refine Z2 ?_ ?_<;>intro h ab<;>try exact Xp|refine Z3 ?_|exact Zt|apply J.out;clear J ya
  ·exact⟨_,rfl,by rw[Nr,Dk _ HG.out (by simp only[T5];simp[*])]⟩
  all_goals
   refine⟨l.length-(i+1),Agm,i+1,rfl,Agm,by simp,?_⟩;rw[Agt,any_take_succ _ HG.out,ac.out];simp only[T5];simp[*]
 ·have ae:i=l.length:=Agm;subst ae;rw[Adu]at ac
  repeat' first|refine Z1 ?_|refine Z8 fun ya J=>?_|refine Z4 ?_;clear J ya|refine Z2 ?_ ?_<;>intro h ab<;>try exact Xp|refine Z3 ?_|exact Zt|apply J.out;clear J ya
  exact⟨_,rfl,by rw[Nr,ac.out]⟩
section rounds
variable {N:List Tx} {l:List RItem} (D:Tx->Nat)
end rounds
theorem mF {p:Nat->Bool}{n:Nat}(h:¬0<=Ba p n):∀i,i<n->p i=false:=by
 intro i hi;unfold Ba at h;split at h
 ·rename_i j hj;exact absurd (Afl j) h
 ·rename_i hn;rw[Aex]at hn;simpa using hn i (by simpa using hi)
end Go.Proofs.YtmoeoppbmhfbpaaGreatDoorD
