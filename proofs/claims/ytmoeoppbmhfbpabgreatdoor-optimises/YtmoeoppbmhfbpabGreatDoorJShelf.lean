import Derived.Shelf.Strconv.Itoa3
import Derived.Test.YtmoeoppbmhfbpabGreatDoorProg
import Derived.Test.YtmoeoppbmhfbpabGreatDoorJAbsWp
import Derived.Test.YtmoeoppbmhfbpabGreatDoorJProgR
set_option maxHeartbeats 16000000
set_option maxRecDepth 100000
set_option linter.all false
open List renaming length->Z
namespace Go.Proofs
open Go.Shelf
def Tryz.laysM171_ren:Go.Shelf.Ren:=⟨λ|171=>88|243=>143|246=>191|283=>228|284=>229|285=>230|286=>231|129=>259|317=>258|318=>260|319=>261|320=>262|337=>267|338=>268|n=>n,λ|3=>3|9=>9|2=>2|4=>4|171=>276|0=>0|53=>277|37=>87|5=>5|173=>280|212=>298|51=>299|20=>20|213=>300|46=>301|232=>306|233=>307|n=>n,λ|17=>0|18=>1|19=>2|n=>n⟩
theorem Tryz.laysM171:Go.Proofs.LaysM.n171 Tryz.prog Tryz.laysM171_ren:={
 mixed:=by kernel_rfl
 f129:=Tryz.func259.trans (congrArg some (by kernel_rfl))
 f171:=Tryz.func88.trans (congrArg some (by kernel_rfl))
 f243:=Tryz.func143.trans (congrArg some (by kernel_rfl))
 f246:=Tryz.func191.trans (congrArg some (by kernel_rfl))
 f283:=Tryz.func228.trans (congrArg some (by kernel_rfl))
 f284:=Tryz.func229.trans (congrArg some (by kernel_rfl))
 f285:=Tryz.func230.trans (congrArg some (by kernel_rfl))
 f286:=Tryz.func231.trans (congrArg some (by kernel_rfl))
 f317:=Tryz.func258.trans (congrArg some (by kernel_rfl))
 f318:=Tryz.func260.trans (congrArg some (by kernel_rfl))
 f319:=Tryz.func261.trans (congrArg some (by kernel_rfl))
 f320:=Tryz.func262.trans (congrArg some (by kernel_rfl))
 f337:=Tryz.func267.trans (congrArg some (by kernel_rfl))
 f338:=Tryz.func268.trans (congrArg some (by kernel_rfl))
 t0:=Tryz.underlying0
 a0:=Tryz.isAgg0
 z0:=Tryz.sizeOf0
 v0:=Tryz.zeroValue0
 t2:=Tryz.underlying2
 a2:=Tryz.isAgg2
 z2:=Tryz.sizeOf2
 v2:=Tryz.zeroValue2
 t3:=Tryz.underlying3
 a3:=Tryz.isAgg3
 z3:=Tryz.sizeOf3
 v3:=Tryz.zeroValue3
 t4:=Tryz.underlying4
 a4:=Tryz.isAgg4
 z4:=Tryz.sizeOf4
 v4:=Tryz.zeroValue4
 t5:=Tryz.underlying5
 a5:=Tryz.isAgg5
 z5:=Tryz.sizeOf5
 v5:=Tryz.zeroValue5
 t9:=Tryz.underlying9
 a9:=Tryz.isAgg9
 z9:=Tryz.sizeOf9
 v9:=Tryz.zeroValue9
 t20:=Tryz.underlying20
 a20:=Tryz.isAgg20
 z20:=Tryz.sizeOf20
 v20:=Tryz.zeroValue20
 t37:=Tryz.underlying87
 a37:=Tryz.isAgg87
 z37:=Tryz.sizeOf87
 v37:=Tryz.zeroValue87
 t46:=Tryz.underlying301
 a46:=Tryz.isAgg301
 z46:=Tryz.sizeOf301
 v46:=Tryz.zeroValue301
 t51:=Tryz.underlying299
 a51:=Tryz.isAgg299
 z51:=Tryz.sizeOf299
 v51:=Tryz.zeroValue299
 t53:=Tryz.underlying277
 a53:=Tryz.isAgg277
 z53:=Tryz.sizeOf277
 v53:=Tryz.zeroValue277
 t171:=Tryz.underlying276
 a171:=Tryz.isAgg276
 z171:=Tryz.sizeOf276
 v171:=Tryz.zeroValue276
 t173:=Tryz.underlying280
 a173:=Tryz.isAgg280
 z173:=Tryz.sizeOf280
 v173:=Tryz.zeroValue280
 t212:=Tryz.underlying298
 a212:=Tryz.isAgg298
 z212:=Tryz.sizeOf298
 v212:=Tryz.zeroValue298
 t213:=Tryz.underlying300
 a213:=Tryz.isAgg300
 z213:=Tryz.sizeOf300
 t232:=Tryz.underlying306
 a232:=Tryz.isAgg306
 z232:=Tryz.sizeOf306
 v232:=Tryz.zeroValue306
 t233:=Tryz.underlying307
 a233:=Tryz.isAgg307
 z233:=Tryz.sizeOf307
 v233:=Tryz.zeroValue307
 g17:=by kernel_rfl
 g18:=by kernel_rfl
 g19:=by kernel_rfl
 i0:=by kernel_rfl
 i2:=by kernel_rfl
 i3:=by kernel_rfl
 i4:=by kernel_rfl
 i5:=by kernel_rfl
 i9:=by kernel_rfl
 i20:=by kernel_rfl
 i37:=by kernel_rfl
 i46:=by kernel_rfl
 i51:=by kernel_rfl
 i53:=by kernel_rfl
 i171:=by kernel_rfl
 i173:=by kernel_rfl
 i212:=by kernel_rfl
 i232:=by kernel_rfl
 i233:=by kernel_rfl
 m17:=by kernel_rfl
 m18:=by kernel_rfl
 m19:=by kernel_rfl}
end Go.Proofs
namespace Go.Proofs.YtmoeoppbmhfbpabGreatDoorJ
open Go.Abs Go.Sort
open Go.RowKit (Below)
def Nt (w:World)(k os){b}(h:b<w.heap.size):(grow (w.drewN k) os).heap[b]?=w.heap[b]?:=by
 show (w.heap++os)[b]?=w.heap[b]?;exact Array.getElem?_append_left h
def yN (w:World)(k os){b o}(h:b<w.heap.size):(grow (w.drewN k) os).cell? ⟨b,o,none⟩=w.cell? ⟨b,o,none⟩:=by
 unfold World.cell?;rw[Nt w k os h]
def yK {G d w}(I:Abs.Inv G d w)(k os):Abs.Inv G d (grow (w.drewN k) os)/\CH G d w G d (grow (w.drewN k) os):=by
 have E:CH G d w G d (grow (w.drewN k) os):=⟨rfl,rfl,AU _,λ_ _=>rfl,AU _,λ_ _=>⟨AU _,rfl,λ_=>⟨rfl,rfl⟩⟩,λb l p=>⟨p,yN w k os (I.perlt _ _ p)⟩,λo h=>⟨AU _,λ_=>Nt w k os (I.blk_lt h)⟩⟩;have f:w.heap.size<=(grow (w.drewN k) os).heap.size:=by
  show w.heap.size<=(w.heap++os).size;rw[Array.size_append];omega
 refine⟨⟨λp n=>?_,I.inj,λk q=>?_,I.linj,I.apart,λb l p=>BZ (I.perlt _ _ p) f,I.perlo,?_,BI I.le f,I.hyp⟩,E⟩;obtain⟨g,t,i⟩:=I.C p n;refine⟨g,BZ t f,λu=>?_⟩;obtain⟨⟨c,e,a,m⟩,r⟩:=i u;exact⟨⟨c,e,by rw[Nt _ _ _ (I.blk_lt n)];exact a,VR.all E m⟩,r⟩;obtain⟨g,⟨c,e,a,m⟩,i⟩:=I.lin k q;exact⟨g,⟨c,e,by rw[Nt _ _ _ (I.cur_lt q)];exact a,m⟩,i⟩;have a:=I.below;have v:=I.le;exact⟨a.os,a.tape,a.output,BI a.size f,λj s=>by rw[Nt _ _ _ AA];exact a.block j s⟩
def eJ (n)(j:0<=n)(g:n<=9999)(σ):ni 88 [ic n] σ λx σ'=>x=str (Lib.itoa n)/\σ'=σ:=by
 refine⟨AH,λG w a I A=>?_⟩;obtain⟨v,rfl⟩:∃v,a=#[v]:=by
  have c:=A.1
  match a,c with
  |⟨[v]⟩,_=>exact⟨v,rfl⟩
 have b:v= .int .i64 n:=(A.2 0 v _ rfl rfl).unfold;subst b;refine (Any.strconv_Itoa Tryz.laysM171 n AA AA w (I.hyp w I.below)).mono ?_;rintro e i ⟨rfl,k,f,rfl⟩;obtain⟨d,E⟩:=yK I k f;exact⟨_,G,_,σ,rfl,d,E,VR.sc _,rfl,rfl⟩
open Go.Abs
def DT (w:Tx):Prop:=Ab w=true\/(Ab w=false/\Lib.itoa (Aq w).2=w/\0<=(Aq w).2/\(Aq w).2<=999)
def jI {b m}(h:b.toNat=m):UInt8.ofNat m=b:=by rw[<-h];exact UInt8.ofNat_toNat
def Za {v d}(a:1<=v)(b:d<=9):Lib.decDigits (v*10+d)=Lib.decDigits v++[UInt8.ofNat (48+d)]:=by
 rw[Lib.decDigits,dif_neg AA,show (v*10+d) / 10=v by omega,show (v*10+d) % 10=d by omega]
def iA {w}{m:Nat}(a:Ab w=false)(e:w≠[])(c:Iw w=(m:Int))(f:m<=999)(d:Lib.decDigits m=w):DT w:=by
 cases w with
 |nil=>exact absurd rfl e
 |cons b r=>
  refine .inr ⟨a,?_⟩;rw[Nw a];dsimp only;rw[c];exact⟨by rw[Lib.itoa_nonneg,d],AA,AA⟩
def mK (s w r)(h:C0 s= .got w r):DT w:=by
 cases s with
 |nil=>cases h
 |cons b q=>
  unfold C0 at h;dsimp only at h;split at h;rename_i a;cases h;exact .inl a;rename_i a;have a:Bs b.toNat=false:=nn a;split at h;rename_i p;cases h;have f:b.toNat=48:=by
   have:(b.toNat:Int)=48:=nn p;omega
  exact iA (m:=0) a nk (by simp[Iw,f]) AA (by rw[Lib.decDigits_one AA,jI f]);split at h;rename_i o;cases h;have v:49<=b.toNat/\b.toNat<=57:=by simp[Gv]at o;omega
  have e:=(Ek A6 2 q).2;have l:Z (Ay A6 2 q).1<=2:=by
   cases q with
   |nil=>simp[Ay]
   |cons c q=>
    unfold Ay;split;cases q with
    |nil=>simp[Ay]
    |cons d q=>unfold Ay;split<;>simp[Ay]
    simp
  have k:∀c:UInt8,A6 c.toNat=true->48<=c.toNat/\c.toNat<=57:=λc j=>by simp[A6]at j;omega
  have g:Lib.decDigits (b.toNat-48)=[b]:=by rw[Lib.decDigits_one AA,jI (show b.toNat=48+(b.toNat-48)by omega)]
  generalize (Ay A6 2 q).1=n at e l
  match n,e,l with
  |[],_,_=>exact iA (m:=b.toNat-48) a nk (by simp[Iw];omega) AA g
  |[c],e,_=>
   have j:=k c (e c nk);have i:Lib.decDigits ((b.toNat-48)*10+(c.toNat-48))=[b,c]:=by rw[Za AA AA,g,jI (show c.toNat=48+(c.toNat-48)by omega)];rfl
   exact iA (m:=(b.toNat-48)*10+(c.toNat-48)) a nk (by simp[Iw];omega) AA i
  |[c,d],e,_=>
   have j:=k c (e c nk);have u:=k d (e d nk);have i:Lib.decDigits ((b.toNat-48)*10+(c.toNat-48))=[b,c]:=by rw[Za AA AA,g,jI (show c.toNat=48+(c.toNat-48)by omega)];rfl
   have t:Lib.decDigits (((b.toNat-48)*10+(c.toNat-48))*10+(d.toNat-48))=[b,c,d]:=by rw[Za AA AA,i,jI (show d.toNat=48+(d.toNat-48)by omega)];rfl
   exact iA (m:=((b.toNat-48)*10+(c.toNat-48))*10+(d.toNat-48)) a nk (by simp[Iw];omega) AA t
  cases h
def Bv (l:ol)(s:Tx):Int:=if s∈l then ((l.idxOf s:Nat):Int)else -1
def Jb (l ids n)(u:Z l<=10000000)(σ):ni 68 [sl ids (Z l) (l.map str),str n] σ λx σ'=>x=ic (Bv l n)/\σ'=σ:=by
 refine Z9 19 [.tmp 4] Tryz.func68 ?_;refine mu ?_
 refine Ae (λm b σ'=>∃i:Nat,m=Z l-i/\i<=Z l/\b 0=sl ids (Z l) (l.map str)/\b 1=str n/\b 5=ic i/\σ'=σ/\AC (∀a,a<i->l[a]?≠some n)) (Z l)
  ⟨0,AA,AA,rfl,rfl,rfl,rfl,λa r=>AA⟩ ?_
 rintro m b σ' ⟨i,rfl,z,v,s,t,f,d⟩;subst f;by_cases g:i<Z l
 ·have k:=A1 g;have c:AC (l[i]?=some l[i]):=AK g;generalize l[i]=w at k c
  repeat' first|refine Z1 ?_|refine Z8 λyb ya=>?_|refine Z4 ?_;clear ya yb|refine Z2 ?_ ?_<;>intro h y<;>try exact Xp|refine Z7 ?_|exact Zt|apply ya.o;clear ya yb
  ·have e:w=n:=nn h
   subst e;have j:w∈l:=AY c.o;exact⟨_,rfl,by rw[Bv,if_pos j,Ov d.o c.o]⟩
  have e:w≠n:=nn h;refine⟨Z l-(i+1),AA,i+1,rfl,AA,nk,?_⟩;intro a r;by_cases q:a=i
  ·subst q;rw[c.o];simpa using e
  exact d.o a AA
 have p:i=Z l:=AA;subst p;have o:=Qe d.o;refine mu ?_;exact⟨_,rfl,by rw[Bv,if_neg o]⟩
def Er (acc:ol)(t:Tx):ol:=if Ab t=true/\t∉acc then acc++[t]else acc
def Fu (acc:ol)(a:ol):ol:=a.foldl Er acc
def Au (x:AB):ol:=Fu [] ((Af x).flatMap (·.A))
def Ro (a):∀acc,Z (Fu acc a)<=Z acc+Z a:=by
 induction a with
 |nil=>intro acc;simp[Fu]
 |cons t a b=>
  intro acc;have:=b (Er acc t);have c:Z (Er acc t)<=Z acc+1:=by unfold Er;split<;>simp
  simp only[Fu,FW,BQ]at*
  omega
def dZ (acc ts t):Fu acc (ts++[t])=Er (Fu acc ts) t:=by simp[Fu]
def gC (x c)(M:AJ x c)(t:x.fits)(σ):ni 98 [ag c] σ λr σ'=>∃id,r=sl id (Z (Au x)) ((Au x).map str)/\AD σ σ':=by
 have hA:=Qq x c M (by have:=t.1;omega);obtain⟨ih,id,b,hb,rfl⟩:=M.cells;have a5:=t.atoms;have a3:∀a∈Af x,Z a.A<=1000:=by
  intro a F;unfold Af at F;rcases AW.1 F with h|h
  ·split at h
   ·cases h
   simp at h;subst h;exact t.2.1
  exact t.2.2 a h
 refine Z9 47 [.tmp 2] Tryz.func98 ?_
 repeat' first|refine Z1 ?_|refine Z8 λyb ya=>?_|refine Z4 ?_;clear ya yb|refine Z2 ?_ ?_<;>intro h D<;>try exact Xp|refine Z6 ?_;intro g A L X R ab Q U|refine Z5 ?_;refine Xi (hA _) ?_;rintro _ _ ⟨n,I,rfl,N,K⟩;(have O:=K.B;(try simp only[Aa,Ac,Az]at O))|refine Z7 ?_|exact Zt|apply ya.o;clear ya yb
 rename_i y;have a4:=EL.length A7 N;have E:AD σ y:=Xs;clear K
 refine Ae (λm s σ'=>∃(j d:Nat) (l:ol),m=Z (Af x)-j/\j<=Z (Af x)/\s 3=sl d (Z l) (l.map str)/\s 4=sl n (Z (Af x)) I/\s 5=ic j/\AD σ σ'/\Own σ σ' d (Z l)/\Z l<=j*1000/\AC (l=Fu [] (((Af x).take j).flatMap (·.A)))) (Z (Af x))
  ⟨0,1,[],AA,AA,rfl,rfl,rfl,E,Own.nil _ _,nk,by simp[AC,Fu]⟩ ?_
 clear E O;rintro m s σ' ⟨j,d,l,rfl,hj,B,C,u,p,f,i,e⟩;by_cases G:j<Z (Af x)
 ·have o:=AK G;have Y:=a3 (Af x)[j] (AR G);obtain⟨ia,r,P⟩:=Ca N o;generalize (Af x)[j]=a at P o Y;have HG:AC ((Af x)[j]?=some a):=o;clear o
  refine mu ?_
  refine Ae (λm s σ'=>∃(k d:Nat) (l:ol),m=Z a.A-k/\k<=Z a.A/\s 3=sl d (Z l) (l.map str)/\s 4=sl n (Z (Af x)) I/\s 5=ic j/\s 6=ic k/\AD σ σ'/\Own σ σ' d (Z l)/\Z l<=j*1000+k/\AC (l=Fu [] (((Af x).take j).flatMap (·.A)++a.A.take k))) (Z a.A)
   ⟨0,d,l,AA,AA,by simp[upd,B],by simp[upd,C],by simp[upd,u],rfl,p,f,AA,nn e⟩ ?_
  clear p f e i B C u l;rintro m s σ' ⟨k,d,l,rfl,hk,B,C,u,h6,p,f,i,e⟩;by_cases H:k<Z a.A
  ·have av:=A1 H;have J:AC (a.A[k]?=some a.A[k]):=AK H;generalize a.A[k]=w at av J;have v:AC (Fu [] (((Af x).take j).flatMap (·.A)++a.A.take (k+1))=Er l w):=by
    rw[AC,AT,J.o,BN,<-CR,dZ,<-e.o]
   repeat' first|refine Z1 ?_|refine Z8 λyb ya=>?_|refine Z4 ?_;clear ya yb|refine Z2 ?_ ?_<;>intro h D<;>try exact Xp|refine Z6 ?_;intro g A L X R ab Q U|(refine Z5 ?_;first|(refine Xi (Cg _ _) ?_;rintro _ _ ⟨rfl,rfl⟩)|(refine Xi (Jb l d w AA _) ?_;rintro _ _ ⟨rfl,rfl⟩))|refine Z7 ?_|exact Zt|apply ya.o;clear ya yb
   ·have T:w∉l:=λq=>by
     rw[Bv,if_pos q]at D;omega
    have z:Ab w=true:=nu;refine⟨Z a.A-(k+1),AA,k+1,g,l++[w],rfl,AA,nk,nk,nn L,by simp;omega,?_⟩;rw[AC,v.o,Er,if_pos ⟨z,T⟩]
   ·have S:w∈l:=by
     by_cases q:w∈l
     ·exact q
     rw[Bv,if_neg q]at D;omega
    refine⟨Z a.A-(k+1),AA,k+1,d,l,rfl,AA,rfl,nk,f,AA,?_⟩;rw[AC,v.o,Er,if_neg (λh=>h.2 S)]
   have z:Ab w=false:=nu;refine⟨Z a.A-(k+1),AA,k+1,d,l,rfl,AA,rfl,nk,f,AA,?_⟩;rw[AC,v.o,Er,if_neg (λh=>by rw[z]at h;cases h.1)]
  have V:k=Z a.A:=AA;subst V;rw[AS]at e;refine mu ?_;exact⟨Z (Af x)-(j+1),AA,j+1,d,l,rfl,AA,rfl,nk,f,AA,by rw[AC,AT,HG.o];simpa using e.o⟩
 have W:j=Z (Af x):=AA;subst W;rw[AS]at e;refine mu ?_;rw[Au,<-e.o]
 first|exact⟨_,rfl,d,rfl,p⟩|exact⟨_,rfl,d,rfl⟩
def Im (k:Int):UInt8:=UInt8.ofNat (IntKind.u8.wrap (IntKind.i64.wrap (65+Int.tmod k 26))).toNat
def C6 (l:ol)(t:Tx):Tx:=if Ab t=true then [Im (Bv l t)]else t
def Ph (k:Nat):Tx:=if k=0 then [40]else [44]
def Ii (l:ol):Nat->ol->Tx
 |_,[]=>[]
 |k,t::a=>Ph k++C6 l t++Ii l (k+1) a
def Ob (l):∀(a:ol) (k:Nat) (t:Tx),Ii l k (a++[t])=Ii l k a++(Ph (k+Z a)++C6 l t)
 |[],k,t=>by simp[Ii]
 |u::a,k,t=>by
  rw[EW,Ii,Ob l a (k+1) t,Ii];simp only[CR,BQ];rw[show k+1+Z a=k+(Z a+1)by omega]
def Ec (l:ol)(a:AE):Tx:=(if a.nt=true then [33]else [])++a.B++Ii l 0 a.A++[41]
def short (a:AE):Prop:=Z a.B<=1000/\Z a.A<=1000/\∀t∈a.A,Z t<=1000
def U2 (l t)(h:Z t<=1000):Z (C6 l t)<=1000:=by unfold C6;split<;>simp[h]
def Vo (l):∀(a:ol) (k:Nat),(∀t∈a,Z t<=1000)->Z (Ii l k a)<=Z a*1001
 |[],k,h=>by simp[Ii]
 |t::a,k,h=>by
  have d:=U2 l t (h t nk);have c:=Vo l a (k+1) λu b=>h u (by simp[b]);have e:Z (Ph k)=1:=by unfold Ph;split<;>rfl
  simp only[Ii,AX,BQ];omega
def tG (a:AE):Tx:=(if a.nt=true then [33]else [])++a.B
def Vm (l ids a c)(O:Bf a c)(x:Z l<=10000000)(S:short a)(σ):ni 119 [ag c,sl ids (Z l) (l.map str)] σ λr σ'=>r=str (Ec l a)/\AD σ σ':=by
 obtain⟨F,rfl⟩:=O;obtain⟨W,V,E⟩:=S;have U:({data:=#[33]}:ByteArray)=bs [33]:=rfl;refine Z9 47 [.tmp 4] Tryz.func119 ?_;cases d:a.nt with
 |true=>
  refine mu ?_
  refine Ae (λm s σ'=>∃(k:Nat) (b:Tx),m=Z a.A-k/\k<=Z a.A/\s 1=sl ids (Z l) (l.map str)/\s 2=ptr σ.B 0/\s 5=str b/\s 6=ic k/\AD σ σ'/\σ'.C σ.B=[my a.nt,str a.B,sl F (Z a.A) (a.A.map str)]/\σ.B<σ'.B/\Z b<=1001+k*1001/\AC (b=tG a++Ii l 0 (a.A.take k))) (Z a.A)
   ⟨0,tG a,AA,AA,rfl,rfl,by simp[upd,tG,d],rfl,Xs,by rw[d];exact Ao,by simp[Aa],by simp[tG,d];omega,by simp[AC,Ii]⟩ ?_
  rintro m s σ' ⟨k,b,rfl,G,H,R,I,N,C,K,Q,M,j⟩;have J:({data:=#[40]}:ByteArray)=bs [40]:=rfl;have P:({data:=#[44]}:ByteArray)=bs [44]:=rfl;have T:({data:=#[41]}:ByteArray)=bs [41]:=rfl;have L:∀z:UInt8,({data:=#[z]}:ByteArray)=bs [z]:=λ_=>rfl;by_cases p:k<Z a.A
  ·have y:=A1 p;have t:AC (a.A[k]?=some a.A[k]):=AK p;have v:=E a.A[k] (AR p);generalize a.A[k]=w at y t v;have n:AC (tG a++Ii l 0 (a.A.take (k+1))=b++(Ph k++C6 l w)):=by
    rw[AC,AT,t.o,BN,Ob,j.o,CN,ER AA,DY,CR]
   have q:Z (C6 l w)<=1000:=U2 l w v;have u:Z (Ph k)=1:=by unfold Ph;split<;>rfl
   have o:AC (Z (C6 l w)<=1000):=q;have i:AC (Z (Ph k)=1):=u;clear q u;by_cases g:k=0
   ·have D:((k:Int)==0)=true:=by simp[g]
    have f:AC (Ph k=[40]):=by simp[AC,Ph,g]
    clear g
    repeat' first|refine Z1 ?_|refine Z8 λyb ya=>?_|refine Z4 ?_;clear ya yb|refine Z2 ?_ ?_<;>intro h A<;>try exact Xp|(refine Z5 ?_;first|(refine Xi (Cg _ _) ?_;rintro _ _ ⟨rfl,rfl⟩)|(refine Xi (Jb l ids w x _) ?_;rintro _ _ ⟨rfl,rfl⟩))|refine Z7 ?_|exact Zt|apply ya.o;clear ya yb
    ·have e:Ab w=true:=nu
     refine⟨Z a.A-(k+1),AA,k+1,b++(Ph k++C6 l w),rfl,AA,by rw[f.o,C6,if_pos e];simp[Im],nk,Xs,by have:=o.o;have:=i.o;simp only[AX];omega,by rw[AC,n.o]⟩
    have e:Ab w=false:=nu;refine⟨Z a.A-(k+1),AA,k+1,b++(Ph k++C6 l w),rfl,AA,by rw[f.o,C6,if_neg (by rw[e];simp)];simp,nk,by have:=o.o;have:=i.o;simp only[AX];omega,by rw[AC,n.o]⟩
   have D:((k:Int)==0)=false:=by simp;omega
   have f:AC (Ph k=[44]):=by simp[AC,Ph,g]
   clear g
   repeat' first|refine Z1 ?_|refine Z8 λyb ya=>?_|refine Z4 ?_;clear ya yb|refine Z2 ?_ ?_<;>intro h A<;>try exact Xp|(refine Z5 ?_;first|(refine Xi (Cg _ _) ?_;rintro _ _ ⟨rfl,rfl⟩)|(refine Xi (Jb l ids w x _) ?_;rintro _ _ ⟨rfl,rfl⟩))|refine Z7 ?_|exact Zt|apply ya.o;clear ya yb
   ·have e:Ab w=true:=nu
    refine⟨Z a.A-(k+1),AA,k+1,b++(Ph k++C6 l w),rfl,AA,by rw[f.o,C6,if_pos e];simp[Im],nk,Xs,by have:=o.o;have:=i.o;simp only[AX];omega,by rw[AC,n.o]⟩
   have e:Ab w=false:=nu;refine⟨Z a.A-(k+1),AA,k+1,b++(Ph k++C6 l w),rfl,AA,by rw[f.o,C6,if_neg (by rw[e];simp)];simp,nk,by have:=o.o;have:=i.o;simp only[AX];omega,by rw[AC,n.o]⟩
  have B:k=Z a.A:=AA;subst B;rw[AS]at j;refine mu ?_
  first
  |exact⟨_,rfl,by rw[j.o];simp[Ec,tG,d],C⟩
  |exact⟨_,rfl,by rw[j.o];simp[Ec,tG,d]⟩
 |false=>
  refine mu ?_
  refine Ae (λm s σ'=>∃(k:Nat) (b:Tx),m=Z a.A-k/\k<=Z a.A/\s 1=sl ids (Z l) (l.map str)/\s 2=ptr σ.B 0/\s 5=str b/\s 6=ic k/\AD σ σ'/\σ'.C σ.B=[my a.nt,str a.B,sl F (Z a.A) (a.A.map str)]/\σ.B<σ'.B/\Z b<=1001+k*1001/\AC (b=tG a++Ii l 0 (a.A.take k))) (Z a.A)
   ⟨0,tG a,AA,AA,rfl,rfl,by simp[upd,tG,d],rfl,Xs,by rw[d];exact Ao,by simp[Aa],by simp[tG,d];omega,by simp[AC,Ii]⟩ ?_
  rintro m s σ' ⟨k,b,rfl,G,H,R,I,N,C,K,Q,M,j⟩;have J:({data:=#[40]}:ByteArray)=bs [40]:=rfl;have P:({data:=#[44]}:ByteArray)=bs [44]:=rfl;have T:({data:=#[41]}:ByteArray)=bs [41]:=rfl;have L:∀z:UInt8,({data:=#[z]}:ByteArray)=bs [z]:=λ_=>rfl;by_cases p:k<Z a.A
  ·have y:=A1 p;have t:AC (a.A[k]?=some a.A[k]):=AK p;have v:=E a.A[k] (AR p);generalize a.A[k]=w at y t v;have n:AC (tG a++Ii l 0 (a.A.take (k+1))=b++(Ph k++C6 l w)):=by
    rw[AC,AT,t.o,BN,Ob,j.o,CN,ER AA,DY,CR]
   have q:Z (C6 l w)<=1000:=U2 l w v;have u:Z (Ph k)=1:=by unfold Ph;split<;>rfl
   have o:AC (Z (C6 l w)<=1000):=q;have i:AC (Z (Ph k)=1):=u;clear q u;by_cases g:k=0
   ·have D:((k:Int)==0)=true:=by simp[g]
    have f:AC (Ph k=[40]):=by simp[AC,Ph,g]
    clear g
    repeat' first|refine Z1 ?_|refine Z8 λyb ya=>?_|refine Z4 ?_;clear ya yb|refine Z2 ?_ ?_<;>intro h A<;>try exact Xp|(refine Z5 ?_;first|(refine Xi (Cg _ _) ?_;rintro _ _ ⟨rfl,rfl⟩)|(refine Xi (Jb l ids w x _) ?_;rintro _ _ ⟨rfl,rfl⟩))|refine Z7 ?_|exact Zt|apply ya.o;clear ya yb
    ·have e:Ab w=true:=nu
     refine⟨Z a.A-(k+1),AA,k+1,b++(Ph k++C6 l w),rfl,AA,by rw[f.o,C6,if_pos e];simp[Im],nk,Xs,by have:=o.o;have:=i.o;simp only[AX];omega,by rw[AC,n.o]⟩
    have e:Ab w=false:=nu;refine⟨Z a.A-(k+1),AA,k+1,b++(Ph k++C6 l w),rfl,AA,by rw[f.o,C6,if_neg (by rw[e];simp)];simp,nk,by have:=o.o;have:=i.o;simp only[AX];omega,by rw[AC,n.o]⟩
   have D:((k:Int)==0)=false:=by simp;omega
   have f:AC (Ph k=[44]):=by simp[AC,Ph,g]
   clear g
   repeat' first|refine Z1 ?_|refine Z8 λyb ya=>?_|refine Z4 ?_;clear ya yb|refine Z2 ?_ ?_<;>intro h A<;>try exact Xp|(refine Z5 ?_;first|(refine Xi (Cg _ _) ?_;rintro _ _ ⟨rfl,rfl⟩)|(refine Xi (Jb l ids w x _) ?_;rintro _ _ ⟨rfl,rfl⟩))|refine Z7 ?_|exact Zt|apply ya.o;clear ya yb
   ·have e:Ab w=true:=nu
    refine⟨Z a.A-(k+1),AA,k+1,b++(Ph k++C6 l w),rfl,AA,by rw[f.o,C6,if_pos e];simp[Im],nk,Xs,by have:=o.o;have:=i.o;simp only[AX];omega,by rw[AC,n.o]⟩
   have e:Ab w=false:=nu;refine⟨Z a.A-(k+1),AA,k+1,b++(Ph k++C6 l w),rfl,AA,by rw[f.o,C6,if_neg (by rw[e];simp)];simp,nk,by have:=o.o;have:=i.o;simp only[AX];omega,by rw[AC,n.o]⟩
  have B:k=Z a.A:=AA;subst B;rw[AS]at j;refine mu ?_
  first
  |exact⟨_,rfl,by rw[j.o];simp[Ec,tG,d],C⟩
  |exact⟨_,rfl,by rw[j.o];simp[Ec,tG,d]⟩
def aJ (j:Nat):Tx:=if j=0 then [58,45]else [44]
def Ht (l:ol):Nat->oq->Tx
 |_,[]=>[]
 |j,a::b=>aJ j++Ec l a++Ht l (j+1) b
def Ss (l):∀(c:oq) (j:Nat) (a:AE),Ht l j (c++[a])=Ht l j c++(aJ (j+Z c)++Ec l a)
 |[],j,a=>by simp[Ht]
 |b::c,j,a=>by
  rw[EW,Ht,Ss l c (j+1) a,Ht];simp only[CR,BQ];rw[show j+1+Z c=j+(Z c+1)by omega]
def Ln {l a}(h:short a):Z (Ec l a)<=1002003:=by
 obtain⟨d,c,b⟩:=h;have f:=Vo l a.A 0 b;have e:Z (if a.nt=true then ([33]:Tx)else [])<=1:=by split<;>simp
 simp only[Ec,AX,KZ];omega
def tH (j):Z (aJ j)<=2:=by unfold aJ;split<;>simp
def Bw (x:AB):Tx:=if x.o=true then 63::x.h.B++[46]else Ec (Au x) x.h++Ht (Au x) 0 x.A++[46]
def AB.short (x:AB):Prop:=Go.Proofs.YtmoeoppbmhfbpabGreatDoorJ.short x.h/\∀a∈x.A,Go.Proofs.YtmoeoppbmhfbpabGreatDoorJ.short a
def oM {x}(e:x.fits):Z ((Af x).flatMap (·.A))<=1001*1000:=by
 have f:=e.atoms;have d:∀a∈Af x,Z a.A<=1000:=by
  intro a g;unfold Af at g;rcases AW.1 g with h|h;split at h;cases h;simp at h;subst h;exact e.2.1;exact e.2.2 a h
 generalize Af x=c at f d;have:Z (c.flatMap (·.A))<=Z c*1000:=by
  clear f;induction c with
  |nil=>simp
  |cons a c i=>
   have k:=i λb j=>d b (by simp[j]);have l:=d a nk;simp only[DN,AX,BQ];omega
 omega
def mT {x}(a:x.fits):Z (Au x)<=10000000:=by
 have b:=Ro ((Af x).flatMap (·.A)) [];have c:=oM a;unfold Au;rw[CQ,DY]at b;omega
def Ll (x c)(T:AJ x c)(G:x.fits)(hs:x.short)(e):ni 112 [ag c] e λr σ'=>r=str (Bw x)/\AD e σ':=by
 have p:=gC x c T G;have z:=mT G;have a8:=G.1;obtain⟨t,id,b,P,rfl⟩:=T.cells;have bb:=EL.length A7 P;obtain⟨B,a5⟩:=hs;have a9:=B.1;have bd:({data:=#[63]}:ByteArray)=bs [63]:=rfl;have bf:({data:=#[46]}:ByteArray)=bs [46]:=rfl;have bg:({data:=#[44]}:ByteArray)=bs [44]:=rfl;have be:({data:=#[58,45]}:ByteArray)=bs [58,45]:=rfl;refine Z9 43 [.tmp 2] Tryz.func112 ?_;cases o:x.o with
 |true=>
  unfold A4;rw[o];refine mu ?_;exact⟨_,rfl,by simp[Bw,o],Xs⟩
 |false=>
  have W:=Ln (l:=Au x) B;unfold A4 at p⊢;rw[o]at p⊢;have n:=λi e=>Vm (Au x) i x.h [my x.h.nt,str x.h.B,sl t (Z x.h.A) (x.h.A.map str)] ⟨t,rfl⟩ z B e;generalize N:Au x=f at p z n W;have R:AC _:=N;clear N
  repeat' first|refine Z1 ?_|refine Z8 λyb ya=>?_|refine Z4 ?_;clear ya yb|refine Z2 ?_ ?_<;>intro h I<;>try exact Xp|(refine Z5 ?_;first|(refine Xi (p _) ?_;rintro _ _ ⟨i,rfl,H⟩;(have L:=H.C;have U:=H.B;(try simp only[Aa,Ac,Az]at U)))|(refine Xi (n _ _) ?_;rintro _ _ ⟨rfl,g⟩;(have u:=g.C;have A:=g.B)))|refine Z7 ?_|exact Zt|apply ya.o;clear ya yb
  rename_i X k;have Q:AD e k:=Xs;have D:k.C e.B=[my false,my x.h.nt,str x.h.B,sl t (Z x.h.A) (x.h.A.map str),sl id (Z x.A) b]:=by
   rw[u _ AA,L _ (by rw[Aa];omega),Ao]
  have O:e.B<k.B:=AA;clear L u H g U A p n
  refine Ae (λm s σ'=>∃(j:Nat) (d:Tx),m=Z x.A-j/\j<=Z x.A/\s 1=ptr e.B 0/\s 3=sl i (Z f) (f.map str)/\s 4=str d/\s 5=ic j/\AD e σ'/\σ'.C e.B=[my false,my x.h.nt,str x.h.B,sl t (Z x.h.A) (x.h.A.map str),sl id (Z x.A) b]/\e.B<σ'.B/\Z d<=1002003+j*1002010/\AC (d=Ec f x.h++Ht f 0 (x.A.take j))) (Z x.A)
   ⟨0,Ec f x.h,AA,AA,AG,AG,AG,rfl,Q,D,O,AA,by simp[AC,Ht]⟩ ?_
  clear Q D O;rintro m s σ' ⟨j,d,rfl,hj,h1,h3,h4,h5,hK,D,ba,bc,v⟩;by_cases S:j<Z x.A
  ·have y:=AK S;have F:=a5 x.A[j] (AR S);obtain⟨K,r,V⟩:=Ca P y;generalize x.A[j]=a at V y F;have HG:AC (x.A[j]?=some a):=y;clear y;have C:AC (Ec f x.h++Ht f 0 (x.A.take (j+1))=d++(aJ j++Ec f a)):=by
    rw[AC,AT,HG.o,BN,Ss,v.o,CN,ER AA,DY,CR]
   have Y:=Ln (l:=f) F;have J:AC (Z (aJ j)<=2):=tH j;have n:=λe=>Vm f i a [my a.nt,str a.B,sl K (Z a.A) (a.A.map str)] ⟨K,rfl⟩ z F e;generalize a3:Ec f a=M at n Y C;clear a3;by_cases q:j=0
   ·have a7:((j:Int)==0)=true:=by simp[q]
    have E:AC (aJ j=[58,45]):=by simp[AC,aJ,q]
    clear q
    repeat' first|refine Z1 ?_|refine Z8 λyb ya=>?_|refine Z4 ?_;clear ya yb|refine Z2 ?_ ?_<;>intro h I<;>try exact Xp|refine Z5 ?_;refine Xi (n _) ?_;rintro _ _ ⟨rfl,g⟩;(have u:=g.C;have A:=g.B)|refine Z7 ?_|exact Zt|apply ya.o;clear ya yb
    refine⟨Z x.A-(j+1),AA,j+1,d++(aJ j++M),rfl,AA,by rw[E.o];simp,nk,Xs,AA,by have:=J.o;simp only[AX];omega,by rw[AC,C.o]⟩
   have a7:((j:Int)==0)=false:=by simp;omega
   have E:AC (aJ j=[44]):=by simp[AC,aJ,q]
   clear q
   repeat' first|refine Z1 ?_|refine Z8 λyb ya=>?_|refine Z4 ?_;clear ya yb|refine Z2 ?_ ?_<;>intro h I<;>try exact Xp|refine Z5 ?_;refine Xi (n _) ?_;rintro _ _ ⟨rfl,g⟩;(have u:=g.C;have A:=g.B)|refine Z7 ?_|exact Zt|apply ya.o;clear ya yb
   refine⟨Z x.A-(j+1),AA,j+1,d++(aJ j++M),rfl,AA,by rw[E.o];simp,nk,Xs,AA,by have:=J.o;simp only[AX];omega,by rw[AC,C.o]⟩
  have a6:j=Z x.A:=AA;subst a6;rw[AS]at v;refine mu ?_
  first
  |exact⟨_,rfl,by rw[v.o];simp[Bw,o,R.o],hK⟩
  |exact⟨_,rfl,by rw[v.o];simp[Bw,o,R.o]⟩
def Bj (l:n0):Tx:=l.flatMap Bw
def iU {l}:∀(c:oq) (j:Nat),(∀a∈c,short a)->Z (Ht l j c)<=Z c*1002010
 |[],j,h=>by simp[Ht]
 |a::c,j,h=>by
  have f:=Ln (l:=l) (h a nk);have e:=iU (l:=l) c (j+1) λb d=>h b (by simp[d]);have g:=tH j;simp only[Ht,AX,BQ];omega
def Lm {x}(b:x.fits)(a:x.short):Z (Bw x)<=1100000000:=by
 have e:=Ln (l:=Au x) a.1;have c:=iU (l:=Au x) x.A 0 a.2;have f:=b.1;have d:=a.1.1;unfold Bw;split;simp;omega;simp only[AX,KZ];omega
def Py (l cs idl)(p:EL AJ l cs)(K:Z l<=16)(y:∀x∈l,x.fits)(C:∀x∈l,x.short)(c):ni 64 [sl idl (Z l) cs] c λr σ'=>r=str (Bj l)/\AD c σ':=by
 have F:=EL.length Cf p;refine Z9 19 [.tmp 2] Tryz.func64 ?_;refine mu ?_
 refine Ae (λm s σ'=>∃(i:Nat) (a:Tx),m=Z l-i/\i<=Z l/\s 0=sl idl (Z l) cs/\s 3=str a/\s 4=ic i/\AD c σ'/\Z a<=i*1100000000/\AC (a=Bj (l.take i))) (Z l)
  ⟨0,[],AA,AA,rfl,rfl,rfl,AD.refl _,nk,by simp[AC,Bj]⟩ ?_
 rintro m s σ' ⟨i,a,rfl,M,L,I,J,z,E,d⟩;by_cases f:i<Z l
 ·have e:=AK f;have g:=y l[i] (AR f);have j:=C l[i] (AR f);obtain⟨o,id,b,r,q,u⟩:=Cv p e;generalize l[i]=x at u e g j q;have B:AC (l[i]?=some x):=e;clear e;have v:=Lm g j;have k:=λc=>Ll x _ (AJ.of (ih:=o) (id:=id) q) g j c;unfold A4 at k;generalize n:Bw x=t at k v;have A:AC _:=n;clear n
  repeat' first|refine Z1 ?_|refine Z8 λyb ya=>?_|refine Z4 ?_;clear ya yb|refine Z2 ?_ ?_<;>intro h G<;>try exact Xp|refine Z5 ?_;refine Xi (k _) ?_;rintro _ _ ⟨rfl,H⟩|refine Z7 ?_|exact Zt|apply ya.o;clear ya yb
  refine⟨Z l-(i+1),AA,i+1,a++t,rfl,AA,nk,nk,Xs,by simp only[AX];omega,?_⟩;rw[AC,AT,B.o,d.o];simp[Bj,A.o]
 have D:i=Z l:=AA;subst D;rw[AS]at d;refine mu ?_
 first
 |exact⟨_,rfl,by rw[d.o],z⟩
 |exact⟨_,rfl,by rw[d.o]⟩
def wU {a t}(h:t∈a):Z t<=Z (Ch a):=by
 induction a with
 |nil=>cases h
 |cons u a b=>
  unfold Ch at*
  simp only[DN,AX,BQ];rcases BD.1 h with rfl|h;omega;have:=b h;omega
def bL {a t}(h:t∈a):Z t<=Z (Bp a):=by
 cases a with
 |nil=>cases h
 |cons u a=>
  unfold Bp;simp only[AX];rcases BD.1 h with rfl|h;omega;have:=wU h;omega
def T2 {a}(c:Z a.A<=3)(h:Z (Bh a)<=1000):short a:=by
 unfold Bh at h;simp only[AX,BQ]at h;refine⟨AA,AA,λt b=>?_⟩;have:=bL b;omega
def jE {x}(m:Dc x)(h:Z (Bz x)<=1000):x.short:=by
 obtain⟨-,i,k⟩:=m;unfold Bz at h;cases b:x.o with
 |true=>
  rw[if_pos b]at h;obtain⟨-,d,g⟩:=i b;simp only[BQ]at h;exact⟨⟨AA,by simp[d],by simp[d]⟩,by simp[g]⟩
 |false=>
  rw[if_neg (by rw[b];simp)]at h;obtain⟨d,-,g,j⟩:=k b;unfold D1 at h;simp only[AX]at h;refine⟨T2 d.2.2.1 AA,λa c=>?_⟩;have l:x.A≠[]:=by intro e;rw[e]at c;cases c
  rw[if_neg l]at h;simp only[BQ]at h;have n:=bL (List.mem_map_of_mem (f:=Cl) c);have o:Z (Bh a)<=Z (Cl a):=by unfold Cl;simp
  exact T2 (j a c).2.2.1 AA
def pY {l x}(h:x∈l):Z (Bz x)<=Z (Cr l):=by
 induction l with
 |nil=>cases h
 |cons y l a=>
  unfold Cr at*
  simp only[DN,AX];rcases BD.1 h with rfl|h;omega;have:=a h;omega
def T8 {s l r}(d:Z s<=1000)(h:Cc 16 s= .got l r):∀x∈l,x.short:=by
 obtain⟨b,-,-,c⟩:=Ka _ _ _ _ h;intro x a;have:=pY a;rw[<-b]at this;exact jE (c x a) AA
def encI (t:Tx):AV:=ic (Aq t).2
def nE {l k}(h:k<Z l):(l.map encI).drop k=ic (Aq l[k]).2::(l.map encI).drop (k+1):=by
 rw[ET (nn h)];simp[encI]
def VL (l:ol):Prop:=∀t∈l,VT t/\Ab t=true
def vQ {t u}(a:VT t)(b:VT u)(d:Ab t=true)(c:Ab u=true)(h:(Aq t).2=(Aq u).2):t=u:=by
 have:=RE a b c;unfold Ql at this;rw[R3 a,d,h]at this;simpa using this.symm
def Rn (l ids t)(L:Z l<=10000000)(r:VL l)(H:VT t)(F:Ab t=true)(σ):ni 85 [ic (Aq t).2,sl ids (Z l) (l.map encI)] σ λx σ'=>x=ic (Bv l t)/\σ'=σ:=by
 have f:∀u∈l,(Aq u).2=(Aq t).2->u=t:=λu o h=>vQ (r u o).1 H (r u o).2 F h;generalize p:(Aq t).2=v at f;have z:AC _:=p;clear p;refine Z9 19 [.tmp 4] Tryz.func85 ?_;refine mr ?_
 refine Ae (λm b σ'=>∃i:Nat,m=Z l-i/\i<=Z l/\b 0=ic v/\b 7=sl ids (Z l) (l.map encI)/\b 8=ic (Z l)/\b 9=ic i/\σ'=σ/\AC (∀a,a<i->l[a]?≠some t)) (Z l)
  ⟨0,AA,AA,rfl,rfl,rfl,rfl,rfl,λa E=>AA⟩ ?_
 rintro m b σ' ⟨i,rfl,N,M,K,O,I,k,g⟩;subst k;by_cases j:i<Z l;have q:=nE j;have d:AC (l[i]?=some l[i]):=AK j;have e:=f l[i] (AR j);generalize l[i]=w at q d e;generalize n:(Aq w).2=B at q e;have G:AC _:=n;have s:AC _:=e;clear n e f;refine m6 ?_ ?_<;>intro h J;have c:w=t:=s.o (nn h);have A:t∈l:=by rw[<-c];exact AY d.o
 exact⟨_,rfl,by rw[Bv,if_pos A,Ov g.o (by rw[d.o,c])]⟩;have c:w≠t:=by
  rintro rfl;have:B=v:=by rw[<-G.o,<-z.o]
  simp[this]at h
 refine⟨Z l-(i+1),AA,i+1,rfl,AA,nk,?_⟩;intro a E;by_cases D:a=i;subst D;rw[d.o];simpa using c;exact g.o a AA;have y:i=Z l:=AA;subst y;have C:=Qe g.o;clear f;refine mr ?_;exact⟨_,rfl,by rw[Bv,if_neg C]⟩
def ZX {l t}(h:VL l)(b:VT t):VL (Er l t):=by
 unfold Er;split;rename_i c;intro u a;rcases AW.1 a with a|a;exact h u a;simp at a;subst a;exact⟨b,c.1⟩;exact h
def Sv (N ls cs ida)(O:EL (PC N) ls cs)(Y:∀a∈ls,VA a)(hn:Z ls<=1001)(a9:∀a∈ls,Z a.A<=1000)(e):
  ni 150 [sl ida (Z ls) cs] e λr σ'=>∃id,r=sl id (Z (Fu [] (ls.flatMap (·.A)))) ((Fu [] (ls.flatMap (·.A))).map encI)/\VL (Fu [] (ls.flatMap (·.A)))/\AD e σ':=by
 have bf:=EL.length iN O;refine Z9 39 [.tmp 2] Tryz.func150 ?_;refine mr ?_
 refine Ae (λm s σ'=>∃(j b:Nat) (l:ol),m=Z ls-j/\j<=Z ls/\s 3=sl b (Z l) (l.map encI)/\s 9=sl ida (Z ls) cs/\s 10=ic (Z ls)/\s 11=ic j/\AD e σ'/\Own e σ' b (Z l)/\Z l<=j*1000/\AC (VL l)/\AC (l=Fu [] ((ls.take j).flatMap (·.A)))) (Z ls)
  ⟨0,1,[],AA,AA,rfl,rfl,rfl,rfl,AD.refl _,Own.nil _ _,nk,(λt X=>by cases X),by simp[AC,Fu]⟩ ?_
 rintro m s σ' ⟨j,b,l,rfl,hj,F,C,B,A,c,i,q,d,g⟩;by_cases D:j<Z ls
 ·have f:=AK D;have a4:=a9 ls[j] (AR D);have G:=Y ls[j] (AR D);obtain⟨W,T,r,Q⟩:=OZ O f;generalize ls[j]=a at Q f a4 W G;have HG:AC (ls[j]?=some a):=f;have bd:AC (VA a):=G;clear f G;have be:=Fh a.A;have L:=c.B
  refine mr ?_
  refine Ae (λm s σ'=>∃(k b:Nat) (l:ol),m=Z a.A-k/\k<=Z a.A/\s 3=sl b (Z l) (l.map encI)/\s 9=sl ida (Z ls) cs/\s 10=ic (Z ls)/\s 11=ic j/\s 16=sl T (Z a.A) (A0 a.A)/\s 17=ic (Z a.A)/\s 18=ic k/\AD e σ'/\Own e σ' b (Z l)/\Z l<=j*1000+k/\AC (VL l)/\AC (l=Fu [] ((ls.take j).flatMap (·.A)++a.A.take k))) (Z a.A)
   ⟨0,b,l,AA,AA,by simp[upd,F],by simp[upd,C],by simp[upd,B],by simp[upd,A],AG,rfl,rfl,(c.new _).put c.B _,Own.put (Own.new i _) _ _,AA,d,nn g⟩ ?_
  clear c i g q d F C B A L l;rintro m s σ' ⟨k,b,l,rfl,hk,F,C,B,A,bi,bh,bg,c,i,q,d,g⟩;have L:=c.B;by_cases M:k<Z a.A
  ·have f:=AK M;have u:=bd.o a.A[k] (AR M);obtain⟨r2,p⟩:=Gm f;generalize a.A[k]=w at p f u;have z:AC (Fu [] ((ls.take j).flatMap (·.A)++a.A.take (k+1))=Er l w):=by
    rw[AC,AT,f,BN,<-CR,dZ,<-g.o]
   have R:AC (VL (Er l w)):=ZX d.o u;clear f;have x:=R3 u;cases n:Ab w with
   |true=>
    rw[n]at x;rw[x]at p;have H:=λe=>Rn l b w AA d.o u n e;generalize J:(Aq w).2=I at p H;have V:AC _:=J;clear J
    repeat' first|refine Z1 ?_|refine Z8 λyb ya=>?_|refine Z4 ?_;clear ya yb|refine Z2 ?_ ?_<;>intro h af<;>try exact Xp|refine Z6 ?_;intro o E K ak U ab S aa|refine Z5 ?_;refine Xi (H _) ?_;rintro _ _ ⟨rfl,rfl⟩|refine Z3 ?_|exact Zt|apply ya.o;clear ya yb
    ·have v:Bv l w= -1:=nn h
     have a5:w∉l:=λy=>by rw[Bv,if_pos y]at v;omega
     have ba:AD e ((σ'.new [my false,ic 0]).put σ'.B [my true,ic I]):=(c.new _).put c.B _;refine Bo (by first|exact S3) ba (Own.put (Own.new i _) _ _) nr (by rfl) nk (by rfl) (by rfl) nr AA AA ?_;intro o E K ak U ab S aa;refine Z3 ?_;refine mr ?_;have P:Er l w=l++[w]:=by rw[Er,if_pos ⟨n,a5⟩]
     refine⟨Z a.A-(k+1),AA,k+1,o,l++[w],rfl,AA,?_,nk,nn K,by simp;omega,by rw[<-P];exact R,by rw[AC,z.o,P]⟩;simp[encI,V.o]
    have v:Bv l w≠ -1:=nn h;have a8:w∈l:=by
     by_cases y:w∈l
     ·exact y
     rw[Bv,if_neg y]at v;exact absurd rfl v
    refine⟨Z a.A-(k+1),AA,k+1,b,l,rfl,AA,rfl,nk,(c.new _).put c.B _,Own.put (Own.new i _) _ _,AA,d,?_⟩;rw[AC,z.o,Er,if_neg (λh=>h.2 a8)]
   |false=>
    rw[n]at x;rw[x]at p;generalize (Aq w).2=I at p;refine mr ?_;refine⟨Z a.A-(k+1),AA,k+1,b,l,rfl,AA,rfl,nk,(c.new _).put c.B _,Own.put (Own.new i _) _ _,AA,d,?_⟩;rw[AC,z.o,Er,if_neg (λh=>by rw[n]at h;cases h.1)]
  have a6:k=Z a.A:=AA;subst a6;rw[AS]at g;refine mr ?_;exact⟨Z ls-(j+1),AA,j+1,b,l,rfl,AA,rfl,nk,i,AA,d,by rw[AC,AT,HG.o];simpa using g.o⟩
 have a7:j=Z ls:=AA;subst a7;rw[AS]at g;refine mr ?_;rw[<-g.o]
 first|exact⟨_,rfl,b,rfl,d.o,c⟩|exact⟨_,rfl,b,rfl,d.o⟩
def Kz (l:ol)(t:Tx):oh:=[my (Ab t),ic (if Ab t=true then Bv l t else (Aq t).2)]
def D6 (l:ol)(a:ol):oh:=a.flatMap (Kz l)
def qT (l b):Z (D6 l b)=Z b*2:=by
 induction b with
 |nil=>rfl
 |cons a b c=>unfold D6 at*;rw[DN,AX,c];simp[Kz];omega
def lO (l ts x):D6 l (ts++[x])=D6 l ts++Kz l x:=by simp[D6]
def Rm (l ido kp ids a)(J:Z l<=10000000)(M:VL l)(F:VA a)(W:Z a.A<=1000)(b):
  ni 144 [ag [ic kp,sl ids (Z a.A) (A0 a.A)],sl ido (Z l) (l.map encI)] b λr σ'=>∃id,r=ag [ic kp,sl id (Z a.A) (D6 l a.A)]/\AD b σ':=by
 have a3:=Fh a.A;have G:AC (VA a):=F;clear F;refine Z9 33 [.cell 4 122] Tryz.func144 ?_;refine mr ?_
 refine Ae (λm s σ'=>∃(k n:Nat) (e:oh),m=Z a.A-k/\k<=Z a.A/\s 1=sl ido (Z l) (l.map encI)/\s 4=ptr (b.B+1) 0/\s 5=ptr (b.B+2) 0/\s 12=sl ids (Z a.A) (A0 a.A)/\s 13=ic (Z a.A)/\s 14=ic k/\AD b σ'/\b.B+2<σ'.B/\σ'.C (b.B+1)=[ic 0,nilS]/\σ'.C (b.B+2)=[ic kp,sl n k e]/\Own b σ' n k/\Z e=k*2/\AC (e=D6 l (a.A.take k))) (Z a.A)
  ⟨0,1,[],AA,AA,by simp[upd,AL],AG,AG,AG,AG,rfl,?_,?_,?_,?_,Own.nil _ _,nk,by simp[AC,D6]⟩ ?_
 exact ((((AD.refl b).new _).new _).new _).put AA _;simp only[Ac,Aa];omega;rw[Aj AA,Ah AM,Be (by rw[Aa];omega) (by rw[Aa];omega)];rw[show b.B+2=b.B+1+1 by omega,Ak];rintro m s σ' ⟨k,n,e,rfl,N,O,X,P,a7,R,S,c,Q,Y,T,C,B,p⟩;have V:=c.B;by_cases E:k<Z a.A;have j:=AK E;have x:=G.o a.A[k] (AR E);obtain⟨U,f⟩:=Gm j;generalize a.A[k]=w at f j x;have D:AC (D6 l (a.A.take (k+1))=e++Kz l w):=by
  rw[AC,AT,j,BN,lO,<-p.o]
 clear j;have o:=R3 x;cases g:Ab w with
 |true=>
  rw[g]at o;rw[o]at f;have A:=λb=>Rn l ido w J M x g b;have i:AC (Kz l w=[my true,ic (Bv l w)]):=by simp[AC,Kz,g]
  generalize (Aq w).2=u at f A;refine m0 ?_;intro yb ya;refine Xi (A _) ?_;rintro _ _ ⟨rfl,rfl⟩;refine nh ?_;intro yb ya;have q:AD b (((σ'.new [my false,ic 0]).put σ'.B [my true,ic u]).put σ'.B [my true,ic (Bv l w)]):=((c.new _).put c.B _).put c.B _;refine Bo (by first|exact Gl) q (Own.put (Own.put (Own.new C _) _ _) _ _) nr (by rfl) B (by rfl) (by rfl) nr AA AA ?_;intro d v t y H z K I;simp only[Ac,Aa]at z;refine Z3 ?_;refine mr ?_;refine⟨Z a.A-(k+1),AA,k+1,d,_,rfl,AA,nk,y.put AA _,AA,rfl,Own.put t _ _,by simp;omega,?_⟩;rw[AC,D.o,i.o]
 |false=>
  rw[g]at o;rw[o]at f;have i:AC (Kz l w=[my false,ic (Aq w).2]):=by simp[AC,Kz,g]
  generalize (Aq w).2=u at f i;refine nh ?_;intro yb ya;have q:AD b ((σ'.new [my false,ic 0]).put σ'.B [my false,ic u]):=(c.new _).put c.B _;refine Bo (by first|exact Gl) q (Own.put (Own.new C _) _ _) nr (by rfl) B (by rfl) (by rfl) nr AA AA ?_;intro d v t y H z K I;simp only[Ac,Aa]at z;refine Z3 ?_;refine mr ?_;refine⟨Z a.A-(k+1),AA,k+1,d,_,rfl,AA,nk,y.put AA _,AA,rfl,Own.put t _ _,by simp;omega,?_⟩;rw[AC,D.o,i.o]
 have L:k=Z a.A:=AA;subst L;rw[AS]at p;refine mr ?_;exact⟨_,rfl,n,by rw[p.o],c.put AA _⟩
def Ut (N x c)(k:PI N x c)(n:x.o=true->x.A=[])(e:x.fits)(q:∀a∈Af x,VA a)(f):ni 96 [ag c] f λr σ'=>∃id,r=sl id (Z (Au x)) ((Au x).map encI)/\VL (Au x)/\AD f σ':=by
 have o:=Nj N x c k n (by have:=e.1;omega);have s:∀a∈Af x,Z a.A<=1000:=by
  intro a m;unfold Af at m;rcases AW.1 m with h|h
  ·split at h
   ·cases h
   simp at h;subst h;exact e.2.1
  exact e.2.2 a h
 have p:=e.atoms;have l:=λj d i f=>Sv N (Af x) j d i q p s f;obtain⟨t,B,id,b,C,rfl⟩:=k;unfold Au;generalize Fu [] ((Af x).flatMap (·.A))=z at l;refine Z9 6 [.tmp 2] Tryz.func96 ?_
 repeat' first|refine Z1 ?_|refine Z8 λyb ya=>?_|refine Z4 ?_;clear ya yb|refine Z2 ?_ ?_<;>intro h u<;>try exact Xp|(refine Z5 ?_;first|(refine Xi (o _) ?_;rintro _ _ ⟨d,j,rfl,i,A⟩)|(refine Xi (l _ _ nu _) ?_;rintro _ _ ⟨g,rfl,v,y⟩))|refine Z3 ?_|exact Zt|apply ya.o;clear ya yb
 exact⟨_,rfl,g,rfl,Xs⟩
def RL (N l:ol)(a:AE)(c:oh):Prop:=∃b,c=[my a.nt,ic (N.idxOf a.B:Nat),sl b (Z a.A) (D6 l a.A)]
def RU {N l}(a c)(h:RL N l a c):Z c=3:=by obtain⟨b,rfl⟩:=h;rfl
def lj {N l d cs i a}(h:EL (RL N l) d cs)(f:d[i]?=some a):∃b r,cs.drop (i*3)=my a.nt::ic (N.idxOf a.B:Nat)::sl b (Z a.A) (D6 l a.A)::r:=by
 obtain⟨c,r,⟨b,rfl⟩,e⟩:=EL.get RU h f;exact⟨b,r,e⟩
def RI (N l:ol)(x:AB)(c:oh):Prop:=∃a id b,EL (RL N l) x.A b/\c=[my x.o,ic (N.idxOf x.h.B:Nat),sl a (Z x.h.A) (D6 l x.h.A),sl id (Z x.A) b]
def gM (N x c)(hc:PI N x c)(ho:x.o=true->x.A=[])(y:x.fits)(hV:∀a∈Af x,VA a)(bf:VA x.h)(bg:∀a∈x.A,VA a)(d):
  ni 93 [ag c] d λr σ'=>∃c',r=ag c'/\RI N (Au x) x c'/\VL (Au x)/\AD d σ':=by
 have a8:=λd=>Ut N x c hc ho y hV d;have U:=mT y;have bo:=y.1;have bd:=y.2.2;obtain⟨hm,L,id,b,hb,rfl⟩:=hc;have bq:=EL.length Eh hb;have I:=λg f (R:Z g<=10000000) A d=>Rm g f (N.idxOf x.h.B:Nat) L x.h R A bf y.2.1 d;have bi:=λg f (a:AE) C M (R:Z g<=10000000) A hv d=>Rm g f (N.idxOf a.B:Nat) C a R A hv (bd a M) d;generalize Au x=g at a8 U;have I:=λf A d=>I g f U A d;refine Z9 39 [.cell 2 125] Tryz.func93 ?_;refine m0 ?_;intro yb ya;refine Xi (a8 _) ?_;rintro _ _ ⟨f,rfl,bh,V⟩;(have S:=V.C;have ao:=V.B;simp only[Aa]at ao);refine mr ?_;rename_i l;have H:l.C d.B=[my x.o,ic (N.idxOf x.h.B:Nat),sl L (Z x.h.A) (A0 x.h.A),sl id (Z x.A) b]:=by
  rw[S _ AM,Ah AM,Ao]
 have B:l.C (d.B+1)=[my false,ic 0,nilS,nilS]:=by
  rw[S _ AM,Be (by rw[Aa];omega) (by rw[Aa];omega)]
 have G:AD d l:=Xs;clear S V;have a9:AC (VL g):=bh;refine A2 (Q:=λe s σ'=>e= .normal/\∃o p:Nat,s 1=ptr d.B 0/\s 2=ptr (d.B+1) 0/\s 3=sl f (Z g) (g.map encI)/\s 4=ptr o 0/\d.B+1<o/\o<σ'.B/\σ'.C d.B=[my x.o,ic (N.idxOf x.h.B:Nat),sl L (Z x.h.A) (A0 x.h.A),sl id (Z x.A) b]/\σ'.C (d.B+1)=[my false,ic 0,nilS,nilS]/\σ'.C o=[my x.o,ic (N.idxOf x.h.B:Nat),sl p (Z x.h.A) (D6 g x.h.A),nilS]/\AD d σ') ?_ ?_;refine Ar Ag (λ_=>True) [8] [0,1,2,3,4] 4 (nv 9 31) AH (λ_ _ _ h=>by cases h.1) ?_;intro yb ya;refine Z3 ?_;refine ya.o _ ?_;clear ya yb;have v:=λd=>I f a9.o d;refine D8 (rs:=[5,7]) AH nk ?_;intro i z;simp only[BD,EK,DZ]at z;rcases z with rfl|rfl;refine Am ?_;intro yb ya;refine Z3 ?_;refine AF.mono (v _) ?_;rintro _ n ⟨p,rfl,j⟩;have t:=j.C;have an:=j.B;refine Z3 ?_;refine ya.o _ _ ⟨Al j,?_⟩;clear ya yb;refine D8 (rs:=[6,7]) AH nk ?_;intro i z;simp only[BD,EK,DZ]at z;rcases z with rfl|rfl;refine Am ?_;intro yb ya;refine Z3 ?_;refine ya.o _ _ ⟨Al j,?_⟩;clear ya yb;refine Ai (i:=7) AH ?_;refine Am ?_;intro yb ya;refine Z3 ?_;refine ya.o _ _ ⟨Al (j.new _),?_⟩;clear ya yb;refine Ai (i:=8) AH ?_;refine Am ?_;intro yb ya;refine Z3 ?_;refine ya.o _ _ ⟨A3 rfl,?_⟩;clear ya yb;refine Aw AH ⟨rfl,n.B,p,AG,AG,AG,AG,AA,BJ,?_,?_,Ak,?_⟩;rw[Aj AA,Ah AA,t _ AA,H];rw[Aj AA,Ah AA,t _ AA,B];exact ((G.trans j).new _).put AA _;refine Am ?_;intro yb ya;refine Z3 ?_;refine ya.o _ _ ⟨Al (j.new _),?_⟩;clear ya yb;refine Ai (i:=6) AH ?_;refine Am ?_;intro yb ya;refine Z3 ?_;refine ya.o _ _ ⟨Al (j.new _),?_⟩;clear ya yb;refine Ai (i:=8) AH ?_;refine Am ?_;intro yb ya;refine Z3 ?_;refine ya.o _ _ ⟨A3 rfl,?_⟩;clear ya yb;refine Aw AH ⟨rfl,n.B,p,AG,AG,AG,AG,AA,BJ,?_,?_,Ak,?_⟩;rw[Aj AA,Ah AA,t _ AA,H];rw[Aj AA,Ah AA,t _ AA,B];exact ((G.trans j).new _).put AA _;refine Am ?_;intro yb ya;refine Z3 ?_;refine ya.o _ _ ⟨Al ((AD.refl _).new _),?_⟩;clear ya yb;refine Ai (i:=5) AH ?_;refine Am ?_;intro yb ya;refine Z3 ?_;refine AF.mono (v _) ?_;rintro _ n ⟨p,rfl,j⟩;have t:=j.C;have an:=j.B;simp only[Aa]at an;refine Z3 ?_;refine ya.o _ _ ⟨Al (((AD.refl _).new _).trans j),?_⟩;clear ya yb;refine Ai (i:=6) AH ?_;refine Am ?_;intro yb ya;refine Z3 ?_;refine ya.o _ _ ⟨Al (((AD.refl _).new _).trans j),?_⟩;clear ya yb;refine Ai (i:=8) AH ?_;refine Am ?_;intro yb ya;refine Z3 ?_;refine ya.o _ _ ⟨A3 rfl,?_⟩;clear ya yb;refine Aw AH ⟨rfl,l.B,p,AG,AG,AG,AG,AA,BJ,?_,?_,Ak,?_⟩;rw[Aj AA,t _ (by rw[Aa];omega),Ah AA,H];rw[Aj AA,t _ (by rw[Aa];omega),Ah AA,B];exact ((G.new _).trans j).put AA _;rintro e s n ⟨rfl,o,p,h1,Y,W,X,bp,a3,ba,T,P,q⟩;have a6:=q.B;clear G H B ao I;refine mr ?_
 refine Ae (λm s σ'=>∃(k E:Nat) (u:oh),m=Z x.A-k/\k<=Z x.A/\s 2=ptr (d.B+1) 0/\s 3=sl f (Z g) (g.map encI)/\s 4=ptr o 0/\s 18=sl id (Z x.A) b/\s 19=ic (Z x.A)/\s 20=ic k/\AD d σ'/\o<σ'.B/\σ'.C (d.B+1)=[my false,ic 0,nilS,nilS]/\σ'.C o=[my x.o,ic (N.idxOf x.h.B:Nat),sl p (Z x.h.A) (D6 g x.h.A),sl E k u]/\Own d σ' E k/\Z u=k*3/\AC (EL (RL N g) (x.A.take k) u)) (Z x.A)
  ⟨0,1,[],AA,AA,by simp[upd,Y],by simp[upd,W],by simp[upd,X],AG,AG,rfl,q,a3,T,P,Own.nil _ _,nk,rfl⟩ ?_
 clear h1 Y W X ba T P q a3 a6;rintro m s σ' ⟨k,E,u,rfl,hk,Y,W,X,bv,bu,br,q,a3,T,P,hO,bc,K⟩;have a6:=q.B;by_cases a7:k<Z x.A;have D:=AK a7;have J:=AR a7;obtain⟨M,C,r,hd⟩:=Pu hb D;have hR:=λd=>bi g f x.A[k] C J U a9.o (bg _ J) d;generalize x.A[k]=a at hd D M hR J;have HG:AC (x.A[k]?=some a):=D;clear D J;refine m0 ?_;intro yb ya;refine Xi (hR _) ?_;rintro _ _ ⟨i4,rfl,F⟩;(have bb:=F.C;have a0:=F.B;simp only[Aa,Ac]at a0);refine nh ?_;intro yb ya;rename_i σ4;have bn:=((q.new [my false,ic 0,nilS]).put q.B _).trans F;have bm:=Own.keep (Own.put (Own.new hO [my false,ic 0,nilS]) σ'.B [my a.nt,ic (N.idxOf a.B:Nat),sl C (Z a.A) (A0 a.A)]) F;refine Bo (by first|exact G5) ((bn.new _).put AA _) (Own.put (Own.new bm _) _ _) nr (by rfl) bc (by rfl) (by rfl) nr AA AA ?_;intro O σn ak am af aa ae ab;simp only[Ac,Aa]at aa;refine Z3 ?_;refine mr ?_;refine⟨Z x.A-(k+1),AA,k+1,O,_,rfl,AA,nk,am.put AA _,AA,rfl,Own.put ak _ _,by simp;omega,?_⟩;rw[AC,AT,HG.o];exact EL.append K.o (EL.single ⟨i4,rfl⟩);have be:k=Z x.A:=AA;subst be;rw[AS]at K;refine mr ?_;exact⟨_,rfl,_,rfl,⟨p,E,u,K.o,rfl⟩,q.put AA _⟩
end Go.Proofs.YtmoeoppbmhfbpabGreatDoorJ
