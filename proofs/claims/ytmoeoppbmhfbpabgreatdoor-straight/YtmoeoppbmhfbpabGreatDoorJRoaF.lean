import Derived.Test.YtmoeoppbmhfbpabGreatDoorJRoaB
import Derived.Test.YtmoeoppbmhfbpabGreatDoorJOptH
import Derived.Test.YtmoeoppbmhfbpabGreatDoorJRunA
import Derived.Test.YtmoeoppbmhfbpabGreatDoorJProgR
set_option maxRecDepth 100000
set_option linter.all false
namespace Go.Proofs.YtmoeoppbmhfbpabGreatDoorJ
open Go.Abs
theorem Hf {d:Nat}(h:d<=9):(UInt8.ofNat (48+d)).toNat=48+d:=by
 rw[UInt8.toNat_ofNat'];omega
theorem O0 {d:Nat}(h:d<=9):A0 (UInt8.ofNat (48+d)).toNat=true:=by
 rw[Hf h];unfold A0;simp;omega
theorem Oz {d:Nat}(h:d<=9):Bl (UInt8.ofNat (48+d)).toNat=false:=by
 rw[Hf h];unfold Bl;simp;omega
theorem Tg {d:Nat}(h:d<=9)(h0:1<=d):Fw (UInt8.ofNat (48+d)).toNat=true:=by
 rw[Hf h];unfold Fw;simp;omega
theorem vK (n:Int)(h0:0<=n)(h1:n<=999):zN (Lib.itoa n)/\Az (Lib.itoa n)=(false,n)/\(Lib.itoa n).length<=3:=by
 obtain⟨m,rfl⟩:∃m:Nat,n=(m:Int):=⟨n.toNat,Ad6⟩;have hm:m<=999:=Ad6;have e:Lib.itoa (m:Int)=Lib.decDigits m:=by unfold Lib.itoa;rw[if_neg Ad6];rfl
 rw[e];by_cases a1:m<10
 ·have e1:Lib.decDigits m=[UInt8.ofNat (48+m)]:=by rw[Lib.decDigits,dif_pos a1]
  rw[e1];refine⟨?_,?_,by simp⟩
  ·by_cases z:m=0
   ·subst z;exact .inr (.inl rfl)
   ·exact .inr (.inr ⟨_,[],rfl,Tg Ad6 Ad6,by simp,by simp⟩)
  ·rw[Gr (Oz Ad6)];have:=Hf (d:=m) Ad6;simp[F8,this];omega
 ·have e1:Lib.decDigits m=Lib.decDigits (m / 10)++[UInt8.ofNat (48+m % 10)]:=by rw[Lib.decDigits,dif_neg a1]
  rw[e1];by_cases a2:m / 10<10
  ·rw[Lib.decDigits,dif_pos a2];have d1:=Hf (d:=m / 10) Ad6;have d2:=Hf (d:=m % 10) Ad6;refine⟨.inr (.inr ⟨_,_,rfl,Tg Ad6 Ad6,?_,by simp⟩),?_,by simp⟩
   ·intro c hc;have aa:c∈[UInt8.ofNat (48+m % 10)]:=hc;rw[Ac6.1 aa];exact O0 Ad6
   ·show Az (UInt8.ofNat (48+m / 10)::[UInt8.ofNat (48+m % 10)])=_;rw[Gr (Oz Ad6)];simp[F8,d1,d2];omega
  ·rw[Lib.decDigits,dif_neg a2,Lib.decDigits,dif_pos Ad6];have d1:=Hf (d:=m / 10 / 10) Ad6;have d2:=Hf (d:=m / 10 % 10) Ad6;have d3:=Hf (d:=m % 10) Ad6;refine⟨.inr (.inr ⟨_,_,rfl,Tg Ad6 Ad6,?_,by simp⟩),?_,by simp⟩
   ·intro c hc;have aa:c∈[UInt8.ofNat (48+m / 10 % 10),UInt8.ofNat (48+m % 10)]:=hc;rcases Aci.1 aa with hc|hc
    ·rw[hc];exact O0 Ad6
    ·rw[Ac6.1 hc];exact O0 Ad6
   ·show Az (UInt8.ofNat (48+m / 10 / 10)::[UInt8.ofNat (48+m / 10 % 10),UInt8.ofNat (48+m % 10)])=_;rw[Gr (Oz Ad6)];simp[F8,d1,d2,d3];omega
def nT (base x:Int):Ai:=⟨false,[101],[H9 base (Gv x 64 / 8),H9 base (Gv x 64 % 8)]⟩
def vA (base a:Int):Ai:=⟨false,[118],[H9 base a]⟩
def G3 (E:List Int)(base:Int):List Ai:=(E.take 24).map (nT base)++([7,6,5,4,3,2,1,0]:List Int).map (vA base)
theorem Hc (base:Int){a:Int}(h0:0<=a)(h1:a<=7):zN (H9 base a)/\Az (H9 base a)=(false,Qr base a)/\(H9 base a).length<=3:=by
 have:=K7 base h0 h1;exact vK _ this.1 Ad6
theorem uQ (x:Int):0<=Gv x 64 / 8/\Gv x 64 / 8<=7/\0<=Gv x 64 % 8/\Gv x 64 % 8<=7:=by
 have:=Fu x (n:=64) Ad6;omega
theorem Aar {c:UInt8}(h:Be c.toNat=true):xU [c]:=⟨⟨by simp,fun b hb=>by simp at hb;subst hb;exact h⟩,by simp⟩
theorem gZ (base x:Int):tP (nT base x)/\Mv (nT base x)=true/\kX base x=Ay (nT base x)++[46]:=by
 obtain⟨h1,h2,h3,h4⟩:=uQ x;obtain⟨g1,e1,-⟩:=Hc base h1 h2;obtain⟨g2,e2,-⟩:=Hc base h3 h4;refine⟨⟨Aar (by decide),by simp[nT],by simp[nT],fun t ht=>?_⟩,?_,?_⟩
 ·simp[nT]at ht;rcases ht with rfl|rfl
  ·exact g1
  ·exact g2
 ·simp[Mv,nT,F5,e1,e2]
 ·simp[kX,pairT,Ay,nT,Bf,Br]
theorem pF (base:Int){a:Int}(h0:0<=a)(h1:a<=7):tP (vA base a)/\Mv (vA base a)=true/\vT base a=Ay (vA base a)++[46]:=by
 obtain⟨g1,e1,-⟩:=Hc base h0 h1;refine⟨⟨Aar (by decide),by simp[vA],by simp[vA],fun t ht=>?_⟩,?_,?_⟩
 ·simp[vA]at ht;subst ht;exact g1
 ·simp[Mv,vA,F5,e1]
 ·simp[vT,Ay,vA,Bf,Br]
theorem qR {a:Ai}(h:tP a)(hn:a.nt=false)(hs:Mv a=true)(r:Tx):Hy (Ay a++46::r)= .got a r:=by
 unfold Hy;have:=Sp h (46::r);rw[hn]at this;rw[this,Da,if_pos hs];rfl
theorem Wb:∀(n:Nat) (F:List Ai),(∀a∈F,tP a/\a.nt=false/\Mv a=true)->F.length<=n->Cl n (F.flatMap fun a=>Ay a++[46])= .got F []
 |n,[],_,_=>by rw[List.flatMap_nil,Jn]
 |0,a::F,_,h=>by simp at h
 |n+1,a::F,hF,h=>by
  obtain⟨g1,g2,g3⟩:=hF a (by simp);have ih:=Wb n F (fun b hb=>hF b (by simp[hb])) (by simpa using h);rw[Acz];have e:(Ay a++[46])++F.flatMap (fun a=>Ay a++[46])=Ay a++46::F.flatMap (fun a=>Ay a++[46]):=by simp
  rw[e];have hc:∃b r,Ay a++46::F.flatMap (fun a=>Ay a++[46])=b::r:=by
   cases hh:Ay a++46::F.flatMap (fun a=>Ay a++[46])with
   |nil=>simp at hh
   |cons b r=>exact⟨b,r,rfl⟩
  have hp:=qR g1 g2 g3 (F.flatMap fun a=>Ay a++[46]);obtain⟨b,r,aa⟩:=hc;rw[aa]at hp⊢;rw[Gq,hp,Da,ih];rfl
theorem cV (E:List Int)(base:Int):Cl 400 (H2 E base)= .got (G3 E base) []/\(H2 E base).length<=400:=by
 have e:H2 E base=(G3 E base).flatMap fun a=>Ay a++[46]:=by
  unfold H2 G3;rw[Adx,List.flatMap_map,List.flatMap_map];congr 1
  ·congr 1;funext x;exact (gZ base x).2.2
  ·have hv:∀a:Int,0<=a->a<=7->vT base a=Ay (vA base a)++[46]:=fun a h0 h1=>(pF base h0 h1).2.2;simp only[Acz,List.flatMap_nil];rw[hv 7 Ad6 Ad6,hv 6 Ad6 Ad6,hv 5 Ad6 Ad6,hv 4 Ad6 Ad6,hv 3 Ad6 Ad6,hv 2 Ad6 Ad6,hv 1 Ad6 Ad6,hv 0 Ad6 Ad6]
 have hl:(G3 E base).length<=32:=by simp[G3];omega
 refine⟨?_,?_⟩
 ·rw[e];refine Wb 400 _ (fun a ha=>?_) Ad6;unfold G3 at ha;rcases Aco.1 ha with h|h
  ·obtain⟨x,-,rfl⟩:=Acs.1 h;exact⟨(gZ base x).1,rfl,(gZ base x).2.1⟩
  ·obtain⟨b,hb,rfl⟩:=Acs.1 h;have aa:0<=b/\b<=7:=by simp at hb;omega
   exact⟨(pF base aa.1 aa.2).1,rfl,(pF base aa.1 aa.2).2.1⟩
 ·unfold H2;rw[Ab6];have h1:∀l:List Int,(l.flatMap (kX base)).length<=l.length*11:=fun l=>by
   induction l with
   |nil=>simp
   |cons x l ih=>
    obtain⟨p1,p2,p3,p4⟩:=uQ x;have q1:=(Hc base p1 p2).2.2;have q2:=(Hc base p3 p4).2.2;rw[Acz,Ab6,Acf,Abw];have:(kX base x).length<=11:=by simp[kX,pairT];omega
    omega
  have h2:=h1 (E.take 24);have h3:(E.take 24).length<=24:=by simp;omega
  have v:∀a:Int,0<=a->a<=7->(vT base a).length<=7:=fun a ha hb=>by
   have:=(Hc base ha hb).2.2;simp[vT];omega
  have v7:=v 7 Ad6 Ad6;have v6:=v 6 Ad6 Ad6;have v5:=v 5 Ad6 Ad6;have v4:=v 4 Ad6 Ad6;have v3:=v 3 Ad6 Ad6;have v2:=v 2 Ad6 Ad6;have v1:=v 1 Ad6 Ad6;have v0:=v 0 Ad6 Ad6;simp only[Acz,List.flatMap_nil,Ab6,Ace];omega
def t2 (x y:Int):Bc:=Es [x,y]
def t1 (x:Int):Bc:=Es [x]
theorem eZ {x y x' y':Int}(h:t2 x y=t2 x' y'):x=x'/\y=y':=by
 simp only[t2,Es]at h;simp at h;exact h
section
variable {N:List Tx} {Ng B D:Cj}
theorem X4 (nt:Bool)(p x y:UInt8){i j:Int}(hx:Az [x]=(true,i))(hy:Az [y]=(true,j))(ν:Nu):Bg (Cm N (at2 nt p x y)) ν=t2 (ν i) (ν j):=by
 simp[Bg,Cm,at2,hx,hy,Iq,t2]
theorem Yb (p x y:UInt8){i j:Int}(hx:Az [x]=(true,i))(hy:Az [y]=(true,j))(ν:Nu):LitH Ng D ν (Hd N (at2 false p x y))↔D (N.idxOf [p]) (t2 (ν i) (ν j)):=by
 have h:=X4 (N:=N) false p x y hx hy ν;unfold LitH Hd;simp only[at2,Acb,if_false]at h⊢;rw[h];rfl
theorem qF (hp hx hy bp bx b_:UInt8){i j k l:Int}(e1:Az [hx]=(true,i))(e2:Az [hy]=(true,j))(e3:Az [bx]=(true,k))(e4:Az [b_]=(true,l)):
  Ui ([⟨false,at2 false hp hx hy,[at2 false bp bx b_]⟩].map (A6 N)) B D↔∀ν:Nu,D (N.idxOf [bp]) (t2 (ν k) (ν l))->D (N.idxOf [hp]) (t2 (ν i) (ν j)):=by
 unfold Ui;simp only[Ab1,Ab2,Ac6,forall_eq];apply forall_congr';intro ν;simp only[A6,Ab1,Ab2,Ac6,forall_eq];rw[Yb bp bx b_ e3 e4 ν,X4 false hp hx hy e1 e2 ν];rfl
theorem qE (hp hx hy bp bx b_ cp cx cy:UInt8){i j k l m n:Int}(e1:Az [hx]=(true,i))(e2:Az [hy]=(true,j))(e3:Az [bx]=(true,k))(e4:Az [b_]=(true,l))(e5:Az [cx]=(true,m))(e6:Az [cy]=(true,n)):
  Ui ([⟨false,at2 false hp hx hy,[at2 false bp bx b_,at2 false cp cx cy]⟩].map (A6 N)) B D↔∀ν:Nu,D (N.idxOf [bp]) (t2 (ν k) (ν l))->D (N.idxOf [cp]) (t2 (ν m) (ν n))->D (N.idxOf [hp]) (t2 (ν i) (ν j)):=by
 unfold Ui;simp only[Ab1,Ab2,Ac6,forall_eq];apply forall_congr';intro ν;simp only[A6,Ab1,Ab2,Aci,Ac0,Ad5,forall_eq_or_imp,forall_eq];rw[Yb bp bx b_ e3 e4 ν,Yb cp cx cy e5 e6 ν,X4 false hp hx hy e1 e2 ν,and_imp];rfl
theorem Yu {a b:RItem}:Ui ([a,b].map (A6 N)) B D↔Ui ([a].map (A6 N)) B D/\Ui ([b].map (A6 N)) B D:=by
 unfold Ui;simp only[Ab1,Ab2,Aci,Ac0,Ad5,forall_eq_or_imp,forall_eq]
def aG (k:Int)(N:List Tx)(D:Cj):Prop:=
 (∀x y,D (N.idxOf [101]) (t2 x y)->D (N.idxOf [112]) (t2 x y))/\
 ∀x y z,(if k=1 then D (N.idxOf [112]) (t2 x z)else if k=0 then D (N.idxOf [101]) (t2 x z)else D (N.idxOf [112]) (t2 x z))->(if k=1 then D (N.idxOf [101]) (t2 z y)else D (N.idxOf [112]) (t2 z y))->D (N.idxOf [112]) (t2 x y)
def nu3 (a b c:Int)(x y z:Int):Nu:=fun v=>if v=a then x else if v=b then y else z
theorem step0:Ui (itm0.map (A6 N)) B D↔aG 0 N D:=by
 unfold itm0 aG;rw[Yu,qF 112 65 66 101 65 66 (i:=0) (j:=1) (k:=0) (l:=1) rfl rfl rfl rfl,qE 112 65 66 101 65 67 112 67 66 (i:=0) (j:=1) (k:=0) (l:=2) (m:=2) (n:=1) rfl rfl rfl rfl rfl rfl];refine and_congr ⟨fun h x y=>h (nu3 0 1 2 x y 0),fun h ν=>h _ _⟩ ⟨fun h x y z=>h (nu3 0 1 2 x y z),fun h ν=>h _ _ _⟩
end
def Y3 (base:Int)(a b:Nat):Bc:=t2 (Qr base (a:Int)) (Qr base (b:Int))
theorem fV {base:Int}{a b:Nat}(h:Qr base (a:Int)=Qr base (b:Int)):a=b:=by unfold Qr at h;omega
theorem tZ {base:Int}{a b c d:Nat}(h:Y3 base a b=Y3 base c d):a=c/\b=d:=by
 obtain⟨h1,h2⟩:=eZ h;exact⟨fV h1,fV h2⟩
structure tI (E:List Int)(base:Int)(N:List Tx)(M:MM):Prop where
 p:([112]:Tx)∈N
 e:([101]:Tx)∈N
 v:([118]:Tx)∈N
 mm:MkM N.length ((G3 E base).map (Cm N)) M
theorem Yi {N:List Tx}{p q:Tx}(hp:p∈N)(hq:q∈N)(h:p≠q):N.idxOf p≠N.idxOf q:=fun e=>h (Dy hp hq e)
section
variable {E:List Int} {base:Int} {N:List Tx} {M:MM}
theorem pK (x:Int):C7 (Cm N (nT base x))=t2 (Qr base (Gv x 64 / 8)) (Qr base (Gv x 64 % 8)):=by
 obtain⟨h1,h2,h3,h4⟩:=uQ x;simp[C7,Cm,nT,(Hc base h1 h2).2.1,(Hc base h3 h4).2.1,t2]
theorem wX {a:Int}(h0:0<=a)(h1:a<=7):C7 (Cm N (vA base a))=t1 (Qr base a):=by
 simp[C7,Cm,vA,(Hc base h0 h1).2.1,t1]
theorem cW (h:tI E base N M)(k:Nat)(t:Bc):MD M k t↔(k=N.idxOf [101]/\∃a b:Nat,Uh (E.take 24) a b=true/\t=Y3 base a b)\/(k=N.idxOf [118]/\∃a:Nat,a<8/\t=t1 (Qr base (a:Int))):=by
 rw[h.mm.mem k t];constructor
 ·rintro⟨a,ha,e1,e2⟩;obtain⟨f,hf,rfl⟩:=Acs.1 ha;unfold G3 at hf;rcases Aco.1 hf with hf|hf
  ·obtain⟨x,hx,rfl⟩:=Acs.1 hf;left;have e3:k=N.idxOf [101]:=by simp only[Cm,nT]at e1;omega
   obtain⟨h1,h2,h3,h4⟩:=uQ x;refine⟨e3,(Gv x 64 / 8).toNat,(Gv x 64 % 8).toNat,?_,?_⟩
   ·unfold Uh;rw[Acg];exact⟨x,hx,by simp only[Abo,Ad3];omega⟩
   ·rw[e2,pK,Y3,Int.toNat_of_nonneg h1,Int.toNat_of_nonneg h3]
  ·obtain⟨z,hz,rfl⟩:=Acs.1 hf;right;have aa:0<=z/\z<=7:=by simp at hz;omega
   have e3:k=N.idxOf [118]:=by simp only[Cm,vA]at e1;omega
   exact⟨e3,z.toNat,Ad6,by rw[e2,wX aa.1 aa.2,Int.toNat_of_nonneg aa.1]⟩
 ·rintro (⟨rfl,a,b,he,rfl⟩|⟨rfl,a,ha,rfl⟩)
  ·unfold Uh at he;rw[Acg]at he;obtain⟨x,hx,hh⟩:=he;simp only[Abo,Ad3]at hh;refine⟨Cm N (nT base x),Acs.2 ⟨_,Aco.2 (.inl (Acs.2 ⟨x,hx,rfl⟩)),rfl⟩,rfl,?_⟩;rw[pK,Y3,hh.1,hh.2]
  ·refine⟨Cm N (vA base (a:Int)),Acs.2 ⟨_,Aco.2 (.inr (Acs.2 ⟨(a:Int),?_,rfl⟩)),rfl⟩,rfl,(wX Ad6 Ad6).symm⟩;simp;omega
def P1 (E:List Int)(base:Int)(N:List Tx)(M:MM):Cj:=fun k t=>(k=N.idxOf [112]/\∃a b,W6 E a b=true/\t=Y3 base a b)\/(k≠N.idxOf [112]/\MD M k t)
theorem yN (h:tI E base N M){R:List RItem}{k:Int}(hk:∀(N:List Tx) (B D:Cj),Ui (R.map (A6 N)) B D↔aG k N D)(j:Nat)(t:Bc):LstG (R.map (A6 N)) (MD M) j t↔P1 E base N M j t:=by
 have nep:N.idxOf [101]≠N.idxOf [112]:=Yi h.e h.p (by decide);have nvp:N.idxOf [118]≠N.idxOf [112]:=Yi h.v h.p (by decide);have nev:N.idxOf [101]≠N.idxOf [118]:=Yi h.e h.v (by decide);have ab:∀t,MD M (N.idxOf [101]) t↔∃a b:Nat,Uh (E.take 24) a b=true/\t=Y3 base a b:=fun t=>by
  rw[cW h];constructor
  ·rintro (⟨-,g⟩|⟨g,-⟩)
   ·exact g
   ·exact absurd g nev
  ·exact fun g=>.inl ⟨rfl,g⟩
 constructor
 ·intro g;refine g.least (D:=P1 E base N M) (fun k t hb=>.inr ⟨?_,hb⟩) ((hk _ _ _).2 ?_)
  ·rcases (cW h k t).1 hb with⟨rfl,-⟩|⟨rfl,-⟩
   ·exact nep
   ·exact nvp
  ·have he:∀x y,P1 E base N M (N.idxOf [101]) (t2 x y)->∃a b,W6 E a b=true/\t2 x y=Y3 base a b:=fun x y g=>by
    rcases g with⟨g,-⟩|⟨-,g⟩
    ·exact absurd g nep
    ·obtain⟨a,b,h1,h2⟩:=(ab _).1 g;exact⟨a,b,(Mi E a b).2 (.one h1),h2⟩
   have hp:∀x y,P1 E base N M (N.idxOf [112]) (t2 x y)->∃a b,W6 E a b=true/\t2 x y=Y3 base a b:=fun x y g=>by
    rcases g with⟨-,g⟩|⟨g,-⟩
    ·exact g
    ·exact absurd rfl g
   refine⟨fun x y g=>.inl ⟨rfl,he x y g⟩,fun x y z g1 g2=>.inl ⟨rfl,?_⟩⟩;have q1:∃a b,W6 E a b=true/\t2 x z=Y3 base a b:=by
    split at g1
    ·exact hp _ _ g1
    ·split at g1
     ·exact he _ _ g1
     ·exact hp _ _ g1
   have q2:∃a b,W6 E a b=true/\t2 z y=Y3 base a b:=by
    split at g2
    ·exact he _ _ g2
    ·exact hp _ _ g2
   obtain⟨a,b,w1,e1⟩:=q1;obtain⟨c,d,w2,e2⟩:=q2;obtain⟨x1,x2⟩:=eZ e1;obtain⟨y1,y2⟩:=eZ e2;have ac:b=c:=fV (x2.symm.trans y1);subst ac;exact⟨a,d,(Mi E a d).2 (((Mi E a b).1 w1).join ((Mi E b d).1 w2)),by rw[x1,y2];rfl⟩
 ·rintro (⟨rfl,a,b,hw,rfl⟩|⟨-,g⟩)
  ·have hs:=(hk N (MD M) _).1 (LstG.cl (R.map (A6 N)) (MD M));have aa:∀a b,Uh (E.take 24) a b=true->LstG (R.map (A6 N)) (MD M) (N.idxOf [101]) (Y3 base a b):=fun a b g=>LstG.base ((ab _).2 ⟨a,b,g,rfl⟩);have hW:=(Mi E a b).1 hw;by_cases k1:k=1
   ·subst k1;have app:∀{b c:Nat},Way (fun a b=>Uh (E.take 24) a b=true) b c->∀a,LstG (R.map (A6 N)) (MD M) (N.idxOf [112]) (Y3 base a b)->LstG (R.map (A6 N)) (MD M) (N.idxOf [112]) (Y3 base a c):=by
     intro b c w;induction w with
     |one e=>exact fun a g=>hs.2 _ _ _ (by rw[if_pos rfl];exact g) (by rw[if_pos rfl];exact aa _ _ e)
     |more e _ ih=>exact fun a g=>ih a (hs.2 _ _ _ (by rw[if_pos rfl];exact g) (by rw[if_pos rfl];exact aa _ _ e))
    cases hW with
    |one e=>exact hs.1 _ _ (aa _ _ e)
    |more e w=>exact app w a (hs.1 _ _ (aa _ _ e))
   ·clear hw;induction hW with
    |one e=>exact hs.1 _ _ (aa _ _ e)
    |more e _ ih=>
     refine hs.2 _ _ _ ?_ (by rw[if_neg k1];exact ih);rw[if_neg k1];split
     ·exact aa _ _ e
     ·exact hs.1 _ _ (aa _ _ e)
  ·exact LstG.base g
theorem vB {B:Cj}(j:Nat)(t:Bc):LstG [] B j t↔B j t:=⟨fun g=>g.nonhead (by simp),LstG.base⟩
end
def wl (E:List Int)(y:Bool):List Nat:=(List.range 64).filter fun n=>W6 E (n / 8) (n % 8)==y
def tpn (base:Int)(n:Nat):Bc:=Y3 base (n / 8) (n % 8)
def Lw (E:List Int)(base:Int)(y:Bool):List Bc:=(wl E y).map (tpn base)
theorem Pq {α:Type}(f:α->Bool):∀l:List α,(l.filter fun x=>f x==true).length+(l.filter fun x=>f x==false).length=l.length
 |[]=>rfl
 |x::l=>by
  have ih:=Pq f l;rw[Adh,Adh];generalize (l.filter fun x=>f x==true)=A at ih⊢;generalize (l.filter fun x=>f x==false)=B at ih⊢;cases f x<;>simp<;>omega
theorem xY (E:List Int):(wl E true).length+(wl E false).length=64:=by
 have:=Pq (fun n=>W6 E (n / 8) (n % 8)) (List.range 64);simpa[wl]using this
theorem wP (E:List Int)(y:Bool):(wl E y).Pairwise (· < ·):=(List.pairwise_lt_range (n:=64)).filter _
theorem tF (E:List Int)(base:Int)(y:Bool):(Lw E base y).Nodup:=by
 unfold Lw List.Nodup;rw[List.pairwise_map];refine (wP E y).imp fun {a b} h e=>?_;obtain⟨h1,h2⟩:=tZ e;omega
theorem zP {E:List Int}{a b:Nat}(h:W6 E a b=true):a<8/\b<8:=(rP (dF (E.take 24)) 8 (Abf _)).1 a b h
theorem yS {E:List Int}{base:Int}{y:Bool}{t:Bc}:t∈Lw E base y↔∃a b,a<8/\b<8/\W6 E a b=y/\t=Y3 base a b:=by
 unfold Lw wl;rw[Acs];constructor
 ·rintro⟨n,hn,rfl⟩;obtain⟨h1,h2⟩:=Adj.1 hn;have aa:n<64:=by simpa using h1
  exact⟨n / 8,n % 8,Ad6,Ad6,by simpa using h2,rfl⟩
 ·rintro⟨a,b,ha,hb,hw,rfl⟩;have e1:(8*a+b) / 8=a:=Ad6;have e2:(8*a+b) % 8=b:=Ad6;refine⟨8*a+b,Adj.2 ⟨by simp;omega,by rw[e1,e2];simpa using hw⟩,by rw[tpn,e1,e2]⟩
theorem wK (E:List Int)(base:Int)(y:Bool):H8 (Lw E base y):=by
 unfold Lw H8;rw[List.pairwise_map];refine (wP E y).imp fun {a b} h=>?_;show Eo [Qr base ((b / 8:Nat):Int),Qr base ((b % 8:Nat):Int),-1] [Qr base ((a / 8:Nat):Int),Qr base ((a % 8:Nat):Int),-1]=false;rw[Aao];unfold Qr;omega
def Rv:Nat->(Nat->Int)->Int
 |0,_=>0
 |n+1,f=>f 0+Rv n (fun k=>f (k+1))
theorem aE (c:Int):∀(n i:Nat),Rv n (fun k=>if k=i then c else 0)=if i<n then c else 0
 |0,i=>by simp[Rv]
 |n+1,0=>by
  show (if 0=0 then c else 0)+Rv n (fun k=>if k+1=0 then c else 0)=_;have:∀m,Rv m (fun k=>if k+1=0 then c else 0)=0:=by
   intro m;have e:(fun k:Nat=>if k+1=0 then c else 0)=fun k=>if k=k+1 then c else 0:=by funext k;simp
   have z:∀m,Rv m (fun _=>(0:Int))=0:=by
    intro m;induction m with
    |zero=>rfl
    |succ m ih=>show 0+Rv m (fun _=>0)=0;rw[ih];rfl
   have e2:(fun k:Nat=>if k+1=0 then c else (0:Int))=fun _=>0:=by funext k;simp
   rw[e2];exact z m
  rw[this];simp
 |n+1,i+1=>by
  show (if 0=i+1 then c else 0)+Rv n (fun k=>if k+1=i+1 then c else 0)=_;have e:(fun k:Nat=>if k+1=i+1 then c else (0:Int))=fun k=>if k=i then c else 0:=by funext k;simp
  rw[e,aE c n i];simp
theorem jV:∀(M M':MM) (f:Nat->Int),M'.length=M.length->(∀k:Nat,k<M.length->((Au M' k).length:Int)<=(Au M k).length+f k)->tot M'<=tot M+Rv M.length f
 |[],M',f,hl,h=>by
  have:M'=[]:=Abq (by simpa using hl);subst this;simp[tot,G4,Rv]
 |x::M,[],f,hl,h=>by simp at hl
 |x::M,y::M',f,hl,h=>by
  have h0:=h 0 (by simp);simp[Au]at h0;have:=jV M M' (fun k=>f (k+1)) (by simpa using hl) (fun k hk=>by have:=h (k+1) (by simpa using hk);simpa[Au]using this);rw[Dj,Dj];show _<=_+(f 0+Rv M.length fun k=>f (k+1));omega
theorem row_nodup {M:MM}(h:∀x∈M,x.2.Nodup)(k:Nat):(Au M (k:Int)).Nodup:=by
 unfold Au;cases hk:M[(k:Int).toNat]? with
 |none=>simp
 |some x=>exact h x (Abm hk)
theorem yJ {M:MM}(h:∀x∈M,T3 x.2)(k:Nat):T3 (Au M (k:Int)):=by
 unfold Au;cases hk:M[(k:Int).toNat]? with
 |none=>intro t ht;simp at ht
 |some x=>exact h x (Abm hk)
section
variable {E:List Int} {base:Int} {N:List Tx} {M:MM}
theorem uT {a b:List Bc}(ha:a.Nodup)(hb:b.Nodup)(h:∀t,t∈a↔t∈b):a.Perm b:=(List.perm_ext_iff_of_nodup ha hb).2 h
end
theorem sE {S:List Ai}{f:Tx->Nat}(hf:∀p,0<f p)(h:∀a∈S,a.terms.length=f a.pred):C4 S:=fun b hb=>by
 refine⟨by rw[h b hb];exact hf _,?_⟩;rw[h b hb];unfold F3;cases hh:S.find? (fun a=>a.pred==b.pred)with
 |none=>
  have:=List.find?_eq_none.1 hh b hb;simp at this
 |some a=>
  have h1:=List.find?_some hh;have e:a.pred=b.pred:=by simpa using h1
  show f b.pred=a.terms.length;rw[h a (List.mem_of_find?_eq_some hh),e]
theorem S7 {E:List Int}{base:Int}{a:Ai}(ha:a∈G3 E base):(a.pred=[101]/\a.terms.length=2)\/(a.pred=[118]/\a.terms.length=1):=by
 unfold G3 at ha;rcases Aco.1 ha with h|h
 ·obtain⟨x,-,rfl⟩:=Acs.1 h;exact .inl ⟨rfl,rfl⟩
 ·obtain⟨x,-,rfl⟩:=Acs.1 h;exact .inr ⟨rfl,rfl⟩
theorem Vo {N:List Tx}{rk:Nat->List Bc}:∀{l:List RItem} (acc:Tx×List Int),(∀x∈l,x.out=false)->l.foldl (Ic N rk) acc=acc
 |[],acc,_=>rfl
 |x::l,acc,h=>by
  rw[Abr];have:Ic N rk acc x=acc:=by
   unfold Ic;rw[if_neg (by rw[h x (by simp)];simp)]
  rw[this];exact Vo acc (fun y hy=>h y (by simp[hy]))
theorem fW (p:Tx)(base:Int){a b:Nat}(ha:a<=7)(hb:b<=7):F6 p (Y3 base a b)=pairT p base (a:Int) (b:Int):=by
 have h1:=K7 base (a:=(a:Int)) Ad6 Ad6;have h2:=K7 base (a:=(b:Int)) Ad6 Ad6;unfold F6 pairT Y3 t2 Uk H9;generalize Qr base (a:Int)=x at*
 generalize Qr base (b:Int)=y at*
 have e:tups (Es [x,y])=[x,y]:=by
  have n1:x≠ -1:=Ad6;have n2:y≠ -1:=Ad6;simp[tups,Es,List.takeWhile,n1,n2]
 rw[e];simp[jn]
theorem wJ (E:List Int)(base:Int)(y:Bool)(p:Tx):(Lw E base y).flatMap (F6 p)=Mq (W6 E) p base y 64:=by
 unfold Lw Mq;rw[List.flatMap_map];show (wl E y).flatMap _=(wl E y).flatMap _;have hb:∀n∈wl E y,n<64:=fun n hn=>by
  have:=(Adj.1 hn).1;simpa using this
 revert hb;generalize wl E y=l;intro hb;induction l with
 |nil=>rfl
 |cons n l ih=>
  rw[Acz,Acz,ih (fun m hm=>hb m (by simp[hm]))];have:=hb n (by simp);congr 1;exact fW p base Ad6 Ad6
open Go.RowKit (Below)
theorem cI {p:Nat->Int->Prop}:∀(n:Nat),(∀i,i<n->∃o,p i o)->∃l:List Int,l.length=n/\∀i o,l[i]?=some o->p i o
 |0,_=>⟨[],rfl,fun i o h=>by simp at h⟩
 |n+1,h=>by
  obtain⟨l,hl,hp⟩:=cI n fun i hi=>h i Ad6;obtain⟨o,ho⟩:=h n Ad6;refine⟨l++[o],by simp[hl],fun i o' hi=>?_⟩;rw[List.getElem?_append]at hi;split at hi
  ·exact hp i o' hi
  ·rename_i aa;have:i=n:=by
    by_cases e:i-l.length=0
    ·omega
    ·rw[List.getElem?_eq_none (by simp;omega)]at hi;cases hi
   subst this;rw[show i-l.length=0 by omega]at hi;simp at hi;subst hi;exact ho
theorem zB:Tryz.prog.cellsOf 3=1:=Ad9
theorem open_ints {H:Type}{enc:TypeId×Value->H}{W:World}{spare:Nat->Bool}{held:Bool}{fuel:Nat}{a:Option Addr}{len cap:Nat}{x:DataW H×List MemPlace}(h:DataW.trod enc Tryz.prog W 0 spare held fuel 48 [.slice a len cap]=some x):
  ∃(l:List Int),(∀z∈l,sY z)/\VR (gh0 W) st0 W (.slice a len cap) (sl 0 l.length (icells l)):=by
 rcases Deep.open_slice Tryz.underlying48 h with⟨aa,-⟩|⟨a',len',cap',m,n,D,Pl,aa,-,hl,hm,aj,-,af⟩
 ·simp at aa;obtain⟨rfl,rfl,rfl⟩:=aa;exact⟨[],fun z hz=>(Ac0 hz).elim,VR.fold ⟨none,0,rfl,⟨Abf _,fun h=>Ad6⟩,fun h=>absurd rfl h,fun k hk=>Ad6⟩⟩
 ·simp at aa;obtain⟨rfl,rfl,rfl⟩:=aa;have ao:len<=m:=by rw[aj];split<;>omega
  rw[zB]at af;have ab:∀i,i<len->∃o:Int,sY o/\W.cell? (a'.add i)=some (.int .i64 o):=by
   intro i hi;obtain⟨cs',h1,h2⟩:=af i Ad6;obtain⟨o,rfl,-,hw⟩:=DataW.trod_int Tryz.underlying3 h2;obtain⟨-,-,h3⟩:=World.cells?_some h1;have h4:=h3 0 (by decide);have hr:sY o:=by
    have e1:IntKind.i64.min= -9223372036854775808:=by decide
    have e2:IntKind.i64.max=9223372036854775807:=by decide
    simp only[Lit.wf,IntKind.has,e1,e2,Ad3,Abo]at hw;exact hw
   refine⟨o,hr,?_⟩;have e:(a'.add (i*1)).add 0=a'.add i:=by
    obtain⟨b,off,spot⟩:=a';unfold Addr.add;split<;>split<;>simp_all<;>omega
   rw[<-e];exact h4
  obtain⟨l,ak,hp⟩:=cI len ab;refine⟨l,fun z hz=>?_,VR.fold ⟨some a',cap,by rw[ak],⟨Ad6,fun h=>Ad6⟩,fun ai=>?_,fun k hk=>Ad6⟩⟩
  ·obtain⟨i,hi⟩:=List.getElem?_of_mem hz;exact (hp i z hi).1
  have am:0<l.length:=by
   cases l with
   |nil=>exact absurd rfl ai
   |cons o r=>simp
  obtain⟨b,off,spot⟩:=a';have an:=(hp 0 l[0] (List.getElem?_eq_getElem am)).2;have ad:W.cell? ⟨b,off,spot⟩=some (.int .i64 l[0]):=by
   have e:(⟨b,off,spot⟩:Addr).add 0=⟨b,off,spot⟩:=by unfold Addr.add;split<;>simp_all
   rw[<-e];exact an
  have ah:spot=none:=World.cell?_spot ad;subst ah;have ae:b<W.heap.size:=by
   unfold World.cell? at ad;rcases Abi b W.heap.size with h|h
   ·exact h
   ·simp[Array.getElem?_eq_none h]at ad
  refine⟨b,off,rfl,fun i x hx=>⟨ae,?_⟩⟩;unfold icells at hx;rw[List.getElem?_map]at hx;cases ac:l[i]? with
  |none=>rw[ac]at hx;cases hx
  |some z=>
   rw[ac]at hx;cases hx;refine⟨.int .i64 z,?_,VR.sc _⟩;have:=(hp i z ac).2;rw[<-this];congr 1;unfold Addr.add;split<;>simp_all<;>omega
end Go.Proofs.YtmoeoppbmhfbpabGreatDoorJ
