import Derived.Test.YtmoeoppbmhfbpabGreatDoorJAbs
set_option linter.all false
open List renaming length->Z
namespace Go.Abs
section
variable {P:Program} {F:Nat->Prop} {G:Gh} {A:St} {w:World} {s:Nat->AV} {a:Act}
theorem Bg (b:∀t,VR G A w (a.tmps.getD t undef) (s t))(x):VR G A w (a.eval x) (BR s x):=by
  cases x with
  |tmp t=>exact b t
  |const v=>exact VR.cst v
  |global g=>exact VR.sc _
  |func f=>exact VR.sc _
theorem Gk {v x i}(h:VR G A w v x)(a:Z0 x=some i):∃k,v= .int k i:=by
  unfold Z0 at a;split at a;cases a;exact⟨_,h.of_sc⟩;cases a
theorem VR.of_ptr {v o a}(h:VR G A w v (ptr o a)):v= .pointer (some ⟨G.blk o,a,none⟩)/\o<A.B:=h.unfold
theorem VR.of_fx' {v o b a}(h:VR G A w v (fx o b a)):(∃c,v= .slice (some ⟨G.blk o,b,none⟩) a c/\a<=c)/\o<A.B:=h.unfold
theorem VR.of_gx {v xs o n a}(h:VR G A w v (.slice xs [.held (.inr (o,n,some a))])):v= .slice (some ⟨G.blk o,0,none⟩) n a/\n<=a/\o<A.B:=h.unfold
theorem VR.of_fx {v o b c}(h:VR G A w v (fx o b c)):(∃a,v= .slice (some ⟨G.blk o,b,none⟩) c a)/\o<A.B:=by
  obtain⟨⟨a,e,-⟩,d⟩:=VR.of_fx' h;exact⟨⟨a,e⟩,d⟩
theorem VR.of_el {v xs}(h:VR G A w v (el xs)):∃b o,v= .pointer (some ⟨b,o,none⟩)/\FI w G.per (VR G A w) b o xs:=h.unfold
theorem VR.of_ag {v xs}(h:VR G A w v (ag xs)):∃cs,v= .agg cs/\AP (VR G A w) cs.toList xs:=h.unfold
theorem VR.of_tp {v xs}(h:VR G A w v (tp xs)):∃cs,v= .tuple cs/\AP (VR G A w) cs.toList xs:=h.unfold
theorem VR.of_sl {v id n xs}(h:VR G A w v (sl id n xs)):∃base a,v= .slice base n a/\(n<=a/\(id=1->n=0/\a=0))/\
      (xs≠[]->∃b o,base=some ⟨b,o,none⟩/\FI w G.per (VR G A w) b o xs)/\
      (∀k,id=k+2->k<A.D/\n<=A.top k/\Z xs=n*G.siz k/\(n=A.top k->base=some ⟨G.cur k,0,none⟩/\a=G.cap k)):=h.unfold
theorem ik (I:Inv G A w)(m:∀t,VR G A w (a.tmps.getD t undef) (s t)){t y x}(h:aq P s A (.load t y)=some x)(f:∀o,LZ s (.load t y)=some o->F o):
    ∃v,VR G A w v x/\∀c,Same F G A w c->(Instr.loadAt t (a.eval y)).run P c= .ok v c:=by
  simp only[aq]at h;split at h;rename_i q n p g j;obtain⟨b,o,r,k,d,e⟩:=fE I (Bg m y) j f;obtain⟨v,i,l⟩:=oX (P:=P) d h g b o (C:=Same F G A w) e;refine⟨v,i,λc S=>?_⟩;simp[Instr.loadAt,k,Instr.sureAddr,l c S];cases h
theorem lS (C:∀t,VR G A w (a.tmps.getD t undef) (s t)){t y f x}(h:aq P s A (.fieldAddr t y f)=some x):
    ∃v,VR G A w v x/\∀c,(Instr.fieldAt t (a.eval y) f).run P c= .ok v c:=by
  have e:=Bg C y;simp only[aq]at h;split at h;rename_i d g n o k l j;cases h;obtain⟨E,D,r,p,q,u,i⟩:=S0 l;rw[j]at e;obtain⟨m,z⟩:=VR.of_ptr e;refine⟨.pointer (some ⟨G.blk o,k+d,none⟩),VR.fold ⟨rfl,z⟩,λc=>?_⟩;simp[Instr.fieldAt,run_underlying r,p,m,Instr.sureAddr,fieldPlace,(Cu u c).2,i,q,Addr.add_lit];rename_i d g n F l j;cases h;obtain⟨E,D,r,p,q,u,i⟩:=S0 l;rw[j]at e;obtain⟨b,o,m,B⟩:=VR.of_el e;refine⟨.pointer (some ⟨b,o+d,none⟩),VR.fold ⟨b,o+d,rfl,B.drop d⟩,λc=>?_⟩;simp[Instr.fieldAt,run_underlying r,p,m,Instr.sureAddr,fieldPlace,(Cu u c).2,i,q,Addr.add_lit];cases h
theorem lR (M:∀t,VR G A w (a.tmps.getD t undef) (s t)){t y z x}(h:aq P s A (.indexAddr t y z)=some x):
    ∃v,VR G A w v x/\∀r,(Instr.indexAt t (a.eval y) (a.eval z)).run P r= .ok v r:=by
  have f:=Bg M y;have O:=Bg M z;simp only[aq]at h;split at h
  case h_2=>cases h
  rename_i i Q;obtain⟨k,D⟩:=Gk O Q;split at h;rename_i L id n m F g c;split at h
  case isFalse=>cases h
  rename_i d;cases h;obtain⟨e,H,p,j,l,-⟩:=Fe c;rw[g]at f;obtain⟨base,C,q,-,K,-⟩:=VR.of_sl f;have J:L≠[]:=λe=>by
    have:=d.2.2;rw[e]at this;simp at this
  obtain⟨b,o,R,I⟩:=K J;subst R;refine⟨.pointer (some ⟨b,o+i.toNat*(m+1),none⟩),VR.fold ⟨b,_,rfl,I.drop _⟩,λr=>?_⟩;have N:0<=i/\i<(n:Int):=⟨d.1,d.2.1⟩;simp[Instr.indexAt,asIntOf,D,run_underlying p,q,N,sizeOf,typeInfo,j,l,Addr.add_lit];rename_i o u B m F g c;split at h
  case isFalse=>cases h
  rename_i d;cases h;obtain⟨e,H,p,j,l,-⟩:=Fe c;rw[g]at f;obtain⟨⟨C,q⟩,E⟩:=VR.of_fx f;refine⟨.pointer (some ⟨G.blk o,u+i.toNat*m,none⟩),VR.fold ⟨rfl,E⟩,λr=>?_⟩;simp[Instr.indexAt,asIntOf,D,run_underlying p,q,d,sizeOf,typeInfo,j,l,Addr.add_lit];rename_i L o B C m F g c;split at h
  case isFalse=>cases h
  rename_i d;cases h;obtain⟨e,H,p,j,l,-⟩:=Fe c;rw[g]at f;obtain⟨q,-,E⟩:=VR.of_gx f;refine⟨.pointer (some ⟨G.blk o,i.toNat*m,none⟩),VR.fold ⟨rfl,E⟩,λr=>?_⟩;simp[Instr.indexAt,asIntOf,D,run_underlying p,q,d,sizeOf,typeInfo,j,l,Addr.add_lit];rename_i o u B m g c;split at h
  case isFalse=>cases h
  rename_i d;cases h;obtain⟨e,H,p,j,l⟩:=dB c;rw[g]at f;obtain⟨q,E⟩:=VR.of_ptr f;refine⟨.pointer (some ⟨G.blk o,u+i.toNat*m,none⟩),VR.fold ⟨rfl,E⟩,λr=>?_⟩;simp[Instr.indexAt,asIntOf,D,run_underlying p,q,Instr.sureAddr,d,sizeOf,typeInfo,j,l,Addr.add_lit];rename_i S B m g c;split at h
  case isFalse=>cases h
  rename_i d;cases h;obtain⟨e,H,p,j,l⟩:=dB c;rw[g]at f;obtain⟨b,o,q,K⟩:=VR.of_el f;refine⟨.pointer (some ⟨b,o+i.toNat*m,none⟩),VR.fold ⟨b,_,rfl,K.drop _⟩,λr=>?_⟩;simp[Instr.indexAt,asIntOf,D,run_underlying p,q,Instr.sureAddr,d,sizeOf,typeInfo,j,l,Addr.add_lit];cases h
theorem XP (B:∀t,VR G A w (a.tmps.getD t undef) (s t)){t y f x}(h:aq P s A (.field t y f)=some x):
    ∃v,VR G A w v x/\∀b,(Instr.field t (a.eval y) f).run P b= .ok v b:=by
  have l:=Bg B y;simp only[aq]at h;split at h
  case h_2=>cases h
  rename_i d z n E C u;obtain⟨I,H,q,o,p,j,F⟩:=S0 C;rw[u]at l;obtain⟨D,m,k⟩:=VR.of_ag l;unfold EF EB at h;split at h;rename_i g;subst g;split at h
  case isFalse=>cases h
  rename_i J;cases h;refine⟨.agg (D.extract d (d+n)),VR.fold ⟨_,rfl,?_⟩,λb=>?_⟩;have:=(k.drop d).take n;simpa[Array.toList_extract,List.extract_eq_take_drop]using this;simp[Instr.field,run_underlying q,o,m,asAgg,part,(Cu j b).1,(Cu j b).2,p];rename_i g;have e:z=false:=by simpa using g
  subst e;obtain⟨v,c,r⟩:=(k.drop d).get (i:=0) (x:=x) (by rw[<-List.head?_eq_getElem?];exact h);refine⟨v,r,λb=>?_⟩;rw[IJ]at c;simp only[GZ,Array.getElem?_toList]at c;simp[Instr.field,run_underlying q,o,m,asAgg,part,(Cu j b).1,p,c]
theorem run_equal_bool {t}(a:P.underlying t=some .bool)(u v w'):(Op.equal t (.bool u) (.bool v)).run P w'= .ok (u==v) w':=by
  unfold Op.equal;rw[show Op.maxDepth=9999+1 from rfl];unfold Op.equalIn;simp[run_underlying a]
theorem M5 {t}(h:jP P t=true)(a b c a' b' c' w'):(Op.equal t (.agg #[.int .i64 a,.int .i64 b,.int .i64 c]) (.agg #[.int .i64 a',.int .i64 b',.int .i64 c'])).run P w'= .ok (a==a'&&b==b'&&c==c') w':=by
  unfold jP at h;split at h
  case h_2=>cases h
  rename_i e i;simp only[BM,CV]at h;obtain⟨⟨-,d⟩,f⟩:=h;split at f
  case h_2=>cases f
  rename_i j;unfold Op.equal;rw[show Op.maxDepth=9999+1 from rfl];unfold Op.equalIn;have e2:∀u v:Int,(Op.equalIn 9999 e (.int .i64 u) (.int .i64 v)).run P w'= .ok (u==v) w':=λu v=>by rw[show 9999=9998+1 from rfl];unfold Op.equalIn;simp[run_underlying j]
  have g:∀(u v x:Int),(part e #[.int .i64 u,.int .i64 v,.int .i64 x] 0).run P w'= .ok (.int .i64 u) w':=λu v x=>by simp[part,(Cu d w').1]
  have m:∀(u v x:Int),(part e #[.int .i64 u,.int .i64 v,.int .i64 x] 1).run P w'= .ok (.int .i64 v) w':=λu v x=>by simp[part,(Cu d w').1]
  have k:∀(u v x:Int),(part e #[.int .i64 u,.int .i64 v,.int .i64 x] 2).run P w'= .ok (.int .i64 x) w':=λu v x=>by simp[part,(Cu d w').1]
  simp[run_underlying i,(Cu d w').2,g,m,k,e2,List.range'_succ];by_cases o:a=a'<;>by_cases l:b=b'<;>by_cases n:c=c'<;>simp[o,l,n]
theorem M6 {t k}(h:kG P t=some k)(a b m n w'):(Op.equal t (.agg #[.bool a,.int k m]) (.agg #[.bool b,.int k n])).run P w'= .ok (a==b&&m==n) w':=by
  unfold kG at h;split at h
  case h_2=>cases h
  rename_i j s;split at h
  case h_2=>cases h
  rename_i f g d;split at h
  case isFalse=>cases h
  rename_i o;obtain⟨l,z,B,E,p,G,r,x⟩:=o;split at h
  case h_2=>cases h
  rename_i F y q;cases h;have c:j=#[f,g]:=by cases j;simp at d;rw[d]
  subst c;unfold Op.equal;rw[show Op.maxDepth=9999+1 from rfl];unfold Op.equalIn;have A:∀u v:Bool,(Op.equalIn 9999 f.type (.bool u) (.bool v)).run P w'= .ok (u==v) w':=λu v=>by rw[show 9999=9998+1 from rfl];unfold Op.equalIn;simp[run_underlying y]
  have e2:∀u v:Int,(Op.equalIn 9999 g.type (.int k u) (.int k v)).run P w'= .ok (u==v) w':=λu v=>by rw[show 9999=9998+1 from rfl];unfold Op.equalIn;simp[run_underlying q]
  have D:∀(u:Bool) (v:Int),(part f.type #[.bool u,.int k v] 0).run P w'= .ok (.bool u) w':=λu v=>by simp[part,(Cu r w').1]
  have C:∀(u:Bool) (v:Int),(part g.type #[.bool u,.int k v] 1).run P w'= .ok (.int k v) w':=λu v=>by simp[part,(Cu x w').1]
  simp[run_underlying s,l,z,B,E,p,D,C,A,e2];by_cases i:a=b<;>by_cases e:m=n<;>simp[i,e]
theorem jj {d t u v r x y}(h:zR P d t u v=some r)(w'):
    (do eqGuard d t x y u v;Go.binOp d t u v:Sem Value).run P w'= .ok r w':=by
  unfold zR at h;split at h;rename_i k a i b;split at h
  case isFalse=>cases h
  rename_i g;subst g
  split at h<;>first
    |(cases h;simp[eqGuard,Go.binOp,Op.intArith,Op.intCmp];done)
    |(split at h
      cases h;rename_i e
      cases h;simp[eqGuard,Go.binOp,Op.intDiv,e])
    |cases h
  rename_i a b;split at h;split at h
  case isFalse=>cases h
  rename_i e;cases h;have f:(a.size:Int)+(b.size:Int)<=9223372036854775807:=AA;simp[eqGuard,Go.binOp,Op.stringOp,f];cases h;simp[eqGuard,Go.binOp,Op.stringOp];cases h;simp[eqGuard,Go.binOp,Op.stringOp];cases h;simp[eqGuard,Go.binOp,Op.stringOp];cases h;split at h;rename_i c;cases h;simp[eqGuard,Go.binOp,run_equal_bool c];rename_i c;cases h;simp[eqGuard,Go.binOp,run_equal_bool c];cases h;cases h
theorem run_sliceBound {u x y h d c}(e:VR G A w u x)(a:bnd y (some x) d=some h)(w'):(Instr.sliceBound u y c).run P w'= .ok h w':=by
  unfold bnd at a;simp only at a;split at a;rename_i i g;split at a;rename_i b;cases a;obtain⟨k,f⟩:=Gk e g;simp[Instr.sliceBound,f,asIntOf,b];cases a;cases a
theorem XO (E:∀t,VR G A w (a.tmps.getD t undef) (s t)){t y lo g V x}(h:aq P s A (.slice t y lo g V)=some x):
    ∃v,VR G A w v x/\∀d,(Instr.sliceAt t (a.eval y) (lo.map a.eval) (g.map a.eval) (V.map a.eval)).run P d= .ok v d:=by
  have L:=Bg E y;simp only[aq]at h;split at h
  case h_3=>cases h
  case h_2=>
    rename_i J id n e u F;rw[u]at L;obtain⟨base,f,M,⟨W,-⟩,q,-⟩:=VR.of_sl L;split at h
    case h_3=>cases h
    case h_2=>
      rename_i g;split at h
      case h_2=>cases h
      rename_i r z zb R B;split at h
      case isFalse=>cases h
      rename_i S;obtain⟨Y,c2,c3⟩:=S;cases h;obtain⟨e',i,j,N,O,-⟩:=Fe B;rw[F]at j;cases j;obtain⟨kk,I⟩:=Gk (Bg E g) R;have m:∀d,(Instr.sliceBounds true n f none (some (a.eval g)) none).run P d= .ok (0,r.toNat,f) d:=λd=>by
        have:(Instr.sliceBound (a.eval g) f .sliceAcap).run P d= .ok r.toNat d:=by
          have D:¬(r<0\/(f:Int)<r):=AA;simp[Instr.sliceBound,I,asIntOf,D];omega
        simp[Instr.sliceBounds,this]
      refine⟨.slice (if f=0 then base else base.map (·.add (0*z))) (r.toNat-0) (f-0),VR.fold ⟨_,_,rfl,⟨AA,λh=>AA⟩,λp=>?_,λk I=>AA⟩,λd=>?_⟩;have C:J≠[]:=by intro e;rw[e]at p;simp at p
      obtain⟨b,o,rfl,T⟩:=q C
      have K:FI w G.per (VR G A w) b o (J.take (r.toNat*z)):=λi x u=>T i x (by
        rw[GF]at u;split at u;exact u
        cases u)
      split;exact⟨b,o,rfl,K⟩;exact⟨b,o,by simp[Addr.add_lit],K⟩;simp[Instr.sliceAt,run_underlying F,Instr.slice,M,m,sizeOf,typeInfo,N,O]
    rename_i lo;split at h
    case h_2=>cases h
    rename_i l z zb Q B;split at h
    case isFalse=>cases h
    rename_i S;obtain⟨Y,c2,c3⟩:=S;cases h;obtain⟨e',i,j,g,O,-⟩:=Fe B;rw[F]at j;cases j;obtain⟨kk,I⟩:=Gk (Bg E lo) Q;have m:∀d,(Instr.sliceBounds true n f (some (a.eval lo)) none none).run P d= .ok (l.toNat,n,f) d:=λd=>by
      have:(Instr.sliceBound (a.eval lo) n .sliceB).run P d= .ok l.toNat d:=by
        have D:¬(l<0\/(n:Int)<l):=AA;simp[Instr.sliceBound,I,asIntOf,D];omega
      simp[Instr.sliceBounds,this]
    refine⟨.slice (if f=l.toNat then base else base.map (·.add (l.toNat*z))) (n-l.toNat) (f-l.toNat),VR.fold ⟨_,_,rfl,⟨AA,λh=>AA⟩,λp=>?_,λk I=>AA⟩,λd=>?_⟩;have H:l.toNat*z<Z J:=by
      rcases FT (l.toNat*z) (Z J) with h|h;exact h;exact absurd (JU h) p
    have hln:l.toNat<n:=by
      rcases FT l.toNat n with h|h;exact h;have:n*z<=l.toNat*z:=GW z h;omega
    have C:J≠[]:=by intro e;rw[e]at H;simp at H
    obtain⟨b,o,rfl,T⟩:=q C;rw[if_neg AA];exact⟨b,o+l.toNat*z,by simp[Addr.add_lit],T.drop _⟩;simp[Instr.sliceAt,run_underlying F,Instr.slice,M,m,sizeOf,typeInfo,g,O]
  rename_i b u F;rw[u]at L;have M:=L.of_sc;split at h
  case h_2=>cases h
  rename_i e U;split at h
  case h_2=>cases h
  rename_i l q;cases h;refine⟨_,VR.sc _,λd=>?_⟩;have m:(Instr.sliceBounds false b.size b.size (lo.map a.eval) (g.map a.eval) none).run P d= .ok (l,e,b.size) d:=by
    cases g with
    |none=>
     simp[bnd]at U;subst U;cases lo with
     |none=>simp[bnd]at q;subst q;simp[Instr.sliceBounds]
     |some lo=>
      have:=run_sliceBound (P:=P) (c:=.sliceB) (Bg E lo) q d;simp[Instr.sliceBounds,this]
    |some g=>
     have X:=run_sliceBound (P:=P) (c:=.sliceAlen) (Bg E g) U d;cases lo with
     |none=>simp[bnd]at q;subst q;simp[Instr.sliceBounds,X]
     |some lo=>
      have:=run_sliceBound (P:=P) (c:=.sliceB) (Bg E lo) q d;simp[Instr.sliceBounds,X,this]
  simp[Instr.sliceAt,run_underlying F,Instr.slice,M,m]
theorem zQ {cs xs bs}(d:AP (VR G A w) cs xs)(h:Qr xs=some bs):
    ∃f:List Int,cs=f.map (Value.int .u8)/\bs=f.map λn=>UInt8.ofNat n.toNat:=by
  induction xs generalizing cs bs with
  |nil=>
   have:cs=[]:=GG (by rw[d.1];rfl);simp[Qr]at h;exact⟨[],by simp[this],by simp[h]⟩
  |cons x xs j=>
   cases cs with
   |nil=>have:=d.1;simp at this
   |cons c cs=>
    unfold Qr at h;split at h;rename_i e;cases e;rename_i n r e;cases e;have k:=(d.2 0 c (sc (.int .u8 n)) rfl rfl).of_sc;cases g:Qr xs with
    |none=>simp[g]at h
    |some r=>
     simp[g]at h;obtain⟨f,p,o⟩:=j (cs:=cs) (bs:=r) ⟨by have:=d.1;simpa using this,λi a b l m=>d.2 (i+1) a b (by simpa using l) (by simpa using m)⟩ g;exact⟨n::f,by simp[k,p],by simp[<-h,o]⟩
    cases h
theorem xC {cs}{f:List Int}(d:cs=f.map (Value.int .u8))(b o cap w')(k:∀j u,cs[j]?=some u->w'.cell? ⟨b,o+j,none⟩=some u):
    (Conv.bytesToString (.slice (some ⟨b,o,none⟩) (Z cs) cap)).run P w'= .ok (.string ⟨(f.map λn=>UInt8.ofNat n.toNat).toArray⟩) w':=by
  have i:=run_loadCells_list (P:=P) w' ⟨b,o,none⟩ cs (λj u p=>by rw[Addr.add_lit];exact k j u p);rw[d]at i;have g:=run_bytesToString w' ⟨b,o,none⟩ _ cap f i;rw[<-d]at g;rw[g];have e:∀(c:List Int) (a:ByteArray),c.foldl (λr n=>r.push (UInt8.ofNat n.toNat)) a=⟨a.data++(c.map λn=>UInt8.ofNat n.toNat).toArray⟩:=by
    intro c;induction c with
    |nil=>intro a;simp
    |cons m c l=>
     intro a;simp only[FW,l];congr 1;apply Array.ext';simp[ByteArray.push]
  rw[e];simp
theorem xI (I:Inv G A w)(O:∀t,VR G A w (a.tmps.getD t undef) (s t)){c d y x}(h:aq P s A (.convert c d y)=some x):
    ∃v,VR G A w v x/\∀g,Same F G A w g->(Go.convert c d (a.eval y)).run P g= .ok v g:=by
  have p:=Bg O y;simp only[aq]at h;split at h;rename_i u z;rw[z]at p;have H:=p.of_sc;cases f:oY P c d u with
  |none=>simp[f]at h
  |some r=>
   simp[f]at h;subst h;refine⟨r,VR.sc r,λg _=>?_⟩;unfold oY at f;split at f;split at f;rename_i D B;cases f;simp[Go.convert,run_underlying D,run_underlying B,H,Conv.intToInt];cases f;cases f
  rename_i C id n z;rw[z]at p;split at h
  case h_2=>cases h
  rename_i e D B;split at h
  case h_2=>cases h
  rename_i bs N q;split at h
  case isFalse=>cases h
  rename_i U;cases h;refine⟨_,VR.sc _,λg S=>?_⟩;obtain⟨base,k,H,-,Q,-⟩:=VR.of_sl p;subst U;rw[AS]at q;rw[H,run_convert_bytes_string g c d e base _ k D N B];by_cases m:C=[];subst m;simp[Qr]at q;subst q;cases base with
  |none=>simp[Conv.bytesToString];rfl
  |some W=>simp[Conv.bytesToString,loadCells,loadCellsFrom];rfl
  obtain⟨b,o,T,l⟩:=Q m;subst T;obtain⟨M,i,E⟩:=l.list;obtain⟨V,L,e2⟩:=zQ i q;rw[e2,<-i.1]
  exact xC L b o k g (λj u K=>by
    have R:j<Z M:=(BA.1 K).1;have J:C[j]?=some (C[j]'(by rw[<-i.1];exact R)):=AK _;rw[S.1 _ _ (l j _ J).1]
    exact E j u K)
  cases h
theorem AP.set {R l m}(h:AP R l m){v x}(f:R v x)(i):AP R (l.set i v) (m.set i x):=by
  refine⟨by simp[h.1],λj a b e d=>?_⟩;rw[GH]at e d;have:=h.1;by_cases c:i=j;subst c;simp at e d;rw[<-e.2,<-d.2];exact f;rw[if_neg c]at e d;exact h.2 j a b e d
theorem AP.lsp {R}:∀(vs:List Value) (f:oh) (e k:Nat) (d:Array Value) (xs:oh),AP R vs f->AP R d.toList xs->
    AP R ((vs.zipIdx k).foldl (λcs c=>cs.setIfInBounds (e+c.2) c.1) d).toList (Abs.lsp xs (e+k) f)
  |[],f,e,k,d,xs,h,g=>by
   have:f=[]:=GG (by rw[<-h.1];rfl);subst this;exact g
  |v::vs,[],e,k,d,xs,h,g=>by have:=h.1;simp at this
  |v::vs,y::f,e,k,d,xs,h,g=>by
   simp only[List.zipIdx_cons,FW,Abs.lsp];have j:R v y:=h.2 0 v y rfl rfl;have l:AP R vs f:=⟨by have:=h.1;simpa using this,λi a b m n=>h.2 (i+1) a b (by simpa using m) (by simpa using n)⟩;have:=AP.lsp vs f e (k+1) (d.setIfInBounds (e+k) v) (xs.set (e+k) y) l (by rw[Array.toList_setIfInBounds];exact g.set j _);rwa[ID]
theorem Sn {g place'}(u:∀i p,g i=some p->place' i=some p):∀(f:List (Nat×Value)) (e:List (Nat×AV)) (d:Array Value) (xs o:oh),AP (VR G A w) d.toList xs->
    Z f=Z e->(∀(i:Nat) (p:Nat×Value) (q:Nat×AV),f[i]?=some p->e[i]?=some q->p.1=q.1/\VR G A w p.2 q.2)->CK g xs e=some o->
    ∃cs,Instr.fill place' d f=some cs/\AP (VR G A w) cs.toList o
  |[],e,d,xs,o,s,t,y,h=>by
   have:e=[]:=GG (by rw[<-t];rfl);subst this;simp[CK]at h;subst h;exact⟨d,rfl,s⟩
  |p::f,[],d,xs,o,s,t,y,h=>by simp at t
  |(i,v)::f,(j,x)::e,d,xs,o,s,t,y,h=>by
   obtain⟨z,B⟩:=y 0 _ _ rfl rfl;simp only at z B;subst z;simp only[CK]at h;split at h;cases h;rename_i k l F;split at h;cases h;rename_i I;have r:=B.cells;have C:v.cells.size=l:=by have:=r.1;simp at this;omega
   have H:d.size=Z xs:=by have:=s.1;simpa using this
   have:=AP.lsp v.cells.toList (acells x) k 0 d xs r s;obtain⟨cs,E,D⟩:=Sn u f e _ _ o this (by simpa using t) (λi p q a b=>y (i+1) p q (by simpa using a) (by simpa using b)) h;refine⟨cs,?_,D⟩;have m:¬(v.cells.size≠l||decide (k+v.cells.size>d.size))=true:=by simp;omega
   have n:v.cells.zipIdx.foldl (λcs c=>cs.setIfInBounds (k+c.2) c.1) d=(v.cells.toList.zipIdx 0).foldl (λcs c=>cs.setIfInBounds (k+c.2) c.1) d:=by
     rw[<-Array.foldl_toList,Array.toList_zipIdx]
   simp only[Instr.fill,u _ _ F];rw[if_neg m];rw[<-E,<-n]
theorem XQ (O:∀t,VR G A w (a.tmps.getD t undef) (s t)){t b x}(h:aq P s A (.build t b)=some x):
    ∃v,VR G A w v x/\∀j,(Instr.build t (b.map λ(i,x)=>(i,a.eval x))).run P j= .ok v j:=by
  simp only[aq]at h;split at h
  case h_2=>cases h
  rename_i z d c;cases o:CK (d[·]?) (z.map Abs.cst1) (b.toList.map λp=>(p.1,BR s p.2))with
  |none=>simp[o]at h
  |some J=>
   simp[o]at h;subst h;have K:AP (VR G A w) z.toArray.toList (z.map Abs.cst1):=by
     have:=AP.of_map (R:=VR G A w) (λv:Value=>v) Abs.cst1 (λv=>VR.cst1 v) z;simpa using this
   have l:∀(i:Nat) (p:Nat×Value) (q:Nat×AV),(b.toList.map λp=>(p.1,a.eval p.2))[i]?=some p->(b.toList.map λp=>(p.1,BR s p.2))[i]?=some q->p.1=q.1/\VR G A w p.2 q.2:=λi p q y B=>by
       simp only[DC]at y B;cases k:b.toList[i]? with
       |none=>simp[k]at y
       |some r=>
        simp[k]at y B;subst y;subst B;exact⟨rfl,Bg O r.2⟩
   unfold Lp at c;split at c;rename_i M u k F;split at c
   case h_2=>cases c
   rename_i E N g H;simp at c;obtain⟨rfl,rfl⟩:=c;obtain⟨f,D,C⟩:=Sn (place':=λi=>N.toArray[i]?) (λi p h=>by simpa using h) (b.toList.map λp=>(p.1,a.eval p.2)) (b.toList.map λp=>(p.1,BR s p.2)) E.cells _ J (by simpa using K) (by simp) l o;refine⟨.agg f,VR.fold ⟨f,rfl,C⟩,λj=>run_build j t _ f ?_⟩;unfold Program.built;simp only[k,F,g,H];simpa using D;rename_i M n e k F;split at c
   case h_2=>cases c
   rename_i E L g I;simp at c;obtain⟨rfl,rfl⟩:=c
   obtain⟨f,D,C⟩:=Sn (place':=λi=>some (i*L.size,L.size)) (λi p h=>by
     rw[DC]at h;by_cases m:i<n;rw[List.getElem?_range m]at h;simpa using h
     rw[FD (by simpa using m)]at h;simp at h) (b.toList.map λp=>(p.1,a.eval p.2)) (b.toList.map λp=>(p.1,BR s p.2)) E.cells _ J (by simpa using K) (by simp) l o
   refine⟨.agg f,VR.fold ⟨f,rfl,C⟩,λj=>run_build j t _ f ?_⟩;unfold Program.built;simp only[k,F,g,I];simpa using D;cases c
theorem SX (I:Inv G A w)(D:∀t,VR G A w (a.tmps.getD t undef) (s t)){o x}(h:aq P s A o.op=some x)(hF:∀p,LZ s o.op=some p->F p):
    ∃v,VR G A w v x/\∀B,Same F G A w B->(execOp a.eval o).run P B= .ok (.value v) B:=by
  cases j:o.op<;>rw[j]at h hF<;>try (simp[aq]at h;done)
  case move y=>simp[aq]at h;subst h;exact⟨_,Bg D y,λB _=>by simp[execOp,j]⟩
  case assign y=>simp[aq]at h;subst h;exact⟨_,Bg D y,λB _=>by simp[execOp,j]⟩
  case pick c y z=>
    simp only[aq]at h;split at h
    case h_2=>cases h
    rename_i t U;have g:=Bg D c;rw[U]at g;have g:=g.of_sc;cases h;cases t with
    |true=>exact⟨_,Bg D y,λB _=>by simp[execOp,j,g,asBool]⟩
    |false=>exact⟨_,Bg D z,λB _=>by simp[execOp,j,g,asBool]⟩
  case load t y=>
    obtain⟨v,E,L⟩:=ik I D h hF;exact⟨v,E,λB S=>by simp[execOp,j,L B S]⟩
  case nilCheck y=>
    simp only[aq]at h;split at h;rename_i p off l;cases h;have g:=Bg D y;rw[l]at g;exact⟨_,g,λB _=>by simp[execOp,j,(VR.of_ptr g).1]⟩;rename_i ys l;cases h;have g:=Bg D y;rw[l]at g;obtain⟨b,q,R,hl⟩:=VR.of_el g;exact⟨_,g,λB _=>by simp[execOp,j,R]⟩;cases h
  case fieldAddr t y f=>
    obtain⟨v,E,L⟩:=lS D h;exact⟨v,E,λB S=>by simp[execOp,j,L B]⟩
  case field t y f=>
    obtain⟨v,E,L⟩:=XP D h;exact⟨v,E,λB S=>by simp[execOp,j,L B]⟩
  case indexAddr t y z=>
    obtain⟨v,E,L⟩:=lR D h;exact⟨v,E,λB S=>by simp[execOp,j,L B]⟩
  case index t y z=>
    simp only[aq]at h;split at h
    case h_3=>cases h
    case h_2=>
      rename_i i cs0 n e hi l M;split at h
      case h_2=>cases h
      rename_i ga m K;split at h
      case isFalse=>cases h
      rename_i O;have g:=Bg D y;rw[l]at g;obtain⟨V,g,U⟩:=VR.of_ag g;obtain⟨k,hk⟩:=Gk (Bg D z) hi;unfold EF EB at h;split at h;rename_i hg;subst hg;split at h
      case isFalse=>cases h
      rename_i hn;cases h;refine⟨.agg (V.extract (i.toNat*m) (i.toNat*m+m)),VR.fold ⟨_,rfl,?_⟩,λB _=>?_⟩;have:=(U.drop (i.toNat*m)).take m;simpa[Array.toList_extract,List.extract_eq_take_drop]using this;simp[execOp,j,Instr.index,hk,asIntOf,run_underlying M,g,O,part,(Cu K B).1,(Cu K B).2];rename_i hg;have hg':ga=false:=by simpa using hg
      subst hg';obtain⟨v,C,hr⟩:=(U.drop (i.toNat*m)).get (i:=0) (x:=x) (by rw[<-List.head?_eq_getElem?];exact h);refine⟨v,hr,λB _=>?_⟩;rw[IJ]at C;simp only[GZ,Array.getElem?_toList]at C;simp[execOp,j,Instr.index,hk,asIntOf,run_underlying M,g,O,part,(Cu K B).1,(Cu K B).2,C]
    rename_i i b hi l M;split at h
    case isFalse=>cases h
    rename_i h0;cases O:b[i.toNat]? with
    |none=>simp[O]at h
    |some c=>
     simp[O]at h;subst h;have g:=Bg D y;rw[l]at g;have g:=g.of_sc;obtain⟨k,hk⟩:=Gk (Bg D z) hi;exact⟨_,VR.sc _,λB _=>by simp[execOp,j,Instr.index,hk,asIntOf,run_underlying M,g,h0,O]⟩
  case build t parts=>
    obtain⟨v,E,L⟩:=XQ D h;exact⟨v,E,λB S=>by simp only[execOp,j];rw[Sem.run_bind,L B];rfl⟩
  case extract y i=>
    simp only[aq]at h;split at h
    case h_2=>cases h
    rename_i xs l;have g:=Bg D y;rw[l]at g;obtain⟨V,R,ha⟩:=VR.of_tp g;obtain⟨v,E,L⟩:=ha.get h
    exact⟨v,L,λB _=>by
      have:V[i]?=some v:=by simpa using E
      simp[execOp,j,Instr.extract,R,this]⟩
  case binOp op t y z t'=>
    simp only[aq]at h;split at h
    case h_4=>cases h
    case h_3=>
      rename_i a1 b1 c1 a2 b2 c2 l W;split at h
      case isFalse=>cases h
      rename_i J;have g:=Bg D y;rw[l]at g;have C:=Bg D z;rw[W]at C;have X:∀{v:Value} {p q r:Int},VR G A w v (ag [sc (.int .i64 p),sc (.int .i64 q),sc (.int .i64 r)])->v= .agg #[.int .i64 p,.int .i64 q,.int .i64 r]:=λ{v p q r} g=>by
        obtain⟨V,rfl,T⟩:=g.unfold;have hl:=T.1
        match V,hl with
        |⟨[c,d,e]⟩,_=>
         have e1:=(T.2 0 c _ rfl rfl).of_sc;have e2:=(T.2 1 d _ rfl rfl).of_sc;have e3:=(T.2 2 e _ rfl rfl).of_sc;rw[e1,e2,e3]
      have g:=X g;have C:=X C;have N:P.eqGuardType P.depth t=false:=by
        unfold jP at J;split at J
        case h_2=>cases J
        simp only[BM,CV]at J;exact J.1.1
      split at h;cases h
      exact⟨_,VR.sc _,λB _=>by
        simp[execOp,j,g,C,eqGuard,N,Go.binOp,M5 J]⟩
      cases h
      exact⟨_,VR.sc _,λB _=>by
        simp[execOp,j,g,C,eqGuard,N,Go.binOp,M5 J]⟩
      cases h
    case h_2=>
      rename_i a1 k1 m1 b1 k2 n1 l W;split at h
      case isFalse=>cases h
      rename_i U;obtain⟨J,rfl⟩:=U;have g:=Bg D y;rw[l]at g;have C:=Bg D z;rw[W]at C;have X:∀{v:Value} {p:Bool} {q:Int},VR G A w v (ag [sc (.bool p),sc (.int k1 q)])->v= .agg #[.bool p,.int k1 q]:=λ{v p q} g=>by
        obtain⟨V,rfl,T⟩:=g.unfold;have hl:=T.1
        match V,hl with
        |⟨[c,d]⟩,_=>
         have e1:=(T.2 0 c _ rfl rfl).of_sc;have e2:=(T.2 1 d _ rfl rfl).of_sc;rw[e1,e2]
      have g:=X g;have C:=X C;have N:P.eqGuardType P.depth t=false:=by
        unfold kG at J;split at J
        case h_2=>cases J
        split at J
        case h_2=>cases J
        split at J
        case isFalse=>cases J
        rename_i U;exact U.2.2.2.2.2.1
      split at h;cases h
      exact⟨_,VR.sc _,λB _=>by
        simp[execOp,j,g,C,eqGuard,N,Go.binOp,M6 J]⟩
      cases h
      exact⟨_,VR.sc _,λB _=>by
        simp[execOp,j,g,C,eqGuard,N,Go.binOp,M6 J]⟩
      cases h
    rename_i u u' l W;cases O:zR P op t u u' with
    |none=>simp[O]at h
    |some r=>
     simp[O]at h;subst h;have g:=Bg D y;rw[l]at g;have g:=g.of_sc;have C:=Bg D z;rw[W]at C;have C:=C.of_sc
     exact⟨r,VR.sc r,λB _=>by
       have:=jj (x:=y) (y:=z) O B;simp only[execOp,j,g,C];rw[Sem.run_bind,this]
       rfl⟩
  case unOp op t y=>
    simp only[aq]at h;split at h;rename_i b l;cases h;have g:=Bg D y;rw[l]at g;have g:=g.of_sc;exact⟨_,VR.sc _,λB _=>by simp[execOp,j,g,Op.unary]⟩;rename_i k n l;cases h;have g:=Bg D y;rw[l]at g;have g:=g.of_sc;exact⟨_,VR.sc _,λB _=>by simp[execOp,j,g,Op.unary,Op.intArith]⟩;cases h
  case convert src dst y=>
    obtain⟨v,E,L⟩:=xI (F:=F) I D h;exact⟨v,E,λB S=>by simp[execOp,j,L B S]⟩
  case slice t y lo hi mx=>
    obtain⟨v,E,L⟩:=XO D h;exact⟨v,E,λB S=>by simp[execOp,j,L B]⟩
  case call c=>
    obtain⟨Q,H,ts⟩:=c;cases Q with
    |value f=>simp[aq]at h
    |invoke r m=>simp[aq]at h
    |builtin b=>
     cases b<;>try (simp[aq]at h;done)
     case len=>
       simp only[aq]at h;obtain⟨H⟩:=H;obtain⟨ts⟩:=ts;split at h;rename_i b t l K;simp at l K;cases H with
       |nil=>simp at l
       |cons y r=>
        cases r with
        |cons z r=>simp at l
        |nil=>
         simp at l;split at h;rename_i M;simp at h;subst h;have g:=Bg D y;rw[l]at g;have g:=g.of_sc;exact⟨_,VR.sc _,λB _=>by simp[execOp,j,resolve,invoke,Go.builtin,Builtin.len_,K,g,run_underlying M,goInt]⟩;simp at h
       rename_i xs id n t l K;simp at l K;cases H with
       |nil=>simp at l
       |cons y r=>
        cases r with
        |cons z r=>simp at l
        |nil=>
         simp at l;split at h;rename_i M;obtain⟨⟨z,q⟩,hz⟩:=NF.1 M;obtain⟨e,ie,E,-⟩:=Fe hz;cases h;have g:=Bg D y;rw[l]at g;obtain⟨base,Y,R,-⟩:=VR.of_sl g;exact⟨_,VR.sc _,λB _=>by simp[execOp,j,resolve,invoke,Go.builtin,Builtin.len_,K,R,run_underlying E,goInt]⟩;cases h
       rename_i p off n t l K;simp at l K;cases H with
       |nil=>simp at l
       |cons y r=>
        cases r with
        |cons z r=>simp at l
        |nil=>
         simp at l;split at h;rename_i M;obtain⟨⟨z,q⟩,hz⟩:=NF.1 M;obtain⟨e,ie,E,-⟩:=Fe hz;cases h;have g:=Bg D y;rw[l]at g;obtain⟨⟨Y,R⟩,-⟩:=VR.of_fx g;exact⟨_,VR.sc _,λB _=>by simp[execOp,j,resolve,invoke,Go.builtin,Builtin.len_,K,R,run_underlying E,goInt]⟩;cases h
       rename_i xs p n Y t l K;simp at l K;cases H with
       |nil=>simp at l
       |cons y r=>
        cases r with
        |cons z r=>simp at l
        |nil=>
         simp at l;split at h;rename_i M;obtain⟨⟨z,q⟩,hz⟩:=NF.1 M;obtain⟨e,ie,E,-⟩:=Fe hz;cases h;have g:=Bg D y;rw[l]at g;obtain⟨R,-,-⟩:=VR.of_gx g;exact⟨_,VR.sc _,λB _=>by simp[execOp,j,resolve,invoke,Go.builtin,Builtin.len_,K,R,run_underlying E,goInt]⟩;cases h
       cases h
end
def P0 (P:Program)(t:TypeId):Option (Nat×Nat×List Value):=
  match P.underlying t with
  |some (.slice e)=>(P.info? e).bind λi=>i.zero.map λz=>(i.size,i.bytes,z.cells.toList)
  |_=>none
def iK (P:Program)(t e:TypeId)(x y:AV)(A:St):Option (AV×St):=
  match x,y,P0 P t with
  |.slice c [.held (.inr (id,n,none))],.slice a [.held (.inr (_,m,none))],some (z,b,d)=>
   if e=t/\0<z/\Z d=z/\Z c=n*z/\Z a=m*z/\a.all flat=true/\0<m/\(n+m)*b<=140737488355328/\n+m<=1099511627776 then
     (match id with
      |0=>none
      |1=>some (sl (A.D+2) m a,A.lay m)
      |k+2=>if A.top k=n/\0<n then some (sl (k+2) (n+m) (c++a),A.raise k (n+m))else none)
   else none
  |_,_,_=>none
def al (P:Program)(s:Nat->AV)(A:St):Op->Option (AV×St)
  |.alloc t=>(Gu P t).map λz=>(ptr A.B 0,A.new (z.map cst1))
  |.box _ x=>some (ptr A.B 0,A.new (acells (BR s x)))
  |.store t x y=>(match J3 P t,BR s x with
      |some (_,n),.held (.inr (o,f,none))=>
       if Z (acells (BR s y))=n/\(acells (BR s y)).all flat=true/\f+n<=Z (A.C o) then some (sc undef,A.put o (lsp (A.C o) f (acells (BR s y))))else none
      |_,_=>none)
  |.buildSlice t d a=>(match P0 P t with
      |some (z,_,e)=>
       if d=0 then (if a.size=0 then some (nilS,A)else none)else
       if Z e=z/\d*z<=16777216/\0<z then
         (CK (λi=>some (i*z,z)) ((List.replicate d (e.map cst1)).flatten) (a.toList.map λp=>(p.1,BR s p.2))).map λr=>(sl (A.D+2) d r,A.lay d)
       else none
      |none=>none)
  |.makeSlice t l c=>(match P0 P t,Z0 (BR s l),Z0 (BR s c)with
      |some (z,b,[k]),some n,some m=>if z=1/\0<=n/\n=m/\(b:Int)*n<=281474976710656/\n<=1099511627776 then some (fx A.B 0 n.toNat,A.new (List.replicate n.toNat (cst1 k)))else none
      |some (z,b,j::z2::e),some n,some m=>if z=Z e+2/\0<=n/\n=m/\(b:Int)*n<=281474976710656/\n<=1099511627776 then some (fx A.B 0 n.toNat,A.new (List.replicate n.toNat ((j::z2::e).map cst1)).flatten)else
       if z=Z e+2/\n=0/\0<m/\(b:Int)*m<=281474976710656/\m<=1099511627776 then some (gx A.B 0 m.toNat,A.new (List.replicate m.toNat ((j::z2::e).map cst1)).flatten)else none
      |_,_,_=>none)
  |.call {callee:=.builtin .append,args:=args,argTypes:=ts}=>(match args.toList,ts.toList with
      |[x,y],[t,q]=>iK P t q (BR s x) (BR s y) A
      |_,_=>none)
  |_=>none
def LW (G:Gh)(A:St)(w:World)(r:Result Next)(x:AV)(b:St):Prop:=
  ∃v a c,(r= .ok (.value v) a\/(r= .ok .skip a/\v=undef))/\Inv c b a/\CH G A w c b a/\VR c b a v x
section
variable {P:Program} {G:Gh} {A:St} {w:World} {s:Nat->AV} {a:Act}
theorem Kv {t z b f}(h:P0 P t=some (z,b,f)):∃e i a,P.underlying t=some (.slice e)/\P.info? e=some i/\i.zero=some a/\i.size=z/\i.bytes=b/\a.cells.toList=f:=by
  unfold P0 at h;split at h;rename_i e g;cases c:P.info? e with
  |none=>simp[c]at h
  |some i=>
   cases d:i.zero with
   |none=>simp[c,d]at h
   |some a=>simp[c,d]at h;exact⟨e,i,a,g,c,d,h.1,h.2.1,h.2.2⟩
  cases h
theorem L0:∀(b l:oh) (a:Nat),Z (lsp l a b)=Z l
  |[],l,a=>rfl
  |y::b,l,a=>by simp[lsp,L0 b]
theorem Hw:∀(b l:oh) (a:Nat),a+Z b<=Z l->lsp l a b=l.take a++b++l.drop (a+Z b)
  |[],l,a,_=>by simp[lsp]
  |y::b,l,a,h=>by
   have d:a<Z l:=by simp at h;omega
   rw[lsp,Hw b _ _ (by simp at h⊢;omega)];have c:(l.set a y).take (a+1)=l.take a++[y]:=by
     rw[AT,List.take_set];simp only[GH,d,if_true];rw[List.set_eq_of_length_le (by simp;omega)];simp
   have e:(l.set a y).drop (a+1+Z b)=l.drop (a+Z (y::b)):=by
     rw[List.drop_set_of_lt AA];congr 1;simp;omega
   rw[c,e];simp
theorem Qf (f:Nat->Value):Array.map f (Array.range 0)=#[]:=by
  apply Array.ext';simp
theorem Inv.garbage (I:Inv G A w)(o):Inv G A (w.alloc o)/\CH G A w G A (w.alloc o):=by
  have E:CH G A w G A (w.alloc o):=⟨rfl,rfl,AU _,λ_ _=>rfl,AU _,λ_ _=>⟨AU _,rfl,λ_=>⟨rfl,rfl⟩⟩,λb d p=>⟨p,O4 (I.perlt _ _ p)⟩,λo h=>⟨AU _,λ_=>Ox (I.blk_lt h)⟩⟩;have a:∀b,b<w.heap.size->(w.alloc o).heap[b]?=w.heap[b]?:=λb h=>Go.RowKit.Below.heap_alloc w _ b h;refine⟨⟨λp n=>?_,I.inj,λk m=>?_,I.linj,I.apart,λb d p=>?_,I.perlo,I.below.alloc I.le _,?_,I.hyp⟩,E⟩;obtain⟨l,r,j⟩:=I.C p n;refine⟨l,by simp;omega,λi=>?_⟩;obtain⟨⟨c,e,f,g⟩,q⟩:=j i;exact⟨⟨c,e,by rw[a _ (I.blk_lt n)];exact f,VR.all E g⟩,q⟩;obtain⟨l,⟨c,e,f,g⟩,j⟩:=I.lin k m;exact⟨l,⟨c,e,by rw[a _ (I.cur_lt m)];exact f,g⟩,j⟩;have:=I.perlt _ _ p;simp;omega;have:=I.le;simp;omega
theorem ZF (I:Inv G A w){t x e o}(c:o.op= .alloc t)(h:al P s A (.alloc t)=some (x,e)):LW G A w ((execOp a.eval o).run P w) x e:=by
  simp only[al,Gu]at h;cases b:P.info? t with
  |none=>simp[b]at h
  |some i=>
   cases d:i.zero with
   |none=>simp[b,d]at h
   |some z=>
    simp[b,d]at h;obtain⟨rfl,rfl⟩:=h;have f:AP (VR G A w) z.cells.toList (z.cells.toList.map Abs.cst1):=by
      have:=AP.of_map (R:=VR G A w) (λv:Value=>v) Abs.cst1 (λv=>VR.cst1 v) z.cells.toList;simpa using this
    obtain⟨j,k,E,g⟩:=I.newObj z.cells t _ f;refine⟨.pointer (some ⟨w.heap.size,0,none⟩),_,j,.inl ?_,k,E,VR.fold ⟨by rw[g],by simp[St.new]⟩⟩;simp[execOp,c,Instr.alloc,zeroValue,typeInfo,b,d,newVar,newRow]
theorem k7 (I:Inv G A w)(g:∀t,VR G A w (a.tmps.getD t undef) (s t)){t y x c o}(b:o.op= .box t y)(h:al P s A (.box t y)=some (x,c)):LW G A w ((execOp a.eval o).run P w) x c:=by
  simp[al]at h;obtain⟨rfl,rfl⟩:=h;obtain⟨e,f,E,d⟩:=I.newObj (a.eval y).cells t _ (Bg g y).cells;refine⟨.pointer (some ⟨w.heap.size,0,none⟩),_,e,.inl ?_,f,E,VR.fold ⟨by rw[d],by simp[St.new]⟩⟩;simp[execOp,b,Instr.box,newVar,newRow]
theorem ZE (I:Inv G A w)(q:∀t,VR G A w (a.tmps.getD t undef) (s t)){t y z x r o}(k:o.op= .store t y z)(h:al P s A (.store t y z)=some (x,r)):LW G A w ((execOp a.eval o).run P w) x r:=by
  simp only[al]at h;split at h
  case h_2=>cases h
  rename_i M n p b B D;split at h
  case isFalse=>cases h
  rename_i H;obtain⟨N,F,m⟩:=H;cases h;have u:=Bg q y;rw[D]at u;obtain⟨K,C⟩:=VR.of_ptr u;have i:=(Bg q z).cells;have d:A.C p≠[]:=λe=>by
    have:=YD B;rw[e]at m;simp at m;omega
  obtain⟨⟨c,e,J,j⟩,-⟩:=(I.C p C).2.2 d;have v:c.size=Z (A.C p):=by have:=j.1;simpa using this
  have l:(a.eval z).cells.size=n:=by have:=i.1;simp at this;omega
  have g:=run_storeCells_at P (G.blk p) b e (a.eval z).cells.toList 0 c w J (by simp;omega) (Zz i F);have f:AP (VR G A w) (c.toList.take b++(a.eval z).cells.toList++c.toList.drop (b+Z (a.eval z).cells.toList)).toArray.toList (lsp (A.C p) b (acells (BR s z))):=by
    rw[Hw _ _ _ AA,<-i.1];exact ((j.take b).append i).append (j.drop _)
  obtain⟨L,E⟩:=I.setObj C d _ _ f;refine⟨undef,_,G,.inr ⟨?_,rfl⟩,L,E,VR.sc _⟩;simp only[GZ]at g;simp[execOp,k,Instr.storeAt,K,Instr.sureAddr,storeVar,(Cu B w).2,l,g]
theorem Gc {z:List Value}{n}:((Array.range (n*Z z)).map (z.toArray[· % z.toArray.size]!)).toList=(List.replicate n z).flatten:=by
  by_cases c:Z z=0;have:z=[]:=GG c;subst this;simp;induction n with
  |zero=>simp
  |succ n b=>
   rw[List.replicate_succ',List.flatten_append,<-b];simp only[Array.toList_map,Array.toList_range];rw[If,List.range_add,EU,BH];congr 1;simp only[List.flatten_cons,List.flatten_nil,EJ];apply FL;intro i;by_cases a:i<Z z;have:(n*Z z+i) % Z z=i:=by rw[Nat.mul_comm,Nat.mul_add_mod];exact Nat.mod_eq_of_lt a
   simp[a,this];simp[a]
theorem AP.flatten_replicate {R l m}(h:AP R l m):∀n,AP R (List.replicate n l).flatten (List.replicate n m).flatten
  |0=>by simp;exact AP.nil R
  |n+1=>by simp only[List.replicate_succ,List.flatten_cons];exact h.append (AP.flatten_replicate h n)
theorem gI (I:Inv G A w)(hs:∀t,VR G A w (a.tmps.getD t undef) (s t)){t f d x A' o}(C:o.op= .buildSlice t f d)
    (h:al P s A (.buildSlice t f d)=some (x,A')):LW G A w ((execOp a.eval o).run P w) x A':=by
  simp only[al]at h;split at h
  case h_2=>cases h
  rename_i z b m ht;obtain⟨e,i,W,hu,n,hz,h1,h2,h3⟩:=Kv ht;split at h;rename_i h0;subst h0;split at h
  case isFalse=>cases h
  rename_i u;cases h;have S:d=#[]:=by simpa using u
  subst S;obtain⟨Y,E⟩:=I.garbage (.cells #[] e);refine⟨.slice (some ⟨w.heap.size,0,none⟩) 0 0,w.alloc (.cells #[] e),G,.inl ?_,Y,E,VR.fold ⟨_,_,rfl,⟨AU _,λ_=>⟨rfl,rfl⟩⟩,λh=>absurd rfl h,λk hk=>AA⟩⟩;simp[execOp,C,Instr.buildSlice,run_underlying hu,sizeOf,typeInfo,n,Instr.fill,newRow,Qf];rename_i h0;split at h
  case isFalse=>cases h
  rename_i hc;obtain⟨D,hc2,Q⟩:=hc;cases J:CK (λi=>some (i*z,z)) ((List.replicate f (m.map Abs.cst1)).flatten) (d.toList.map λp=>(p.1,BR s p.2))with
  |none=>simp[J]at h
  |some xs=>
   simp[J]at h;obtain⟨rfl,rfl⟩:=h;have K:AP (VR G A w) m (m.map Abs.cst1):=by
     have:=AP.of_map (R:=VR G A w) (λv:Value=>v) Abs.cst1 (λv=>VR.cst1 v) m;simpa using this
   have X:AP (VR G A w) ((Array.range (f*z)).map (W.cells[· % W.cells.size]!)).toList ((List.replicate f (m.map Abs.cst1)).flatten):=by
     have e1:W.cells=m.toArray:=by rw[<-h3]
     rw[e1,<-D,Gc];exact K.flatten_replicate f
   obtain⟨B,g1,g2⟩:=Sn (place':=λi=>some (i*z,z)) (λ_ _ h=>h) (d.toList.map λp=>(p.1,a.eval p.2)) (d.toList.map λp=>(p.1,BR s p.2)) _ _ xs X (by simp)
     (λi p q u U=>by
       simp only[DC]at u U;cases n:d.toList[i]? with
       |none=>simp[n]at u
       |some r=>
        simp[n]at u U;subst u;subst U
        exact⟨rfl,Bg hs r.2⟩) J
   have O:∀(g:Nat->Option (Nat×Nat)) (l:List (Nat×AV)) (c H:oh),CK g c l=some H->Z H=Z c:=by
     intro g l;induction l with
     |nil=>intro c H h;simp[CK]at h;rw[h]
     |cons q l ih=>
      intro c H h;obtain⟨j,y⟩:=q;simp only[CK]at h;split at h;cases h;split at h;cases h;rw[ih _ _ h,L0]
   have F:Z xs=f*z:=by
     rw[O _ _ _ _ J];simp[D]
   have T:B.size=f*z:=by have:=g2.1;simp at this;omega
   obtain⟨G',Y,E,k1,k2,k3,k4⟩:=I.newRow B e f f z T (AU _);refine⟨.slice (some ⟨w.heap.size,0,none⟩) f f,w.alloc (.cells B e),G',.inl ?_,Y,E,VR.fold ⟨_,_,rfl,⟨AU _,λh=>AA⟩,λ_=>⟨w.heap.size,0,rfl,λj y hy=>?_⟩,λk hk=>?_⟩⟩;have N:f*z≠0:=by
     have:0<f*z:=KX AA Q;omega
   have V:¬(16777216<f*z):=AA;have hpm:(d.map λx=>(x.1,a.eval x.2)).toList=d.toList.map λp=>(p.1,a.eval p.2):=by simp
   simp only[execOp,C,Instr.buildSlice,Sem.run_bind,run_underlying hu,Result.andThen_ok,sizeOf,typeInfo,run_program,n,Sem.run_pure,h1];simp[V,N,zeroValue,typeInfo,n,hz,g1,newRow];obtain⟨c,L,hr⟩:=g2.get hy;have hj:j<f*z:=by rw[<-F];exact (BA.1 hy).1
   refine⟨by simpa using k4 j hj,c,?_,hr.ext E⟩;have:(w.alloc (.cells B e)).cell? ⟨w.heap.size,0+j,none⟩=B[0+j]?:=Ko;rw[this];simpa using L;have M:k=A.D:=AA;subst M;refine⟨by simp[St.lay],by simp[St.lay],by rw[k3];exact F,λ_=>⟨by rw[k1],by rw[k2]⟩⟩
theorem nK (I:Inv G A w)(F:∀t,VR G A w (a.tmps.getD t undef) (s t)){t l c x A' o}(C:o.op= .makeSlice t l c)
    (h:al P s A (.makeSlice t l c)=some (x,A')):LW G A w ((execOp a.eval o).run P w) x A':=by
  simp only[al]at h;split at h
  case h_3=>cases h
  case h_1=>
    rename_i z b N n m W X V;split at h
    case isFalse=>cases h
    rename_i M;obtain⟨rfl,c2,rfl,c4,c5⟩:=M;cases h;obtain⟨e,i,k,O,B,K,D,J,L⟩:=Kv W;obtain⟨k1,H⟩:=Gk (Bg F l) X;obtain⟨k2,e2⟩:=Gk (Bg F c) V;have S:IntKind.i64.wrap n=n:=Go.IntWalk.i64_in n ⟨AA,AA⟩;have r:k.cells=#[N]:=by
      apply Array.ext';simpa using L
    have d:((Array.range (n.toNat*1)).map (k.cells[· % k.cells.size]!)).toList=List.replicate n.toNat N:=by
      rw[r];have:=Gc (z:=[N]) (n:=n.toNat);simpa using this
    have j:AP (VR G A w) ((Array.range (n.toNat*1)).map (k.cells[· % k.cells.size]!)).toList (List.replicate n.toNat (Abs.cst1 N)):=by
      rw[d];have:=AP.of_map (R:=VR G A w) (λv:Value=>v) Abs.cst1 (λv=>VR.cst1 v) (List.replicate n.toNat N);simpa using this
    obtain⟨T,U,E,Q⟩:=I.newObj _ e _ j;refine⟨.slice (some ⟨w.heap.size,0,none⟩) n.toNat n.toNat,_,T,.inl ?_,U,E,VR.fold ⟨⟨n.toNat,by rw[Q],AU _⟩,by simp[St.new]⟩⟩;have f:¬n<0:=AA;have g:¬((i.bytes:Int)*n>281474976710656):=by rw[J];omega
    simp only[execOp,C,Instr.makeSlice,Sem.run_bind,run_underlying O,Result.andThen_ok,H,e2,asInt,asIntOf,Sem.run_pure,typeInfo,run_program,B,S];by_cases p:n.toNat=0;simp[f,g,sizeOf,typeInfo,B,D,p,newRow,Qf];simp[f,g,sizeOf,typeInfo,B,D,p,zeroValue,K,newRow]
  case h_2=>
    rename_i z b u y q n m W X V;split at h
    case isTrue=>
      rename_i M;obtain⟨rfl,c2,rfl,c4,c5⟩:=M;cases h;obtain⟨e,i,k,O,B,K,D,J,L⟩:=Kv W;obtain⟨k1,H⟩:=Gk (Bg F l) X;obtain⟨k2,e2⟩:=Gk (Bg F c) V;have S:IntKind.i64.wrap n=n:=Go.IntWalk.i64_in n ⟨AA,AA⟩;have r:k.cells=(u::y::q).toArray:=by
        apply Array.ext';simpa using L
      have d:((Array.range (n.toNat*(Z q+2))).map (k.cells[· % k.cells.size]!)).toList=(List.replicate n.toNat (u::y::q)).flatten:=by
        rw[r];have:=Gc (z:=u::y::q) (n:=n.toNat);simpa using this
      have j:AP (VR G A w) ((Array.range (n.toNat*(Z q+2))).map (k.cells[· % k.cells.size]!)).toList (List.replicate n.toNat ((u::y::q).map Abs.cst1)).flatten:=by
        rw[d];have:=AP.of_map (R:=VR G A w) (λv:Value=>v) Abs.cst1 (λv=>VR.cst1 v) (List.replicate n.toNat (u::y::q)).flatten;rw[List.map_flatten,List.map_replicate]at this;simpa using this
      obtain⟨T,U,E,Q⟩:=I.newObj _ e _ j;refine⟨.slice (some ⟨w.heap.size,0,none⟩) n.toNat n.toNat,_,T,.inl ?_,U,E,VR.fold ⟨⟨n.toNat,by rw[Q],AU _⟩,by simp[St.new]⟩⟩;have f:¬n<0:=AA;have g:¬((i.bytes:Int)*n>281474976710656):=by rw[J];omega
      simp only[execOp,C,Instr.makeSlice,Sem.run_bind,run_underlying O,Result.andThen_ok,H,e2,asInt,asIntOf,Sem.run_pure,typeInfo,run_program,B,S];by_cases p:n.toNat=0;simp[f,g,sizeOf,typeInfo,B,D,p,newRow,Qf];simp[f,g,sizeOf,typeInfo,B,D,p,zeroValue,K,newRow];intro h0;exact absurd h0 (Nat.ne_of_gt (KX AA AA))
    split at h
    case isFalse=>cases h
    rename_i M;obtain⟨rfl,rfl,c2,c4,c5⟩:=M;cases h;obtain⟨e,i,k,O,B,K,D,J,L⟩:=Kv W;obtain⟨k1,H⟩:=Gk (Bg F l) X;obtain⟨k2,e2⟩:=Gk (Bg F c) V;have S:IntKind.i64.wrap m=m:=Go.IntWalk.i64_in m ⟨AA,AA⟩;have Y:IntKind.i64.wrap 0=0:=rfl;have r:k.cells=(u::y::q).toArray:=by
      apply Array.ext';simpa using L
    have d:((Array.range (m.toNat*(Z q+2))).map (k.cells[· % k.cells.size]!)).toList=(List.replicate m.toNat (u::y::q)).flatten:=by
      rw[r];have:=Gc (z:=u::y::q) (n:=m.toNat);simpa using this
    have j:AP (VR G A w) ((Array.range (m.toNat*(Z q+2))).map (k.cells[· % k.cells.size]!)).toList (List.replicate m.toNat ((u::y::q).map Abs.cst1)).flatten:=by
      rw[d];have:=AP.of_map (R:=VR G A w) (λv:Value=>v) Abs.cst1 (λv=>VR.cst1 v) (List.replicate m.toNat (u::y::q)).flatten;rw[List.map_flatten,List.map_replicate]at this;simpa using this
    obtain⟨T,U,E,Q⟩:=I.newObj _ e _ j;refine⟨.slice (some ⟨w.heap.size,0,none⟩) 0 m.toNat,_,T,.inl ?_,U,E,VR.fold ⟨by rw[Q],Nat.zero_le _,by simp[St.new]⟩⟩;have f:¬m<0:=AA;have hz0:¬((i.bytes:Int)*0>281474976710656):=by simp
    have g:¬((i.bytes:Int)*m>281474976710656):=by rw[J];omega
    simp only[execOp,C,Instr.makeSlice,Sem.run_bind,run_underlying O,Result.andThen_ok,H,e2,asInt,asIntOf,Sem.run_pure,typeInfo,run_program,B,S,Y];have p:¬m.toNat=0:=AA;simp[f,g,sizeOf,typeInfo,B,D,p,zeroValue,K,newRow];intro h0;exact absurd h0 (Nat.ne_of_gt (KX AA AA))
theorem Mf (w t ty e i)(q:P.underlying t=some (.slice e))(r:P.info? e=some i)
    (g sLen sCap cur e') (l:w.heap[g]?=some (.cells cur e' (0,0)))
    (a m c news) (n:Z news=m*i.size) (d:∀j u,news[j]?=some u->w.cell? (a.add j)=some u) (p:∀u∈news,u.oneCell'=true)
    (b:sLen+m<=sCap) (f:sLen*i.size+Z news<=cur.size):
    (Builtin.append_ #[t,t] ty #[.slice (some ⟨g,0,none⟩) sLen sCap,.slice (some a) m c]).run P w=
      .ok (.slice (some ⟨g,0,none⟩) (sLen+m) sCap) (w.setRow g (cur.toList.take (sLen*i.size)++news++cur.toList.drop (sLen*i.size+Z news)).toArray):=by
  have o:=run_firstCells_some (P:=P) w i.size m a m c news n d;have k:=run_storeCells_at P g (sLen*i.size) e' news 0 cur w l (by simpa using f) p;simp only[GZ]at k;simp[Builtin.append_,run_underlying q,sizeOf,typeInfo,r,Builtin.lenOf,b,o,Addr.add_lit,k]
theorem WH (I:Inv G A w)(hs:∀t,VR G A w (a.tmps.getD t undef) (s t)){args ts x A' o}(hop:o.op= .call {callee:=.builtin .append,args:=args,argTypes:=ts})
    (h:al P s A (.call {callee:=.builtin .append,args:=args,argTypes:=ts})=some (x,A')):LW G A w ((execOp a.eval o).run P w) x A':=by
  obtain⟨args⟩:=args;obtain⟨ts⟩:=ts;simp only[al]at h;split at h
  case h_2=>cases h
  rename_i y1 y2 t t';unfold iK at h;split at h
  case h_2=>cases h
  rename_i xs id n ys id' m z b zc hx hy ht;split at h
  case isFalse=>cases h
  rename_i hc;obtain⟨rfl,c2,c3,c4,c5,c6,c7,c8,c9⟩:=hc;obtain⟨e,i,zv,hu,hi,hz,h1,h2,h3⟩:=Kv ht;have hv1:=Bg hs y1;have hv2:=Bg hs y2;rw[hx]at hv1;rw[hy]at hv2;obtain⟨base1,cap1,e1,⟨hcap1,id1⟩,lie1,lin1⟩:=VR.of_sl hv1;obtain⟨base2,cap2,e2,-,lie2,-⟩:=VR.of_sl hv2;have hys:ys≠[]:=fun e=>by
    have:0<m*z:=KX c7 c2;rw[e]at c5;simp at c5;omega
  obtain⟨b2,o2,rfl,hl2⟩:=lie2 hys;obtain⟨news,hn1,hn2⟩:=hl2.list;have hnl:Z news=m*i.size:=by rw[hn1.1,c5,h1]
  have hflat:=Zz hn1 c6
  have hzs:zv.cells.size=z:=by have:Z zv.cells.toList=Z zc:=by rw[h3]
                               simp at this;omega
  have hadd:∀(w':World),(∀j u,news[j]?=some u->w'.cell? ⟨b2,o2+j,none⟩=some u)->∀j u,news[j]?=some u->w'.cell? ((⟨b2,o2,none⟩:Addr).add j)=some u:=fun w' h j u hu=>by rw[Addr.add_lit];exact h j u hu
  have hnews:=hadd w hn2;have hexec:∀r,(Builtin.append_ #[t',t'] o.type #[a.eval y1,a.eval y2]).run P w=r->(execOp a.eval o).run P w=r.andThen fun v w'=>.ok (.value v) w':=fun r hr=>by
    subst hr;simp only[execOp,hop,resolve,invoke,Go.builtin,Sem.run_bind,Sem.run_pure,Result.andThen_ok,List.map_toArray,CC,IK]
  --a new row of (n+m) elements,made in the world w.drew
  split at h
  · cases h
  · cases h
    obtain⟨hn0,hcap⟩:=id1 rfl;subst hn0;subst hcap;simp only[KY]at c4;have hxs:xs=[]:=GG c4;subst hxs;have hgc:m<=grownCap w m 0 e:=grownCap_ge w m 0 e;obtain⟨I1,E1⟩:=I.drawn (w.drawn+1);have hsz:(news.toArray++Builtin.zeroCells zv.cells (grownCap w m 0 e-m)).size=grownCap w m 0 e*z:=by
      simp only[Array.size_append,List.size_toArray,size_zeroCells,hzs,hnl,h1,<-FM];congr 1;omega
    obtain⟨G',I',E,k1,k2,k3,k4⟩:=I1.newRow (news.toArray++Builtin.zeroCells zv.cells (grownCap w m 0 e-m)) e m (grownCap w m 0 e) z hsz hgc;have hrun:(Builtin.append_ #[t',t'] o.type #[a.eval y1,a.eval y2]).run P w= .ok (.slice (some ⟨w.heap.size,0,none⟩) m (grownCap w m 0 e)) (w.drew.alloc (.cells (news.toArray++Builtin.zeroCells zv.cells (grownCap w m 0 e-m)) e)):=by
      rw[e1,e2];cases base1 with
      |none=>exact run_append_nil (P:=P) w t' o.type e i zv hu hi hz ⟨b2,o2,none⟩ m cap2 news hnl hnews c7 AA (by rw[h2];simp at c8;omega)
      |some ad=>
       have:=run_append_grow (P:=P) w t' o.type e i zv hu hi hz ad 0 0 [] (by simp) (fun j v hv=>by simp at hv) ⟨b2,o2,none⟩ m cap2 news hnl hnews AA AA (growslice_fits AA (by rw[h2];exact c8));simpa using this
    refine⟨_,_,G',.inl (by rw[hexec _ hrun];rfl),I',E1.trans E,VR.fold ⟨_,_,rfl,⟨by assumption,fun h=>AA⟩,fun _=>⟨w.heap.size,0,rfl,fun j y hj=>?_⟩,fun k hk=>?_⟩⟩
    · obtain⟨c,hc',hr⟩:=hn1.get hj
      have hjl:j<m*z:=by rw[<-c5];exact (BA.1 hj).1
      refine⟨by simpa using k4 j hjl,c,?_,hr.ext (E1.trans E)⟩;have:(w.drew.alloc (.cells (news.toArray++Builtin.zeroCells zv.cells (grownCap w m 0 e-m)) e)).cell? ⟨w.heap.size,0+j,none⟩=(news.toArray++Builtin.zeroCells zv.cells (grownCap w m 0 e-m))[0+j]?:=Ko (w:=w.drew);refine Eq.trans this ?_;rw[DY,Array.getElem?_append_left (by simp;rw[hnl,h1];omega)];simpa using hc'
    · have hk':k=A.D:=AA
      subst hk';exact⟨by simp[St.lay],by simp[St.lay],by rw[k3];exact c5,fun _=>⟨by rw[k1],by rw[k2]⟩⟩
  · rename_i k
    split at h
    case isFalse=>cases h
    rename_i hc2;obtain⟨ht0,hn0⟩:=hc2;cases h;obtain⟨hk,hle,hxl,htop⟩:=lin1 k rfl;obtain⟨hb1,hcap⟩:=htop ht0.symm;subst hb1;subst hcap;have hsz:G.siz k=z:=Nat.eq_of_mul_eq_mul_left hn0 AA;obtain⟨lb,⟨cur,ecur,hcur,hcs⟩,ltc,lper⟩:=I.lin k hk;have hxne:xs≠[]:=fun e=>by
      have:0<n*z:=KX hn0 c2;rw[e]at c4;simp at c4;omega
    obtain⟨bb,oo,hbo,hl1⟩:=lie1 hxne;cases hbo;obtain⟨olds,ho1,ho2⟩:=hl1.list;have hol:Z olds=n*i.size:=by rw[ho1.1,c4,h1]
    by_cases hroom:n+m<=G.cap k
    · have hfit:n*i.size+Z news<=cur.size:=by
        rw[hnl,hcs,h1,hsz,<-FM];exact GW _ hroom
      have hrun:(Builtin.append_ #[t',t'] o.type #[a.eval y1,a.eval y2]).run P w= .ok (.slice (some ⟨G.cur k,0,none⟩) (n+m) (G.cap k)) (w.setRow (G.cur k) (cur.toList.take (n*i.size)++news++cur.toList.drop (n*i.size+Z news)).toArray):=by
        rw[e1,e2];exact Mf w t' o.type e i hu hi (G.cur k) n (G.cap k) cur ecur hcur ⟨b2,o2,none⟩ m cap2 news hnl hnews hflat hroom hfit
      have hlen:(cur.toList.take (n*i.size)++news++cur.toList.drop (n*i.size+Z news)).toArray.size=G.cap k*G.siz k:=by
        simp only[List.size_toArray,AX,CN,List.length_drop,Array.length_toList];omega
      have hget:∀off,off<n*z->(cur.toList.take (n*i.size)++news++cur.toList.drop (n*i.size+Z news)).toArray[off]?=cur[off]?:=fun off ho=>by
        have hl':off<Z (cur.toList.take (n*i.size)):=by
          rw[h1]at hfit⊢;simp;omega
        rw[List.getElem?_toArray,CR,MB hl',GF,if_pos (by rw[h1];exact ho)];simp
      obtain⟨G',I',E,k1,k2,k3,k4⟩:=I.growRoom hk (n+m) hroom AA _ hlen (fun off ho=>by
        rw[ht0,hsz]at ho;rw[hget off ho]
        simp[World.cell?,hcur])
      refine⟨_,_,G',.inl (by rw[hexec _ hrun];rfl),I',E,VR.fold ⟨_,_,rfl,⟨by first|assumption|omega,fun h=>AA⟩,fun _=>⟨G.cur k,0,rfl,fun j y hj=>?_⟩,fun k' hk'=>?_⟩⟩
      · have hjl:j<(n+m)*z:=by
          have:=(BA.1 hj).1;simp only[AX,c4,c5]at this;rw[FM];exact this
        have hcell:(w.setRow (G.cur k) (cur.toList.take (n*i.size)++news++cur.toList.drop (n*i.size+Z news)).toArray).cell? ⟨G.cur k,0+j,none⟩=(cur.toList.take (n*i.size)++news++cur.toList.drop (n*i.size+Z news)).toArray[0+j]?:=
          cell_setRow_same w _ _ cur _ ecur _ hcur
        refine⟨by rw[hsz]at k1;simpa using k1 j hjl,?_⟩;rw[hcell,DY];by_cases hjn:j<n*z
        · rw[MB (by rw[c4];exact hjn)]at hj
          obtain⟨-,c,hc',hr⟩:=hl1 j y hj;refine⟨c,?_,hr.ext E⟩;rw[hget j hjn];have:w.cell? ⟨G.cur k,0+j,none⟩=cur[0+j]?:=by simp[World.cell?,hcur]
          rw[DY]at this hc';rw[<-this];exact hc'
        · rw[JY (by rw[c4];omega),c4]at hj
          obtain⟨c,hc',hr⟩:=hn1.get hj;refine⟨c,?_,hr.ext E⟩;have hlt:Z (cur.toList.take (n*i.size))=n*z:=by
            simp;rw[h1]at hfit⊢;omega
          rw[List.getElem?_toArray,CR,JY AA,hlt,MB (by rw[hnl,h1,FM]at*;omega)];exact hc'
      · have hkk:k'=k:=AA
        subst hkk;refine⟨hk,by simp[St.raise],?_,fun _=>⟨by rw[k2],by rw[k3]⟩⟩;rw[k4,hsz,AX,c4,c5,FM]
    · have holds:∀j u,olds[j]?=some u->w.cell? ((⟨G.cur k,0,none⟩:Addr).add j)=some u:=fun j u hu=>by rw[Addr.add_lit];exact ho2 j u hu
      have hrun:(Builtin.append_ #[t',t'] o.type #[a.eval y1,a.eval y2]).run P w= .ok (.slice (some ⟨w.heap.size,0,none⟩) (n+m) (grownCap w (n+m) (G.cap k) e)) (w.drew.alloc (.cells (olds.toArray++news.toArray++Builtin.zeroCells zv.cells (grownCap w (n+m) (G.cap k) e-(n+m))) e)):=by
        rw[e1,e2];exact run_append_grow (P:=P) w t' o.type e i zv hu hi hz ⟨G.cur k,0,none⟩ n (G.cap k) olds hol holds ⟨b2,o2,none⟩ m cap2 news hnl hnews AA AA (growslice_fits AA (by rw[h2];exact c8))
      have hgc:n+m<=grownCap w (n+m) (G.cap k) e:=grownCap_ge w (n+m) (G.cap k) e;obtain⟨I1,E1⟩:=I.drawn (w.drawn+1);have hsz2:(olds.toArray++news.toArray++Builtin.zeroCells zv.cells (grownCap w (n+m) (G.cap k) e-(n+m))).size=grownCap w (n+m) (G.cap k) e*G.siz k:=by
        simp only[Array.size_append,List.size_toArray,size_zeroCells,hzs,hnl,hol,h1,hsz,<-FM];congr 1;omega
      obtain⟨G',I',E,k1,k2,k3,k4⟩:=I1.growNew hk (n+m) _ hgc AA _ e hsz2;refine⟨_,_,G',.inl (by rw[hexec _ hrun];rfl),I',E1.trans E,VR.fold ⟨_,_,rfl,⟨by assumption,fun h=>AA⟩,fun _=>⟨w.heap.size,0,rfl,fun j y hj=>?_⟩,fun k' hk'=>?_⟩⟩
      · have hjl:j<(n+m)*z:=by
          have:=(BA.1 hj).1;simp only[AX,c4,c5]at this;rw[FM];exact this
        obtain⟨c,hc',hr⟩:=(ho1.append hn1).get hj;refine⟨by rw[hsz]at k1;simpa using k1 j hjl,c,?_,hr.ext (E1.trans E)⟩;have hcell:(w.drew.alloc (.cells (olds.toArray++news.toArray++Builtin.zeroCells zv.cells (grownCap w (n+m) (G.cap k) e-(n+m))) e)).cell? ⟨w.heap.size,0+j,none⟩=(olds.toArray++news.toArray++Builtin.zeroCells zv.cells (grownCap w (n+m) (G.cap k) e-(n+m)))[0+j]?:=Ko (w:=w.drew);refine Eq.trans hcell ?_;rw[DY,Array.getElem?_append_left (by simp;rw[hol,hnl,h1,<-FM];exact hjl)];simpa using hc'
      · have hkk:k'=k:=AA
        subst hkk;refine⟨hk,by simp[St.raise],?_,fun _=>⟨by rw[k2],by rw[k3]⟩⟩;rw[k4,hsz,AX,c4,c5,FM]
theorem TI (I:Inv G A w)(g:∀t,VR G A w (a.tmps.getD t undef) (s t)){o x i}(h:al P s A o.op=some (x,i)):LW G A w ((execOp a.eval o).run P w) x i:=by
  cases d:o.op<;>rw[d]at h<;>try (simp[al]at h;done)
  case alloc t=>exact ZF I d h
  case box t y=>exact k7 I g d h
  case store t y z=>exact ZE I g d h
  case buildSlice t len parts=>exact gI I g d h
  case makeSlice t l c=>exact nK I g d h
  case call c=>
    obtain⟨e,j,k⟩:=c;cases e with
    |value f=>simp[al]at h
    |invoke r m=>simp[al]at h
    |builtin b=>
     cases b<;>try (simp[al]at h;done)
     case append=>exact WH I g d h
end
end Go.Abs
