import Derived.Test.YtmoeoppbmhfbpabGreatDoorIAbs
set_option linter.all false
open List renaming length->Z
namespace Go.Abs
section
variable {P:Program} {F:Nat->Prop} {G:Gh} {A:St} {w:World} {s:Nat->AV} {a:Act}
theorem Bh (hs:∀t,VR G A w (a.tmps.getD t undef) (s t))(x):VR G A w (a.eval x) (BU s x):=by
  cases x with
  |tmp t=>exact hs t
  |const v=>exact VR.cst v
  |global g=>exact VR.sc _
  |func f=>exact VR.sc _
theorem Gt {v x i}(h:VR G A w v x)(hi:Zc x=some i):∃k,v= .int k i:=by
  unfold Zc at hi;split at hi
  · cases hi;exact⟨_,h.of_sc⟩
  · cases hi
theorem VR.of_ptr {v o off}(h:VR G A w v (ptr o off)):v= .pointer (some ⟨G.blk o,off,none⟩)/\o<A.B:=h.unfold
theorem VR.of_fx' {v o off len}(h:VR G A w v (fx o off len)):(∃cap,v= .slice (some ⟨G.blk o,off,none⟩) len cap/\len<=cap)/\o<A.B:=h.unfold
theorem VR.of_gx {v xs o n cap}(h:VR G A w v (.slice xs [.held (.inr (o,n,some cap))])):v= .slice (some ⟨G.blk o,0,none⟩) n cap/\n<=cap/\o<A.B:=h.unfold
theorem VR.of_fx {v o off len}(h:VR G A w v (fx o off len)):(∃cap,v= .slice (some ⟨G.blk o,off,none⟩) len cap)/\o<A.B:=by
  obtain⟨⟨cap,e,-⟩,h2⟩:=VR.of_fx' h;exact⟨⟨cap,e⟩,h2⟩
theorem VR.of_el {v xs}(h:VR G A w v (el xs)):∃b o,v= .pointer (some ⟨b,o,none⟩)/\FL w G.per (VR G A w) b o xs:=h.unfold
theorem VR.of_ag {v xs}(h:VR G A w v (ag xs)):∃cs,v= .agg cs/\AQ (VR G A w) cs.toList xs:=h.unfold
theorem VR.of_tp {v xs}(h:VR G A w v (tp xs)):∃cs,v= .tuple cs/\AQ (VR G A w) cs.toList xs:=h.unfold
theorem VR.of_sl {v id n xs}(h:VR G A w v (sl id n xs)):∃base cap,v= .slice base n cap/\(n<=cap/\(id=1->n=0/\cap=0))/\
      (xs≠[]->∃b o,base=some ⟨b,o,none⟩/\FL w G.per (VR G A w) b o xs)/\
      (∀k,id=k+2->k<A.D/\n<=A.top k/\Z xs=n*G.siz k/\(n=A.top k->base=some ⟨G.cur k,0,none⟩/\cap=G.cap k)):=h.unfold
theorem ZN (I:Inv G A w)(hs:∀t,VR G A w (a.tmps.getD t undef) (s t)){t y x}(h:aq P s A (.load t y)=some x)(hF:∀o,LV s (.load t y)=some o->F o):
    ∃v,VR G A w v x/\∀w',Same F G A w w'->(Instr.loadAt t (a.eval y)).run P w'= .ok v w':=by
  simp only[aq]at h;split at h
  · rename_i ga n ys ht hb
    obtain⟨b,o,cs,hv,hc,hl⟩:=eJ I (Bh hs y) hb hF;obtain⟨v,h1,h2⟩:=oU (P:=P) hc h ht b o (C:=Same F G A w) hl;refine⟨v,h1,fun w' S=>?_⟩;simp[Instr.loadAt,hv,Instr.sureAddr,h2 w' S]
  · cases h
theorem lR (hs:∀t,VR G A w (a.tmps.getD t undef) (s t)){t y f x}(h:aq P s A (.fieldAddr t y f)=some x):
    ∃v,VR G A w v x/\∀w',(Instr.fieldAt t (a.eval y) f).run P w'= .ok v w':=by
  have hy:=Bh hs y;simp only[aq]at h;split at h
  · rename_i d g n o off ht hx
    cases h;obtain⟨fs,fl,h1,h2,h3,h4,h5⟩:=Sg ht;rw[hx]at hy;obtain⟨hv,ho⟩:=VR.of_ptr hy;refine⟨.pointer (some ⟨G.blk o,off+d,none⟩),VR.fold ⟨rfl,ho⟩,fun w'=>?_⟩;simp[Instr.fieldAt,run_underlying h1,h2,hv,Instr.sureAddr,fieldPlace,(Cq h4 w').2,h5,h3,Addr.add_lit]
  · rename_i d g n ys ht hx
    cases h;obtain⟨fs,fl,h1,h2,h3,h4,h5⟩:=Sg ht;rw[hx]at hy;obtain⟨b,o,hv,hl⟩:=VR.of_el hy;refine⟨.pointer (some ⟨b,o+d,none⟩),VR.fold ⟨b,o+d,rfl,hl.drop d⟩,fun w'=>?_⟩;simp[Instr.fieldAt,run_underlying h1,h2,hv,Instr.sureAddr,fieldPlace,(Cq h4 w').2,h5,h3,Addr.add_lit]
  · cases h
theorem lQ (hs:∀t,VR G A w (a.tmps.getD t undef) (s t)){t y z x}(h:aq P s A (.indexAddr t y z)=some x):
    ∃v,VR G A w v x/\∀w',(Instr.indexAt t (a.eval y) (a.eval z)).run P w'= .ok v w':=by
  have hy:=Bh hs y;have hz:=Bh hs z;simp only[aq]at h;split at h
  case h_2=>cases h
  rename_i i hi;obtain⟨k,hk⟩:=Gt hz hi;split at h
  · rename_i xs id n m by_ hx hte
    split at h
    case isFalse=>cases h
    rename_i hc;cases h;obtain⟨e,ie,h1,h2,h3,-⟩:=Fl hte;rw[hx]at hy;obtain⟨base,cap,hv,-,hl,-⟩:=VR.of_sl hy;have hne:xs≠[]:=fun e=>by
      have:=hc.2.2;rw[e]at this;simp at this
    obtain⟨b,o,hb,hl'⟩:=hl hne;subst hb;refine⟨.pointer (some ⟨b,o+i.toNat*(m+1),none⟩),VR.fold ⟨b,_,rfl,hl'.drop _⟩,fun w'=>?_⟩;have hr:0<=i/\i<(n:Int):=⟨hc.1,hc.2.1⟩;simp[Instr.indexAt,asIntOf,hk,run_underlying h1,hv,hr,sizeOf,typeInfo,h2,h3,Addr.add_lit]
  · rename_i o off len m by_ hx hte
    split at h
    case isFalse=>cases h
    rename_i hc;cases h;obtain⟨e,ie,h1,h2,h3,-⟩:=Fl hte;rw[hx]at hy;obtain⟨⟨cap,hv⟩,ho⟩:=VR.of_fx hy;refine⟨.pointer (some ⟨G.blk o,off+i.toNat*m,none⟩),VR.fold ⟨rfl,ho⟩,fun w'=>?_⟩;simp[Instr.indexAt,asIntOf,hk,run_underlying h1,hv,hc,sizeOf,typeInfo,h2,h3,Addr.add_lit]
  · rename_i xs o len cap m by_ hx hte
    split at h
    case isFalse=>cases h
    rename_i hc;cases h;obtain⟨e,ie,h1,h2,h3,-⟩:=Fl hte;rw[hx]at hy;obtain⟨hv,-,ho⟩:=VR.of_gx hy;refine⟨.pointer (some ⟨G.blk o,i.toNat*m,none⟩),VR.fold ⟨rfl,ho⟩,fun w'=>?_⟩;simp[Instr.indexAt,asIntOf,hk,run_underlying h1,hv,hc,sizeOf,typeInfo,h2,h3,Addr.add_lit]
  · rename_i o off len m hx hte
    split at h
    case isFalse=>cases h
    rename_i hc;cases h;obtain⟨e,ie,h1,h2,h3⟩:=cJ hte;rw[hx]at hy;obtain⟨hv,ho⟩:=VR.of_ptr hy;refine⟨.pointer (some ⟨G.blk o,off+i.toNat*m,none⟩),VR.fold ⟨rfl,ho⟩,fun w'=>?_⟩;simp[Instr.indexAt,asIntOf,hk,run_underlying h1,hv,Instr.sureAddr,hc,sizeOf,typeInfo,h2,h3,Addr.add_lit]
  · rename_i ys len m hx hte
    split at h
    case isFalse=>cases h
    rename_i hc;cases h;obtain⟨e,ie,h1,h2,h3⟩:=cJ hte;rw[hx]at hy;obtain⟨b,o,hv,hl⟩:=VR.of_el hy;refine⟨.pointer (some ⟨b,o+i.toNat*m,none⟩),VR.fold ⟨b,_,rfl,hl.drop _⟩,fun w'=>?_⟩;simp[Instr.indexAt,asIntOf,hk,run_underlying h1,hv,Instr.sureAddr,hc,sizeOf,typeInfo,h2,h3,Addr.add_lit]
  · cases h
theorem WU (hs:∀t,VR G A w (a.tmps.getD t undef) (s t)){t y f x}(h:aq P s A (.field t y f)=some x):
    ∃v,VR G A w v x/\∀w',(Instr.field t (a.eval y) f).run P w'= .ok v w':=by
  have hy:=Bh hs y;simp only[aq]at h;split at h
  case h_2=>cases h
  rename_i d ga n cs0 ht hx;obtain⟨fs,fl,h1,h2,h3,h4,h5⟩:=Sg ht;rw[hx]at hy;obtain⟨cs,hv,hc⟩:=VR.of_ag hy;unfold EV EI at h;split at h
  · rename_i hg
    subst hg;split at h
    case isFalse=>cases h
    rename_i hn;cases h;refine⟨.agg (cs.extract d (d+n)),VR.fold ⟨_,rfl,?_⟩,fun w'=>?_⟩
    · have:=(hc.drop d).take n
      simpa[Array.toList_extract,List.extract_eq_take_drop]using this
    · simp[Instr.field,run_underlying h1,h2,hv,asAgg,part,(Cq h4 w').1,(Cq h4 w').2,h3]
  · rename_i hg
    have hg':ga=false:=by simpa using hg
    subst hg';obtain⟨v,hv',hr⟩:=(hc.drop d).get (i:=0) (x:=x) (by rw[<-List.head?_eq_getElem?];exact h);refine⟨v,hr,fun w'=>?_⟩;rw[JD]at hv';simp only[IE,Array.getElem?_toList]at hv';simp[Instr.field,run_underlying h1,h2,hv,asAgg,part,(Cq h4 w').1,h3,hv']
theorem run_equal_bool {t}(hu:P.underlying t=some .bool)(u v w'):(Op.equal t (.bool u) (.bool v)).run P w'= .ok (u==v) w':=by
  unfold Op.equal;rw[show Op.maxDepth=9999+1 from rfl];unfold Op.equalIn;simp[run_underlying hu]
theorem M4 {t}(h:jH P t=true)(a b c a' b' c' w'):(Op.equal t (.agg #[.int .i64 a,.int .i64 b,.int .i64 c]) (.agg #[.int .i64 a',.int .i64 b',.int .i64 c'])).run P w'= .ok (a==a'&&b==b'&&c==c') w':=by
  unfold jH at h;split at h
  case h_2=>cases h
  rename_i e hu;simp only[BX,DF]at h;obtain⟨⟨-,c7⟩,he⟩:=h;split at he
  case h_2=>cases he
  rename_i hf;unfold Op.equal;rw[show Op.maxDepth=9999+1 from rfl];unfold Op.equalIn;have e2:∀u v:Int,(Op.equalIn 9999 e (.int .i64 u) (.int .i64 v)).run P w'= .ok (u==v) w':=fun u v=>by rw[show 9999=9998+1 from rfl];unfold Op.equalIn;simp[run_underlying hf]
  have p0:∀(u v x:Int),(part e #[.int .i64 u,.int .i64 v,.int .i64 x] 0).run P w'= .ok (.int .i64 u) w':=fun u v x=>by simp[part,(Cq c7 w').1]
  have p1:∀(u v x:Int),(part e #[.int .i64 u,.int .i64 v,.int .i64 x] 1).run P w'= .ok (.int .i64 v) w':=fun u v x=>by simp[part,(Cq c7 w').1]
  have p2:∀(u v x:Int),(part e #[.int .i64 u,.int .i64 v,.int .i64 x] 2).run P w'= .ok (.int .i64 x) w':=fun u v x=>by simp[part,(Cq c7 w').1]
  simp[run_underlying hu,(Cq c7 w').2,p0,p1,p2,e2,List.range'_succ];by_cases h1:a=a'<;>by_cases h2:b=b'<;>by_cases h3:c=c'<;>simp[h1,h2,h3]
theorem M5 {t k}(h:jZ P t=some k)(a b m n w'):(Op.equal t (.agg #[.bool a,.int k m]) (.agg #[.bool b,.int k n])).run P w'= .ok (a==b&&m==n) w':=by
  unfold jZ at h;split at h
  case h_2=>cases h
  rename_i fs hu;split at h
  case h_2=>cases h
  rename_i f g hfs;split at h
  case isFalse=>cases h
  rename_i hc;obtain⟨c1,c2,c3,c4,c5,c6,c7,c8⟩:=hc;split at h
  case h_2=>cases h
  rename_i k' hf hg;cases h;have hfs':fs=#[f,g]:=by cases fs;simp at hfs;rw[hfs]
  subst hfs';unfold Op.equal;rw[show Op.maxDepth=9999+1 from rfl];unfold Op.equalIn;have e1:∀u v:Bool,(Op.equalIn 9999 f.type (.bool u) (.bool v)).run P w'= .ok (u==v) w':=fun u v=>by rw[show 9999=9998+1 from rfl];unfold Op.equalIn;simp[run_underlying hf]
  have e2:∀u v:Int,(Op.equalIn 9999 g.type (.int k u) (.int k v)).run P w'= .ok (u==v) w':=fun u v=>by rw[show 9999=9998+1 from rfl];unfold Op.equalIn;simp[run_underlying hg]
  have p1:∀(u:Bool) (v:Int),(part f.type #[.bool u,.int k v] 0).run P w'= .ok (.bool u) w':=fun u v=>by simp[part,(Cq c7 w').1]
  have p2:∀(u:Bool) (v:Int),(part g.type #[.bool u,.int k v] 1).run P w'= .ok (.int k v) w':=fun u v=>by simp[part,(Cq c8 w').1]
  simp[run_underlying hu,c1,c2,c3,c4,c5,p1,p2,e1,e2];by_cases hab:a=b<;>by_cases hmn:m=n<;>simp[hab,hmn]
theorem ou {op t u v r x y}(h:NK P op t u v=some r)(w'):
    (do eqGuard op t x y u v;Go.binOp op t u v:Sem Value).run P w'= .ok r w':=by
  unfold NK at h;split at h
  · rename_i k a k' b
    split at h
    case isFalse=>cases h
    rename_i hk;subst hk
    split at h<;>first
      |(cases h;simp[eqGuard,Go.binOp,Op.intArith,Op.intCmp];done)
      |(split at h
        · cases h
        · rename_i hb
          cases h;simp[eqGuard,Go.binOp,Op.intDiv,hb])
      |cases h
  · rename_i a b
    split at h
    · split at h
      case isFalse=>cases h
      rename_i hb;cases h;have hm:(a.size:Int)+(b.size:Int)<=9223372036854775807:=AA;simp[eqGuard,Go.binOp,Op.stringOp,hm]
    · cases h;simp[eqGuard,Go.binOp,Op.stringOp]
    · cases h;simp[eqGuard,Go.binOp,Op.stringOp]
    · cases h;simp[eqGuard,Go.binOp,Op.stringOp]
    · cases h
  · split at h
    · rename_i hu
      cases h;simp[eqGuard,Go.binOp,run_equal_bool hu]
    · rename_i hu
      cases h;simp[eqGuard,Go.binOp,run_equal_bool hu]
    · cases h
  · cases h
theorem run_sliceBound {u x y h d c}(hx:VR G A w u x)(hb:bnd y (some x) d=some h)(w'):(Instr.sliceBound u y c).run P w'= .ok h w':=by
  unfold bnd at hb;simp only at hb;split at hb
  · rename_i i hi
    split at hb
    · rename_i hc
      cases hb;obtain⟨k,hk⟩:=Gt hx hi;simp[Instr.sliceBound,hk,asIntOf,hc]
    · cases hb
  · cases hb
theorem ly (hs:∀t,VR G A w (a.tmps.getD t undef) (s t)){t y lo hi mx x}(h:aq P s A (.slice t y lo hi mx)=some x):
    ∃v,VR G A w v x/\∀w',(Instr.sliceAt t (a.eval y) (lo.map a.eval) (hi.map a.eval) (mx.map a.eval)).run P w'= .ok v w':=by
  have hy:=Bh hs y;simp only[aq]at h;split at h
  case h_3=>cases h
  case h_2=>
    rename_i xs id n e hx hu;rw[hx]at hy;obtain⟨base,cap,hv,⟨hcap,-⟩,hl,-⟩:=VR.of_sl hy;split at h
    case h_3=>cases h
    case h_2=>
      rename_i hi;split at h
      case h_2=>cases h
      rename_i r z zb hhi hte;split at h
      case isFalse=>cases h
      rename_i hc;obtain⟨c1,c2,c3⟩:=hc;cases h;obtain⟨e',i,hu',hi2,hz,-⟩:=Fl hte;rw[hu]at hu';cases hu';obtain⟨kk,hk⟩:=Gt (Bh hs hi) hhi;have hbd:∀w',(Instr.sliceBounds true n cap none (some (a.eval hi)) none).run P w'= .ok (0,r.toNat,cap) w':=fun w'=>by
        have:(Instr.sliceBound (a.eval hi) cap .sliceAcap).run P w'= .ok r.toNat w':=by
          have hc2:¬(r<0\/(cap:Int)<r):=AA;simp[Instr.sliceBound,hk,asIntOf,hc2];omega
        simp[Instr.sliceBounds,this]
      refine⟨.slice (if cap=0 then base else base.map (·.add (0*z))) (r.toNat-0) (cap-0),VR.fold ⟨_,_,rfl,⟨AA,fun h=>AA⟩,fun hne=>?_,fun k hk=>AA⟩,fun w'=>?_⟩
      · have hxn:xs≠[]:=by intro e;rw[e]at hne;simp at hne
        obtain⟨b,o,rfl,hL⟩:=hl hxn
        have hL2:FL w G.per (VR G A w) b o (xs.take (r.toNat*z)):=fun i x hx=>hL i x (by
          rw[II]at hx;split at hx
          · exact hx
          · cases hx)
        split
        · exact⟨b,o,rfl,hL2⟩
        · exact⟨b,o,by simp[Addr.add_lit],hL2⟩
      · simp[Instr.sliceAt,run_underlying hu,Instr.slice,hv,hbd,sizeOf,typeInfo,hi2,hz]
    rename_i lo;split at h
    case h_2=>cases h
    rename_i l z zb hlo hte;split at h
    case isFalse=>cases h
    rename_i hc;obtain⟨c1,c2,c3⟩:=hc;cases h;obtain⟨e',i,hu',hi,hz,-⟩:=Fl hte;rw[hu]at hu';cases hu';obtain⟨kk,hk⟩:=Gt (Bh hs lo) hlo;have hbd:∀w',(Instr.sliceBounds true n cap (some (a.eval lo)) none none).run P w'= .ok (l.toNat,n,cap) w':=fun w'=>by
      have:(Instr.sliceBound (a.eval lo) n .sliceB).run P w'= .ok l.toNat w':=by
        have hc2:¬(l<0\/(n:Int)<l):=AA;simp[Instr.sliceBound,hk,asIntOf,hc2];omega
      simp[Instr.sliceBounds,this]
    refine⟨.slice (if cap=l.toNat then base else base.map (·.add (l.toNat*z))) (n-l.toNat) (cap-l.toNat),VR.fold ⟨_,_,rfl,⟨AA,fun h=>AA⟩,fun hne=>?_,fun k hk=>AA⟩,fun w'=>?_⟩
    · have hlt:l.toNat*z<Z xs:=by
        rcases FQ (l.toNat*z) (Z xs) with h|h
        · exact h
        · exact absurd (NW h) hne
      have hln:l.toNat<n:=by
        rcases FQ l.toNat n with h|h
        · exact h
        · have:n*z<=l.toNat*z:=FU z h
          omega
      have hxn:xs≠[]:=by intro e;rw[e]at hlt;simp at hlt
      obtain⟨b,o,rfl,hL⟩:=hl hxn;rw[if_neg AA];exact⟨b,o+l.toNat*z,by simp[Addr.add_lit],hL.drop _⟩
    · simp[Instr.sliceAt,run_underlying hu,Instr.slice,hv,hbd,sizeOf,typeInfo,hi,hz]
  rename_i b hx hu;rw[hx]at hy;have hv:=hy.of_sc;split at h
  case h_2=>cases h
  rename_i e he;split at h
  case h_2=>cases h
  rename_i l hl;cases h;refine⟨_,VR.sc _,fun w'=>?_⟩;have hbd:(Instr.sliceBounds false b.size b.size (lo.map a.eval) (hi.map a.eval) none).run P w'= .ok (l,e,b.size) w':=by
    cases hi with
    |none=>
     simp[bnd]at he;subst he;cases lo with
     |none=>simp[bnd]at hl;subst hl;simp[Instr.sliceBounds]
     |some lo=>
      have:=run_sliceBound (P:=P) (c:=.sliceB) (Bh hs lo) hl w';simp[Instr.sliceBounds,this]
    |some hi=>
     have h1:=run_sliceBound (P:=P) (c:=.sliceAlen) (Bh hs hi) he w';cases lo with
     |none=>simp[bnd]at hl;subst hl;simp[Instr.sliceBounds,h1]
     |some lo=>
      have:=run_sliceBound (P:=P) (c:=.sliceB) (Bh hs lo) hl w';simp[Instr.sliceBounds,h1,this]
  simp[Instr.sliceAt,run_underlying hu,Instr.slice,hv,hbd]
theorem jm {cs xs bs}(hc:AQ (VR G A w) cs xs)(h:Ql xs=some bs):
    ∃ns:List Int,cs=ns.map (Value.int .u8)/\bs=ns.map fun n=>UInt8.ofNat n.toNat:=by
  induction xs generalizing cs bs with
  |nil=>
   have:cs=[]:=GQ (by rw[hc.1];rfl);simp[Ql]at h;exact⟨[],by simp[this],by simp[h]⟩
  |cons x xs ih=>
   cases cs with
   |nil=>have:=hc.1;simp at this
   |cons c cs=>
    unfold Ql at h;split at h
    · rename_i e;cases e
    · rename_i n r e
      cases e;have h0:=(hc.2 0 c (sc (.int .u8 n)) rfl rfl).of_sc;cases hr:Ql xs with
      |none=>simp[hr]at h
      |some r=>
       simp[hr]at h;obtain⟨ns,h1,h2⟩:=ih (cs:=cs) (bs:=r) ⟨by have:=hc.1;simpa using this,fun i a b ha hb=>hc.2 (i+1) a b (by simpa using ha) (by simpa using hb)⟩ hr;exact⟨n::ns,by simp[h0,h1],by simp[<-h,h2]⟩
    · cases h
theorem xQ {cs}{ns:List Int}(hcs:cs=ns.map (Value.int .u8))(b o cap w')(hl:∀j u,cs[j]?=some u->w'.cell? ⟨b,o+j,none⟩=some u):
    (Conv.bytesToString (.slice (some ⟨b,o,none⟩) (Z cs) cap)).run P w'= .ok (.string ⟨(ns.map fun n=>UInt8.ofNat n.toNat).toArray⟩) w':=by
  have h1:=run_loadCells_list (P:=P) w' ⟨b,o,none⟩ cs (fun j u hu=>by rw[Addr.add_lit];exact hl j u hu);rw[hcs]at h1;have h2:=run_bytesToString w' ⟨b,o,none⟩ _ cap ns h1;rw[<-hcs]at h2;rw[h2];have key:∀(ms:List Int) (acc:ByteArray),ms.foldl (fun r n=>r.push (UInt8.ofNat n.toNat)) acc=⟨acc.data++(ms.map fun n=>UInt8.ofNat n.toNat).toArray⟩:=by
    intro ms;induction ms with
    |nil=>intro acc;simp
    |cons m ms ih=>
     intro acc;simp only[IB,ih];congr 1;apply Array.ext';simp[ByteArray.push]
  rw[key];simp
theorem xZ (I:Inv G A w)(hs:∀t,VR G A w (a.tmps.getD t undef) (s t)){src dst y x}(h:aq P s A (.convert src dst y)=some x):
    ∃v,VR G A w v x/\∀w',Same F G A w w'->(Go.convert src dst (a.eval y)).run P w'= .ok v w':=by
  have hy:=Bh hs y;simp only[aq]at h;split at h
  · rename_i u hx
    rw[hx]at hy;have hv:=hy.of_sc;cases hc:oV P src dst u with
    |none=>simp[hc]at h
    |some r=>
     simp[hc]at h;subst h;refine⟨r,VR.sc r,fun w' _=>?_⟩;unfold oV at hc;split at hc
     · split at hc
       · rename_i h1 h2
         cases hc;simp[Go.convert,run_underlying h1,run_underlying h2,hv,Conv.intToInt]
       · cases hc
     · cases hc
  · rename_i xs id n hx
    rw[hx]at hy;split at h
    case h_2=>cases h
    rename_i e h1 h2;split at h
    case h_2=>cases h
    rename_i bs h3 h4;split at h
    case isFalse=>cases h
    rename_i hn;cases h;refine⟨_,VR.sc _,fun w' S=>?_⟩;obtain⟨base,cap,hv,-,hl,-⟩:=VR.of_sl hy;subst hn;rw[AS]at h4;rw[hv,run_convert_bytes_string w' src dst e base _ cap h1 h3 h2];by_cases hne:xs=[]
    · subst hne
      simp[Ql]at h4;subst h4;cases base with
      |none=>simp[Conv.bytesToString];rfl
      |some ad=>simp[Conv.bytesToString,loadCells,loadCellsFrom];rfl
    · obtain⟨b,o,hb,hl'⟩:=hl hne
      subst hb;obtain⟨cs,hc1,hc2⟩:=hl'.list;obtain⟨ns,e1,e2⟩:=jm hc1 h4;rw[e2,<-hc1.1]
      exact xQ e1 b o cap w' (fun j u hu=>by
        have hj:j<Z cs:=(BG.1 hu).1;have hx':xs[j]?=some (xs[j]'(by rw[<-hc1.1];exact hj)):=AJ _;rw[S.1 _ _ (hl' j _ hx').1]
        exact hc2 j u hu)
  · cases h
theorem AQ.set {R l m}(h:AQ R l m){v x}(hv:R v x)(i):AQ R (l.set i v) (m.set i x):=by
  refine⟨by simp[h.1],fun j a b ha hb=>?_⟩;rw[GK]at ha hb;have:=h.1;by_cases hij:i=j
  · subst hij
    simp at ha hb;rw[<-ha.2,<-hb.2];exact hv
  · rw[if_neg hij]at ha hb
    exact h.2 j a b ha hb
theorem AQ.lsp {R}:∀(vs:List Value) (ys:List AV) (off k:Nat) (cells:Array Value) (xs:List AV),AQ R vs ys->AQ R cells.toList xs->
    AQ R ((vs.zipIdx k).foldl (fun cs c=>cs.setIfInBounds (off+c.2) c.1) cells).toList (Abs.lsp xs (off+k) ys)
  |[],ys,off,k,cells,xs,h,hc=>by
   have:ys=[]:=GQ (by rw[<-h.1];rfl);subst this;exact hc
  |v::vs,[],off,k,cells,xs,h,hc=>by have:=h.1;simp at this
  |v::vs,y::ys,off,k,cells,xs,h,hc=>by
   simp only[List.zipIdx_cons,IB,Abs.lsp];have h0:R v y:=h.2 0 v y rfl rfl;have ht:AQ R vs ys:=⟨by have:=h.1;simpa using this,fun i a b ha hb=>h.2 (i+1) a b (by simpa using ha) (by simpa using hb)⟩;have:=AQ.lsp vs ys off (k+1) (cells.setIfInBounds (off+k) v) (xs.set (off+k) y) ht (by rw[Array.toList_setIfInBounds];exact hc.set h0 _);rwa[IW]
theorem R9 {place place'}(hpl:∀i p,place i=some p->place' i=some p):∀(parts:List (Nat×Value)) (aparts:List (Nat×AV)) (cells:Array Value) (xs ys:List AV),AQ (VR G A w) cells.toList xs->
    Z parts=Z aparts->(∀(i:Nat) (p:Nat×Value) (q:Nat×AV),parts[i]?=some p->aparts[i]?=some q->p.1=q.1/\VR G A w p.2 q.2)->CN place xs aparts=some ys->
    ∃cs,Instr.fill place' cells parts=some cs/\AQ (VR G A w) cs.toList ys
  |[],aparts,cells,xs,ys,hc,hl,hp,h=>by
   have:aparts=[]:=GQ (by rw[<-hl];rfl);subst this;simp[CN]at h;subst h;exact⟨cells,rfl,hc⟩
  |p::parts,[],cells,xs,ys,hc,hl,hp,h=>by simp at hl
  |(i,v)::parts,(j,x)::aparts,cells,xs,ys,hc,hl,hp,h=>by
   obtain⟨he,hv⟩:=hp 0 _ _ rfl rfl;simp only at he hv;subst he;simp only[CN]at h;split at h
   · cases h
   · rename_i off size ho
     split at h
     · cases h
     · rename_i hn
       have hcl:=hv.cells;have hsz:v.cells.size=size:=by have:=hcl.1;simp at this;omega
       have hcs:cells.size=Z xs:=by have:=hc.1;simpa using this
       have:=AQ.lsp v.cells.toList (acells x) off 0 cells xs hcl hc;obtain⟨cs,h1,h2⟩:=R9 hpl parts aparts _ _ ys this (by simpa using hl) (fun i p q a b=>hp (i+1) p q (by simpa using a) (by simpa using b)) h;refine⟨cs,?_,h2⟩;have hcond:¬(v.cells.size≠size||decide (off+v.cells.size>cells.size))=true:=by simp;omega
       have hfold:v.cells.zipIdx.foldl (fun cs c=>cs.setIfInBounds (off+c.2) c.1) cells=(v.cells.toList.zipIdx 0).foldl (fun cs c=>cs.setIfInBounds (off+c.2) c.1) cells:=by
         rw[<-Array.foldl_toList,Array.toList_zipIdx]
       simp only[Instr.fill,hpl _ _ ho];rw[if_neg hcond];rw[<-h1,<-hfold]
theorem YT (hs:∀t,VR G A w (a.tmps.getD t undef) (s t)){t parts x}(h:aq P s A (.build t parts)=some x):
    ∃v,VR G A w v x/\∀w',(Instr.build t (parts.map fun (i,x)=>(i,a.eval x))).run P w'= .ok v w':=by
  simp only[aq]at h;split at h
  case h_2=>cases h
  rename_i z places ht;cases hf:CN (places[·]?) (z.map Abs.cst1) (parts.toList.map fun p=>(p.1,BU s p.2))with
  |none=>simp[hf]at h
  |some ys=>
   simp[hf]at h;subst h;have hz:AQ (VR G A w) z.toArray.toList (z.map Abs.cst1):=by
     have:=AQ.of_map (R:=VR G A w) (fun v:Value=>v) Abs.cst1 (fun v=>VR.cst1 v) z;simpa using this
   have hpp:∀(i:Nat) (p:Nat×Value) (q:Nat×AV),(parts.toList.map fun p=>(p.1,a.eval p.2))[i]?=some p->(parts.toList.map fun p=>(p.1,BU s p.2))[i]?=some q->p.1=q.1/\VR G A w p.2 q.2:=fun i p q hp hq=>by
       simp only[EY]at hp hq;cases hi:parts.toList[i]? with
       |none=>simp[hi]at hp
       |some r=>
        simp[hi]at hp hq;subst hp;subst hq;exact⟨rfl,Bh hs r.2⟩
   unfold Mg at ht;split at ht
   · rename_i it fields hi hu
     split at ht
     case h_2=>cases ht
     rename_i zv pl hzv hpl;simp at ht;obtain⟨rfl,rfl⟩:=ht;obtain⟨cs,h1,h2⟩:=R9 (place':=fun i=>pl.toArray[i]?) (fun i p h=>by simpa using h) (parts.toList.map fun p=>(p.1,a.eval p.2)) (parts.toList.map fun p=>(p.1,BU s p.2)) zv.cells _ ys (by simpa using hz) (by simp) hpp hf;refine⟨.agg cs,VR.fold ⟨cs,rfl,h2⟩,fun w'=>run_build w' t _ cs ?_⟩;unfold Program.built;simp only[hi,hu,hzv,hpl];simpa using h1
   · rename_i it n e hi hu
     split at ht
     case h_2=>cases ht
     rename_i zv ie hzv hie;simp at ht;obtain⟨rfl,rfl⟩:=ht
     obtain⟨cs,h1,h2⟩:=R9 (place':=fun i=>some (i*ie.size,ie.size)) (fun i p h=>by
       rw[EY]at h;by_cases hin:i<n
       · rw[List.getElem?_range hin]at h;simpa using h
       · rw[FK (by simpa using hin)]at h;simp at h) (parts.toList.map fun p=>(p.1,a.eval p.2)) (parts.toList.map fun p=>(p.1,BU s p.2)) zv.cells _ ys (by simpa using hz) (by simp) hpp hf
     refine⟨.agg cs,VR.fold ⟨cs,rfl,h2⟩,fun w'=>run_build w' t _ cs ?_⟩;unfold Program.built;simp only[hi,hu,hzv,hie];simpa using h1
   · cases ht
theorem RH (I:Inv G A w)(hs:∀t,VR G A w (a.tmps.getD t undef) (s t)){o x}(h:aq P s A o.op=some x)(hF:∀p,LV s o.op=some p->F p):
    ∃v,VR G A w v x/\∀w',Same F G A w w'->(execOp a.eval o).run P w'= .ok (.value v) w':=by
  cases hop:o.op<;>rw[hop]at h hF<;>try (simp[aq]at h;done)
  case move y=>simp[aq]at h;subst h;exact⟨_,Bh hs y,fun w' _=>by simp[execOp,hop]⟩
  case assign y=>simp[aq]at h;subst h;exact⟨_,Bh hs y,fun w' _=>by simp[execOp,hop]⟩
  case pick c y z=>
    simp only[aq]at h;split at h
    case h_2=>cases h
    rename_i t hc;have hv:=Bh hs c;rw[hc]at hv;have hv:=hv.of_sc;cases h;cases t with
    |true=>exact⟨_,Bh hs y,fun w' _=>by simp[execOp,hop,hv,asBool]⟩
    |false=>exact⟨_,Bh hs z,fun w' _=>by simp[execOp,hop,hv,asBool]⟩
  case load t y=>
    obtain⟨v,h1,h2⟩:=ZN I hs h hF;exact⟨v,h1,fun w' S=>by simp[execOp,hop,h2 w' S]⟩
  case nilCheck y=>
    simp only[aq]at h;split at h
    · rename_i p off hx
      cases h;have hv:=Bh hs y;rw[hx]at hv;exact⟨_,hv,fun w' _=>by simp[execOp,hop,(VR.of_ptr hv).1]⟩
    · rename_i ys hx
      cases h;have hv:=Bh hs y;rw[hx]at hv;obtain⟨b,q,he,hl⟩:=VR.of_el hv;exact⟨_,hv,fun w' _=>by simp[execOp,hop,he]⟩
    · cases h
  case fieldAddr t y f=>
    obtain⟨v,h1,h2⟩:=lR hs h;exact⟨v,h1,fun w' S=>by simp[execOp,hop,h2 w']⟩
  case field t y f=>
    obtain⟨v,h1,h2⟩:=WU hs h;exact⟨v,h1,fun w' S=>by simp[execOp,hop,h2 w']⟩
  case indexAddr t y z=>
    obtain⟨v,h1,h2⟩:=lQ hs h;exact⟨v,h1,fun w' S=>by simp[execOp,hop,h2 w']⟩
  case index t y z=>
    simp only[aq]at h;split at h
    case h_3=>cases h
    case h_2=>
      rename_i i cs0 n e hi hx hu;split at h
      case h_2=>cases h
      rename_i ga m ht;split at h
      case isFalse=>cases h
      rename_i hb;have hv:=Bh hs y;rw[hx]at hv;obtain⟨cs,hv,hc⟩:=VR.of_ag hv;obtain⟨k,hk⟩:=Gt (Bh hs z) hi;unfold EV EI at h;split at h
      · rename_i hg
        subst hg;split at h
        case isFalse=>cases h
        rename_i hn;cases h;refine⟨.agg (cs.extract (i.toNat*m) (i.toNat*m+m)),VR.fold ⟨_,rfl,?_⟩,fun w' _=>?_⟩
        · have:=(hc.drop (i.toNat*m)).take m
          simpa[Array.toList_extract,List.extract_eq_take_drop]using this
        · simp[execOp,hop,Instr.index,hk,asIntOf,run_underlying hu,hv,hb,part,(Cq ht w').1,(Cq ht w').2]
      · rename_i hg
        have hg':ga=false:=by simpa using hg
        subst hg';obtain⟨v,hv',hr⟩:=(hc.drop (i.toNat*m)).get (i:=0) (x:=x) (by rw[<-List.head?_eq_getElem?];exact h);refine⟨v,hr,fun w' _=>?_⟩;rw[JD]at hv';simp only[IE,Array.getElem?_toList]at hv';simp[execOp,hop,Instr.index,hk,asIntOf,run_underlying hu,hv,hb,part,(Cq ht w').1,(Cq ht w').2,hv']
    rename_i i b hi hx hu;split at h
    case isFalse=>cases h
    rename_i h0;cases hb:b[i.toNat]? with
    |none=>simp[hb]at h
    |some c=>
     simp[hb]at h;subst h;have hv:=Bh hs y;rw[hx]at hv;have hv:=hv.of_sc;obtain⟨k,hk⟩:=Gt (Bh hs z) hi;exact⟨_,VR.sc _,fun w' _=>by simp[execOp,hop,Instr.index,hk,asIntOf,run_underlying hu,hv,h0,hb]⟩
  case build t parts=>
    obtain⟨v,h1,h2⟩:=YT hs h;exact⟨v,h1,fun w' S=>by simp only[execOp,hop];rw[Sem.run_bind,h2 w'];rfl⟩
  case extract y i=>
    simp only[aq]at h;split at h
    case h_2=>cases h
    rename_i xs hx;have hv:=Bh hs y;rw[hx]at hv;obtain⟨cs,he,ha⟩:=VR.of_tp hv;obtain⟨v,h1,h2⟩:=ha.get h
    exact⟨v,h2,fun w' _=>by
      have:cs[i]?=some v:=by simpa using h1
      simp[execOp,hop,Instr.extract,he,this]⟩
  case binOp op t y z t'=>
    simp only[aq]at h;split at h
    case h_4=>cases h
    case h_3=>
      rename_i a1 b1 c1 a2 b2 c2 hx hy;split at h
      case isFalse=>cases h
      rename_i hp;have hv:=Bh hs y;rw[hx]at hv;have hv':=Bh hs z;rw[hy]at hv';have pr:∀{v:Value} {p q r:Int},VR G A w v (ag [sc (.int .i64 p),sc (.int .i64 q),sc (.int .i64 r)])->v= .agg #[.int .i64 p,.int .i64 q,.int .i64 r]:=fun {v p q r} hv=>by
        obtain⟨cs,rfl,hA⟩:=hv.unfold;have hl:=hA.1
        match cs,hl with
        |⟨[c,d,e]⟩,_=>
         have e1:=(hA.2 0 c _ rfl rfl).of_sc;have e2:=(hA.2 1 d _ rfl rfl).of_sc;have e3:=(hA.2 2 e _ rfl rfl).of_sc;rw[e1,e2,e3]
      have hv:=pr hv;have hv':=pr hv';have hgd:P.eqGuardType P.depth t=false:=by
        unfold jH at hp;split at hp
        case h_2=>cases hp
        simp only[BX,DF]at hp;exact hp.1.1
      split at h
      · cases h
        exact⟨_,VR.sc _,fun w' _=>by
          simp[execOp,hop,hv,hv',eqGuard,hgd,Go.binOp,M4 hp]⟩
      · cases h
        exact⟨_,VR.sc _,fun w' _=>by
          simp[execOp,hop,hv,hv',eqGuard,hgd,Go.binOp,M4 hp]⟩
      · cases h
    case h_2=>
      rename_i a1 k1 m1 b1 k2 n1 hx hy;split at h
      case isFalse=>cases h
      rename_i hc;obtain⟨hp,rfl⟩:=hc;have hv:=Bh hs y;rw[hx]at hv;have hv':=Bh hs z;rw[hy]at hv';have pr:∀{v:Value} {p:Bool} {q:Int},VR G A w v (ag [sc (.bool p),sc (.int k1 q)])->v= .agg #[.bool p,.int k1 q]:=fun {v p q} hv=>by
        obtain⟨cs,rfl,hA⟩:=hv.unfold;have hl:=hA.1
        match cs,hl with
        |⟨[c,d]⟩,_=>
         have e1:=(hA.2 0 c _ rfl rfl).of_sc;have e2:=(hA.2 1 d _ rfl rfl).of_sc;rw[e1,e2]
      have hv:=pr hv;have hv':=pr hv';have hgd:P.eqGuardType P.depth t=false:=by
        unfold jZ at hp;split at hp
        case h_2=>cases hp
        split at hp
        case h_2=>cases hp
        split at hp
        case isFalse=>cases hp
        rename_i hc;exact hc.2.2.2.2.2.1
      split at h
      · cases h
        exact⟨_,VR.sc _,fun w' _=>by
          simp[execOp,hop,hv,hv',eqGuard,hgd,Go.binOp,M5 hp]⟩
      · cases h
        exact⟨_,VR.sc _,fun w' _=>by
          simp[execOp,hop,hv,hv',eqGuard,hgd,Go.binOp,M5 hp]⟩
      · cases h
    rename_i u u' hx hy;cases hb:NK P op t u u' with
    |none=>simp[hb]at h
    |some r=>
     simp[hb]at h;subst h;have hv:=Bh hs y;rw[hx]at hv;have hv:=hv.of_sc;have hv':=Bh hs z;rw[hy]at hv';have hv':=hv'.of_sc
     exact⟨r,VR.sc r,fun w' _=>by
       have:=ou (x:=y) (y:=z) hb w';simp only[execOp,hop,hv,hv'];rw[Sem.run_bind,this]
       rfl⟩
  case unOp op t y=>
    simp only[aq]at h;split at h
    · rename_i b hx
      cases h;have hv:=Bh hs y;rw[hx]at hv;have hv:=hv.of_sc;exact⟨_,VR.sc _,fun w' _=>by simp[execOp,hop,hv,Op.unary]⟩
    · rename_i k n hx
      cases h;have hv:=Bh hs y;rw[hx]at hv;have hv:=hv.of_sc;exact⟨_,VR.sc _,fun w' _=>by simp[execOp,hop,hv,Op.unary,Op.intArith]⟩
    · cases h
  case convert src dst y=>
    obtain⟨v,h1,h2⟩:=xZ (F:=F) I hs h;exact⟨v,h1,fun w' S=>by simp[execOp,hop,h2 w' S]⟩
  case slice t y lo hi mx=>
    obtain⟨v,h1,h2⟩:=ly hs h;exact⟨v,h1,fun w' S=>by simp[execOp,hop,h2 w']⟩
  case call c=>
    obtain⟨callee,args,ts⟩:=c;cases callee with
    |value f=>simp[aq]at h
    |invoke r m=>simp[aq]at h
    |builtin b=>
     cases b<;>try (simp[aq]at h;done)
     case len=>
       simp only[aq]at h;obtain⟨args⟩:=args;obtain⟨ts⟩:=ts;split at h
       · rename_i b t hx ht
         simp at hx ht;cases args with
         |nil=>simp at hx
         |cons y r=>
          cases r with
          |cons z r=>simp at hx
          |nil=>
           simp at hx;split at h
           · rename_i hu
             simp at h;subst h;have hv:=Bh hs y;rw[hx]at hv;have hv:=hv.of_sc;exact⟨_,VR.sc _,fun w' _=>by simp[execOp,hop,resolve,invoke,Go.builtin,Builtin.len_,ht,hv,run_underlying hu,goInt]⟩
           · simp at h
       · rename_i xs id n t hx ht
         simp at hx ht;cases args with
         |nil=>simp at hx
         |cons y r=>
          cases r with
          |cons z r=>simp at hx
          |nil=>
           simp at hx;split at h
           · rename_i hu
             obtain⟨⟨z,q⟩,hz⟩:=OI.1 hu;obtain⟨e,ie,h1,-⟩:=Fl hz;cases h;have hv:=Bh hs y;rw[hx]at hv;obtain⟨base,cap,he,-⟩:=VR.of_sl hv;exact⟨_,VR.sc _,fun w' _=>by simp[execOp,hop,resolve,invoke,Go.builtin,Builtin.len_,ht,he,run_underlying h1,goInt]⟩
           · cases h
       · rename_i p off n t hx ht
         simp at hx ht;cases args with
         |nil=>simp at hx
         |cons y r=>
          cases r with
          |cons z r=>simp at hx
          |nil=>
           simp at hx;split at h
           · rename_i hu
             obtain⟨⟨z,q⟩,hz⟩:=OI.1 hu;obtain⟨e,ie,h1,-⟩:=Fl hz;cases h;have hv:=Bh hs y;rw[hx]at hv;obtain⟨⟨cap,he⟩,-⟩:=VR.of_fx hv;exact⟨_,VR.sc _,fun w' _=>by simp[execOp,hop,resolve,invoke,Go.builtin,Builtin.len_,ht,he,run_underlying h1,goInt]⟩
           · cases h
       · rename_i xs p n cap t hx ht
         simp at hx ht;cases args with
         |nil=>simp at hx
         |cons y r=>
          cases r with
          |cons z r=>simp at hx
          |nil=>
           simp at hx;split at h
           · rename_i hu
             obtain⟨⟨z,q⟩,hz⟩:=OI.1 hu;obtain⟨e,ie,h1,-⟩:=Fl hz;cases h;have hv:=Bh hs y;rw[hx]at hv;obtain⟨he,-,-⟩:=VR.of_gx hv;exact⟨_,VR.sc _,fun w' _=>by simp[execOp,hop,resolve,invoke,Go.builtin,Builtin.len_,ht,he,run_underlying h1,goInt]⟩
           · cases h
       · cases h
end
def O5 (P:Program)(t:TypeId):Option (Nat×Nat×List Value):=
  match P.underlying t with
  |some (.slice e)=>(P.info? e).bind fun i=>i.zero.map fun z=>(i.size,i.bytes,z.cells.toList)
  |_=>none
def iE (P:Program)(t t':TypeId)(x y:AV)(A:St):Option (AV×St):=
  match x,y,O5 P t with
  |.slice xs [.held (.inr (id,n,none))],.slice ys [.held (.inr (_,m,none))],some (z,b,zc)=>
   if t'=t/\0<z/\Z zc=z/\Z xs=n*z/\Z ys=m*z/\ys.all flat=true/\0<m/\(n+m)*b<=140737488355328/\n+m<=1099511627776 then
     (match id with
      |0=>none
      |1=>some (sl (A.D+2) m ys,A.lay m)
      |k+2=>if A.top k=n/\0<n then some (sl (k+2) (n+m) (xs++ys),A.raise k (n+m))else none)
   else none
  |_,_,_=>none
def al (P:Program)(s:Nat->AV)(A:St):Op->Option (AV×St)
  |.alloc t=>(Gk P t).map fun z=>(ptr A.B 0,A.new (z.map cst1))
  |.box _ x=>some (ptr A.B 0,A.new (acells (BU s x)))
  |.store t x y=>(match J1 P t,BU s x with
      |some (_,n),.held (.inr (o,off,none))=>
       if Z (acells (BU s y))=n/\(acells (BU s y)).all flat=true/\off+n<=Z (A.C o) then some (sc undef,A.put o (lsp (A.C o) off (acells (BU s y))))else none
      |_,_=>none)
  |.buildSlice t len parts=>(match O5 P t with
      |some (z,_,zc)=>
       if len=0 then (if parts.size=0 then some (nilS,A)else none)else
       if Z zc=z/\len*z<=16777216/\0<z then
         (CN (fun i=>some (i*z,z)) ((List.replicate len (zc.map cst1)).flatten) (parts.toList.map fun p=>(p.1,BU s p.2))).map fun xs=>(sl (A.D+2) len xs,A.lay len)
       else none
      |none=>none)
  |.makeSlice t l c=>(match O5 P t,Zc (BU s l),Zc (BU s c)with
      |some (z,b,[zv]),some n,some m=>if z=1/\0<=n/\n=m/\(b:Int)*n<=281474976710656/\n<=1099511627776 then some (fx A.B 0 n.toNat,A.new (List.replicate n.toNat (cst1 zv)))else none
      |some (z,b,z1::z2::zc),some n,some m=>if z=Z zc+2/\0<=n/\n=m/\(b:Int)*n<=281474976710656/\n<=1099511627776 then some (fx A.B 0 n.toNat,A.new (List.replicate n.toNat ((z1::z2::zc).map cst1)).flatten)else
       if z=Z zc+2/\n=0/\0<m/\(b:Int)*m<=281474976710656/\m<=1099511627776 then some (gx A.B 0 m.toNat,A.new (List.replicate m.toNat ((z1::z2::zc).map cst1)).flatten)else none
      |_,_,_=>none)
  |.call {callee:=.builtin .append,args:=args,argTypes:=ts}=>(match args.toList,ts.toList with
      |[x,y],[t,t']=>iE P t t' (BU s x) (BU s y) A
      |_,_=>none)
  |_=>none
def LZ (G:Gh)(A:St)(w:World)(r:Result Next)(x:AV)(A':St):Prop:=
  ∃v w' G',(r= .ok (.value v) w'\/(r= .ok .skip w'/\v=undef))/\Inv G' A' w'/\CH G A w G' A' w'/\VR G' A' w' v x
section
variable {P:Program} {G:Gh} {A:St} {w:World} {s:Nat->AV} {a:Act}
theorem Kr {t z b zc}(h:O5 P t=some (z,b,zc)):∃e i zv,P.underlying t=some (.slice e)/\P.info? e=some i/\i.zero=some zv/\i.size=z/\i.bytes=b/\zv.cells.toList=zc:=by
  unfold O5 at h;split at h
  · rename_i e he
    cases hi:P.info? e with
    |none=>simp[hi]at h
    |some i=>
     cases hz:i.zero with
     |none=>simp[hi,hz]at h
     |some zv=>simp[hi,hz]at h;exact⟨e,i,zv,he,hi,hz,h.1,h.2.1,h.2.2⟩
  · cases h
theorem Jq:∀(ys l:List AV) (off:Nat),Z (lsp l off ys)=Z l
  |[],l,off=>rfl
  |y::ys,l,off=>by simp[lsp,Jq ys]
theorem Hc:∀(ys l:List AV) (off:Nat),off+Z ys<=Z l->lsp l off ys=l.take off++ys++l.drop (off+Z ys)
  |[],l,off,_=>by simp[lsp]
  |y::ys,l,off,h=>by
   have hl:off<Z l:=by simp at h;omega
   rw[lsp,Hc ys _ _ (by simp at h⊢;omega)];have h1:(l.set off y).take (off+1)=l.take off++[y]:=by
     rw[AU,List.take_set];simp only[GK,hl,if_true];rw[List.set_eq_of_length_le (by simp;omega)];simp
   have h2:(l.set off y).drop (off+1+Z ys)=l.drop (off+Z (y::ys)):=by
     rw[List.drop_set_of_lt AA];congr 1;simp;omega
   rw[h1,h2];simp
theorem P7 (f:Nat->Value):Array.map f (Array.range 0)=#[]:=by
  apply Array.ext';simp
theorem Inv.garbage (I:Inv G A w)(o):Inv G A (w.alloc o)/\CH G A w G A (w.alloc o):=by
  have E:CH G A w G A (w.alloc o):=⟨rfl,rfl,AR _,fun _ _=>rfl,AR _,fun _ _=>⟨AR _,rfl,fun _=>⟨rfl,rfl⟩⟩,fun b off p=>⟨p,Ox (I.perlt _ _ p)⟩,fun o h=>⟨AR _,fun _=>Oo (I.blk_lt h)⟩⟩;have hold:∀b,b<w.heap.size->(w.alloc o).heap[b]?=w.heap[b]?:=fun b h=>Go.RowKit.Below.heap_alloc w _ b h;refine⟨⟨fun p hp=>?_,I.inj,fun k hk=>?_,I.linj,I.apart,fun b off p=>?_,I.perlo,I.below.alloc I.le _,?_,I.hyp⟩,E⟩
  · obtain⟨h1,h2,h3⟩:=I.C p hp
    refine⟨h1,by simp;omega,fun hne=>?_⟩;obtain⟨⟨arr,e,hb,ha⟩,h4⟩:=h3 hne;exact⟨⟨arr,e,by rw[hold _ (I.blk_lt hp)];exact hb,VR.all E ha⟩,h4⟩
  · obtain⟨h1,⟨arr,e,hb,ha⟩,h3⟩:=I.lin k hk
    exact⟨h1,⟨arr,e,by rw[hold _ (I.cur_lt hk)];exact hb,ha⟩,h3⟩
  · have:=I.perlt _ _ p
    simp;omega
  · have:=I.le
    simp;omega
theorem XI (I:Inv G A w){t x A' o}(hop:o.op= .alloc t)(h:al P s A (.alloc t)=some (x,A')):LZ G A w ((execOp a.eval o).run P w) x A':=by
  simp only[al,Gk]at h;cases hi:P.info? t with
  |none=>simp[hi]at h
  |some i=>
   cases hz:i.zero with
   |none=>simp[hi,hz]at h
   |some z=>
    simp[hi,hz]at h;obtain⟨rfl,rfl⟩:=h;have hc:AQ (VR G A w) z.cells.toList (z.cells.toList.map Abs.cst1):=by
      have:=AQ.of_map (R:=VR G A w) (fun v:Value=>v) Abs.cst1 (fun v=>VR.cst1 v) z.cells.toList;simpa using this
    obtain⟨G',I',E,hb⟩:=I.newObj z.cells t _ hc;refine⟨.pointer (some ⟨w.heap.size,0,none⟩),_,G',.inl ?_,I',E,VR.fold ⟨by rw[hb],by simp[St.new]⟩⟩;simp[execOp,hop,Instr.alloc,zeroValue,typeInfo,hi,hz,newVar,newRow]
theorem VO (I:Inv G A w)(hs:∀t,VR G A w (a.tmps.getD t undef) (s t)){t y x A' o}(hop:o.op= .box t y)(h:al P s A (.box t y)=some (x,A')):LZ G A w ((execOp a.eval o).run P w) x A':=by
  simp[al]at h;obtain⟨rfl,rfl⟩:=h;obtain⟨G',I',E,hb⟩:=I.newObj (a.eval y).cells t _ (Bh hs y).cells;refine⟨.pointer (some ⟨w.heap.size,0,none⟩),_,G',.inl ?_,I',E,VR.fold ⟨by rw[hb],by simp[St.new]⟩⟩;simp[execOp,hop,Instr.box,newVar,newRow]
theorem js (I:Inv G A w)(hs:∀t,VR G A w (a.tmps.getD t undef) (s t)){t y z x A' o}(hop:o.op= .store t y z)(h:al P s A (.store t y z)=some (x,A')):LZ G A w ((execOp a.eval o).run P w) x A':=by
  simp only[al]at h;split at h
  case h_2=>cases h
  rename_i ga n p off ht hx;split at h
  case isFalse=>cases h
  rename_i hc;obtain⟨h1,h2,h3⟩:=hc;cases h;have hy:=Bh hs y;rw[hx]at hy;obtain⟨hv,hp⟩:=VR.of_ptr hy;have hz:=(Bh hs z).cells;have hlv:A.C p≠[]:=fun e=>by
    have:=ml ht;rw[e]at h3;simp at h3;omega
  obtain⟨⟨arr,e,hb,ha⟩,-⟩:=(I.C p hp).2.2 hlv;have hlen:arr.size=Z (A.C p):=by have:=ha.1;simpa using this
  have hzl:(a.eval z).cells.size=n:=by have:=hz.1;simp at this;omega
  have hst:=run_storeCells_at P (G.blk p) off e (a.eval z).cells.toList 0 arr w hb (by simp;omega) (Zb hz h2);have hall:AQ (VR G A w) (arr.toList.take off++(a.eval z).cells.toList++arr.toList.drop (off+Z (a.eval z).cells.toList)).toArray.toList (lsp (A.C p) off (acells (BU s z))):=by
    rw[Hc _ _ _ AA,<-hz.1];exact ((ha.take off).append hz).append (ha.drop _)
  obtain⟨I',E⟩:=I.setObj hp hlv _ _ hall;refine⟨undef,_,G,.inr ⟨?_,rfl⟩,I',E,VR.sc _⟩;simp only[IE]at hst;simp[execOp,hop,Instr.storeAt,hv,Instr.sureAddr,storeVar,(Cq ht w).2,hzl,hst]
theorem Gj {z:List Value}{n}:((Array.range (n*Z z)).map (z.toArray[· % z.toArray.size]!)).toList=(List.replicate n z).flatten:=by
  by_cases h0:Z z=0
  · have:z=[]:=GQ h0
    subst this;simp
  induction n with
  |zero=>simp
  |succ n ih=>
   rw[List.replicate_succ',List.flatten_append,<-ih];simp only[Array.toList_map,Array.toList_range];rw[JG,List.range_add,FO,BS];congr 1;simp only[List.flatten_cons,List.flatten_nil,FA];apply FS;intro i;by_cases hi:i<Z z
   · have:(n*Z z+i) % Z z=i:=by rw[Nat.mul_comm,Nat.mul_add_mod];exact Nat.mod_eq_of_lt hi
     simp[hi,this]
   · simp[hi]
theorem AQ.flatten_replicate {R l m}(h:AQ R l m):∀n,AQ R (List.replicate n l).flatten (List.replicate n m).flatten
  |0=>by simp;exact AQ.nil R
  |n+1=>by simp only[OJ,List.flatten_cons];exact h.append (AQ.flatten_replicate h n)
theorem gC (I:Inv G A w)(hs:∀t,VR G A w (a.tmps.getD t undef) (s t)){t len parts x A' o}(hop:o.op= .buildSlice t len parts)
    (h:al P s A (.buildSlice t len parts)=some (x,A')):LZ G A w ((execOp a.eval o).run P w) x A':=by
  simp only[al]at h;split at h
  case h_2=>cases h
  rename_i z b zc ht;obtain⟨e,i,zv,hu,hi,hz,h1,h2,h3⟩:=Kr ht;split at h
  · rename_i h0
    subst h0;split at h
    case isFalse=>cases h
    rename_i hp;cases h;have hp':parts=#[]:=by simpa using hp
    subst hp';obtain⟨I',E⟩:=I.garbage (.cells #[] e);refine⟨.slice (some ⟨w.heap.size,0,none⟩) 0 0,w.alloc (.cells #[] e),G,.inl ?_,I',E,VR.fold ⟨_,_,rfl,⟨AR _,fun _=>⟨rfl,rfl⟩⟩,fun h=>absurd rfl h,fun k hk=>AA⟩⟩;simp[execOp,hop,Instr.buildSlice,run_underlying hu,sizeOf,typeInfo,hi,Instr.fill,newRow,P7]
  · rename_i h0
    split at h
    case isFalse=>cases h
    rename_i hc;obtain⟨hc1,hc2,hc3⟩:=hc;cases hf:CN (fun i=>some (i*z,z)) ((List.replicate len (zc.map Abs.cst1)).flatten) (parts.toList.map fun p=>(p.1,BU s p.2))with
    |none=>simp[hf]at h
    |some xs=>
     simp[hf]at h;obtain⟨rfl,rfl⟩:=h;have hzc:AQ (VR G A w) zc (zc.map Abs.cst1):=by
       have:=AQ.of_map (R:=VR G A w) (fun v:Value=>v) Abs.cst1 (fun v=>VR.cst1 v) zc;simpa using this
     have hz0:AQ (VR G A w) ((Array.range (len*z)).map (zv.cells[· % zv.cells.size]!)).toList ((List.replicate len (zc.map Abs.cst1)).flatten):=by
       have e1:zv.cells=zc.toArray:=by rw[<-h3]
       rw[e1,<-hc1,Gj];exact hzc.flatten_replicate len
     obtain⟨cs,g1,g2⟩:=R9 (place':=fun i=>some (i*z,z)) (fun _ _ h=>h) (parts.toList.map fun p=>(p.1,a.eval p.2)) (parts.toList.map fun p=>(p.1,BU s p.2)) _ _ xs hz0 (by simp)
       (fun i p q hp hq=>by
         simp only[EY]at hp hq;cases hi:parts.toList[i]? with
         |none=>simp[hi]at hp
         |some r=>
          simp[hi]at hp hq;subst hp;subst hq
          exact⟨rfl,Bh hs r.2⟩) hf
     have hfl:∀(place:Nat->Option (Nat×Nat)) (l:List (Nat×AV)) (c ys:List AV),CN place c l=some ys->Z ys=Z c:=by
       intro place l;induction l with
       |nil=>intro c ys h;simp[CN]at h;rw[h]
       |cons q l ih=>
        intro c ys h;obtain⟨j,y⟩:=q;simp only[CN]at h;split at h
        · cases h
        · split at h
          · cases h
          · rw[ih _ _ h,Jq]
     have hxl:Z xs=len*z:=by
       rw[hfl _ _ _ _ hf];simp[hc1]
     have hcs:cs.size=len*z:=by have:=g2.1;simp at this;omega
     obtain⟨G',I',E,k1,k2,k3,k4⟩:=I.newRow cs e len len z hcs (AR _);refine⟨.slice (some ⟨w.heap.size,0,none⟩) len len,w.alloc (.cells cs e),G',.inl ?_,I',E,VR.fold ⟨_,_,rfl,⟨AR _,fun h=>AA⟩,fun _=>⟨w.heap.size,0,rfl,fun j y hy=>?_⟩,fun k hk=>?_⟩⟩
     · have hne:len*z≠0:=by
         have:0<len*z:=LS AA hc3;omega
       have hle:¬(16777216<len*z):=AA;have hpm:(parts.map fun x=>(x.1,a.eval x.2)).toList=parts.toList.map fun p=>(p.1,a.eval p.2):=by simp
       simp only[execOp,hop,Instr.buildSlice,Sem.run_bind,run_underlying hu,Result.andThen_ok,sizeOf,typeInfo,run_program,hi,Sem.run_pure,h1];simp[hle,hne,zeroValue,typeInfo,hi,hz,g1,newRow]
     · obtain⟨c,hc',hr⟩:=g2.get hy
       have hj:j<len*z:=by rw[<-hxl];exact (BG.1 hy).1
       refine⟨by simpa using k4 j hj,c,?_,hr.ext E⟩;have:(w.alloc (.cells cs e)).cell? ⟨w.heap.size,0+j,none⟩=cs[0+j]?:=Kl;rw[this];simpa using hc'
     · have hk':k=A.D:=AA
       subst hk';refine⟨by simp[St.lay],by simp[St.lay],by rw[k3];exact hxl,fun _=>⟨by rw[k1],by rw[k2]⟩⟩
theorem nG (I:Inv G A w)(hs:∀t,VR G A w (a.tmps.getD t undef) (s t)){t l c x A' o}(hop:o.op= .makeSlice t l c)
    (h:al P s A (.makeSlice t l c)=some (x,A')):LZ G A w ((execOp a.eval o).run P w) x A':=by
  simp only[al]at h;split at h
  case h_3=>cases h
  case h_1=>
    rename_i z b zv n m ht hn hm;split at h
    case isFalse=>cases h
    rename_i hc;obtain⟨rfl,c2,rfl,c4,c5⟩:=hc;cases h;obtain⟨e,i,zw,hu,hi,hz,h1,h2,h3⟩:=Kr ht;obtain⟨k1,e1⟩:=Gt (Bh hs l) hn;obtain⟨k2,e2⟩:=Gt (Bh hs c) hm;have hw:IntKind.i64.wrap n=n:=Go.IntWalk.i64_in n ⟨AA,AA⟩;have hzc:zw.cells=#[zv]:=by
      apply Array.ext';simpa using h3
    have hcells:((Array.range (n.toNat*1)).map (zw.cells[· % zw.cells.size]!)).toList=List.replicate n.toNat zv:=by
      rw[hzc];have:=Gj (z:=[zv]) (n:=n.toNat);simpa using this
    have hall:AQ (VR G A w) ((Array.range (n.toNat*1)).map (zw.cells[· % zw.cells.size]!)).toList (List.replicate n.toNat (Abs.cst1 zv)):=by
      rw[hcells];have:=AQ.of_map (R:=VR G A w) (fun v:Value=>v) Abs.cst1 (fun v=>VR.cst1 v) (List.replicate n.toNat zv);simpa using this
    obtain⟨G',I',E,hb⟩:=I.newObj _ e _ hall;refine⟨.slice (some ⟨w.heap.size,0,none⟩) n.toNat n.toNat,_,G',.inl ?_,I',E,VR.fold ⟨⟨n.toNat,by rw[hb],AR _⟩,by simp[St.new]⟩⟩;have hneg:¬n<0:=AA;have hbig:¬((i.bytes:Int)*n>281474976710656):=by rw[h2];omega
    simp only[execOp,hop,Instr.makeSlice,Sem.run_bind,run_underlying hu,Result.andThen_ok,e1,e2,asInt,asIntOf,Sem.run_pure,typeInfo,run_program,hi,hw];by_cases hn0:n.toNat=0
    · simp[hneg,hbig,sizeOf,typeInfo,hi,h1,hn0,newRow,P7]
    · simp[hneg,hbig,sizeOf,typeInfo,hi,h1,hn0,zeroValue,hz,newRow]
  case h_2=>
    rename_i z b z1 z2 zc n m ht hn hm;split at h
    case isTrue=>
      rename_i hc;obtain⟨rfl,c2,rfl,c4,c5⟩:=hc;cases h;obtain⟨e,i,zw,hu,hi,hz,h1,h2,h3⟩:=Kr ht;obtain⟨k1,e1⟩:=Gt (Bh hs l) hn;obtain⟨k2,e2⟩:=Gt (Bh hs c) hm;have hw:IntKind.i64.wrap n=n:=Go.IntWalk.i64_in n ⟨AA,AA⟩;have hzc:zw.cells=(z1::z2::zc).toArray:=by
        apply Array.ext';simpa using h3
      have hcells:((Array.range (n.toNat*(Z zc+2))).map (zw.cells[· % zw.cells.size]!)).toList=(List.replicate n.toNat (z1::z2::zc)).flatten:=by
        rw[hzc];have:=Gj (z:=z1::z2::zc) (n:=n.toNat);simpa using this
      have hall:AQ (VR G A w) ((Array.range (n.toNat*(Z zc+2))).map (zw.cells[· % zw.cells.size]!)).toList (List.replicate n.toNat ((z1::z2::zc).map Abs.cst1)).flatten:=by
        rw[hcells];have:=AQ.of_map (R:=VR G A w) (fun v:Value=>v) Abs.cst1 (fun v=>VR.cst1 v) (List.replicate n.toNat (z1::z2::zc)).flatten;rw[List.map_flatten,List.map_replicate]at this;simpa using this
      obtain⟨G',I',E,hb⟩:=I.newObj _ e _ hall;refine⟨.slice (some ⟨w.heap.size,0,none⟩) n.toNat n.toNat,_,G',.inl ?_,I',E,VR.fold ⟨⟨n.toNat,by rw[hb],AR _⟩,by simp[St.new]⟩⟩;have hneg:¬n<0:=AA;have hbig:¬((i.bytes:Int)*n>281474976710656):=by rw[h2];omega
      simp only[execOp,hop,Instr.makeSlice,Sem.run_bind,run_underlying hu,Result.andThen_ok,e1,e2,asInt,asIntOf,Sem.run_pure,typeInfo,run_program,hi,hw];by_cases hn0:n.toNat=0
      · simp[hneg,hbig,sizeOf,typeInfo,hi,h1,hn0,newRow,P7]
      · simp[hneg,hbig,sizeOf,typeInfo,hi,h1,hn0,zeroValue,hz,newRow]
        intro h0;exact absurd h0 (Nat.ne_of_gt (LS AA AA))
    split at h
    case isFalse=>cases h
    rename_i hc;obtain⟨rfl,rfl,c2,c4,c5⟩:=hc;cases h;obtain⟨e,i,zw,hu,hi,hz,h1,h2,h3⟩:=Kr ht;obtain⟨k1,e1⟩:=Gt (Bh hs l) hn;obtain⟨k2,e2⟩:=Gt (Bh hs c) hm;have hw:IntKind.i64.wrap m=m:=Go.IntWalk.i64_in m ⟨AA,AA⟩;have hw0:IntKind.i64.wrap 0=0:=rfl;have hzc:zw.cells=(z1::z2::zc).toArray:=by
      apply Array.ext';simpa using h3
    have hcells:((Array.range (m.toNat*(Z zc+2))).map (zw.cells[· % zw.cells.size]!)).toList=(List.replicate m.toNat (z1::z2::zc)).flatten:=by
      rw[hzc];have:=Gj (z:=z1::z2::zc) (n:=m.toNat);simpa using this
    have hall:AQ (VR G A w) ((Array.range (m.toNat*(Z zc+2))).map (zw.cells[· % zw.cells.size]!)).toList (List.replicate m.toNat ((z1::z2::zc).map Abs.cst1)).flatten:=by
      rw[hcells];have:=AQ.of_map (R:=VR G A w) (fun v:Value=>v) Abs.cst1 (fun v=>VR.cst1 v) (List.replicate m.toNat (z1::z2::zc)).flatten;rw[List.map_flatten,List.map_replicate]at this;simpa using this
    obtain⟨G',I',E,hb⟩:=I.newObj _ e _ hall;refine⟨.slice (some ⟨w.heap.size,0,none⟩) 0 m.toNat,_,G',.inl ?_,I',E,VR.fold ⟨by rw[hb],Nat.zero_le _,by simp[St.new]⟩⟩;have hneg:¬m<0:=AA;have hz0:¬((i.bytes:Int)*0>281474976710656):=by simp
    have hbig:¬((i.bytes:Int)*m>281474976710656):=by rw[h2];omega
    simp only[execOp,hop,Instr.makeSlice,Sem.run_bind,run_underlying hu,Result.andThen_ok,e1,e2,asInt,asIntOf,Sem.run_pure,typeInfo,run_program,hi,hw,hw0];have hn0:¬m.toNat=0:=AA
    · simp[hneg,hbig,sizeOf,typeInfo,hi,h1,hn0,zeroValue,hz,newRow]
      intro h0;exact absurd h0 (Nat.ne_of_gt (LS AA AA))
theorem L8 (w t ty e i)(ht:P.underlying t=some (.slice e))(hi:P.info? e=some i)
    (g sLen sCap cur e') (hg:w.heap[g]?=some (.cells cur e' (0,0)))
    (a m c news) (hl:Z news=m*i.size) (hnews:∀j u,news[j]?=some u->w.cell? (a.add j)=some u) (h1:∀u∈news,u.oneCell'=true)
    (hroom:sLen+m<=sCap) (hfit:sLen*i.size+Z news<=cur.size):
    (Builtin.append_ #[t,t] ty #[.slice (some ⟨g,0,none⟩) sLen sCap,.slice (some a) m c]).run P w=
      .ok (.slice (some ⟨g,0,none⟩) (sLen+m) sCap) (w.setRow g (cur.toList.take (sLen*i.size)++news++cur.toList.drop (sLen*i.size+Z news)).toArray):=by
  have hf:=run_firstCells_some (P:=P) w i.size m a m c news hl hnews;have hst:=run_storeCells_at P g (sLen*i.size) e' news 0 cur w hg (by simpa using hfit) h1;simp only[IE]at hst;simp[Builtin.append_,run_underlying ht,sizeOf,typeInfo,hi,Builtin.lenOf,hroom,hf,Addr.add_lit,hst]
theorem il (I:Inv G A w)(hs:∀t,VR G A w (a.tmps.getD t undef) (s t)){args ts x A' o}(hop:o.op= .call {callee:=.builtin .append,args:=args,argTypes:=ts})
    (h:al P s A (.call {callee:=.builtin .append,args:=args,argTypes:=ts})=some (x,A')):LZ G A w ((execOp a.eval o).run P w) x A':=by
  obtain⟨args⟩:=args;obtain⟨ts⟩:=ts;simp only[al]at h;split at h
  case h_2=>cases h
  rename_i y1 y2 t t';unfold iE at h;split at h
  case h_2=>cases h
  rename_i xs id n ys id' m z b zc hx hy ht;split at h
  case isFalse=>cases h
  rename_i hc;obtain⟨rfl,c2,c3,c4,c5,c6,c7,c8,c9⟩:=hc;obtain⟨e,i,zv,hu,hi,hz,h1,h2,h3⟩:=Kr ht;have hv1:=Bh hs y1;have hv2:=Bh hs y2;rw[hx]at hv1;rw[hy]at hv2;obtain⟨base1,cap1,e1,⟨hcap1,id1⟩,lie1,lin1⟩:=VR.of_sl hv1;obtain⟨base2,cap2,e2,-,lie2,-⟩:=VR.of_sl hv2;have hys:ys≠[]:=fun e=>by
    have:0<m*z:=LS c7 c2;rw[e]at c5;simp at c5;omega
  obtain⟨b2,o2,rfl,hl2⟩:=lie2 hys;obtain⟨news,hn1,hn2⟩:=hl2.list;have hnl:Z news=m*i.size:=by rw[hn1.1,c5,h1]
  have hflat:=Zb hn1 c6
  have hzs:zv.cells.size=z:=by have:Z zv.cells.toList=Z zc:=by rw[h3]
                               simp at this;omega
  have hadd:∀(w':World),(∀j u,news[j]?=some u->w'.cell? ⟨b2,o2+j,none⟩=some u)->∀j u,news[j]?=some u->w'.cell? ((⟨b2,o2,none⟩:Addr).add j)=some u:=fun w' h j u hu=>by rw[Addr.add_lit];exact h j u hu
  have hnews:=hadd w hn2;have hexec:∀r,(Builtin.append_ #[t',t'] o.type #[a.eval y1,a.eval y2]).run P w=r->(execOp a.eval o).run P w=r.andThen fun v w'=>.ok (.value v) w':=fun r hr=>by
    subst hr;simp only[execOp,hop,resolve,invoke,Go.builtin,Sem.run_bind,Sem.run_pure,Result.andThen_ok,List.map_toArray,CU,KO]
  --a new row of (n+m) elements,made in the world w.drew
  split at h
  · cases h
  · cases h
    obtain⟨hn0,hcap⟩:=id1 rfl;subst hn0;subst hcap;simp only[MX]at c4;have hxs:xs=[]:=GQ c4;subst hxs;have hgc:m<=grownCap w m 0 e:=grownCap_ge w m 0 e;obtain⟨I1,E1⟩:=I.drawn (w.drawn+1);have hsz:(news.toArray++Builtin.zeroCells zv.cells (grownCap w m 0 e-m)).size=grownCap w m 0 e*z:=by
      simp only[Array.size_append,List.size_toArray,size_zeroCells,hzs,hnl,h1,<-FE];congr 1;omega
    obtain⟨G',I',E,k1,k2,k3,k4⟩:=I1.newRow (news.toArray++Builtin.zeroCells zv.cells (grownCap w m 0 e-m)) e m (grownCap w m 0 e) z hsz hgc;have hrun:(Builtin.append_ #[t',t'] o.type #[a.eval y1,a.eval y2]).run P w= .ok (.slice (some ⟨w.heap.size,0,none⟩) m (grownCap w m 0 e)) (w.drew.alloc (.cells (news.toArray++Builtin.zeroCells zv.cells (grownCap w m 0 e-m)) e)):=by
      rw[e1,e2];cases base1 with
      |none=>exact run_append_nil (P:=P) w t' o.type e i zv hu hi hz ⟨b2,o2,none⟩ m cap2 news hnl hnews c7 AA (by rw[h2];simp at c8;omega)
      |some ad=>
       have:=run_append_grow (P:=P) w t' o.type e i zv hu hi hz ad 0 0 [] (by simp) (fun j v hv=>by simp at hv) ⟨b2,o2,none⟩ m cap2 news hnl hnews AA AA (growslice_fits AA (by rw[h2];exact c8));simpa using this
    refine⟨_,_,G',.inl (by rw[hexec _ hrun];rfl),I',E1.trans E,VR.fold ⟨_,_,rfl,⟨by assumption,fun h=>AA⟩,fun _=>⟨w.heap.size,0,rfl,fun j y hj=>?_⟩,fun k hk=>?_⟩⟩
    · obtain⟨c,hc',hr⟩:=hn1.get hj
      have hjl:j<m*z:=by rw[<-c5];exact (BG.1 hj).1
      refine⟨by simpa using k4 j hjl,c,?_,hr.ext (E1.trans E)⟩;have:(w.drew.alloc (.cells (news.toArray++Builtin.zeroCells zv.cells (grownCap w m 0 e-m)) e)).cell? ⟨w.heap.size,0+j,none⟩=(news.toArray++Builtin.zeroCells zv.cells (grownCap w m 0 e-m))[0+j]?:=Kl (w:=w.drew);refine Eq.trans this ?_;rw[EJ,Array.getElem?_append_left (by simp;rw[hnl,h1];omega)];simpa using hc'
    · have hk':k=A.D:=AA
      subst hk';exact⟨by simp[St.lay],by simp[St.lay],by rw[k3];exact c5,fun _=>⟨by rw[k1],by rw[k2]⟩⟩
  · rename_i k
    split at h
    case isFalse=>cases h
    rename_i hc2;obtain⟨ht0,hn0⟩:=hc2;cases h;obtain⟨hk,hle,hxl,htop⟩:=lin1 k rfl;obtain⟨hb1,hcap⟩:=htop ht0.symm;subst hb1;subst hcap;have hsz:G.siz k=z:=Nat.eq_of_mul_eq_mul_left hn0 AA;obtain⟨lb,⟨cur,ecur,hcur,hcs⟩,ltc,lper⟩:=I.lin k hk;have hxne:xs≠[]:=fun e=>by
      have:0<n*z:=LS hn0 c2;rw[e]at c4;simp at c4;omega
    obtain⟨bb,oo,hbo,hl1⟩:=lie1 hxne;cases hbo;obtain⟨olds,ho1,ho2⟩:=hl1.list;have hol:Z olds=n*i.size:=by rw[ho1.1,c4,h1]
    by_cases hroom:n+m<=G.cap k
    · have hfit:n*i.size+Z news<=cur.size:=by
        rw[hnl,hcs,h1,hsz,<-FE];exact FU _ hroom
      have hrun:(Builtin.append_ #[t',t'] o.type #[a.eval y1,a.eval y2]).run P w= .ok (.slice (some ⟨G.cur k,0,none⟩) (n+m) (G.cap k)) (w.setRow (G.cur k) (cur.toList.take (n*i.size)++news++cur.toList.drop (n*i.size+Z news)).toArray):=by
        rw[e1,e2];exact L8 w t' o.type e i hu hi (G.cur k) n (G.cap k) cur ecur hcur ⟨b2,o2,none⟩ m cap2 news hnl hnews hflat hroom hfit
      have hlen:(cur.toList.take (n*i.size)++news++cur.toList.drop (n*i.size+Z news)).toArray.size=G.cap k*G.siz k:=by
        simp only[List.size_toArray,AX,CV,List.length_drop,Array.length_toList];omega
      have hget:∀off,off<n*z->(cur.toList.take (n*i.size)++news++cur.toList.drop (n*i.size+Z news)).toArray[off]?=cur[off]?:=fun off ho=>by
        have hl':off<Z (cur.toList.take (n*i.size)):=by
          rw[h1]at hfit⊢;simp;omega
        rw[List.getElem?_toArray,CX,OY hl',II,if_pos (by rw[h1];exact ho)];simp
      obtain⟨G',I',E,k1,k2,k3,k4⟩:=I.growRoom hk (n+m) hroom AA _ hlen (fun off ho=>by
        rw[ht0,hsz]at ho;rw[hget off ho]
        simp[World.cell?,hcur])
      refine⟨_,_,G',.inl (by rw[hexec _ hrun];rfl),I',E,VR.fold ⟨_,_,rfl,⟨by first|assumption|omega,fun h=>AA⟩,fun _=>⟨G.cur k,0,rfl,fun j y hj=>?_⟩,fun k' hk'=>?_⟩⟩
      · have hjl:j<(n+m)*z:=by
          have:=(BG.1 hj).1;simp only[AX,c4,c5]at this;rw[FE];exact this
        have hcell:(w.setRow (G.cur k) (cur.toList.take (n*i.size)++news++cur.toList.drop (n*i.size+Z news)).toArray).cell? ⟨G.cur k,0+j,none⟩=(cur.toList.take (n*i.size)++news++cur.toList.drop (n*i.size+Z news)).toArray[0+j]?:=
          cell_setRow_same w _ _ cur _ ecur _ hcur
        refine⟨by rw[hsz]at k1;simpa using k1 j hjl,?_⟩;rw[hcell,EJ];by_cases hjn:j<n*z
        · rw[OY (by rw[c4];exact hjn)]at hj
          obtain⟨-,c,hc',hr⟩:=hl1 j y hj;refine⟨c,?_,hr.ext E⟩;rw[hget j hjn];have:w.cell? ⟨G.cur k,0+j,none⟩=cur[0+j]?:=by simp[World.cell?,hcur]
          rw[EJ]at this hc';rw[<-this];exact hc'
        · rw[KU (by rw[c4];omega),c4]at hj
          obtain⟨c,hc',hr⟩:=hn1.get hj;refine⟨c,?_,hr.ext E⟩;have hlt:Z (cur.toList.take (n*i.size))=n*z:=by
            simp;rw[h1]at hfit⊢;omega
          rw[List.getElem?_toArray,CX,KU AA,hlt,OY (by rw[hnl,h1,FE]at*;omega)];exact hc'
      · have hkk:k'=k:=AA
        subst hkk;refine⟨hk,by simp[St.raise],?_,fun _=>⟨by rw[k2],by rw[k3]⟩⟩;rw[k4,hsz,AX,c4,c5,FE]
    · have holds:∀j u,olds[j]?=some u->w.cell? ((⟨G.cur k,0,none⟩:Addr).add j)=some u:=fun j u hu=>by rw[Addr.add_lit];exact ho2 j u hu
      have hrun:(Builtin.append_ #[t',t'] o.type #[a.eval y1,a.eval y2]).run P w= .ok (.slice (some ⟨w.heap.size,0,none⟩) (n+m) (grownCap w (n+m) (G.cap k) e)) (w.drew.alloc (.cells (olds.toArray++news.toArray++Builtin.zeroCells zv.cells (grownCap w (n+m) (G.cap k) e-(n+m))) e)):=by
        rw[e1,e2];exact run_append_grow (P:=P) w t' o.type e i zv hu hi hz ⟨G.cur k,0,none⟩ n (G.cap k) olds hol holds ⟨b2,o2,none⟩ m cap2 news hnl hnews AA AA (growslice_fits AA (by rw[h2];exact c8))
      have hgc:n+m<=grownCap w (n+m) (G.cap k) e:=grownCap_ge w (n+m) (G.cap k) e;obtain⟨I1,E1⟩:=I.drawn (w.drawn+1);have hsz2:(olds.toArray++news.toArray++Builtin.zeroCells zv.cells (grownCap w (n+m) (G.cap k) e-(n+m))).size=grownCap w (n+m) (G.cap k) e*G.siz k:=by
        simp only[Array.size_append,List.size_toArray,size_zeroCells,hzs,hnl,hol,h1,hsz,<-FE];congr 1;omega
      obtain⟨G',I',E,k1,k2,k3,k4⟩:=I1.growNew hk (n+m) _ hgc AA _ e hsz2;refine⟨_,_,G',.inl (by rw[hexec _ hrun];rfl),I',E1.trans E,VR.fold ⟨_,_,rfl,⟨by assumption,fun h=>AA⟩,fun _=>⟨w.heap.size,0,rfl,fun j y hj=>?_⟩,fun k' hk'=>?_⟩⟩
      · have hjl:j<(n+m)*z:=by
          have:=(BG.1 hj).1;simp only[AX,c4,c5]at this;rw[FE];exact this
        obtain⟨c,hc',hr⟩:=(ho1.append hn1).get hj;refine⟨by rw[hsz]at k1;simpa using k1 j hjl,c,?_,hr.ext (E1.trans E)⟩;have hcell:(w.drew.alloc (.cells (olds.toArray++news.toArray++Builtin.zeroCells zv.cells (grownCap w (n+m) (G.cap k) e-(n+m))) e)).cell? ⟨w.heap.size,0+j,none⟩=(olds.toArray++news.toArray++Builtin.zeroCells zv.cells (grownCap w (n+m) (G.cap k) e-(n+m)))[0+j]?:=Kl (w:=w.drew);refine Eq.trans hcell ?_;rw[EJ,Array.getElem?_append_left (by simp;rw[hol,hnl,h1,<-FE];exact hjl)];simpa using hc'
      · have hkk:k'=k:=AA
        subst hkk;refine⟨hk,by simp[St.raise],?_,fun _=>⟨by rw[k2],by rw[k3]⟩⟩;rw[k4,hsz,AX,c4,c5,FE]
theorem UX (I:Inv G A w)(hs:∀t,VR G A w (a.tmps.getD t undef) (s t)){o x A'}(h:al P s A o.op=some (x,A')):LZ G A w ((execOp a.eval o).run P w) x A':=by
  cases hop:o.op<;>rw[hop]at h<;>try (simp[al]at h;done)
  case alloc t=>exact XI I hop h
  case box t y=>exact VO I hs hop h
  case store t y z=>exact js I hs hop h
  case buildSlice t len parts=>exact gC I hs hop h
  case makeSlice t l c=>exact nG I hs hop h
  case call c=>
    obtain⟨callee,args,ts⟩:=c;cases callee with
    |value f=>simp[al]at h
    |invoke r m=>simp[al]at h
    |builtin b=>
     cases b<;>try (simp[al]at h;done)
     case append=>exact il I hs hop h
end
end Go.Abs
