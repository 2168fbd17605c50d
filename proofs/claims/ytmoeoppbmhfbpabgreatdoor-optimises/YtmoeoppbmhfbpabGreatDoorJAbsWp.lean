import Derived.Test.YtmoeoppbmhfbpabGreatDoorJAbsQuiet
import Derived.LoopN
import Derived.OrdersHeld
set_option linter.all false
open List renaming length->Z
namespace Go.Abs
abbrev Sl:=Nat->AV
abbrev Ig:=Exit->Sl->St->Prop
structure FK (n:Nat)(G:Gh)(s:Sl)(M:St)(a:Act)(w:World):Prop where
  defers:a.defers=[]
  size:n<=a.tmps.size
  tmps:∀t,VR G M w (a.tmps.getD t undef) (s t)
  inv:Inv G M w
def upd (s:Sl)(d:Nat)(x:AV):Sl:=λt=>if t=d then x else s t
def BC (s:Sl)(a:Option Tmp)(x:AV):Sl:=
  match a with
  |some d=>upd s d x
  |none=>s
def DF (n:Nat):Option Tmp->Bool
  |some d=>decide (d<n)
  |none=>true
def FK.put {n G G' s M M' a w c}(R:FK n G s M a w)(E:CH G M w G' M' c)(I:Inv G' M' c){v x}(j:VR G' M' c v x){b}(i:DF n b=true):
    FK n G' (BC s b x) M' (a.put b v) c:=by
  cases b with
  |none=>exact⟨R.defers,R.size,λt=>(R.tmps t).ext E,I⟩
  |some d=>
   have f:d<n:=by simpa[DF]using i
   refine⟨R.defers,by simp[Act.put];exact R.size,λt=>?_,I⟩;have g:d<a.tmps.size:=BZ f R.size;simp only[Act.put,BC,upd];by_cases e:t=d;subst e;simp[MC,g];exact j;rw[if_neg e];have:(a.tmps.setIfInBounds d v).getD t undef=a.tmps.getD t undef:=by
     simp[MC,Array.getElem?_setIfInBounds_ne (Ne.symm e)]
   rw[this];exact (R.tmps t).ext E
def EH (n:Nat)(G:Gh)(M:St)(w:World)(Q:Ig):Exit->Act->World->Prop:=
  λe f b=>∃c d a,CH G M w c a b/\FK n c d a f b/\Q e d a
def EH.ext {n G G' M M' w b}(E:CH G M w G' M' b){Q e a u}(h:EH n G' M' b Q e a u):EH n G M w Q e a u:=
  let⟨d,i,g,c,f,q⟩:=h;⟨d,i,g,E.trans c,f,q⟩
def Mn (P:Program)(n:Nat)(c:Code)(Q:Ig)(s:Sl)(M:St):Prop:=
  ∀G a w,FK n G s M a w->c.wp P (EH n G M w Q) a w
def Sg (P:Program)(f:FuncId):Bool:=
  match P.funcs[f]? with
  |some a=>a.name != "runtime.NumGoroutine"&&a.body.isSome
  |none=>false
def AF (P:Program)(f:FuncId)(b:oh)(M:St)(R:AV->St->Prop):Prop:=
  Sg P f=true/\∀G w a,Inv G M w->AP (VR G M w) a.toList b->
    Calls P f a w λe d=>∃v g x c,e= .returned v/\Inv g c d/\CH G M w g c d/\VR g c d v x/\R x c
def AF.mono {P f a M R R'}(h:AF P f a M R)(d:∀x M',R x M'->R' x M'):AF P f a M R':=
  ⟨h.1,λG w c I A=>(h.2 G w c I A).mono λe m ⟨v,j,x,M',k,g,i,l,b⟩=>⟨v,j,x,M',k,g,i,l,d _ _ b⟩⟩
section rules
variable {P:Program} {n:Nat} {Q:Ig} {s:Sl} {M:St}
theorem A2 {c Q'}(h:Mn P n c Q s M)(b:∀e s M,Q e s M->Q' e s M):Mn P n c Q' s M:=
  λG a w R=>wp_mono (h G a w R) λe j k ⟨i,f,d,E,g,q⟩=>⟨i,f,d,E,g,b _ _ _ q⟩
theorem oJ (h:Q .normal s M):Mn P n .skip Q s M:=λG a w R=>wp_skip ⟨G,s,M,CH.refl _ _ _,R,h⟩
theorem vX (h:Q .ret s M):Mn P n .ret Q s M:=λG a w R=>wp_ret ⟨G,s,M,CH.refl _ _ _,R,h⟩
theorem oL {id}(h:Q (.exit id) s M):Mn P n (.exit id) Q s M:=λG a w R=>wp_exit ⟨G,s,M,CH.refl _ _ _,R,h⟩
def uP (K:Sl->St->Prop)(Q:Ig):Ig
  |.normal,s,M=>K s M
  |e,s,M=>Q e s M
theorem Iy {x y}(h:Mn P n x (uP (Mn P n y Q) Q) s M):Mn P n (.seq x y) Q s M:=λG a w R=>
  wp_seq (wp_mono (h G a w R) λe d f ⟨c,i,g,E,b,q⟩=>by
    cases e<;>first
      |exact wp_mono (q c d f b) λe l k j=>j.ext E
      |exact⟨c,i,g,E,b,q⟩)
theorem Sk {c x y t}(b:BR s c=sc (.bool t))(h:Mn P n (if t then x else y) Q s M):Mn P n (.cond c x y) Q s M:=λG a w R=>by
  have:=Bg R.tmps c;rw[b]at this;exact wp_cond this.of_sc (h G a w R)
def OH (id:Nat)(Q:Ig):Ig
  |.exit a,s,M=>if a=id then Q .normal s M else Q (.exit a) s M
  |e,s,M=>Q e s M
theorem fF {id c}(h:Mn P n c (OH id Q) s M):Mn P n (.block id c) Q s M:=λG a w R=>
  wp_block (wp_mono (h G a w R) λe j k ⟨i,f,d,E,g,q⟩=>by
    cases e<;>try exact⟨i,f,d,E,g,q⟩
    case exit id'=>
      simp only[OH,Exit.inBlock]at q⊢;split;rename_i b;rw[if_pos b]at q;exact⟨i,f,d,E,g,q⟩
      rename_i b;rw[if_neg b]at q;exact⟨i,f,d,E,g,q⟩)
theorem Ae {c}(I:Nat->Sl->St->Prop)(m)(u:I m s M)(b:∀m s M,I m s M->Mn P n c (uP (λd M'=>∃f,f<m/\I f d M') Q) s M):Mn P n (.loop c) Q s M:=λG a w R=>by
  have g:∀k m,m<k->∀G s M a w,FK n G s M a w->I m s M->Code.rounds P c (EH n G M w Q) k a w:=by
    intro k;induction k with
    |zero=>intro m p;omega
    |succ k ih=>
     intro m p G s M a w R r;refine wp_mono (b m s M r G a w R) λe l t ⟨G',d,M',E,R',q⟩=>?_;cases e<;>try exact⟨G',d,M',E,R',q⟩
     case normal=>
       obtain⟨f,o,i⟩:=q;have:=ih f AA G' d M' l t R' i;refine Code.rounds_mono ?_ this;exact λe a w h=>h.ext E
  exact wp_loop_rounds (m+1) (g (m+1) m AA G s M a w R u)
  where
  Code.rounds_mono {c:Code} {Q Q':Exit->Act->World->Prop} (j:∀e a w,Q e a w->Q' e a w) {k:Nat} {a:Act} {w:World} (h:Code.rounds P c Q k a w):Code.rounds P c Q' k a w:=by
    induction k generalizing a w with
    |zero=>exact h
    |succ k ih=>exact wp_mono h λe a w q=>by cases e<;>first|exact ih q|exact j _ _ _ q
end rules
def Li (all:List Oper)(o:Oper)(s:Sl):Option Bool:=
  match o.guard with
  |none=>some true
  |some (j,a)=>match (all[j]?).bind (·.dst)with
   |some d=>match s d with
    |.held (.inl (.bool b))=>some (b==a)
    |.held (.inl (.tuple _))=>some false
    |_=>none
   |none=>none
theorem N5 {n G s M a w}(R:FK n G s M a w){all o b}(h:Li all o s=some b):Region.wanted o (yielded all.toArray a.tmps)=b:=by
  unfold Li at h;unfold Region.wanted;split at h;rename_i l;rw[l];simp at h;subst h;rfl;rename_i j f l;rw[l];split at h;rename_i d p;have g:((all.toArray)[j]?).bind (·.dst)=some d:=by simpa using p
  have i:=R.tmps d;split at h;rename_i t m;rw[m]at i;have c:=i.of_sc;have e:a.tmps[d]?=some (.bool t):=by
    rw[MC]at c;cases k:a.tmps[d]? with
    |none=>rw[k]at c;simp[undef]at c
    |some u=>rw[k]at c;simp at c;rw[c]
  simp only[yielded,g,FU,e];simp at h;rw[<-h];cases t<;>cases f<;>rfl;rename_i u m;rw[m]at i;have c:=i.of_sc;have e:yielded all.toArray a.tmps j=none:=by
    simp only[yielded,g,FU];rw[MC]at c;cases k:a.tmps[d]? with
    |none=>rfl
    |some u=>rw[k]at c;simp at c;rw[c]
  show (yielded all.toArray a.tmps j==some f)=b;rw[e];simp at h;subst h;rfl;cases h;cases h
def TJ (P:Program)(t g:TypeId)(x y:AV)(M:St)(K:AV->St->Prop):Prop:=
  ∃z b e f m d,P0 P t=some (z,b,e)/\y=sl f m d/\g=t/\0<z/\Z e=z/\Z d=m*z/\d.all flat=true/\0<m/\
   ((x=nilS/\m*b<=140737488355328/\m<=1099511627776/\∀a,m<=a->K (gx M.B m a) (M.new (d++(List.replicate (a-m) (e.map cst1)).flatten)))\/
    ∃o n a,x=gx o n a/\(n+m)*b<=140737488355328/\n+m<=1099511627776/\Z (M.C o)=a*z/\0<a/\
     (n+m<=a->K (gx o (n+m) a) (M.put o (lsp (M.C o) (n*z) d)))/\
     (a<n+m->∀c,n+m<=c->K (gx M.B (n+m) c) (M.new ((M.C o).take (n*z)++d++(List.replicate (c-(n+m)) (e.map cst1)).flatten))))
def Jx (P:Program)(t a:TypeId)(x y:AV)(M:St)(K:AV->St->Prop):Prop:=
  (match iK P t a x y M with
  |some (r,b)=>K r b
  |none=>False)\/TJ P t a x y M K
def DR (P:Program)(o:Oper)(s:Sl)(M:St)(K:AV->St->Prop):Prop:=
  match o.op with
  |.call {callee:=.value (.func f),args:=args,argTypes:=_}=>AF P f (args.toList.map (BR s)) M K
  |.call {callee:=.builtin .append,args:=args,argTypes:=ts}=>(match args.toList,ts.toList with
   |[x,y],[t,b]=>Jx P t b (BR s x) (BR s y) M K
   |_,_=>False)
  |op=>match aq P s M op with
   |some x=>K x M
   |none=>match al P s M op with
    |some (x,c)=>K x c
    |none=>False
theorem ZV {P G M w s}{a:Act}{K}(I:Inv G M w)(hs:∀t,VR G M w (a.tmps.getD t undef) (s t)){q ts o}(hop:o.op= .call {callee:=.builtin .append,args:=q,argTypes:=ts})
    {U T t A} (ha:q.toList=[U,T]) (hts:ts.toList=[t,A]) (h:TJ P t A (BR s U) (BR s T) M K):
    ∃x M' v w' G',(execOp a.eval o).run P w= .ok (.value v) w'/\Inv G' M' w'/\CH G M w G' M' w'/\VR G' M' w' v x/\K x M':=by
  obtain⟨q⟩:=q;obtain⟨ts⟩:=ts;simp only at ha hts;subst ha;subst hts;obtain⟨z,b,zc,id2,m,ys,ht,hy,rfl,c2,c3,c5,c6,c7,h⟩:=h;obtain⟨e,i,D,L,hi,hz,h1,h2,h3⟩:=Kv ht;have O:=Bg hs U;have hv2:=Bg hs T;rw[hy]at hv2;obtain⟨base2,B,e2,-,lie2,-⟩:=VR.of_sl hv2;have hys:ys≠[]:=λe=>by
    have:0<m*z:=KX c7 c2;rw[e]at c5;simp at c5;omega
  obtain⟨b2,o2,rfl,hl2⟩:=lie2 hys;obtain⟨c,C,hn2⟩:=hl2.list;have J:Z c=m*i.size:=by rw[C.1,c5,h1]
  have Y:=Zz C c6;have hzs:D.cells.size=z:=by
    have:Z D.cells.toList=Z zc:=by rw[h3]
    simp at this;omega
  have g:∀j u,c[j]?=some u->w.cell? ((⟨b2,o2,none⟩:Addr).add j)=some u:=λj u L=>by rw[Addr.add_lit];exact hn2 j u L
  have y:∀r,(Builtin.append_ #[A,A] o.type #[a.eval U,a.eval T]).run P w=r->(execOp a.eval o).run P w=r.andThen λv w'=>.ok (.value v) w':=λr hr=>by
    subst hr;simp only[execOp,hop,resolve,invoke,Go.builtin,Sem.run_bind,Sem.run_pure,Result.andThen_ok,List.map_toArray,CC,IK]
  have N:∀(G:Gh) (M:St) (w:World) (n:Nat),AP (VR G M w) (Builtin.zeroCells D.cells n).toList (List.replicate n (zc.map cst1)).flatten:=λG M w n=>by
    have e1:(Builtin.zeroCells D.cells n).toList=(List.replicate n zc).flatten:=by
      rw[<-h3];have:=Gc (z:=D.cells.toList) (n:=n);simpa[Builtin.zeroCells]using this
    rw[e1];refine AP.flatten_replicate ?_ n;have:=AP.of_map (R:=VR G M w) (λv:Value=>v) cst1 (λv=>VR.cst1 v) zc;simpa using this
  rcases h with⟨hx,c8,c9,hk⟩|⟨p,n,cap,hx,c8,c9,hlen,hn0,hk1,hk2⟩;rw[hx]at O;obtain⟨X,cap1,e1,⟨hcap1,id1⟩,-,-⟩:=VR.of_sl O;obtain⟨-,H⟩:=id1 rfl;subst H;have F:m<=grownCap w m 0 e:=grownCap_ge w m 0 e;obtain⟨I1,E1⟩:=I.drawn (w.drawn+1);have k:AP (VR G M {w with drawn:=w.drawn+1}) (c.toArray++Builtin.zeroCells D.cells (grownCap w m 0 e-m)).toList (ys++(List.replicate (grownCap w m 0 e-m) (zc.map cst1)).flatten):=by
    rw[Array.toList_append];exact (VR.all E1 C).append (N _ _ _ _)
  obtain⟨G',I',E,hb⟩:=I1.newObj _ e _ k;have l:(Builtin.append_ #[A,A] o.type #[a.eval U,a.eval T]).run P w= .ok (.slice (some ⟨w.heap.size,0,none⟩) m (grownCap w m 0 e)) (w.drew.alloc (.cells (c.toArray++Builtin.zeroCells D.cells (grownCap w m 0 e-m)) e)):=by
    rw[e1,e2];cases X with
    |none=>exact run_append_nil (P:=P) w A o.type e i D L hi hz ⟨b2,o2,none⟩ m B c J g c7 AA (by rw[h2];omega)
    |some ad=>
     have:=run_append_grow (P:=P) w A o.type e i D L hi hz ad 0 0 [] (by simp) (λj v hv=>by simp at hv) ⟨b2,o2,none⟩ m B c J g AA AA (growslice_fits AA (by rw[h2];simpa using c8));simpa using this
  exact⟨gx M.B m (grownCap w m 0 e),_,.slice (some ⟨w.heap.size,0,none⟩) m (grownCap w m 0 e),_,G',by rw[y _ l];rfl,I',E1.trans E,VR.fold ⟨by rw[hb],F,by simp[St.new]⟩,hk _ F⟩;rw[hx]at O;obtain⟨e1,H,ho⟩:=VR.of_gx O;have hlv:M.C p≠[]:=λe=>by
    have:0<cap*z:=KX AA c2;rw[e]at hlen;simp at hlen;omega
  obtain⟨⟨f,ecur,S,Q⟩,-⟩:=(I.C p ho).2.2 hlv;have hcs:f.size=cap*z:=by
    have:=Q.1;rw[hlen]at this;simpa using this
  by_cases d:n+m<=cap;have hfit:n*i.size+Z c<=f.size:=by
    rw[J,hcs,h1,<-FM];exact GW _ d
  have l:(Builtin.append_ #[A,A] o.type #[a.eval U,a.eval T]).run P w= .ok (.slice (some ⟨G.blk p,0,none⟩) (n+m) cap) (w.setRow (G.blk p) (f.toList.take (n*i.size)++c++f.toList.drop (n*i.size+Z c)).toArray):=by
    rw[e1,e2];exact Mf w A o.type e i L hi (G.blk p) n cap f ecur S ⟨b2,o2,none⟩ m B c J g Y d hfit
  have k:AP (VR G M w) (f.toList.take (n*i.size)++c++f.toList.drop (n*i.size+Z c)).toArray.toList (lsp (M.C p) (n*z) ys):=by
    have hle:n*z+Z ys<=Z (M.C p):=by
      rw[c5,hlen,<-FM];exact GW _ d
    rw[Hw _ _ _ hle,h1,<-C.1];exact ((Q.take _).append C).append (Q.drop _)
  obtain⟨I',E⟩:=I.setObj ho hlv _ _ k;exact⟨gx p (n+m) cap,_,.slice (some ⟨G.blk p,0,none⟩) (n+m) cap,_,G,by rw[y _ l];rfl,I',E,VR.fold ⟨rfl,d,ho⟩,hk1 d⟩;have hol:Z (f.toList.take (n*i.size))=n*i.size:=by
    rw[CN,Array.length_toList,hcs,h1];exact ER (GW _ H)
  have W:∀j u,(f.toList.take (n*i.size))[j]?=some u->w.cell? ((⟨G.blk p,0,none⟩:Addr).add j)=some u:=λj u L=>by
    rw[Addr.add_lit];rw[GF]at L;split at L;simp[World.cell?,S];simpa using L;cases L
  have F:n+m<=grownCap w (n+m) cap e:=grownCap_ge w (n+m) cap e;obtain⟨I1,E1⟩:=I.drawn (w.drawn+1);have k:AP (VR G M {w with drawn:=w.drawn+1}) ((f.toList.take (n*i.size)).toArray++c.toArray++Builtin.zeroCells D.cells (grownCap w (n+m) cap e-(n+m))).toList ((M.C p).take (n*z)++ys++(List.replicate (grownCap w (n+m) cap e-(n+m)) (zc.map cst1)).flatten):=by
    rw[Array.toList_append,Array.toList_append,h1];exact ((VR.all E1 (Q.take _)).append (VR.all E1 C)).append (N _ _ _ _)
  obtain⟨G',I',E,hb⟩:=I1.newObj _ e _ k;have l:(Builtin.append_ #[A,A] o.type #[a.eval U,a.eval T]).run P w= .ok (.slice (some ⟨w.heap.size,0,none⟩) (n+m) (grownCap w (n+m) cap e)) (w.drew.alloc (.cells ((f.toList.take (n*i.size)).toArray++c.toArray++Builtin.zeroCells D.cells (grownCap w (n+m) cap e-(n+m))) e)):=by
    rw[e1,e2];exact run_append_grow (P:=P) w A o.type e i D L hi hz ⟨G.blk p,0,none⟩ n cap _ hol W ⟨b2,o2,none⟩ m B c J g AA AA (growslice_fits AA (by rw[h2];exact c8))
  exact⟨gx M.B (n+m) (grownCap w (n+m) cap e),_,.slice (some ⟨w.heap.size,0,none⟩) (n+m) (grownCap w (n+m) cap e),_,G',by rw[y _ l];rfl,I',E1.trans E,VR.fold ⟨by rw[hb],F,by simp[St.new]⟩,hk2 AA _ F⟩
theorem qJ {P f}(h:Sg P f=true)(args w):(callFunc f args).run P w= .ok (.enter f args) w:=by
  unfold Sg at h;split at h;rename_i b e;simp at h;have d:¬(b.name= "runtime.NumGoroutine"):=h.1;cases a:b.body with
  |none=>simp[a]at h
  |some c=>simp[callFunc,e,d,a]
  cases h
theorem AP.map_eval {n G s M a w}(R:FK n G s M a w):∀l:List Operand,AP (VR G M w) (l.map a.eval) (l.map (BR s))
  |[]=>AP.nil _
  |x::l=>AP.cons (Bg R.tmps x) (AP.map_eval R l)
theorem oZ {P n G s M a w}(R:FK n G s M a w){o K}(h:DR P o s M K)(m:DF n o.dst=true)
    {next Q'} (p:∀G' M' x d v,CH G M w G' M' d->FK n G' (BC s o.dst x) M' (a.put o.dst v) d->K x M'->next (a.put o.dst v) d):o.wp P a w next Q':=by
  unfold DR at h;split at h;rename_i f b C i;obtain⟨D,l⟩:=h;have k:AP (VR G M w) (b.map a.eval).toList (b.toList.map (BR s)):=by
    simp only[Array.toList_map];exact AP.map_eval R b.toList
  have H:=l G w (b.map a.eval) R.inv k;have q:(execOp a.eval o).run P w= .ok (.enter f (b.map a.eval)) w:=by
    simp only[execOp,i,resolve,Act.eval,Deferred.ofValue,Sem.run_bind,Sem.run_pure,Result.andThen_ok,invoke,Array.append_empty,Array.empty_append,qJ D]
  unfold Oper.wp;rw[q,Oper.upon_enter];refine H.mono λe d ⟨v,G',x,M',I,j,E,g,y⟩=>?_;subst I;exact p G' M' x d v E (R.put E j g m) y;rename_i b C i;split at h
  case h_2=>exact h.elim
  rename_i J N t L A r;unfold Jx at h;rcases h with h|h;split at h
  case h_2=>exact h.elim
  rename_i x M' z;have u:al P s M o.op=some (x,M'):=by
    rw[i];simp only[al,A,r];exact z
  obtain⟨v,d,G',c,j,E,g⟩:=TI R.inv R.tmps u;unfold Oper.wp;rcases c with c|⟨c,hu⟩;rw[c,Oper.upon_value];exact p G' M' x d v E (R.put E j g m) h;rw[c,Oper.upon_skip];subst hu;exact p G' M' x d undef E (R.put E j g m) h;obtain⟨x,M',v,d,G',c,j,E,g,y⟩:=ZV R.inv R.tmps i A r h;unfold Oper.wp;rw[c,Oper.upon_value];exact p G' M' x d v E (R.put E j g m) y;split at h;rename_i x B;obtain⟨v,g,c⟩:=SX (F:=λ_=>True) R.inv R.tmps B (λ_ _=>trivial);unfold Oper.wp;rw[c w (Same.refl _ _ _ _),Oper.upon_value];exact p G M x w v (CH.refl _ _ _) (R.put (CH.refl _ _ _) R.inv g m) h;split at h;rename_i x M' z;obtain⟨v,d,G',c,j,E,g⟩:=TI R.inv R.tmps z;unfold Oper.wp;rcases c with c|⟨c,hu⟩;rw[c,Oper.upon_value];exact p G' M' x d v E (R.put E j g m) h;rw[c,Oper.upon_skip];subst hu;exact p G' M' x d undef E (R.put E j g m) h;exact h.elim
def NY (k:Sl->St->Prop)(s:Sl)(a:Option Tmp)(x:AV)(M':St):Prop:=k (BC s a x) M'
def gd (P:Program)(o:Oper)(s:Sl)(M:St)(k:Sl->St->Prop)(g:Option Bool):Prop:=
  match g with
  |none=>False
  |some b=>(b=true->DR P o s M (NY k s o.dst))/\(b=false->k (BC s o.dst (sc undef)) M)
theorem EC {P o s M k}:gd P o s M k (some true)=DR P o s M (NY k s o.dst):=by simp[gd]
theorem DG {P o s M k}:gd P o s M k (some false)=k (BC s o.dst (sc undef)) M:=by simp[gd]
theorem VO {P o s M k b}(a:b=true->gd P o s M k (some true))(h2:b=false->gd P o s M k (some false)):gd P o s M k (some b):=by
  cases b;exact h2 rfl;exact a rfl
def FS (P:Program)(n:Nat)(all:List Oper)(K:Sl->St->Prop):List Oper->Sl->St->Prop
  |[],s,M=>K s M
  |o::rest,s,M=>DF n o.dst=true/\gd P o s M (FS P n all K rest) (Li all o s)
theorem iL {P n all K}:∀(l:List Oper) (G:Gh) (s:Sl) (M:St) (a:Act) (w:World),FK n G s M a w->FS P n all K l s M->
    ∀{Q':Exit->Act->World->Prop},(∀G' i M' g d,CH G M w G' M' d->FK n G' i M' g d->K i M'->Q' .normal g d)->wpList P all.toArray Q' l a w
  |[],G,s,M,a,w,R,h,Q',e=>e G s M a w (CH.refl _ _ _) R h
  |o::rest,G,s,M,a,w,R,h,Q',e=>by
   unfold FS at h;obtain⟨j,c⟩:=h;cases f:Li all o s with
   |none=>rw[f]at c;exact c.elim
   |some b=>
    have:=N5 R f;rw[f]at c;unfold wpList;cases b with
    |false=>
     rw[this];exact iL rest G _ M _ w (R.put (CH.refl _ _ _) R.inv (VR.sc _) j) (c.2 rfl) e
    |true=>
     rw[if_pos this];refine .inl (oZ R (c.1 rfl) j λG' M' x d v E r q=>?_);exact iL rest G' _ M' _ d r q λk y p t m u=>e k y p t m (E.trans u)
theorem sU {P n Q s M id l}(h:FS P n l (Q .normal) l s M):Mn P n (.region id l.toArray false) Q s M:=λG a w R=>
  wp_region_list (by simpa using iL l G s M a w R h (Q':=EH n G M w Q) λe c b f g E d k=>⟨e,c,b,E,d,k⟩)
def EY (P:Program)(s:Sl)(M:St):ResultVar->Option AV
  |.tmp t=>some (s t)
  |.cell a t=>match J3 P t,behind M (s a)with
   |some (c,n),some b=>EB c n b
   |_,_=>none
def DU (P:Program)(s:Sl)(M:St):List ResultVar->Option oh
  |[]=>some []
  |r::rest=>match EY P s M r,DU P s M rest with
   |some x,some a=>some (x::a)
   |_,_=>none
def GV (P:Program)(rs:List ResultVar)(s:Sl)(M:St):Option AV:=
  match DU P s M rs with
  |some [x]=>some x
  |some a=>some (tp a)
  |none=>none
def OD (b:Array Value):ResultVar->Sem Value
  |.tmp t=>pure (b.getD t undef)
  |.cell a t=>do loadVar t (<-asAddr (b.getD a undef))
theorem qP (fn tmps):results fn tmps=(do let vs <-fn.results.mapM (OD tmps);pure (if h:vs.size=1 then vs[0]else .tuple vs)):=rfl
theorem oU {P n G s M a w}(R:FK n G s M a w):∀(rs:List ResultVar) (xs:oh),DU P s M rs=some xs->
    ∃vs:List Value,AP (VR G M w) vs xs/\(rs.mapM (OD a.tmps)).run P w=Result.ok vs w
  |[],xs,h=>by
   simp[DU]at h;subst h;exact⟨[],AP.nil _,by simp⟩
  |r::rest,xs,h=>by
   simp only[DU]at h;split at h
   case h_2=>cases h
   rename_i x d c j;cases h;obtain⟨vs,f,e⟩:=oU R rest d j;cases r with
   |tmp t=>
    simp[EY]at c;subst c;exact⟨_::vs,AP.cons (R.tmps t) f,by simp[List.mapM_cons,OD,e]⟩
   |cell b t=>
    simp only[EY]at c;split at c
    case h_2=>cases c
    rename_i A m z q u;obtain⟨g,p,B,y,l,o⟩:=fE (F:=λ_=>True) R.inv (R.tmps b) u (λ_ _=>trivial);obtain⟨v,k,i⟩:=oX (P:=P) l c q g p (C:=Same (λ_=>True) G M w) o;exact⟨v::vs,AP.cons k f,by simp[List.mapM_cons,OD,y,asAddr,i w (Same.refl _ _ _ _),e]⟩
theorem ZU {P n G s M a w}(R:FK n G s M a w)(fn){x}(h:GV P fn.results.toList s M=some x):
    ∃v,VR G M w v x/\(results fn a.tmps).run P w= .ok v w:=by
  unfold GV at h;have f:∀b:List Value,∀d:oh,DU P s M fn.results.toList=some d->∃b:List Value,AP (VR G M w) b d/\(results fn a.tmps).run P w= .ok (if h:b.toArray.size=1 then b.toArray[0]else .tuple b.toArray) w:=by
    intro _ d l;obtain⟨b,c,g⟩:=oU R _ d l;refine⟨b,c,?_⟩;rw[qP,Sem.run_bind,Array.mapM_eq_mapM_toList];simp only[Sem.run_map,g,Result.andThen_ok,Sem.run_pure]
  split at h;rename_i y i;cases h;obtain⟨b,c,g⟩:=f [] _ i
  match b,c with
  |[v],c=>exact⟨v,c.2 0 v x rfl rfl,by rw[g];simp⟩
  |[],c=>have:=c.1;simp at this
  |_::_::_,c=>have:=c.1;simp at this
  rename_i d j i;cases h;obtain⟨b,c,g⟩:=f [] _ i;have k:b.toArray.size≠1:=λe=>by
    have m:Z d=1:=by rw[<-c.1];simpa using e
    match d,m with
    |[y],_=>exact j y rfl
  exact⟨.tuple b.toArray,VR.fold ⟨_,rfl,by simpa using c⟩,by rw[g,dif_neg k]⟩;cases h
def AL (a:oh):Sl:=λt=>a.getD t (sc undef)
def MX (P:Program)(rs:List ResultVar)(R:AV->St->Prop):Ig
  |.normal,s,M=>∃x,GV P rs s M=some x/\R x M
  |.ret,s,M=>∃x,GV P rs s M=some x/\R x M
  |_,_,_=>False
theorem zP {P f d c b M R}(u:P.funcs[f]?=some d)(z:d.body=some c)(K:d.name≠ "runtime.NumGoroutine")
    (L:Z b<=d.ntmps) (h:Mn P d.ntmps c (MX P d.results.toList R) (AL b) M):AF P f b M R:=by
  refine⟨by simp[Sg,u,z,K],λG w a I A=>calls_of_wp u z ?_⟩;have D:a.size=Z b:=by have:=A.1;simpa using this
  have H:FK d.ntmps G (AL b) M {tmps:=a++Array.replicate (d.ntmps-a.size) undef,defers:=[]} w:=by
    refine⟨rfl,by simp;omega,λt=>?_,I⟩;simp only[AL];by_cases p:t<a.size;have n:(a++Array.replicate (d.ntmps-a.size) undef).getD t undef=a[t]:=by
      simp[MC,Array.getElem?_append_left p,p]
    have k:t<Z b:=AA;rw[n,List.getD_eq_getElem?_getD,AK k];exact A.2 t _ _ (by simp[p]) (AK k);have n:(a++Array.replicate (d.ntmps-a.size) undef).getD t undef=undef:=by
      rw[MC,Array.getElem?_append_right AA];by_cases s:t-a.size<d.ntmps-a.size;simp[s];simp[s]
    rw[n,List.getD_eq_getElem?_getD,FD AA];exact VR.sc _
  refine wp_mono (h G _ w H) λe r i ⟨l,F,g,E,m,q⟩=>?_;have o:(∃x,GV P d.results.toList F g=some x/\R x g)->r.defers=[]/\∃v,(results d r.tmps).run P i= .ok v i/\∃y l x g,Ending.returned v= .returned y/\Inv l g i/\CH G M w l g i/\VR l g i y x/\R x g:=λ⟨x,C,B⟩=>by
    obtain⟨v,J,j⟩:=ZU m d C;exact⟨m.defers,v,j,v,l,x,g,rfl,m.inv,E,J,B⟩
  cases e<;>first|exact o q|exact q.elim
theorem jv {P f b c a M R}(n rs)(j:P.funcs[f]?=some b)(g:b.body=some c)(k:b.name≠ "runtime.NumGoroutine")
    (e:b.ntmps=n) (d:b.results.toList=rs) (i:Z a<=n) (h:Mn P n c (MX P rs R) (AL a) M):AF P f a M R:=by
  subst e;subst d;exact zP j g k i h
theorem Zl {P n Q s M c x y t}(a:BR s c=sc (.bool t))(b:t=true->Mn P n x Q s M)(h2:t=false->Mn P n y Q s M):Mn P n (.cond c x y) Q s M:=by
  cases t with
  |true=>exact Sk a (b rfl)
  |false=>exact Sk a (h2 rfl)
section
variable {P:Program} {ops:Array Oper} {Q:Exit->Act->World->Prop} {S:World->Prop} {A:Nat->Bool}
def Ja (P:Program)(ops:Array Oper)(Q:Exit->Act->World->Prop)(S:World->Prop)(A:Nat->Bool):Nat->Array Bool->Act->World->Prop
  |0,b,a,w=>Region.ready .any ops b=[]/\Q .normal a w
  |c+1,b,a,w=>
   (Region.ready .any ops b=[]->Q .normal a w)/\
   ∀i∈Region.ready .any ops b,wpOp P ops Q i (λe d=>(A i=true->S d)/\Ja P ops Q S A c (b.setIfInBounds i true) e d) a w
theorem Px:∀(b:Nat) (c:Array Bool) (a:Act) (w:World),Ja P ops Q S A b c a w->wpAny P .any ops Q b c a w
  |0,_,_,_,h=>h
  |b+1,_,_,_,h=>⟨h.1,λi g=>wpOp_mono (λd e f=>Px b _ d e f.2) (h.2 i g)⟩
theorem Qz {i C v}{D:Nat->Bool}(hi:ops[i]?=some C)(y:∀(j:Nat) (o:Oper) cs b,ops[j]?=some o->o.op≠.select cs b)
    (hQ:∀c a w,Q (.panic c) (a.put C.dst v) w->Q (.panic c) a w)
    (hD:∀k ok,ops[k]?=some ok->D k=true->∃e∈ok.after,Region.binds .any e=true/\(e.on=i\/D e.on=true)):
    ∀(g:Nat) (d:Array Bool) (a:Act) (w:World),
     (∀k,D k=true->d.getD k false=false)->(∀j,j≠i->d.getD j true=false->D j=false->A j=true)->
     (∀j x,ops[j]?=some x->j≠i->d.getD j true=false->(∀e∈x.after,Region.binds .any e=true->e.on≠i)->C.apart ops x=true)->
     i∈Region.ready .any ops d->YieldsIf P ops S C v a->S w->
     Ja P ops Q S A g (d.setIfInBounds i true) (a.put C.dst v) w->Ja P ops Q S A (g+1) d a w:=by
  intro g;induction g with
  |zero=>
   intro d a w _ _ _ z R F H;refine⟨λh=>(by rw[h]at z;cases z),λj O=>?_⟩;by_cases f:j=i;subst f;exact R.wpOp hi F ⟨λ_=>F,H⟩;have:=ready_mono O f;rw[H.1]at this;cases this
  |succ g ih=>
   intro d a w K hA p z R F H;refine⟨λh=>(by rw[h]at z;cases z),λj O=>?_⟩;by_cases f:j=i;subst f;exact R.wpOp hi F ⟨λ_=>F,H⟩;have N:=H.2 j (ready_mono O f);obtain⟨m,x,r,t⟩:=mem_ready.1 O;have u:d.getD i false=false:=by
     have X:=(mem_ready.1 z).1;rcases FT i d.size with T|T;simp[T]at X⊢;exact X;simp[JD T]at X
   have G:∀e∈x.after,Region.binds .any e=true->e.on≠i:=λe he hb W=>by
     have N:=t e he hb;rw[W,u]at N;cases N
   have L:D j=false:=by
     cases Y:D j with
     |false=>rfl
     |true=>
      obtain⟨e,he,hb,q⟩:=hD j x r Y;have E:=t e he hb;rcases q with q|q;rw[q,u]at E;cases E;rw[K _ q]at E;cases E
   have E:=wpOp_putIf r (p j x r f m G) (λcs b=>y i C cs b hi) (λcs b=>y j x cs b r) hQ R N
   have s:∀k ok,ops[k]?=some ok->k≠i->(d.setIfInBounds j true).getD k true=false->
       (∀e∈ok.after,Region.binds .any e=true->e.on≠i)->C.apart ops ok=true:=λk ok I B n U=>by
     refine p k ok I B ?_ U;by_cases l:j=k;subst l;exact m;rw[getD_set_ne true l]at n;exact n
   have V:∀k,k≠i->(d.setIfInBounds j true).getD k true=false->D k=false->A k=true:=λk B n Y=>by
     refine hA k B ?_ Y;by_cases l:j=k;subst l;exact m;rw[getD_set_ne true l]at n;exact n
   have M:∀k,D k=true->(d.setIfInBounds j true).getD k false=false:=λk I=>by
     have l:j≠k:=λe=>by subst e;rw[L]at I;cases I
     rw[getD_set_ne false l];exact K k I
   have J:A j=true:=hA j f m L;refine wpOp_mono (λa' w' q=>⟨λ_=>q.2.1 J,ih (d.setIfInBounds j true) a' w' M V s (ready_mono z (Ne.symm f)) q.1 (q.2.1 J) ?_⟩) E;rw[Array.setIfInBounds_comm _ _ f];exact q.2.2
end
section
variable {P:Program} {n:Nat} {Q:Ig} {F:Nat->Prop} {A:Nat->Bool} {σ0:St} {all:List Oper}
def tC (P:Program)(n:Nat)(all:List Oper)(Q:Ig)(F:Nat->Prop)(A:Nat->Bool)(σ0:St)(c:Nat)(b:Array Bool)(s:Sl):Prop:=
  ∀G a w,FK n G s σ0 a w->Ja P all.toArray (EH n G σ0 w Q) (Same F G σ0 w) A c b a w
def Qs (P:Program)(n:Nat)(all:List Oper)(Q:Ig)(F:Nat->Prop)(A:Nat->Bool)(σ0:St)(c:Nat)(b:Array Bool)(s:Sl)(M:St):Prop:=
  ∀d e G a w,CH d σ0 e G M w->FK n G s M a w->Ja P all.toArray (EH n d σ0 e Q) (Same F d σ0 e) A c b a w
theorem Ra {c b s}(h:Qs P n all Q F A σ0 c b s σ0):tC P n all Q F A σ0 c b s:=
  λG a w R=>h G w G a w (CH.refl _ _ _) R
theorem Aw {b s M c}(e:Region.ready .any all.toArray b=[])(h:Q .normal s M):Qs P n all Q F A σ0 c b s M:=λg f G a w E R=>by
  have d:EH n g σ0 f Q .normal a w:=⟨G,s,M,E,R,h⟩;cases c with
  |zero=>exact⟨e,d⟩
  |succ c=>exact⟨λ_=>d,by rw[e];simp⟩
def FR (P:Program)(n:Nat)(all:List Oper)(i:Nat)(s:Sl)(M:St)(K:Sl->St->Prop):Prop:=
  match all[i]? with
  |none=>False
  |some o=>DF n o.dst=true/\gd P o s M K (Li all o s)
def Kept (A:Nat->Bool)(F:Nat->Prop)(σ0:St)(i:Nat)(M':St):Prop:=A i=true->∀o,o<σ0.B->F o->M'.ver o=σ0.ver o
def PR (A:Nat->Bool)(F:Nat->Prop)(σ0:St)(i:Nat)(k:Sl->St->Prop)(s:Sl)(M:St):Prop:=Kept A F σ0 i M/\k s M
theorem D8 {rs e c s M}(C:Region.ready .any all.toArray c=rs)(z:rs≠[])
    (h:∀i∈rs,FR P n all i s M λI M'=>Kept A F σ0 i M'/\Qs P n all Q F A σ0 e (c.setIfInBounds i true) I M'):Qs P n all Q F A σ0 (e+1) c s M:=λu m G a w E R=>by
  refine⟨λL=>absurd (C ▸ L) z,λi N=>?_⟩;have r:=h i (C ▸ N);unfold FR at r;split at r;exact r.elim;rename_i o t;have B:all.toArray[i]?=some o:=by simpa using t
  obtain⟨H,j⟩:=r;have d:∀l M' f,CH u σ0 m l M' f->Kept A F σ0 i M'->A i=true->Same F u σ0 m f:=λl M' f g q k=>
    ⟨λb o p=>(g.per b o p).2,λo t J=>(g.ver o t).2 (q k o t J)⟩
  unfold wpOp;simp only[B];cases y:Li all o s with
  |none=>rw[y]at j;exact j.elim
  |some b=>
   rw[y]at j;cases b with
   |false=>
    rw[N5 R y];simp only[EI,if_false];have D:=j.2 rfl;exact⟨λk=>d G M w E D.1 k,D.2 u m G _ w E (R.put (CH.refl _ _ _) R.inv (VR.sc _) H)⟩
   |true=>
    rw[if_pos (N5 R y)];refine .inl (oZ R (j.1 rfl) H λl M' x f v g K q=>?_);exact⟨λk=>d l M' f (E.trans g) q.1 k,q.2 u m l _ f (E.trans g) K⟩
theorem Ai {i b a s M}(d:Region.ready .any all.toArray a=[i])
    (h:FR P n all i s M λe M'=>Kept A F σ0 i M'/\Qs P n all Q F A σ0 b (a.setIfInBounds i true) e M'):Qs P n all Q F A σ0 (b+1) a s M:=
  D8 d (by simp) λj c=>by simp at c;subst c;exact h
def desc (ops:List Oper)(i:Nat):Array Bool:=
  ops.foldl (λa o=>a.push (o.after.any λe=>Region.binds .any e&&(e.on==i||a.getD e.on false))) #[]
def lc (ops:List Oper)(D:Array Bool)(i:Nat):Bool:=
  (List.range D.size).all λk=>!D.getD k false||match ops[k]? with
    |some o=>o.after.any λe=>Region.binds .any e&&(e.on==i||D.getD e.on false)
    |none=>true
def tB (ops:List Oper)(A:Nat->Bool)(a:Array Bool)(i:Nat):Bool:=
  (Region.ready .any ops.toArray a).contains i&&Region.free .any ops.toArray a i&&lc ops (desc ops i) i&&
  (List.range (desc ops i).size).all (λk=>!(desc ops i).getD k false||!a.getD k false)&&
  (List.range a.size).all (λj=>j==i||a.getD j true||(desc ops i).getD j false||A j)
def gt (P:Program)(o:Oper)(s:Sl)(F:Nat->Prop)(σ0:St)(k:Sl->Prop)(g:Option Bool):Prop:=
  match g with
  |none=>False
  |some b=>(b=true->match aq P s σ0 o.op with
      |some x=>(∀p,LZ s o.op=some p->F p)/\k (BC s o.dst x)
      |none=>False)/\(b=false->k (BC s o.dst (sc undef)))
theorem ED {P o s F σ0 k}:gt P o s F σ0 k (some true)=(match aq P s σ0 o.op with
      |some x=>(∀p,LZ s o.op=some p->F p)/\k (BC s o.dst x)
      |none=>False):=by simp[gt]
theorem DI {P o s F σ0 k}:gt P o s F σ0 k (some false)=k (BC s o.dst (sc undef)):=by simp[gt]
theorem VN {P o s F σ0 k b}(a:b=true->gt P o s F σ0 k (some true))(h2:b=false->gt P o s F σ0 k (some false)):gt P o s F σ0 k (some b):=by
  cases b;exact h2 rfl;exact a rfl
def LX (P:Program)(n:Nat)(all:List Oper)(F:Nat->Prop)(σ0:St)(i:Nat)(s:Sl)(K:Sl->Prop):Prop:=
  match all[i]? with
  |none=>False
  |some o=>DF n o.dst=true/\gt P o s F σ0 K (Li all o s)
theorem dC {i f d s}(X:Region.noSelect all.toArray=true)(J:tB all A d i=true)(hp:∀c s M,¬Q (.panic c) s M)
    (h:LX P n all F σ0 i s λT=>tC P n all Q F A σ0 f (d.setIfInBounds i true) T):tC P n all Q F A σ0 (f+1) d s:=λG a w R=>by
  unfold LX at h;split at h;exact h.elim;rename_i o ho;have t:all.toArray[i]?=some o:=by simpa using ho
  obtain⟨p,r⟩:=h;simp only[tB,BM]at J;obtain⟨⟨⟨⟨b1,U⟩,Y⟩,b4⟩,V⟩:=J;have W:∀k ok,all.toArray[k]?=some ok->(desc all i).getD k false=true->∃e∈ok.after,Region.binds .any e=true/\(e.on=i\/(desc all i).getD e.on false=true):=λk ok u p=>by
    have m:k<(desc all i).size:=by
      rcases FT k (desc all i).size with g|g;exact g;simp[JD g]at p
    have:=CX.1 Y k (by simpa using m);rw[p]at this;have B:all[k]?=some ok:=by simpa using u
    simp only[B,IY,MA]at this;obtain⟨e,he,l⟩:=Array.any_eq_true'.1 this;simp at l;exact⟨e,he,l.1,l.2.imp id (λh=>by simpa using h)⟩
  have C:∀k,(desc all i).getD k false=true->d.getD k false=false:=λk u=>by
    have m:k<(desc all i).size:=by
      rcases FT k (desc all i).size with g|g;exact g;simp[JD g]at u
    have:=CX.1 b4 k (by simpa using m);rw[u]at this;simpa using this
  have hA:∀j,j≠i->d.getD j true=false->(desc all i).getD j false=false->A j=true:=λj hj K p=>by
    have I:j<d.size:=by
      rcases FT j d.size with g|g;exact g;simp[JD g]at K
    have:=CX.1 V j (by simpa using I);rw[K,p]at this;simpa[hj]using this
  have hQ:∀v c z E,EH n G σ0 w Q (.panic c) (Act.put z o.dst v) E->EH n G σ0 w Q (.panic c) z E:=λv c z E ⟨_,_,_,_,_,q⟩=>(hp _ _ _ q).elim;have L:∀v x,YieldsIf P all.toArray (Same F G σ0 w) o v a->VR G σ0 w v x->tC P n all Q F A σ0 f (d.setIfInBounds i true) (BC s o.dst x)->Ja P all.toArray (EH n G σ0 w Q) (Same F G σ0 w) A (f+1) d a w:=λv x hy H N=>
    Qz (D:=λk=>(desc all i).getD k false) t (Region.noSelect_spec X) (hQ v) W f d a w C hA (Region.free_spec t U) (by simpa using b1) hy (Same.refl _ _ _ _)
      (N G _ w (R.put (CH.refl _ _ _) R.inv H p))
  cases y:Li all o s with
  |none=>rw[y]at r;exact r.elim
  |some b=>
   rw[y]at r;cases b with
   |false=>exact L undef (sc undef) (.inr ⟨N5 R y,rfl⟩) (VR.sc _) (r.2 rfl)
   |true=>
    have l:=r.1 rfl;split at l;rename_i x S;obtain⟨v,H,O⟩:=SX R.inv R.tmps S l.1;exact L v x (.inl ⟨N5 R y,O⟩) H l.2;exact l.elim
def aT (P:Program)(n:Nat)(all:List Oper)(F:Nat->Prop)(σ0:St)(K:Sl->Prop):List Nat->Sl->Prop
  |[],s=>K s
  |i::rest,s=>LX P n all F σ0 i s (aT P n all F σ0 K rest)
def aU (P:Program)(n:Nat)(all:List Oper)(A:Nat->Bool)(F:Nat->Prop)(σ0:St)(K:Sl->St->Prop):List Nat->Sl->St->Prop
  |[],s,M=>K s M
  |i::rest,s,M=>FR P n all i s M (PR A F σ0 i (aU P n all A F σ0 K rest))
def OB (ops:List Oper):List Nat->Array Bool->Bool
  |[],a=>(Region.ready .any ops.toArray a).isEmpty
  |i::rest,a=>(match Region.ready .any ops.toArray a with|[j]=>j==i|_=>false)&&OB ops rest (a.setIfInBounds i true)
def OA (ops:List Oper)(A:Nat->Bool)(b:List Nat):List Nat->Array Bool->Bool
  |[],a=>OB ops b a
  |i::rest,a=>tB ops A a i&&OA ops A b rest (a.setIfInBounds i true)
def OS (ops:List Oper)(a c b:List Nat):Bool:=
  Region.noSelect ops.toArray&&Z c+Z b==Z ops&&OA ops (λj=>!a.contains j) b c (Array.replicate (Z ops) false)
theorem pT:∀(p:List Nat) (a:Array Bool) (s:Sl) (M:St),OB all p a=true->aU P n all A F σ0 (Q .normal) p s M->Qs P n all Q F A σ0 (Z p) a s M
  |[],a,s,M,f,h=>Aw (by simpa[OB]using f) h
  |i::rest,a,s,M,f,h=>by
   simp only[OB,BM]at f;have v:Region.ready .any all.toArray a=[i]:=by
     have:=f.1;split at this;rename_i j I;simp at this;rw[I,this];cases this
   refine Ai v ?_;unfold aU at h;unfold FR at h⊢;split at h;exact h.elim;rename_i o L;refine⟨h.1,?_⟩;have h2:=h.2;cases r:Li all o s with
   |none=>rw[r]at h2;exact h2.elim
   |some b=>
    rw[r]at h2;exact⟨λe=>aStep_mono (h2.1 e) λx M' d=>⟨d.1,pT rest _ _ _ f.2 d.2⟩,λe=>⟨(h2.2 e).1,pT rest _ _ _ f.2 (h2.2 e).2⟩⟩
  where
  aStep_mono {P:Program} {o:Oper} {s:Sl} {M:St} {K q:AV->St->Prop} (h:DR P o s M K) (d:∀x M',K x M'->q x M'):DR P o s M q:=by
    unfold DR at*
    split at h;exact h.mono d;split at h
    case h_2=>exact h.elim
    unfold Jx at*
    rcases h with h|h;left;split at h;exact d _ _ h;exact h.elim;right;obtain⟨z,b,y,l,m,t,D,h2,C,J,u,H,E,G,h⟩:=h;refine⟨z,b,y,l,m,t,D,h2,C,J,u,H,E,G,?_⟩;rcases h with⟨e,g,g2,h⟩|⟨o,n,cap,e,g,g2,g3,g4,g5,g6⟩;exact .inl ⟨e,g,g2,λc k=>d _ _ (h c k)⟩;exact .inr ⟨o,n,cap,e,g,g2,g3,g4,λc=>d _ _ (g5 c),λc B k=>d _ _ (g6 c B k)⟩;split at h;exact d _ _ h;split at h;exact d _ _ h;exact h.elim
theorem fO (l:Region.noSelect all.toArray=true)(k:∀c s M,¬Q (.panic c) s M)(us):∀(j:List Nat) (a:Array Bool) (s:Sl),OA all A us j a=true->
    aT P n all F σ0 (λp=>aU P n all A F σ0 (Q .normal) us p σ0) j s->tC P n all Q F A σ0 (Z j+Z us) a s
  |[],a,s,d,h=>by
   simp only[CQ,DY];exact Ra (pT us a s σ0 d h)
  |i::rest,a,s,d,h=>by
   simp only[OA,BM]at d;have:Z (i::rest)+Z us=(Z rest+Z us)+1:=by simp;omega
   rw[this];refine dC l d.1 k ?_;unfold aT at h;unfold LX at h⊢;split at h;exact h.elim;rename_i o q;refine⟨h.1,?_⟩;have f:=h.2;cases m:Li all o s with
   |none=>rw[m]at f;exact f.elim
   |some b=>
    rw[m]at f;refine⟨λe=>?_,λe=>fO l k us rest _ _ d.2 (f.2 e)⟩;have g:=f.1 e;split at g;exact⟨g.1,fO l k us rest _ _ d.2 g.2⟩;exact g.elim
theorem EZ {s M id l}(D:P.follows .mixedOrders=true)(F lasts ts us)(B:OS l lasts ts us=true)(W:∀c s M,¬Q (.panic c) s M)
    (h:aT P n l F M (λH=>aU P n l (λj=>!lasts.contains j) F M (Q .normal) us H M) ts s):Mn P n (.region id l.toArray true) Q s M:=λG a w R=>by
  simp only[OS,BM]at B;obtain⟨⟨Y,J⟩,N⟩:=B;obtain⟨X,E⟩:=R.inv.drawn (w.drawn+1);have R':FK n G s M a {w with drawn:=w.drawn+1}:=⟨R.defers,R.size,λt=>(R.tmps t).ext E,X⟩;have:=fO Y W us ts _ s N h G a _ R';have T:Z ts+Z us=l.toArray.size:=by simpa using J
  rw[T]at this;refine wp_region_any D (Px (S:=Same F G M {w with drawn:=w.drawn+1}) (A:=λj=>!lasts.contains j) _ _ _ _ ?_);simp only[List.size_toArray]at this⊢;exact wpAnyG_mono (λe a w q=>q.ext E) _ _ _ _ this
  where
  wpAnyG_mono {P:Program} {ops:Array Oper} {Q Q':Exit->Act->World->Prop} {S:World->Prop} {A:Nat->Bool} (g:∀e a w,Q e a w->Q' e a w):∀(d:Nat) (b:Array Bool) (a:Act) (w:World),Ja P ops Q S A d b a w->Ja P ops Q' S A d b a w
    |0,_,_,_,h=>⟨h.1,g _ _ _ h.2⟩
    |d+1,b,a,w,h=>⟨λU=>g _ _ _ (h.1 U),λi V=>wpOp_mono_q (λC u y=>⟨y.1,wpAnyG_mono g d _ C u y.2⟩) g (h.2 i V)⟩
  wpOp_mono_q {P:Program} {ops:Array Oper} {Q Q':Exit->Act->World->Prop} {i:Nat} {a:Act} {w:World} {K z:Act->World->Prop} (m:∀a w,K a w->z a w) (g:∀e a w,Q e a w->Q' e a w) (h:wpOp P ops Q i K a w):wpOp P ops Q' i z a w:=by
    unfold wpOp at*
    split;exact m _ _ (by simpa[*]using h);rename_i o O;simp only[O]at h;have f:LetsOut Q->LetsOut Q':=λ⟨a,w,q⟩=>⟨a,w,g _ _ _ q⟩;split;rename_i v;simp only[v,if_true]at h;rcases h with h|h;refine .inl ?_;unfold Oper.wp at*
    generalize (execOp a.eval o).run P w=r at*
    cases r with
    |ok I u=>
     cases I<;>simp only[Oper.upon]at h⊢ <;>
       first
         |exact m _ _ h
         |exact Calls.mono h (λe L p=>by cases e<;>first|exact m _ _ p|exact g _ _ _ p|exact f p)
         |exact Rows.mono h (λ_ _ p=>m _ _ p)
    |halt x u=>cases x<;>simp only[Oper.upon]at h⊢ <;>exact g _ _ _ h
    exact .inr ⟨h.1,f h.2⟩;rename_i v;simp only[v]at h;exact m _ _ h
end
theorem i64w {n}(a: -9223372036854775808<=n)(h2:n<=9223372036854775807):IntKind.i64.wrap n=n:=Go.IntWalk.i64_in n ⟨a,h2⟩
theorem u8w {n}(a:0<=n)(h2:n<=255):IntKind.u8.wrap n=n:=Go.IntWalk.u8_in n ⟨a,h2⟩
theorem TU {α:Sort _}{c:Prop}{_:Decidable c}{a b:α}(h:c):(if c then a else b)=a:=if_pos h
def bs (l:List UInt8):ByteArray:=⟨l.toArray⟩
abbrev str (l:List UInt8):AV:=sc (.string (bs l))
theorem O5 (l):(bs l).size=Z l:=by simp[bs,ByteArray.size]
theorem SB (l)(i:Nat):(bs l)[i]?=l[i]?:=by
  by_cases h:i<Z l;have a:i<(bs l).size:=by rw[O5];exact h
  rw[getElem?_pos (bs l) i a,AK h];rfl;have a:¬i<(bs l).size:=by rw[O5];exact h
  rw[getElem?_neg (bs l) i a,FD AA]
theorem fC (l):(bs l).toList=l:=by unfold bs;exact ByteArray.toList_mk l
theorem Zg (l i j):(bs l).extract i j=bs ((l.drop i).take (j-i)):=by unfold bs;exact ByteArray.extract_mk l i j
theorem fD (l m):bs l++bs m=bs (l++m):=by unfold bs;exact ByteArray.mk_append_mk l m
theorem lg (b):b=bs b.data.toList:=by
  cases b;simp[bs]
theorem SA:(⟨#[]⟩:ByteArray)=bs []:=rfl
def EL {α:Type}(E:α->oh->Prop):List α->oh->Prop
  |[],b=>b=[]
  |a::l,b=>∃c d,E a c/\EL E l d/\b=c++d
section
variable {α:Type} {E:α->oh->Prop} {z:Nat}
theorem EL.length (b:∀a c,E a c->Z c=z):∀{l:List α} {cs:oh},EL E l cs->Z cs=Z l*z
  |[],cs,h=>by simp[EL]at h;simp[h]
  |a::l,cs,⟨c,d,f,g,e⟩=>by rw[e,AX,b a c f,EL.length b g,BQ,If];omega
theorem EL.append:∀{l m:List α} {cs b:oh},EL E l cs->EL E m b->EL E (l++m) (cs++b)
  |[],m,cs,b,h,f=>by simp[EL]at h;subst h;exact f
  |a::l,m,cs,b,⟨c,d,g,i,e⟩,f=>⟨c,d++b,g,EL.append i f,by rw[e,CR]⟩
theorem EL.single {a c}(h:E a c):EL E [a] c:=⟨c,[],h,rfl,by simp⟩
theorem EL.get (k:∀a c,E a c->Z c=z):∀{l:List α} {cs:oh} {i:Nat} {a:α},EL E l cs->l[i]?=some a->∃c r,E a c/\cs.drop (i*z)=c++r
  |[],cs,i,a,h,f=>by simp at f
  |b::l,cs,0,a,⟨c,d,g,j,e⟩,f=>by simp at f;subst f;exact⟨c,d,g,by simp[e]⟩
  |b::l,cs,i+1,a,⟨c,d,g,j,e⟩,f=>by
   obtain⟨m,r,o,n⟩:=EL.get k j (i:=i) (by simpa using f);refine⟨m,r,o,?_⟩;rw[<-n,e,show (i+1)*z=Z c+i*z by rw[k b c g,If];omega,List.drop_append,JU AA,Nat.add_sub_cancel_left];rfl
theorem EL.mono {b}(h:∀a c,E a c->b a c):∀{l:List α} {cs:oh},EL E l cs->EL b l cs
  |[],cs,g=>g
  |a::l,cs,⟨c,d,f,i,e⟩=>⟨c,d,h a c f,EL.mono h i,e⟩
theorem EL.flat (b:∀a c,E a c->c.all flat=true):∀{l:List α} {cs:oh},EL E l cs->cs.all flat=true
  |[],cs,h=>by simp[EL]at h;simp[h]
  |a::l,cs,⟨c,d,g,f,e⟩=>by rw[e,List.all_append,b a c g,EL.flat b f];rfl
end
def E1 {α:Type}(f:α->AV)(a:α)(c:oh):Prop:=c=[f a]
structure AD (M M':St):Prop where
  B:M.B<=M'.B
  C:∀o,o<M.B->M'.C o=M.C o
  ver:∀o,o<M.B->M'.ver o=M.ver o
  D:M.D<=M'.D
  top:∀k,k<M.D->M'.top k=M.top k
theorem AD.refl (M):AD M M:=⟨AU _,λ_ _=>rfl,λ_ _=>rfl,AU _,λ_ _=>rfl⟩
theorem AD.trans {a b c}(h:AD a b)(k:AD b c):AD a c:=
  ⟨BI h.B k.B,λo d=>(k.C o (BZ d h.B)).trans (h.C o d),λo d=>(k.ver o (BZ d h.B)).trans (h.ver o d),
   BI h.D k.D,λo d=>(k.top o (BZ d h.D)).trans (h.top o d)⟩
theorem AD.new {a b}(h:AD a b)(cs):AD a (b.new cs):=by
  have:=h.B;exact⟨by simp[St.new];omega,λo c=>by simp[St.new];rw[if_neg AA];exact h.C o c,h.ver,h.D,h.top⟩
theorem AD.put {a b}(h:AD a b){o}(d:a.B<=o)(cs):AD a (b.put o cs):=
  ⟨h.B,λp c=>by simp[St.put];rw[if_neg AA];exact h.C p c,λp c=>by simp[St.put];rw[if_neg AA];exact h.ver p c,h.D,h.top⟩
theorem AD.lay {a b}(h:AD a b)(n):AD a (b.lay n):=by
  have:=h.D;exact⟨h.B,h.C,h.ver,by simp[St.lay];omega,λk c=>by simp[St.lay];rw[if_neg AA];exact h.top k c⟩
theorem AD.raise {a b}(h:AD a b){k}(d:a.D<=k)(n):AD a (b.raise k n):=
  ⟨h.B,h.C,h.ver,h.D,λj c=>by simp[St.raise];rw[if_neg AA];exact h.top j c⟩
theorem Ao {M:St}{cs}:(M.new cs).C M.B=cs:=by simp[St.new]
theorem Be {M:St}{cs o}(a:o<=M.B)(h2:M.B<=o):(M.new cs).C o=cs:=by simp[St.new];intro h;omega
theorem Ah {M:St}{cs o}(h:o<M.B):(M.new cs).C o=M.C o:=by simp[St.new];intro e;omega
theorem Aa {M:St}{cs}:(M.new cs).B=M.B+1:=rfl
theorem vI {M:St}{cs}:(M.new cs).top=M.top:=rfl
theorem mV {M:St}{cs}:(M.new cs).D=M.D:=rfl
theorem Ak {M:St}{cs o}:(M.put o cs).C o=cs:=by simp[St.put]
theorem Aj {M:St}{cs o p}(h:p<o):(M.put o cs).C p=M.C p:=by simp[St.put];intro e;omega
theorem Oh {M:St}{cs o p}(h:o<p):(M.put o cs).C p=M.C p:=by simp[St.put];intro e;omega
theorem Ac {M:St}{cs o}:(M.put o cs).B=M.B:=rfl
theorem Og {M:St}{cs o}:(M.put o cs).top=M.top:=rfl
theorem Nc {M:St}{cs o}:(M.put o cs).D=M.D:=rfl
theorem H6 {M:St}{n}:(M.lay n).C=M.C:=rfl
theorem Az {M:St}{n}:(M.lay n).B=M.B:=rfl
theorem La {M:St}{n}:(M.lay n).D=M.D+1:=rfl
def Own (σ0 M:St)(id n:Nat):Prop:=(id=1/\n=0)\/∃k,id=k+2/\σ0.D<=k/\k<M.D/\M.top k=n/\0<n
theorem Own.nil (σ0 M):Own σ0 M 1 0:=.inl ⟨rfl,rfl⟩
theorem Own.keep {σ0 M M' id n}(h:Own σ0 M id n)(k:AD M M'):Own σ0 M' id n:=by
  rcases h with h|⟨j,h1,h2,h3,h4,h5⟩;exact .inl h;exact .inr ⟨j,h1,h2,BZ h3 k.D,(k.top j h3).trans h4,h5⟩
theorem Own.made {σ0 M}(h:AD σ0 M){n}(a:0<n):Own σ0 (M.lay n) (M.D+2) n:=
  .inr ⟨M.D,rfl,h.D,by simp[St.lay],by simp[St.lay],a⟩
theorem Own.new {σ0 M id n}(h:Own σ0 M id n)(cs):Own σ0 (M.new cs) id n:=h
theorem Own.put {σ0 M id n}(h:Own σ0 M id n)(p cs):Own σ0 (M.put p cs) id n:=h
theorem Bo {P t z b l σ0 M id f n m a xs c K}(q:P0 P t=some (z,b,l))(d:AD σ0 M)(v:Own σ0 M id n)
    (x:0<z) (e:Z l=z) (i:Z xs=n*z) (p:Z c=m*z) (s:c.all flat=true) (j:0<m) (u:(n+m)*b<=140737488355328) (o:n+m<=1099511627776)
    (h:∀id' M',Own σ0 M' id' (n+m)->AD σ0 M'->M'.C=M.C->M'.B=M.B->M'.ver=M.ver->M.D<M'.D->K (sl id' (n+m) (xs++c)) M'):Jx P t t (sl id n xs) (sl f m c) (M.lay a) K:=by
  unfold Jx iK;left;simp only[q];rw[if_pos ⟨trivial,x,e,i,p,s,j,u,o⟩];rcases v with⟨rfl,rfl⟩|⟨k,rfl,h2,h3,h4,h5⟩;have g:xs=[]:=GG (by simpa using i);subst g;have:=h ((M.lay a).D+2) ((M.lay a).lay m) (by rw[DY];exact Own.made (d.lay a) j) ((d.lay a).lay m) rfl rfl rfl (by simp[St.lay];omega);simpa using this;have r:(M.lay a).top k=n:=by simp[St.lay];rw[if_neg AA];exact h4
  simp only;rw[if_pos ⟨r,h5⟩];exact h (k+2) _ (.inr ⟨k,rfl,h2,by simp[St.raise,St.lay];omega,by simp[St.raise],AA⟩) ((d.lay a).raise h2 _) rfl rfl rfl (by simp[St.raise,St.lay])
theorem ml {P t a y M K}(h:Jx P t a nilS y M K):Jx P t a nilS y M K:=h
theorem WS {P t z b e M d m a K}(j:P0 P t=some (z,b,e))(c:Z e=z)
    (n:0<z) (i:Z a=m*z) (k:a.all flat=true) (g:0<m) (l:m*b<=140737488355328) (f:m<=1099511627776)
    (h:K (sl (M.D+2) m a) (M.lay m)):Jx P t t nilS (sl d m a) M K:=by
  unfold Jx iK;left;simp only[j];rw[if_pos ⟨trivial,n,c,by simp,i,k,g,by simpa using l,by simpa using f⟩];exact h
theorem nF {α a:Type}(f:α->a):(#[]:Array α).toList.map f=[]:=rfl
theorem eE {α b:Type}(f:α->b)(a l):(List.toArray (a::l)).toList.map f=f a::(List.toArray l).toList.map f:=rfl
theorem SE {a b:Prop}(h:a/\b):a/\b:=h
theorem mn {P n Q s M c x y}(h:Mn P n (.cond c x y) Q s M):Mn P n (.cond c x y) Q s M:=h
theorem mq {P t a x y M K}(h:Jx P t a x y M K):Jx P t a x y M K:=h
theorem fI {P f a M R}(h:AF P f a M R):AF P f a M R:=h
def AC (p:Prop):Prop:=p
theorem AC.o {p:Prop}(h:AC p):p:=h
theorem Sj {P n Q s M id l}(h:∀K:Sl->St->Prop,AC (∀s M,Q .normal s M->K s M)->FS P n l K l s M):Mn P n (.region id l.toArray false) Q s M:=
  sU (h (Q .normal) λ_ _ h=>h)
theorem Ax {P n Q s M id l}(b:P.follows .mixedOrders=true)(F lasts ts us)(a:OS l lasts ts us=true)(e:∀c s M,¬Q (.panic c) s M)
    (h:∀K:Sl->St->Prop,AC (∀s M,Q .normal s M->K s M)->aT P n l F M (λd=>aU P n l (λj=>!lasts.contains j) F M K us d M) ts s):Mn P n (.region id l.toArray true) Q s M:=
  EZ b F lasts ts us a e (h (Q .normal) λ_ _ h=>h)
theorem Cj {P n Q s M c x y}(a:BR s c=sc (.bool true))(h:Mn P n x Q s M):Mn P n (.cond c x y) Q s M:=Sk a h
theorem De {P n Q s M c x y}(a:BR s c=sc (.bool false))(h:Mn P n y Q s M):Mn P n (.cond c x y) Q s M:=Sk a h
def zV (n:Nat)(v:Value):List Value:=List.replicate n v
def Pg (n:Nat)(v:Value):oh:=List.replicate n (cst1 v)
theorem nD {n v}:(zV n v).map cst1=Pg n v:=by simp[zV,Pg]
theorem kept_refl {A F M i}:Kept A F M i M:=λ_ _ _ _=>rfl
theorem Al {A F M M' i}(h:AD M M'):Kept A F M i M':=λ_ o a _=>h.ver o a
theorem A3 {A F M M' i}(h:A i=false):Kept A F M i M':=λa=>by rw[h]at a;cases a
def Plain (c:AV):Prop:=(∃v,c=sc v)\/∃id k a,c=sl id k a/\∀x∈a,∃v,x=sc v
theorem VR.plain {G' G2 M' M2 s}(z:∀b d,G'.per b d->G2.per b d)(y:M2.D=M'.D)(a:M2.top=M'.top)(j:G2.siz=G'.siz)(m:G2.cur=G'.cur)(q:G2.cap=G'.cap)
    {v x} (f:Plain x) (h:VR G' M' s v x):VR G2 M2 s v x:=by
  rcases f with⟨u,rfl⟩|⟨id,k,xs,rfl,hxs⟩;exact VR.fold (show v=u from h.unfold);obtain⟨base,g,e,C,A,B⟩:=VR.of_sl h;refine VR.fold ⟨base,g,e,C,λn=>?_,?_⟩;obtain⟨b,o,e,l⟩:=A n;refine⟨b,o,e,λi x f=>?_⟩;obtain⟨p,c,t,r⟩:=l i x f;obtain⟨u,rfl⟩:=hxs x (AY f);exact⟨z _ _ p,c,t,VR.fold (show c=u from r.unfold)⟩;rw[y,a,j,m,q];exact B
theorem AF.freeze {P f y M}{Q:Nat->oh->Prop}
    (h:AF P f y M λx M'=>∃(o n:Nat) (cs:oh),x=fx o 0 n/\M.B<=o/\M'.C o=cs/\AD M M'/\(∀c∈cs,Plain c)/\Q n cs):
    AF P f y M λx M'=>∃n cs,x=sl 0 n cs/\Q n cs/\AD M M':=by
  refine⟨h.1,λG w c I A=>(h.2 G w c I A).mono ?_⟩;rintro e N ⟨v,t,x,M',he,d,E,hv,o,n,cs,rfl,ho,L,m,X,T⟩;obtain⟨⟨V,W,U⟩,s⟩:=VR.of_fx' hv;let F:Gh:={t with per:=λb a=>t.per b a\/(b=t.blk o/\a<Z cs)};let H:St:={M' with B:=M.B};have E2:CH G M w F H N:=⟨E.base,E.w0,AU _,E.blk,E.D,E.top,λb a p=>⟨.inl (E.per b a p).1,(E.per b a p).2⟩,λo h=>E.ver o h⟩
  have I2:Inv F H N:=
    ⟨λp j=>by
      have j:p<M.B:=j;have r:p<M'.B:=BZ j m.B;obtain⟨h1,Y,S⟩:=I.C p j;refine⟨(d.C p r).1,(d.C p r).2.1,λR=>?_⟩;have u:M'.C p≠[]:=R;have K:M.C p≠[]:=by rw[<-m.C p j];exact u
      obtain⟨⟨z,e0,g,ha⟩,-⟩:=S K;refine⟨⟨z,e0,?_,?_⟩,?_⟩;show N.heap[t.blk p]?=_;rw[E.blk p j,(E.ver p j).2 (m.ver p j)];exact g;show AP (VR F H N) z.toList (M'.C p);rw[m.C p j];exact VR.all E2 ha;rintro a (g|⟨g,-⟩);exact ((d.C p r).2.2 u).2 a g;have:=d.inj p o r s g;omega,
     λp q j T=>d.inj p q (BZ j m.B) (BZ T m.B),
     λk J=>by
      obtain⟨h1,Y,S,h4⟩:=d.lin k J;refine⟨h1,Y,S,?_⟩;rintro a (g|⟨g,-⟩);exact h4 a g;exact absurd g.symm (d.apart o k s J),
     d.linj,
     λp k j J=>d.apart p k (BZ j m.B) J,
     λb a g=>by
      rcases g with g|⟨g,-⟩;exact d.perlt b a g;rw[g];exact d.blk_lt s,
     λb a hb=>.inl (d.perlo b a hb),d.below,d.le,d.hyp⟩
  refine⟨v,F,sl 0 n cs,H,he,I2,E2,VR.fold ⟨some ⟨t.blk o,0,none⟩,V,W,⟨U,λh=>by cases h⟩,λ_=>⟨t.blk o,0,rfl,λi x O=>?_⟩,λk J=>AA⟩,n,cs,rfl,T,⟨AU _,m.C,m.ver,m.D,m.top⟩⟩;have hi:=(BA.1 O).1;obtain⟨⟨D,e',C,l⟩,hper⟩:=(d.C o s).2.2 (λe=>by rw[L]at e;rw[e]at hi;simp at hi);rw[L]at l;refine⟨.inr ⟨rfl,AA⟩,?_⟩;have hl:=l.1;have hg:D.toList[i]?=some (D.toList[i]'AA):=AK _;refine⟨D.toList[i]'AA,?_,VR.plain (G2:=F) (M2:=H) (G':=t) (M':=M') (λb a p=>Or.inl p) rfl rfl rfl rfl rfl (X x (AY O)) (l.2 i _ _ hg O)⟩;unfold World.cell?;rw[C];simp
section
variable {P:Program} {n:Nat} {Q:Ig} {F:Nat->Prop} {A:Nat->Bool} {σ0:St} {all:List Oper}
def MU (ops:List Oper)(A:Nat->Bool)(L:Array Bool):List Nat->Array Bool->Bool
  |[],a=>a==L
  |i::rest,a=>tB ops A a i&&MU ops A L rest (a.setIfInBounds i true)
theorem fN (l:Region.noSelect all.toArray=true)(k:∀c s M,¬Q (.panic c) s M)(m L):∀(j:List Nat) (a:Array Bool) (s:Sl),MU all A L j a=true->
    aT P n all F σ0 (λq=>Qs P n all Q F A σ0 m L q σ0) j s->tC P n all Q F A σ0 (Z j+m) a s
  |[],a,s,d,h=>by
   simp only[MU,DO]at d;subst d;simp only[CQ,DY];exact Ra h
  |i::rest,a,s,d,h=>by
   simp only[MU,BM]at d;have:Z (i::rest)+m=(Z rest+m)+1:=by simp;omega
   rw[this];refine dC l d.1 k ?_;unfold aT at h;unfold LX at h⊢;split at h;exact h.elim;rename_i o r;refine⟨h.1,?_⟩;have f:=h.2;cases p:Li all o s with
   |none=>rw[p]at f;exact f.elim
   |some b=>
    rw[p]at f;refine⟨λe=>?_,λe=>fN l k m L rest _ _ d.2 (f.2 e)⟩;have g:=f.1 e;split at g;exact⟨g.1,fN l k m L rest _ _ d.2 g.2⟩;exact g.elim
theorem Ar {s M id l}(o:P.follows .mixedOrders=true)(F)(b f:List Nat)(m L)
    (g:(Region.noSelect l.toArray&&Z f+m==Z l&&MU l (λj=>!b.contains j) L f (Array.replicate (Z l) false))=true) (u:∀c s M,¬Q (.panic c) s M)
    (h:∀K:Sl->Prop,AC (∀i,Qs P n l Q F (λj=>!b.contains j) M m L i M->K i)->aT P n l F M K f s):Mn P n (.region id l.toArray true) Q s M:=λG a w R=>by
  simp only[BM]at g;obtain⟨⟨v,p⟩,y⟩:=g;obtain⟨x,E⟩:=R.inv.drawn (w.drawn+1);have r:FK n G s M a {w with drawn:=w.drawn+1}:=⟨R.defers,R.size,λt=>(R.tmps t).ext E,x⟩;have:=fN v u m L f _ s y (h _ λ_ h=>h) G a _ r;have k:Z f+m=l.toArray.size:=by simpa using p
  rw[k]at this;refine wp_region_any o (Px (S:=Same F G M {w with drawn:=w.drawn+1}) (A:=λj=>!b.contains j) _ _ _ _ ?_);simp only[List.size_toArray]at this⊢;exact EZ.wpAnyG_mono (λe a w q=>q.ext E) _ _ _ _ this
def PG:Op->Bool
  |.move _=>true
  |.assign _=>true
  |.extract _ _=>true
  |_=>false
theorem il {G s M w}{a:Act}(d:∀t,VR G M w (a.tmps.getD t undef) (s t)){o x}(f:PG o.op=true)(h:aq P s M o.op=some x):∃v,VR G M w v x/\∀c,(execOp a.eval o).run P c= .ok (.value v) c:=by
  cases b:o.op<;>rw[b]at f h<;>simp[PG]at f
  case move y=>simp only[aq]at h;cases h;exact⟨_,Bg d y,λc=>by simp[execOp,b]⟩
  case assign y=>simp only[aq]at h;cases h;exact⟨_,Bg d y,λc=>by simp[execOp,b]⟩
  case extract y i=>
    simp only[aq]at h;split at h
    case h_2=>cases h
    rename_i p g;have e:=Bg d y;rw[g]at e;obtain⟨k,m,l⟩:=VR.of_tp e;obtain⟨v,j,n⟩:=l.get h
    exact⟨v,n,λc=>by
      have:k[i]?=some v:=by simpa using j
      simp[execOp,b,Instr.extract,m,this]⟩
theorem Bu {i g d s M}(o x)(u:all[i]?=some o)(z:PG o.op=true)(hg:o.guard=none)(r:DF n o.dst=true)(N:aq P s M o.op=some x)(W:Region.noSelect all.toArray=true)(I:tB all A d i=true)(hp:∀c s M,¬Q (.panic c) s M)
    (m:∀o,o<σ0.B->F o->M.ver o=σ0.ver o) (h:Qs P n all Q F A σ0 g (d.setIfInBounds i true) (BC s o.dst x) M):Qs P n all Q F A σ0 (g+1) d s M:=λG0 U G a w E R=>by
  have t:all.toArray[i]?=some o:=by simpa using u
  simp only[tB,BM]at I;obtain⟨⟨⟨⟨b1,S⟩,X⟩,b4⟩,T⟩:=I;have V:∀k ok,all.toArray[k]?=some ok->(desc all i).getD k false=true->∃e∈ok.after,Region.binds .any e=true/\(e.on=i\/(desc all i).getD e.on false=true):=λk ok m r=>by
    have l:k<(desc all i).size:=by
      rcases FT k (desc all i).size with f|f;exact f;simp[JD f]at r
    have:=CX.1 X k (by simpa using l);rw[r]at this;have y:all[k]?=some ok:=by simpa using m
    simp only[y,IY,MA]at this;obtain⟨e,he,B⟩:=Array.any_eq_true'.1 this;simp at B;exact⟨e,he,B.1,B.2.imp id (λh=>by simpa using h)⟩
  have C:∀k,(desc all i).getD k false=true->d.getD k false=false:=λk m=>by
    have l:k<(desc all i).size:=by
      rcases FT k (desc all i).size with f|f;exact f;simp[JD f]at m
    have:=CX.1 b4 k (by simpa using l);rw[m]at this;simpa using this
  have Y:∀j,j≠i->d.getD j true=false->(desc all i).getD j false=false->A j=true:=λj hj J r=>by
    have H:j<d.size:=by
      rcases FT j d.size with f|f;exact f;simp[JD f]at J
    have:=CX.1 T j (by simpa using H);rw[J,r]at this;simpa[hj]using this
  obtain⟨v,hv,L⟩:=il (P:=P) R.tmps z N;have hw:Region.wanted o (yielded all.toArray a.tmps)=true:=by unfold Region.wanted;rw[hg]
  exact Qz (D:=λk=>(desc all i).getD k false) t (Region.noSelect_spec W) (λc a' K ⟨_,_,_,_,_,q⟩=>(hp _ _ _ q).elim) V g d a w C Y (Region.free_spec t S) (by simpa using b1)
    (.inl ⟨hw,λK _=>L K⟩) ⟨λb o p=>(E.per b o p).2,λo u O=>(E.ver o u).2 (m o u O)⟩
    (h G0 U G _ w E (R.put (CH.refl _ _ _) R.inv hv r))
theorem Am {i s M K}(h:∀yb:Sl->St->Prop,AC (∀a M',K a M'->yb a M')->FR P n all i s M yb):FR P n all i s M K:=h K λ_ _ h=>h
end
section
variable {P:Program} {n:Nat} {Q:Ig} {F:Nat->Prop} {A:Nat->Bool} {σ0:St} {all:List Oper}
theorem Qy {ops Q S f}(e:∀w,S w->f w):∀(c:Nat) (b:Array Bool) (a:Act) (w:World),Ja P ops Q S A c b a w->Ja P ops Q f A c b a w
  |0,_,_,_,h=>h
  |c+1,b,a,w,h=>⟨h.1,λi k=>wpOp_mono (λg j d=>⟨λl=>e _ (d.1 l),Qy e c _ g j d.2⟩) (h.2 i k)⟩
theorem tR {d c s M}(g:σ0.B<=M.B)(r:∀o,o<σ0.B->F o->M.ver o=σ0.ver o)(h:tC P n all Q F A M d c s):Qs P n all Q F A σ0 d c s M:=λk m G a w E R=>by
  have v:=h G a w R;have t:=EZ.wpAnyG_mono (Q':=EH n k σ0 m Q) (λe a w q=>q.ext E) _ _ _ _ v;refine Qy (λx i=>⟨λb o p=>?_,λo f j=>?_⟩) _ _ _ _ t;obtain⟨u,l⟩:=E.per b o p;exact (i.1 b o u).trans l;have:=i.2 o (BZ f g) j;rw[E.blk o f]at this;exact this.trans ((E.ver o f).2 (r o f j))
theorem Df {a s M}(ts)(j:Region.noSelect all.toArray=true)(e:OA all A [] ts a=true)(g:∀c s M,¬Q (.panic c) s M)(b:σ0.B<=M.B)(f:∀o,o<σ0.B->F o->M.ver o=σ0.ver o)
    (h:∀yb:Sl->St->Prop,AC (∀s M,Q .normal s M->yb s M)->aT P n all F M (λi=>yb i M) ts s):Qs P n all Q F A σ0 (Z ts) a s M:=
  tR b f (by
    have:=fO (P:=P) (n:=n) (Q:=Q) (F:=F) (A:=A) (σ0:=M) (all:=all) j g [] ts a s e (by
      have d:=h (Q .normal) λ_ _ h=>h
      exact d)
    simpa using this)
end
theorem B0:type_of% (And.intro @implies_true.{1} (And.intro @nD (And.intro @List.head?_drop.{0} (And.intro @Nat.mul_one (And.intro @List.length_map.{0,0} (And.intro @Nat.zero_mul (And.intro @Nat.zero_add (And.intro @Option.map_none.{0,0} (And.intro @Nat.add_one_sub_one (And.intro @Nat.sub_zero (And.intro @List.take_length.{0} (And.intro @List.all_cons.{0} (And.intro @List.all_nil.{0} (And.intro @Option.map_some.{0,0} (And.intro @Option.bind_some.{0,0} (And.intro @Option.bind_none.{0,0} (And.intro @List.getElem?_cons_zero.{0} (And.intro @List.getElem?_cons_succ.{0} (And.intro @List.getElem?_toArray.{0} (And.intro @List.map_cons.{0,0} (And.intro @List.map_nil.{0,0} (And.intro @List.toList_toArray.{0} (And.intro @decide_true (And.intro @decide_false (And.intro @Bool.true_and (And.intro @Bool.and_true (And.intro @beq_self_eq_true.{0} (And.intro @beq_true (And.intro @beq_false (And.intro @Bool.not_false (And.intro @Bool.not_true (And.intro @ge_iff_le.{0} (And.intro @gt_iff_lt.{0} (And.intro @true_and (And.intro @and_true (And.intro @List.getD_cons_zero.{0} (And.intro @List.getD_cons_succ.{0} (And.intro @List.length_cons.{0} (And.intro @List.length_nil.{0} (And.intro @List.drop_succ_cons.{0} (And.intro @List.drop_zero.{0} (And.intro @List.take_succ_cons.{0} (And.intro @List.take_zero.{0} (And.intro @List.head?_cons.{0} (And.intro @Option.isSome_some.{0} (And.intro @if_true.{1} (And.intro @if_false.{1} (And.intro @Bool.false_eq_true (And.intro @Int.toNat_natCast (And.intro @Ao (And.intro @Be (And.intro @Ah (And.intro @Aa (And.intro @vI (And.intro @mV (And.intro @Ak (And.intro @Aj (And.intro @Ac (And.intro @Og (And.intro @Nc (And.intro @H6 (And.intro @Az (And.intro @La (And.intro @O5 (And.intro @SB (And.intro @fC (And.intro @Zg (And.intro @fD (And.intro @SA (And.intro @List.set_cons_zero.{0} (And.intro @List.set_cons_succ.{0} (And.intro @List.cons_append.{0} (And.intro @List.nil_append.{0} (And.intro @List.append_nil.{0} (And.intro @List.replicate_succ.{0} (And.intro @List.replicate_zero.{0} (And.intro @List.flatten_cons.{0} (And.intro @List.flatten_nil.{0} (And.intro @ne_eq.{1} (And.intro @not_true_eq_false (And.intro @false_or (And.intro @or_false (And.intro @Nat.lt_irrefl (And.intro @Int.natCast_nonneg (And.intro @i64w (And.intro @TU.{1} (And.intro @Oh (@implies_true.{0})))))))))))))))))))))))))))))))))))))))))))))))))))))))))))))))))))))))))))))))))))))))):=And.intro @implies_true.{1} (And.intro @nD (And.intro @List.head?_drop.{0} (And.intro @Nat.mul_one (And.intro @List.length_map.{0,0} (And.intro @Nat.zero_mul (And.intro @Nat.zero_add (And.intro @Option.map_none.{0,0} (And.intro @Nat.add_one_sub_one (And.intro @Nat.sub_zero (And.intro @List.take_length.{0} (And.intro @List.all_cons.{0} (And.intro @List.all_nil.{0} (And.intro @Option.map_some.{0,0} (And.intro @Option.bind_some.{0,0} (And.intro @Option.bind_none.{0,0} (And.intro @List.getElem?_cons_zero.{0} (And.intro @List.getElem?_cons_succ.{0} (And.intro @List.getElem?_toArray.{0} (And.intro @List.map_cons.{0,0} (And.intro @List.map_nil.{0,0} (And.intro @List.toList_toArray.{0} (And.intro @decide_true (And.intro @decide_false (And.intro @Bool.true_and (And.intro @Bool.and_true (And.intro @beq_self_eq_true.{0} (And.intro @beq_true (And.intro @beq_false (And.intro @Bool.not_false (And.intro @Bool.not_true (And.intro @ge_iff_le.{0} (And.intro @gt_iff_lt.{0} (And.intro @true_and (And.intro @and_true (And.intro @List.getD_cons_zero.{0} (And.intro @List.getD_cons_succ.{0} (And.intro @List.length_cons.{0} (And.intro @List.length_nil.{0} (And.intro @List.drop_succ_cons.{0} (And.intro @List.drop_zero.{0} (And.intro @List.take_succ_cons.{0} (And.intro @List.take_zero.{0} (And.intro @List.head?_cons.{0} (And.intro @Option.isSome_some.{0} (And.intro @if_true.{1} (And.intro @if_false.{1} (And.intro @Bool.false_eq_true (And.intro @Int.toNat_natCast (And.intro @Ao (And.intro @Be (And.intro @Ah (And.intro @Aa (And.intro @vI (And.intro @mV (And.intro @Ak (And.intro @Aj (And.intro @Ac (And.intro @Og (And.intro @Nc (And.intro @H6 (And.intro @Az (And.intro @La (And.intro @O5 (And.intro @SB (And.intro @fC (And.intro @Zg (And.intro @fD (And.intro @SA (And.intro @List.set_cons_zero.{0} (And.intro @List.set_cons_succ.{0} (And.intro @List.cons_append.{0} (And.intro @List.nil_append.{0} (And.intro @List.append_nil.{0} (And.intro @List.replicate_succ.{0} (And.intro @List.replicate_zero.{0} (And.intro @List.flatten_cons.{0} (And.intro @List.flatten_nil.{0} (And.intro @ne_eq.{1} (And.intro @not_true_eq_false (And.intro @false_or (And.intro @or_false (And.intro @Nat.lt_irrefl (And.intro @Int.natCast_nonneg (And.intro @i64w (And.intro @TU.{1} (And.intro @Oh (@implies_true.{0})))))))))))))))))))))))))))))))))))))))))))))))))))))))))))))))))))))))))))))))))))))))
theorem B1:type_of% (And.intro @Aa (And.intro @Ac (And.intro @Az (And.intro @O5 (And.intro @List.length_cons.{0} (@List.length_nil.{0})))))):=And.intro @Aa (And.intro @Ac (And.intro @Az (And.intro @O5 (And.intro @List.length_cons.{0} (@List.length_nil.{0})))))
theorem B2:type_of% (And.intro @Bool.not_eq_true' (@Bool.not_eq_false')):=And.intro @Bool.not_eq_true' (@Bool.not_eq_false')
theorem B3:type_of% (And.intro @decide_eq_true_eq (And.intro @decide_eq_false_iff_not (And.intro @Int.not_lt (@Int.not_le)))):=And.intro @decide_eq_true_eq (And.intro @decide_eq_false_iff_not (And.intro @Int.not_lt (@Int.not_le)))
theorem B4:type_of% (And.intro @DR.eq_1 (And.intro @BR.eq_1 (And.intro @BR.eq_2 (And.intro @BR.eq_3 (And.intro @BR.eq_4 (And.intro @BC.eq_1 (And.intro @BC.eq_2 (And.intro @DF.eq_1 (And.intro @DF.eq_2 (And.intro @EB.eq_1 (And.intro @EF.eq_1 (And.intro @bnd.eq_1 (And.intro @bnd.eq_2 (And.intro @lsp.eq_1 (And.intro @lsp.eq_2 (And.intro @CK.eq_1 (And.intro @CK.eq_2 (And.intro @GV.eq_1 (And.intro @DU.eq_1 (And.intro @DU.eq_2 (And.intro @EY.eq_1 (And.intro @EY.eq_2 (And.intro @upd.eq_1 (And.intro @AL.eq_1 (And.intro @FS.eq_1 (And.intro @FS.eq_2 (And.intro @NY.eq_1 (And.intro @aT.eq_1 (And.intro @aT.eq_2 (And.intro @LX.eq_1 (And.intro @aU.eq_1 (And.intro @aU.eq_2 (And.intro @FR.eq_1 (And.intro @PR.eq_1 (And.intro @EC (And.intro @DG (And.intro @ED (@DI)))))))))))))))))))))))))))))))))))))):=And.intro @DR.eq_1 (And.intro @BR.eq_1 (And.intro @BR.eq_2 (And.intro @BR.eq_3 (And.intro @BR.eq_4 (And.intro @BC.eq_1 (And.intro @BC.eq_2 (And.intro @DF.eq_1 (And.intro @DF.eq_2 (And.intro @EB.eq_1 (And.intro @EF.eq_1 (And.intro @bnd.eq_1 (And.intro @bnd.eq_2 (And.intro @lsp.eq_1 (And.intro @lsp.eq_2 (And.intro @CK.eq_1 (And.intro @CK.eq_2 (And.intro @GV.eq_1 (And.intro @DU.eq_1 (And.intro @DU.eq_2 (And.intro @EY.eq_1 (And.intro @EY.eq_2 (And.intro @upd.eq_1 (And.intro @AL.eq_1 (And.intro @FS.eq_1 (And.intro @FS.eq_2 (And.intro @NY.eq_1 (And.intro @aT.eq_1 (And.intro @aT.eq_2 (And.intro @LX.eq_1 (And.intro @aU.eq_1 (And.intro @aU.eq_2 (And.intro @FR.eq_1 (And.intro @PR.eq_1 (And.intro @EC (And.intro @DG (And.intro @ED (@DI)))))))))))))))))))))))))))))))))))))
theorem B5:type_of% (And.intro @EC (And.intro @DG (And.intro @ED (@DI)))):=And.intro @EC (And.intro @DG (And.intro @ED (@DI)))
end Go.Abs
