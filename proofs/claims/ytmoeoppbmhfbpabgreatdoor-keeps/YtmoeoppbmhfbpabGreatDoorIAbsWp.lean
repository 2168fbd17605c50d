import Derived.Test.YtmoeoppbmhfbpabGreatDoorIAbsQuiet
import Derived.LoopN
import Derived.OrdersHeld
set_option linter.all false
open List renaming length->Z
namespace Go.Abs
abbrev Sl:=Nat->AV
abbrev Im:=Exit->Sl->St->Prop
structure FN (n:Nat)(G:Gh)(s:Sl)(M:St)(a:Act)(w:World):Prop where
  defers:a.defers=[]
  size:n<=a.tmps.size
  tmps:∀t,VR G M w (a.tmps.getD t undef) (s t)
  inv:Inv G M w
def upd (s:Sl)(d:Nat)(x:AV):Sl:=fun t=>if t=d then x else s t
def BI (s:Sl)(dst:Option Tmp)(x:AV):Sl:=
  match dst with
  |some d=>upd s d x
  |none=>s
def DI (n:Nat):Option Tmp->Bool
  |some d=>decide (d<n)
  |none=>true
theorem FN.put {n G G' s M M' a w w'}(R:FN n G s M a w)(E:CH G M w G' M' w')(I:Inv G' M' w'){v x}(hv:VR G' M' w' v x){dst}(hd:DI n dst=true):
    FN n G' (BI s dst x) M' (a.put dst v) w':=by
  cases dst with
  |none=>exact⟨R.defers,R.size,fun t=>(R.tmps t).ext E,I⟩
  |some d=>
   have hdn:d<n:=by simpa[DI]using hd
   refine⟨R.defers,by simp[Act.put];exact R.size,fun t=>?_,I⟩;have hds:d<a.tmps.size:=By hdn R.size;simp only[Act.put,BI,upd];by_cases ht:t=d
   · subst ht
     simp[NJ,hds];exact hv
   · rw[if_neg ht]
     have:(a.tmps.setIfInBounds d v).getD t undef=a.tmps.getD t undef:=by
       simp[NJ,Array.getElem?_setIfInBounds_ne (Ne.symm ht)]
     rw[this];exact (R.tmps t).ext E
def ES (n:Nat)(G:Gh)(M:St)(w:World)(Q:Im):Exit->Act->World->Prop:=
  fun e a' w'=>∃G' s' M',CH G M w G' M' w'/\FN n G' s' M' a' w'/\Q e s' M'
theorem ES.ext {n G G' M M' w w'}(E:CH G M w G' M' w'){Q e a u}(h:ES n G' M' w' Q e a u):ES n G M w Q e a u:=
  let⟨G2,s2,M2,E2,R2,q⟩:=h;⟨G2,s2,M2,E.trans E2,R2,q⟩
def Me (P:Program)(n:Nat)(c:Code)(Q:Im)(s:Sl)(M:St):Prop:=
  ∀G a w,FN n G s M a w->c.wp P (ES n G M w Q) a w
def R1 (P:Program)(f:FuncId):Bool:=
  match P.funcs[f]? with
  |some fn=>fn.name != "runtime.NumGoroutine"&&fn.body.isSome
  |none=>false
def AF (P:Program)(f:FuncId)(args:List AV)(M:St)(R:AV->St->Prop):Prop:=
  R1 P f=true/\∀G w cargs,Inv G M w->AQ (VR G M w) cargs.toList args->
    Calls P f cargs w fun e w'=>∃v G' x M',e= .returned v/\Inv G' M' w'/\CH G M w G' M' w'/\VR G' M' w' v x/\R x M'
theorem AF.mono {P f args M R R'}(h:AF P f args M R)(hr:∀x M',R x M'->R' x M'):AF P f args M R':=
  ⟨h.1,fun G w c I A=>(h.2 G w c I A).mono fun e w' ⟨v,G',x,M',h1,h2,h3,h4,h5⟩=>⟨v,G',x,M',h1,h2,h3,h4,hr _ _ h5⟩⟩
section rules
variable {P:Program} {n:Nat} {Q:Im} {s:Sl} {M:St}
theorem Az {c Q'}(h:Me P n c Q s M)(hq:∀e s M,Q e s M->Q' e s M):Me P n c Q' s M:=
  fun G a w R=>wp_mono (h G a w R) fun e a' w' ⟨G',s',M',E,R',q⟩=>⟨G',s',M',E,R',hq _ _ _ q⟩
theorem oH (h:Q .normal s M):Me P n .skip Q s M:=fun G a w R=>wp_skip ⟨G,s,M,CH.refl _ _ _,R,h⟩
theorem wR (h:Q .ret s M):Me P n .ret Q s M:=fun G a w R=>wp_ret ⟨G,s,M,CH.refl _ _ _,R,h⟩
theorem oJ {id}(h:Q (.exit id) s M):Me P n (.exit id) Q s M:=fun G a w R=>wp_exit ⟨G,s,M,CH.refl _ _ _,R,h⟩
def vE (K:Sl->St->Prop)(Q:Im):Im
  |.normal,s,M=>K s M
  |e,s,M=>Q e s M
theorem I8 {x y}(h:Me P n x (vE (Me P n y Q) Q) s M):Me P n (.seq x y) Q s M:=fun G a w R=>
  wp_seq (wp_mono (h G a w R) fun e a' w' ⟨G',s',M',E,R',q⟩=>by
    cases e<;>first
      |exact wp_mono (q G' a' w' R') fun e a2 w2 h2=>h2.ext E
      |exact⟨G',s',M',E,R',q⟩)
theorem R5 {c x y t}(hc:BU s c=sc (.bool t))(h:Me P n (if t then x else y) Q s M):Me P n (.cond c x y) Q s M:=fun G a w R=>by
  have:=Bh R.tmps c;rw[hc]at this;exact wp_cond this.of_sc (h G a w R)
def PR (id:Nat)(Q:Im):Im
  |.exit id',s,M=>if id'=id then Q .normal s M else Q (.exit id') s M
  |e,s,M=>Q e s M
theorem eK {id c}(h:Me P n c (PR id Q) s M):Me P n (.block id c) Q s M:=fun G a w R=>
  wp_block (wp_mono (h G a w R) fun e a' w' ⟨G',s',M',E,R',q⟩=>by
    cases e<;>try exact⟨G',s',M',E,R',q⟩
    case exit id'=>
      simp only[PR,Exit.inBlock]at q⊢;split
      · rename_i hid;rw[if_pos hid]at q;exact⟨G',s',M',E,R',q⟩
      · rename_i hid;rw[if_neg hid]at q;exact⟨G',s',M',E,R',q⟩)
theorem Ae {c}(I:Nat->Sl->St->Prop)(m)(h0:I m s M)(round:∀m s M,I m s M->Me P n c (vE (fun s' M'=>∃m',m'<m/\I m' s' M') Q) s M):Me P n (.loop c) Q s M:=fun G a w R=>by
  have key:∀k m,m<k->∀G s M a w,FN n G s M a w->I m s M->Code.rounds P c (ES n G M w Q) k a w:=by
    intro k;induction k with
    |zero=>intro m hm;omega
    |succ k ih=>
     intro m hm G s M a w R hI;refine wp_mono (round m s M hI G a w R) fun e a' w' ⟨G',s',M',E,R',q⟩=>?_;cases e<;>try exact⟨G',s',M',E,R',q⟩
     case normal=>
       obtain⟨m',hlt,hI'⟩:=q;have:=ih m' AA G' s' M' a' w' R' hI';refine Code.rounds_mono ?_ this;exact fun e a w h=>h.ext E
  exact wp_loop_rounds (m+1) (key (m+1) m AA G s M a w R h0)
  where
  Code.rounds_mono {c:Code} {Q Q':Exit->Act->World->Prop} (hq:∀e a w,Q e a w->Q' e a w) {k:Nat} {a:Act} {w:World} (h:Code.rounds P c Q k a w):Code.rounds P c Q' k a w:=by
    induction k generalizing a w with
    |zero=>exact h
    |succ k ih=>exact wp_mono h fun e a w q=>by cases e<;>first|exact ih q|exact hq _ _ _ q
end rules
def La (all:List Oper)(o:Oper)(s:Sl):Option Bool:=
  match o.guard with
  |none=>some true
  |some (j,want)=>match (all[j]?).bind (·.dst)with
   |some d=>match s d with
    |.held (.inl (.bool b))=>some (b==want)
    |.held (.inl (.tuple _))=>some false
    |_=>none
   |none=>none
theorem Nz {n G s M a w}(R:FN n G s M a w){all o b}(h:La all o s=some b):Region.wanted o (yielded all.toArray a.tmps)=b:=by
  unfold La at h;unfold Region.wanted;split at h
  · rename_i hg;rw[hg];simp at h;subst h;rfl
  · rename_i j want hg
    rw[hg];split at h
    · rename_i d hd
      have hd':((all.toArray)[j]?).bind (·.dst)=some d:=by simpa using hd
      have hr:=R.tmps d;split at h
      · rename_i t ht
        rw[ht]at hr;have hv:=hr.of_sc;have hget:a.tmps[d]?=some (.bool t):=by
          rw[NJ]at hv;cases hx:a.tmps[d]? with
          |none=>rw[hx]at hv;simp[undef]at hv
          |some u=>rw[hx]at hv;simp at hv;rw[hv]
        simp only[yielded,hd',IQ,hget];simp at h;rw[<-h];cases t<;>cases want<;>rfl
      · rename_i u ht
        rw[ht]at hr;have hv:=hr.of_sc;have hget:yielded all.toArray a.tmps j=none:=by
          simp only[yielded,hd',IQ];rw[NJ]at hv;cases hx:a.tmps[d]? with
          |none=>rfl
          |some u=>rw[hx]at hv;simp at hv;rw[hv]
        show (yielded all.toArray a.tmps j==some want)=b;rw[hget];simp at h;subst h;rfl
      · cases h
    · cases h
def TO (P:Program)(t t':TypeId)(x y:AV)(M:St)(K:AV->St->Prop):Prop:=
  ∃z b zc id2 m ys,O5 P t=some (z,b,zc)/\y=sl id2 m ys/\t'=t/\0<z/\Z zc=z/\Z ys=m*z/\ys.all flat=true/\0<m/\
   ((x=nilS/\m*b<=140737488355328/\m<=1099511627776/\∀cap,m<=cap->K (gx M.B m cap) (M.new (ys++(List.replicate (cap-m) (zc.map cst1)).flatten)))\/
    ∃o n cap,x=gx o n cap/\(n+m)*b<=140737488355328/\n+m<=1099511627776/\Z (M.C o)=cap*z/\0<cap/\
     (n+m<=cap->K (gx o (n+m) cap) (M.put o (lsp (M.C o) (n*z) ys)))/\
     (cap<n+m->∀cap',n+m<=cap'->K (gx M.B (n+m) cap') (M.new ((M.C o).take (n*z)++ys++(List.replicate (cap'-(n+m)) (zc.map cst1)).flatten))))
def Iv (P:Program)(t t':TypeId)(x y:AV)(M:St)(K:AV->St->Prop):Prop:=
  (match iE P t t' x y M with
  |some (r,M')=>K r M'
  |none=>False)\/TO P t t' x y M K
def DV (P:Program)(o:Oper)(s:Sl)(M:St)(K:AV->St->Prop):Prop:=
  match o.op with
  |.call {callee:=.value (.func f),args:=args,argTypes:=_}=>AF P f (args.toList.map (BU s)) M K
  |.call {callee:=.builtin .append,args:=args,argTypes:=ts}=>(match args.toList,ts.toList with
   |[x,y],[t,t']=>Iv P t t' (BU s x) (BU s y) M K
   |_,_=>False)
  |op=>match aq P s M op with
   |some x=>K x M
   |none=>match al P s M op with
    |some (x,M')=>K x M'
    |none=>False
theorem mb {P G M w s}{a:Act}{K}(I:Inv G M w)(hs:∀t,VR G M w (a.tmps.getD t undef) (s t)){args ts o}(hop:o.op= .call {callee:=.builtin .append,args:=args,argTypes:=ts})
    {y1 y2 t t'} (ha:args.toList=[y1,y2]) (hts:ts.toList=[t,t']) (h:TO P t t' (BU s y1) (BU s y2) M K):
    ∃x M' v w' G',(execOp a.eval o).run P w= .ok (.value v) w'/\Inv G' M' w'/\CH G M w G' M' w'/\VR G' M' w' v x/\K x M':=by
  obtain⟨args⟩:=args;obtain⟨ts⟩:=ts;simp only at ha hts;subst ha;subst hts;obtain⟨z,b,zc,id2,m,ys,ht,hy,rfl,c2,c3,c5,c6,c7,h⟩:=h;obtain⟨e,i,zv,hu,hi,hz,h1,h2,h3⟩:=Kr ht;have hv1:=Bh hs y1;have hv2:=Bh hs y2;rw[hy]at hv2;obtain⟨base2,cap2,e2,-,lie2,-⟩:=VR.of_sl hv2;have hys:ys≠[]:=fun e=>by
    have:0<m*z:=LS c7 c2;rw[e]at c5;simp at c5;omega
  obtain⟨b2,o2,rfl,hl2⟩:=lie2 hys;obtain⟨news,hn1,hn2⟩:=hl2.list;have hnl:Z news=m*i.size:=by rw[hn1.1,c5,h1]
  have hflat:=Zb hn1 c6;have hzs:zv.cells.size=z:=by
    have:Z zv.cells.toList=Z zc:=by rw[h3]
    simp at this;omega
  have hnews:∀j u,news[j]?=some u->w.cell? ((⟨b2,o2,none⟩:Addr).add j)=some u:=fun j u hu=>by rw[Addr.add_lit];exact hn2 j u hu
  have hexec:∀r,(Builtin.append_ #[t',t'] o.type #[a.eval y1,a.eval y2]).run P w=r->(execOp a.eval o).run P w=r.andThen fun v w'=>.ok (.value v) w':=fun r hr=>by
    subst hr;simp only[execOp,hop,resolve,invoke,Go.builtin,Sem.run_bind,Sem.run_pure,Result.andThen_ok,List.map_toArray,CU,KO]
  have hzero:∀(G:Gh) (M:St) (w:World) (n:Nat),AQ (VR G M w) (Builtin.zeroCells zv.cells n).toList (List.replicate n (zc.map cst1)).flatten:=fun G M w n=>by
    have e1:(Builtin.zeroCells zv.cells n).toList=(List.replicate n zc).flatten:=by
      rw[<-h3];have:=Gj (z:=zv.cells.toList) (n:=n);simpa[Builtin.zeroCells]using this
    rw[e1];refine AQ.flatten_replicate ?_ n;have:=AQ.of_map (R:=VR G M w) (fun v:Value=>v) cst1 (fun v=>VR.cst1 v) zc;simpa using this
  rcases h with⟨hx,c8,c9,hk⟩|⟨p,n,cap,hx,c8,c9,hlen,hn0,hk1,hk2⟩
  · rw[hx]at hv1
    obtain⟨base1,cap1,e1,⟨hcap1,id1⟩,-,-⟩:=VR.of_sl hv1;obtain⟨-,hcap⟩:=id1 rfl;subst hcap;have hgc:m<=grownCap w m 0 e:=grownCap_ge w m 0 e;obtain⟨I1,E1⟩:=I.drawn (w.drawn+1);have hall:AQ (VR G M {w with drawn:=w.drawn+1}) (news.toArray++Builtin.zeroCells zv.cells (grownCap w m 0 e-m)).toList (ys++(List.replicate (grownCap w m 0 e-m) (zc.map cst1)).flatten):=by
      rw[Array.toList_append];exact (VR.all E1 hn1).append (hzero _ _ _ _)
    obtain⟨G',I',E,hb⟩:=I1.newObj _ e _ hall;have hrun:(Builtin.append_ #[t',t'] o.type #[a.eval y1,a.eval y2]).run P w= .ok (.slice (some ⟨w.heap.size,0,none⟩) m (grownCap w m 0 e)) (w.drew.alloc (.cells (news.toArray++Builtin.zeroCells zv.cells (grownCap w m 0 e-m)) e)):=by
      rw[e1,e2];cases base1 with
      |none=>exact run_append_nil (P:=P) w t' o.type e i zv hu hi hz ⟨b2,o2,none⟩ m cap2 news hnl hnews c7 AA (by rw[h2];omega)
      |some ad=>
       have:=run_append_grow (P:=P) w t' o.type e i zv hu hi hz ad 0 0 [] (by simp) (fun j v hv=>by simp at hv) ⟨b2,o2,none⟩ m cap2 news hnl hnews AA AA (growslice_fits AA (by rw[h2];simpa using c8));simpa using this
    exact⟨gx M.B m (grownCap w m 0 e),_,.slice (some ⟨w.heap.size,0,none⟩) m (grownCap w m 0 e),_,G',by rw[hexec _ hrun];rfl,I',E1.trans E,VR.fold ⟨by rw[hb],hgc,by simp[St.new]⟩,hk _ hgc⟩
  · rw[hx]at hv1
    obtain⟨e1,hcap,ho⟩:=VR.of_gx hv1;have hlv:M.C p≠[]:=fun e=>by
      have:0<cap*z:=LS AA c2;rw[e]at hlen;simp at hlen;omega
    obtain⟨⟨cur,ecur,hcur,hca⟩,-⟩:=(I.C p ho).2.2 hlv;have hcs:cur.size=cap*z:=by
      have:=hca.1;rw[hlen]at this;simpa using this
    by_cases hroom:n+m<=cap
    · have hfit:n*i.size+Z news<=cur.size:=by
        rw[hnl,hcs,h1,<-FE];exact FU _ hroom
      have hrun:(Builtin.append_ #[t',t'] o.type #[a.eval y1,a.eval y2]).run P w= .ok (.slice (some ⟨G.blk p,0,none⟩) (n+m) cap) (w.setRow (G.blk p) (cur.toList.take (n*i.size)++news++cur.toList.drop (n*i.size+Z news)).toArray):=by
        rw[e1,e2];exact L8 w t' o.type e i hu hi (G.blk p) n cap cur ecur hcur ⟨b2,o2,none⟩ m cap2 news hnl hnews hflat hroom hfit
      have hall:AQ (VR G M w) (cur.toList.take (n*i.size)++news++cur.toList.drop (n*i.size+Z news)).toArray.toList (lsp (M.C p) (n*z) ys):=by
        have hle:n*z+Z ys<=Z (M.C p):=by
          rw[c5,hlen,<-FE];exact FU _ hroom
        rw[Hc _ _ _ hle,h1,<-hn1.1];exact ((hca.take _).append hn1).append (hca.drop _)
      obtain⟨I',E⟩:=I.setObj ho hlv _ _ hall;exact⟨gx p (n+m) cap,_,.slice (some ⟨G.blk p,0,none⟩) (n+m) cap,_,G,by rw[hexec _ hrun];rfl,I',E,VR.fold ⟨rfl,hroom,ho⟩,hk1 hroom⟩
    · have hol:Z (cur.toList.take (n*i.size))=n*i.size:=by
        rw[CV,Array.length_toList,hcs,h1];exact EZ (FU _ hcap)
      have holds:∀j u,(cur.toList.take (n*i.size))[j]?=some u->w.cell? ((⟨G.blk p,0,none⟩:Addr).add j)=some u:=fun j u hu=>by
        rw[Addr.add_lit];rw[II]at hu;split at hu
        · simp[World.cell?,hcur];simpa using hu
        · cases hu
      have hgc:n+m<=grownCap w (n+m) cap e:=grownCap_ge w (n+m) cap e;obtain⟨I1,E1⟩:=I.drawn (w.drawn+1);have hall:AQ (VR G M {w with drawn:=w.drawn+1}) ((cur.toList.take (n*i.size)).toArray++news.toArray++Builtin.zeroCells zv.cells (grownCap w (n+m) cap e-(n+m))).toList ((M.C p).take (n*z)++ys++(List.replicate (grownCap w (n+m) cap e-(n+m)) (zc.map cst1)).flatten):=by
        rw[Array.toList_append,Array.toList_append,h1];exact ((VR.all E1 (hca.take _)).append (VR.all E1 hn1)).append (hzero _ _ _ _)
      obtain⟨G',I',E,hb⟩:=I1.newObj _ e _ hall;have hrun:(Builtin.append_ #[t',t'] o.type #[a.eval y1,a.eval y2]).run P w= .ok (.slice (some ⟨w.heap.size,0,none⟩) (n+m) (grownCap w (n+m) cap e)) (w.drew.alloc (.cells ((cur.toList.take (n*i.size)).toArray++news.toArray++Builtin.zeroCells zv.cells (grownCap w (n+m) cap e-(n+m))) e)):=by
        rw[e1,e2];exact run_append_grow (P:=P) w t' o.type e i zv hu hi hz ⟨G.blk p,0,none⟩ n cap _ hol holds ⟨b2,o2,none⟩ m cap2 news hnl hnews AA AA (growslice_fits AA (by rw[h2];exact c8))
      exact⟨gx M.B (n+m) (grownCap w (n+m) cap e),_,.slice (some ⟨w.heap.size,0,none⟩) (n+m) (grownCap w (n+m) cap e),_,G',by rw[hexec _ hrun];rfl,I',E1.trans E,VR.fold ⟨by rw[hb],hgc,by simp[St.new]⟩,hk2 AA _ hgc⟩
theorem qJ {P f}(h:R1 P f=true)(args w):(callFunc f args).run P w= .ok (.enter f args) w:=by
  unfold R1 at h;split at h
  · rename_i fn hf
    simp at h;have hn:¬(fn.name= "runtime.NumGoroutine"):=h.1;cases hb:fn.body with
    |none=>simp[hb]at h
    |some c=>simp[callFunc,hf,hn,hb]
  · cases h
theorem AQ.map_eval {n G s M a w}(R:FN n G s M a w):∀l:List Operand,AQ (VR G M w) (l.map a.eval) (l.map (BU s))
  |[]=>AQ.nil _
  |x::l=>AQ.cons (Bh R.tmps x) (AQ.map_eval R l)
theorem oW {P n G s M a w}(R:FN n G s M a w){o K}(h:DV P o s M K)(hd:DI n o.dst=true)
    {next Q'} (hn:∀G' M' x w' v,CH G M w G' M' w'->FN n G' (BI s o.dst x) M' (a.put o.dst v) w'->K x M'->next (a.put o.dst v) w'):o.wp P a w next Q':=by
  unfold DV at h;split at h
  · rename_i f args ts hop
    obtain⟨hc,hcall⟩:=h;have hargs:AQ (VR G M w) (args.map a.eval).toList (args.toList.map (BU s)):=by
      simp only[Array.toList_map];exact AQ.map_eval R args.toList
    have hC:=hcall G w (args.map a.eval) R.inv hargs;have hrun:(execOp a.eval o).run P w= .ok (.enter f (args.map a.eval)) w:=by
      simp only[execOp,hop,resolve,Act.eval,Deferred.ofValue,Sem.run_bind,Sem.run_pure,Result.andThen_ok,invoke,Array.append_empty,Array.empty_append,qJ hc]
    unfold Oper.wp;rw[hrun,Oper.upon_enter];refine hC.mono fun e w' ⟨v,G',x,M',he,I',E,hv,hk⟩=>?_;subst he;exact hn G' M' x w' v E (R.put E I' hv hd) hk
  · rename_i args ts hop
    split at h
    case h_2=>exact h.elim
    rename_i y1 y2 t t' ha hts;unfold Iv at h;rcases h with h|h
    · split at h
      case h_2=>exact h.elim
      rename_i x M' hl;have hl':al P s M o.op=some (x,M'):=by
        rw[hop];simp only[al,ha,hts];exact hl
      obtain⟨v,w',G',hr,I',E,hv⟩:=UX R.inv R.tmps hl';unfold Oper.wp;rcases hr with hr|⟨hr,hu⟩
      · rw[hr,Oper.upon_value]
        exact hn G' M' x w' v E (R.put E I' hv hd) h
      · rw[hr,Oper.upon_skip]
        subst hu;exact hn G' M' x w' undef E (R.put E I' hv hd) h
    · obtain⟨x,M',v,w',G',hr,I',E,hv,hk⟩:=mb R.inv R.tmps hop ha hts h
      unfold Oper.wp;rw[hr,Oper.upon_value];exact hn G' M' x w' v E (R.put E I' hv hd) hk
  · split at h
    · rename_i x hq
      obtain⟨v,hv,hr⟩:=RH (F:=fun _=>True) R.inv R.tmps hq (fun _ _=>trivial);unfold Oper.wp;rw[hr w (Same.refl _ _ _ _),Oper.upon_value];exact hn G M x w v (CH.refl _ _ _) (R.put (CH.refl _ _ _) R.inv hv hd) h
    · split at h
      · rename_i x M' hl
        obtain⟨v,w',G',hr,I',E,hv⟩:=UX R.inv R.tmps hl;unfold Oper.wp;rcases hr with hr|⟨hr,hu⟩
        · rw[hr,Oper.upon_value]
          exact hn G' M' x w' v E (R.put E I' hv hd) h
        · rw[hr,Oper.upon_skip]
          subst hu;exact hn G' M' x w' undef E (R.put E I' hv hd) h
      · exact h.elim
def OF (k:Sl->St->Prop)(s:Sl)(dst:Option Tmp)(x:AV)(M':St):Prop:=k (BI s dst x) M'
def gd (P:Program)(o:Oper)(s:Sl)(M:St)(k:Sl->St->Prop)(g:Option Bool):Prop:=
  match g with
  |none=>False
  |some b=>(b=true->DV P o s M (OF k s o.dst))/\(b=false->k (BI s o.dst (sc undef)) M)
theorem EC {P o s M k}:gd P o s M k (some true)=DV P o s M (OF k s o.dst):=by simp[gd]
theorem DL {P o s M k}:gd P o s M k (some false)=k (BI s o.dst (sc undef)) M:=by simp[gd]
theorem XY {P o s M k b}(h1:b=true->gd P o s M k (some true))(h2:b=false->gd P o s M k (some false)):gd P o s M k (some b):=by
  cases b
  · exact h2 rfl
  · exact h1 rfl
def FR (P:Program)(n:Nat)(all:List Oper)(K:Sl->St->Prop):List Oper->Sl->St->Prop
  |[],s,M=>K s M
  |o::rest,s,M=>DI n o.dst=true/\gd P o s M (FR P n all K rest) (La all o s)
theorem iF {P n all K}:∀(l:List Oper) (G:Gh) (s:Sl) (M:St) (a:Act) (w:World),FN n G s M a w->FR P n all K l s M->
    ∀{Q':Exit->Act->World->Prop},(∀G' s' M' a' w',CH G M w G' M' w'->FN n G' s' M' a' w'->K s' M'->Q' .normal a' w')->wpList P all.toArray Q' l a w
  |[],G,s,M,a,w,R,h,Q',hQ=>hQ G s M a w (CH.refl _ _ _) R h
  |o::rest,G,s,M,a,w,R,h,Q',hQ=>by
   unfold FR at h;obtain⟨hd,hg⟩:=h;cases hw:La all o s with
   |none=>rw[hw]at hg;exact hg.elim
   |some b=>
    have:=Nz R hw;rw[hw]at hg;unfold wpList;cases b with
    |false=>
     rw[this];exact iF rest G _ M _ w (R.put (CH.refl _ _ _) R.inv (VR.sc _) hd) (hg.2 rfl) hQ
    |true=>
     rw[if_pos this];refine .inl (oW R (hg.1 rfl) hd fun G' M' x w' v E R' hk=>?_);exact iF rest G' _ M' _ w' R' hk fun G2 s2 M2 a2 w2 E2=>hQ G2 s2 M2 a2 w2 (E.trans E2)
theorem tG {P n Q s M id l}(h:FR P n l (Q .normal) l s M):Me P n (.region id l.toArray false) Q s M:=fun G a w R=>
  wp_region_list (by simpa using iF l G s M a w R h (Q':=ES n G M w Q) fun G' s' M' a' w' E R' k=>⟨G',s',M',E,R',k⟩)
def FF (P:Program)(s:Sl)(M:St):ResultVar->Option AV
  |.tmp t=>some (s t)
  |.cell a t=>match J1 P t,behind M (s a)with
   |some (ga,n),some ys=>EI ga n ys
   |_,_=>none
def DW (P:Program)(s:Sl)(M:St):List ResultVar->Option (List AV)
  |[]=>some []
  |r::rest=>match FF P s M r,DW P s M rest with
   |some x,some xs=>some (x::xs)
   |_,_=>none
def GU (P:Program)(rs:List ResultVar)(s:Sl)(M:St):Option AV:=
  match DW P s M rs with
  |some [x]=>some x
  |some xs=>some (tp xs)
  |none=>none
def PW (tmps:Array Value):ResultVar->Sem Value
  |.tmp t=>pure (tmps.getD t undef)
  |.cell a t=>do loadVar t (<-asAddr (tmps.getD a undef))
theorem qQ (fn tmps):results fn tmps=(do let vs <-fn.results.mapM (PW tmps);pure (if h:vs.size=1 then vs[0]else .tuple vs)):=rfl
theorem oQ {P n G s M a w}(R:FN n G s M a w):∀(rs:List ResultVar) (xs:List AV),DW P s M rs=some xs->
    ∃vs:List Value,AQ (VR G M w) vs xs/\(rs.mapM (PW a.tmps)).run P w=Result.ok vs w
  |[],xs,h=>by
   simp[DW]at h;subst h;exact⟨[],AQ.nil _,by simp⟩
  |r::rest,xs,h=>by
   simp only[DW]at h;split at h
   case h_2=>cases h
   rename_i x xs' h1 h2;cases h;obtain⟨vs,ha,hr⟩:=oQ R rest xs' h2;cases r with
   |tmp t=>
    simp[FF]at h1;subst h1;exact⟨_::vs,AQ.cons (R.tmps t) ha,by simp[List.mapM_cons,PW,hr]⟩
   |cell b t=>
    simp only[FF]at h1;split at h1
    case h_2=>cases h1
    rename_i ga m ys ht hb;obtain⟨bb,oo,cs,hv,hc,hl⟩:=eJ (F:=fun _=>True) R.inv (R.tmps b) hb (fun _ _=>trivial);obtain⟨v,g1,g2⟩:=oU (P:=P) hc h1 ht bb oo (C:=Same (fun _=>True) G M w) hl;exact⟨v::vs,AQ.cons g1 ha,by simp[List.mapM_cons,PW,hv,asAddr,g2 w (Same.refl _ _ _ _),hr]⟩
theorem mf {P n G s M a w}(R:FN n G s M a w)(fn){x}(h:GU P fn.results.toList s M=some x):
    ∃v,VR G M w v x/\(results fn a.tmps).run P w= .ok v w:=by
  unfold GU at h;have key:∀vs:List Value,∀xs:List AV,DW P s M fn.results.toList=some xs->∃vs:List Value,AQ (VR G M w) vs xs/\(results fn a.tmps).run P w= .ok (if h:vs.toArray.size=1 then vs.toArray[0]else .tuple vs.toArray) w:=by
    intro _ xs hx;obtain⟨vs,ha,hr⟩:=oQ R _ xs hx;refine⟨vs,ha,?_⟩;rw[qQ,Sem.run_bind,Array.mapM_eq_mapM_toList];simp only[Sem.run_map,hr,Result.andThen_ok,Sem.run_pure]
  split at h
  · rename_i y hy
    cases h;obtain⟨vs,ha,hr⟩:=key [] _ hy
    match vs,ha with
    |[v],ha=>exact⟨v,ha.2 0 v x rfl rfl,by rw[hr];simp⟩
    |[],ha=>have:=ha.1;simp at this
    |_::_::_,ha=>have:=ha.1;simp at this
  · rename_i xs hne hy
    cases h;obtain⟨vs,ha,hr⟩:=key [] _ hy;have hl:vs.toArray.size≠1:=fun e=>by
      have e':Z xs=1:=by rw[<-ha.1];simpa using e
      match xs,e' with
      |[y],_=>exact hne y rfl
    exact⟨.tuple vs.toArray,VR.fold ⟨_,rfl,by simpa using ha⟩,by rw[hr,dif_neg hl]⟩
  · cases h
def AM (args:List AV):Sl:=fun t=>args.getD t (sc undef)
def OR (P:Program)(rs:List ResultVar)(R:AV->St->Prop):Im
  |.normal,s,M=>∃x,GU P rs s M=some x/\R x M
  |.ret,s,M=>∃x,GU P rs s M=some x/\R x M
  |_,_,_=>False
theorem VQ {P f fn c args M R}(hf:P.funcs[f]?=some fn)(hb:fn.body=some c)(hn:fn.name≠ "runtime.NumGoroutine")
    (hl:Z args<=fn.ntmps) (h:Me P fn.ntmps c (OR P fn.results.toList R) (AM args) M):AF P f args M R:=by
  refine⟨by simp[R1,hf,hb,hn],fun G w cargs I A=>calls_of_wp hf hb ?_⟩;have hsz:cargs.size=Z args:=by have:=A.1;simpa using this
  have R0:FN fn.ntmps G (AM args) M {tmps:=cargs++Array.replicate (fn.ntmps-cargs.size) undef,defers:=[]} w:=by
    refine⟨rfl,by simp;omega,fun t=>?_,I⟩;simp only[AM];by_cases ht:t<cargs.size
    · have h1:(cargs++Array.replicate (fn.ntmps-cargs.size) undef).getD t undef=cargs[t]:=by
        simp[NJ,Array.getElem?_append_left ht,ht]
      have hta:t<Z args:=AA;rw[h1,List.getD_eq_getElem?_getD,AJ hta];exact A.2 t _ _ (by simp[ht]) (AJ hta)
    · have h1:(cargs++Array.replicate (fn.ntmps-cargs.size) undef).getD t undef=undef:=by
        rw[NJ,Array.getElem?_append_right AA];by_cases h2:t-cargs.size<fn.ntmps-cargs.size
        · simp[h2]
        · simp[h2]
      rw[h1,List.getD_eq_getElem?_getD,FK AA];exact VR.sc _
  refine wp_mono (h G _ w R0) fun e a' w' ⟨G',s',M',E,R',q⟩=>?_;have fin:(∃x,GU P fn.results.toList s' M'=some x/\R x M')->a'.defers=[]/\∃v,(results fn a'.tmps).run P w'= .ok v w'/\∃v2 G' x M',Ending.returned v= .returned v2/\Inv G' M' w'/\CH G M w G' M' w'/\VR G' M' w' v2 x/\R x M':=fun⟨x,hx,hr⟩=>by
    obtain⟨v,hv,hrun⟩:=mf R' fn hx;exact⟨R'.defers,v,hrun,v,G',x,M',rfl,R'.inv,E,hv,hr⟩
  cases e<;>first|exact fin q|exact q.elim
theorem pd {P f fn c args M R}(n rs)(hf:P.funcs[f]?=some fn)(hb:fn.body=some c)(hn:fn.name≠ "runtime.NumGoroutine")
    (hnt:fn.ntmps=n) (hrs:fn.results.toList=rs) (hl:Z args<=n) (h:Me P n c (OR P rs R) (AM args) M):AF P f args M R:=by
  subst hnt;subst hrs;exact VQ hf hb hn hl h
theorem Y2 {P n Q s M c x y t}(hc:BU s c=sc (.bool t))(h1:t=true->Me P n x Q s M)(h2:t=false->Me P n y Q s M):Me P n (.cond c x y) Q s M:=by
  cases t with
  |true=>exact R5 hc (h1 rfl)
  |false=>exact R5 hc (h2 rfl)
section
variable {P:Program} {ops:Array Oper} {Q:Exit->Act->World->Prop} {S:World->Prop} {A:Nat->Bool}
def Jh (P:Program)(ops:Array Oper)(Q:Exit->Act->World->Prop)(S:World->Prop)(A:Nat->Bool):Nat->Array Bool->Act->World->Prop
  |0,listed,a,w=>Region.ready .any ops listed=[]/\Q .normal a w
  |fuel+1,listed,a,w=>
   (Region.ready .any ops listed=[]->Q .normal a w)/\
   ∀i∈Region.ready .any ops listed,wpOp P ops Q i (fun a' w'=>(A i=true->S w')/\Jh P ops Q S A fuel (listed.setIfInBounds i true) a' w') a w
theorem Pp:∀(fuel:Nat) (listed:Array Bool) (a:Act) (w:World),Jh P ops Q S A fuel listed a w->wpAny P .any ops Q fuel listed a w
  |0,_,_,_,h=>h
  |fuel+1,_,_,_,h=>⟨h.1,fun i hi=>wpOp_mono (fun a' w' h'=>Pp fuel _ a' w' h'.2) (h.2 i hi)⟩
theorem Qs {i oi v}{D:Nat->Bool}(hi:ops[i]?=some oi)(hsel:∀(j:Nat) (o:Oper) cs b,ops[j]?=some o->o.op≠.select cs b)
    (hQ:∀c a w,Q (.panic c) (a.put oi.dst v) w->Q (.panic c) a w)
    (hD:∀k ok,ops[k]?=some ok->D k=true->∃e∈ok.after,Region.binds .any e=true/\(e.on=i\/D e.on=true)):
    ∀(fuel:Nat) (listed:Array Bool) (a:Act) (w:World),
     (∀k,D k=true->listed.getD k false=false)->(∀j,j≠i->listed.getD j true=false->D j=false->A j=true)->
     (∀j oj,ops[j]?=some oj->j≠i->listed.getD j true=false->(∀e∈oj.after,Region.binds .any e=true->e.on≠i)->oi.apart ops oj=true)->
     i∈Region.ready .any ops listed->YieldsIf P ops S oi v a->S w->
     Jh P ops Q S A fuel (listed.setIfInBounds i true) (a.put oi.dst v) w->Jh P ops Q S A (fuel+1) listed a w:=by
  intro fuel;induction fuel with
  |zero=>
   intro listed a w _ _ _ hr hy hS H;refine⟨fun h=>(by rw[h]at hr;cases hr),fun j hj=>?_⟩;by_cases hji:j=i
   · subst hji;exact hy.wpOp hi hS ⟨fun _=>hS,H⟩
   · have:=ready_mono hj hji
     rw[H.1]at this;cases this
  |succ fuel ih=>
   intro listed a w hDl hA hfree hr hy hS H;refine⟨fun h=>(by rw[h]at hr;cases hr),fun j hj=>?_⟩;by_cases hji:j=i
   · subst hji;exact hy.wpOp hi hS ⟨fun _=>hS,H⟩
   · have h1:=H.2 j (ready_mono hj hji)
     obtain⟨hjun,oj,hoj,hall⟩:=mem_ready.1 hj;have hiun:listed.getD i false=false:=by
       have h0:=(mem_ready.1 hr).1;rcases FQ i listed.size with h'|h'
       · simp[h']at h0⊢;exact h0
       · simp[JP h']at h0
     have hnot:∀e∈oj.after,Region.binds .any e=true->e.on≠i:=fun e he hb heq=>by
       have h1:=hall e he hb;rw[heq,hiun]at h1;cases h1
     have hjD:D j=false:=by
       cases hd:D j with
       |false=>rfl
       |true=>
        obtain⟨e,he,hb,h3⟩:=hD j oj hoj hd;have h2:=hall e he hb;rcases h3 with h3|h3
        · rw[h3,hiun]at h2;cases h2
        · rw[hDl _ h3]at h2;cases h2
     have h2:=wpOp_putIf hoj (hfree j oj hoj hji hjun hnot) (fun cs b=>hsel i oi cs b hi) (fun cs b=>hsel j oj cs b hoj) hQ hy h1
     have hfree':∀k ok,ops[k]?=some ok->k≠i->(listed.setIfInBounds j true).getD k true=false->
         (∀e∈ok.after,Region.binds .any e=true->e.on≠i)->oi.apart ops ok=true:=fun k ok hk hki hun hno=>by
       refine hfree k ok hk hki ?_ hno;by_cases hjk:j=k
       · subst hjk;exact hjun
       · rw[getD_set_ne true hjk]at hun;exact hun
     have hA':∀k,k≠i->(listed.setIfInBounds j true).getD k true=false->D k=false->A k=true:=fun k hki hun hd=>by
       refine hA k hki ?_ hd;by_cases hjk:j=k
       · subst hjk;exact hjun
       · rw[getD_set_ne true hjk]at hun;exact hun
     have hDl':∀k,D k=true->(listed.setIfInBounds j true).getD k false=false:=fun k hk=>by
       have hjk:j≠k:=fun e=>by subst e;rw[hjD]at hk;cases hk
       rw[getD_set_ne false hjk];exact hDl k hk
     have hSj:A j=true:=hA j hji hjun hjD;refine wpOp_mono (fun a' w' h3=>⟨fun _=>h3.2.1 hSj,ih (listed.setIfInBounds j true) a' w' hDl' hA' hfree' (ready_mono hr (Ne.symm hji)) h3.1 (h3.2.1 hSj) ?_⟩) h2;rw[Array.setIfInBounds_comm _ _ hji];exact h3.2.2
end
section
variable {P:Program} {n:Nat} {Q:Im} {F:Nat->Prop} {A:Nat->Bool} {σ0:St} {all:List Oper}
def tM (P:Program)(n:Nat)(all:List Oper)(Q:Im)(F:Nat->Prop)(A:Nat->Bool)(σ0:St)(fuel:Nat)(listed:Array Bool)(s:Sl):Prop:=
  ∀G a w,FN n G s σ0 a w->Jh P all.toArray (ES n G σ0 w Q) (Same F G σ0 w) A fuel listed a w
def Qm (P:Program)(n:Nat)(all:List Oper)(Q:Im)(F:Nat->Prop)(A:Nat->Bool)(σ0:St)(fuel:Nat)(listed:Array Bool)(s:Sl)(M:St):Prop:=
  ∀G0 w0 G a w,CH G0 σ0 w0 G M w->FN n G s M a w->Jh P all.toArray (ES n G0 σ0 w0 Q) (Same F G0 σ0 w0) A fuel listed a w
theorem Q0 {fuel listed s}(h:Qm P n all Q F A σ0 fuel listed s σ0):tM P n all Q F A σ0 fuel listed s:=
  fun G a w R=>h G w G a w (CH.refl _ _ _) R
theorem Ax {listed s M fuel}(hr:Region.ready .any all.toArray listed=[])(h:Q .normal s M):Qm P n all Q F A σ0 fuel listed s M:=fun G0 w0 G a w E R=>by
  have hq:ES n G0 σ0 w0 Q .normal a w:=⟨G,s,M,E,R,h⟩;cases fuel with
  |zero=>exact⟨hr,hq⟩
  |succ fuel=>exact⟨fun _=>hq,by rw[hr];simp⟩
def FP (P:Program)(n:Nat)(all:List Oper)(i:Nat)(s:Sl)(M:St)(K:Sl->St->Prop):Prop:=
  match all[i]? with
  |none=>False
  |some o=>DI n o.dst=true/\gd P o s M K (La all o s)
def Kept (A:Nat->Bool)(F:Nat->Prop)(σ0:St)(i:Nat)(M':St):Prop:=A i=true->∀o,o<σ0.B->F o->M'.ver o=σ0.ver o
def QH (A:Nat->Bool)(F:Nat->Prop)(σ0:St)(i:Nat)(k:Sl->St->Prop)(s:Sl)(M:St):Prop:=Kept A F σ0 i M/\k s M
theorem Eo {rs fuel listed s M}(hr:Region.ready .any all.toArray listed=rs)(hne:rs≠[])
    (h:∀i∈rs,FP P n all i s M fun s' M'=>Kept A F σ0 i M'/\Qm P n all Q F A σ0 fuel (listed.setIfInBounds i true) s' M'):Qm P n all Q F A σ0 (fuel+1) listed s M:=fun G0 w0 G a w E R=>by
  refine⟨fun h0=>absurd (hr ▸ h0) hne,fun i hi=>?_⟩;have h1:=h i (hr ▸ hi);unfold FP at h1;split at h1
  · exact h1.elim
  · rename_i o ho
    have ho':all.toArray[i]?=some o:=by simpa using ho
    obtain⟨hd,h2⟩:=h1;have same:∀G' M' w',CH G0 σ0 w0 G' M' w'->Kept A F σ0 i M'->A i=true->Same F G0 σ0 w0 w':=fun G' M' w' E' hk hA=>
      ⟨fun b o p=>(E'.per b o p).2,fun o ho hF=>(E'.ver o ho).2 (hk hA o ho hF)⟩
    unfold wpOp;simp only[ho'];cases hw:La all o s with
    |none=>rw[hw]at h2;exact h2.elim
    |some b=>
     rw[hw]at h2;cases b with
     |false=>
      rw[Nz R hw];simp only[ER,if_false];have h3:=h2.2 rfl;exact⟨fun hA=>same G M w E h3.1 hA,h3.2 G0 w0 G _ w E (R.put (CH.refl _ _ _) R.inv (VR.sc _) hd)⟩
     |true=>
      rw[if_pos (Nz R hw)];refine .inl (oW R (h2.1 rfl) hd fun G' M' x w' v E' R' hk=>?_);exact⟨fun hA=>same G' M' w' (E.trans E') hk.1 hA,hk.2 G0 w0 G' _ w' (E.trans E') R'⟩
theorem Ai {i fuel listed s M}(hr:Region.ready .any all.toArray listed=[i])
    (h:FP P n all i s M fun s' M'=>Kept A F σ0 i M'/\Qm P n all Q F A σ0 fuel (listed.setIfInBounds i true) s' M'):Qm P n all Q F A σ0 (fuel+1) listed s M:=
  Eo hr (by simp) fun j hj=>by simp at hj;subst hj;exact h
def desc (ops:List Oper)(i:Nat):Array Bool:=
  ops.foldl (fun acc o=>acc.push (o.after.any fun e=>Region.binds .any e&&(e.on==i||acc.getD e.on false))) #[]
def WY (ops:List Oper)(D:Array Bool)(i:Nat):Bool:=
  (List.range D.size).all fun k=>!D.getD k false||match ops[k]? with
    |some o=>o.after.any fun e=>Region.binds .any e&&(e.on==i||D.getD e.on false)
    |none=>true
def tB (ops:List Oper)(A:Nat->Bool)(listed:Array Bool)(i:Nat):Bool:=
  (Region.ready .any ops.toArray listed).contains i&&Region.free .any ops.toArray listed i&&WY ops (desc ops i) i&&
  (List.range (desc ops i).size).all (fun k=>!(desc ops i).getD k false||!listed.getD k false)&&
  (List.range listed.size).all (fun j=>j==i||listed.getD j true||(desc ops i).getD j false||A j)
def gt (P:Program)(o:Oper)(s:Sl)(F:Nat->Prop)(σ0:St)(k:Sl->Prop)(g:Option Bool):Prop:=
  match g with
  |none=>False
  |some b=>(b=true->match aq P s σ0 o.op with
      |some x=>(∀p,LV s o.op=some p->F p)/\k (BI s o.dst x)
      |none=>False)/\(b=false->k (BI s o.dst (sc undef)))
theorem EE {P o s F σ0 k}:gt P o s F σ0 k (some true)=(match aq P s σ0 o.op with
      |some x=>(∀p,LV s o.op=some p->F p)/\k (BI s o.dst x)
      |none=>False):=by simp[gt]
theorem DN {P o s F σ0 k}:gt P o s F σ0 k (some false)=k (BI s o.dst (sc undef)):=by simp[gt]
theorem j9 {P o s F σ0 k b}(h1:b=true->gt P o s F σ0 k (some true))(h2:b=false->gt P o s F σ0 k (some false)):gt P o s F σ0 k (some b):=by
  cases b
  · exact h2 rfl
  · exact h1 rfl
def MQ (P:Program)(n:Nat)(all:List Oper)(F:Nat->Prop)(σ0:St)(i:Nat)(s:Sl)(K:Sl->Prop):Prop:=
  match all[i]? with
  |none=>False
  |some o=>DI n o.dst=true/\gt P o s F σ0 K (La all o s)
theorem cK {i fuel listed s}(hs:Region.noSelect all.toArray=true)(hB:tB all A listed i=true)(hp:∀c s M,¬Q (.panic c) s M)
    (h:MQ P n all F σ0 i s fun s'=>tM P n all Q F A σ0 fuel (listed.setIfInBounds i true) s'):tM P n all Q F A σ0 (fuel+1) listed s:=fun G a w R=>by
  unfold MQ at h;split at h
  · exact h.elim
  · rename_i o ho
    have ho':all.toArray[i]?=some o:=by simpa using ho
    obtain⟨hd,h2⟩:=h;simp only[tB,BX]at hB;obtain⟨⟨⟨⟨b1,b2⟩,b3⟩,b4⟩,b5⟩:=hB;have hD:∀k ok,all.toArray[k]?=some ok->(desc all i).getD k false=true->∃e∈ok.after,Region.binds .any e=true/\(e.on=i\/(desc all i).getD e.on false=true):=fun k ok hk hd=>by
      have hks:k<(desc all i).size:=by
        rcases FQ k (desc all i).size with h'|h'
        · exact h'
        · simp[JP h']at hd
      have:=EK.1 b3 k (by simpa using hks);rw[hd]at this;have hk':all[k]?=some ok:=by simpa using hk
      simp only[hk',JA,MP]at this;obtain⟨e,he,h3⟩:=Array.any_eq_true'.1 this;simp at h3;exact⟨e,he,h3.1,h3.2.imp id (fun h=>by simpa using h)⟩
    have hDl:∀k,(desc all i).getD k false=true->listed.getD k false=false:=fun k hk=>by
      have hks:k<(desc all i).size:=by
        rcases FQ k (desc all i).size with h'|h'
        · exact h'
        · simp[JP h']at hk
      have:=EK.1 b4 k (by simpa using hks);rw[hk]at this;simpa using this
    have hA:∀j,j≠i->listed.getD j true=false->(desc all i).getD j false=false->A j=true:=fun j hj hl hd=>by
      have hjs:j<listed.size:=by
        rcases FQ j listed.size with h'|h'
        · exact h'
        · simp[JP h']at hl
      have:=EK.1 b5 j (by simpa using hjs);rw[hl,hd]at this;simpa[hj]using this
    have hQ:∀v c a' w',ES n G σ0 w Q (.panic c) (Act.put a' o.dst v) w'->ES n G σ0 w Q (.panic c) a' w':=fun v c a' w' ⟨_,_,_,_,_,q⟩=>(hp _ _ _ q).elim;have go:∀v x,YieldsIf P all.toArray (Same F G σ0 w) o v a->VR G σ0 w v x->tM P n all Q F A σ0 fuel (listed.setIfInBounds i true) (BI s o.dst x)->Jh P all.toArray (ES n G σ0 w Q) (Same F G σ0 w) A (fuel+1) listed a w:=fun v x hy hv hT=>
      Qs (D:=fun k=>(desc all i).getD k false) ho' (Region.noSelect_spec hs) (hQ v) hD fuel listed a w hDl hA (Region.free_spec ho' b2) (by simpa using b1) hy (Same.refl _ _ _ _)
        (hT G _ w (R.put (CH.refl _ _ _) R.inv hv hd))
    cases hw:La all o s with
    |none=>rw[hw]at h2;exact h2.elim
    |some b=>
     rw[hw]at h2;cases b with
     |false=>exact go undef (sc undef) (.inr ⟨Nz R hw,rfl⟩) (VR.sc _) (h2.2 rfl)
     |true=>
      have h3:=h2.1 rfl;split at h3
      · rename_i x hx
        obtain⟨v,hv,hr⟩:=RH R.inv R.tmps hx h3.1;exact go v x (.inl ⟨Nz R hw,hr⟩) hv h3.2
      · exact h3.elim
def aT (P:Program)(n:Nat)(all:List Oper)(F:Nat->Prop)(σ0:St)(K:Sl->Prop):List Nat->Sl->Prop
  |[],s=>K s
  |i::rest,s=>MQ P n all F σ0 i s (aT P n all F σ0 K rest)
def aU (P:Program)(n:Nat)(all:List Oper)(A:Nat->Bool)(F:Nat->Prop)(σ0:St)(K:Sl->St->Prop):List Nat->Sl->St->Prop
  |[],s,M=>K s M
  |i::rest,s,M=>FP P n all i s M (QH A F σ0 i (aU P n all A F σ0 K rest))
def NO (ops:List Oper):List Nat->Array Bool->Bool
  |[],listed=>(Region.ready .any ops.toArray listed).isEmpty
  |i::rest,listed=>(match Region.ready .any ops.toArray listed with|[j]=>j==i|_=>false)&&NO ops rest (listed.setIfInBounds i true)
def OX (ops:List Oper)(A:Nat->Bool)(us:List Nat):List Nat->Array Bool->Bool
  |[],listed=>NO ops us listed
  |i::rest,listed=>tB ops A listed i&&OX ops A us rest (listed.setIfInBounds i true)
def QY (ops:List Oper)(lasts ts us:List Nat):Bool:=
  Region.noSelect ops.toArray&&Z ts+Z us==Z ops&&OX ops (fun j=>!lasts.contains j) us ts (Array.replicate (Z ops) false)
theorem pW:∀(us:List Nat) (listed:Array Bool) (s:Sl) (M:St),NO all us listed=true->aU P n all A F σ0 (Q .normal) us s M->Qm P n all Q F A σ0 (Z us) listed s M
  |[],listed,s,M,hB,h=>Ax (by simpa[NO]using hB) h
  |i::rest,listed,s,M,hB,h=>by
   simp only[NO,BX]at hB;have hr:Region.ready .any all.toArray listed=[i]:=by
     have:=hB.1;split at this
     · rename_i j hj;simp at this;rw[hj,this]
     · cases this
   refine Ai hr ?_;unfold aU at h;unfold FP at h⊢;split at h
   · exact h.elim
   · rename_i o ho
     refine⟨h.1,?_⟩;have h2:=h.2;cases hw:La all o s with
     |none=>rw[hw]at h2;exact h2.elim
     |some b=>
      rw[hw]at h2;exact⟨fun e=>aStep_mono (h2.1 e) fun x M' hk=>⟨hk.1,pW rest _ _ _ hB.2 hk.2⟩,fun e=>⟨(h2.2 e).1,pW rest _ _ _ hB.2 (h2.2 e).2⟩⟩
  where
  aStep_mono {P:Program} {o:Oper} {s:Sl} {M:St} {K K':AV->St->Prop} (h:DV P o s M K) (hk:∀x M',K x M'->K' x M'):DV P o s M K':=by
    unfold DV at*
    split at h
    · exact h.mono hk
    · split at h
      case h_2=>exact h.elim
      unfold Iv at*
      rcases h with h|h
      · left
        split at h
        · exact hk _ _ h
        · exact h.elim
      · right
        obtain⟨z,b,zc,id2,m,ys,h1,h2,h3,h4,h5,h6,h7,h8,h⟩:=h;refine⟨z,b,zc,id2,m,ys,h1,h2,h3,h4,h5,h6,h7,h8,?_⟩;rcases h with⟨e,g1,g2,h⟩|⟨o,n,cap,e,g1,g2,g3,g4,g5,g6⟩
        · exact .inl ⟨e,g1,g2,fun c hc=>hk _ _ (h c hc)⟩
        · exact .inr ⟨o,n,cap,e,g1,g2,g3,g4,fun c=>hk _ _ (g5 c),fun c c' hc=>hk _ _ (g6 c c' hc)⟩
    · split at h
      · exact hk _ _ h
      · split at h
        · exact hk _ _ h
        · exact h.elim
theorem eY (hs:Region.noSelect all.toArray=true)(hp:∀c s M,¬Q (.panic c) s M)(us):∀(ts:List Nat) (listed:Array Bool) (s:Sl),OX all A us ts listed=true->
    aT P n all F σ0 (fun s'=>aU P n all A F σ0 (Q .normal) us s' σ0) ts s->tM P n all Q F A σ0 (Z ts+Z us) listed s
  |[],listed,s,hB,h=>by
   simp only[CP,EJ];exact Q0 (pW us listed s σ0 hB h)
  |i::rest,listed,s,hB,h=>by
   simp only[OX,BX]at hB;have:Z (i::rest)+Z us=(Z rest+Z us)+1:=by simp;omega
   rw[this];refine cK hs hB.1 hp ?_;unfold aT at h;unfold MQ at h⊢;split at h
   · exact h.elim
   · rename_i o ho
     refine⟨h.1,?_⟩;have h2:=h.2;cases hw:La all o s with
     |none=>rw[hw]at h2;exact h2.elim
     |some b=>
      rw[hw]at h2;refine⟨fun e=>?_,fun e=>eY hs hp us rest _ _ hB.2 (h2.2 e)⟩;have h3:=h2.1 e;split at h3
      · exact⟨h3.1,eY hs hp us rest _ _ hB.2 h3.2⟩
      · exact h3.elim
theorem FD {s M id l}(hm:P.follows .mixedOrders=true)(F lasts ts us)(hB:QY l lasts ts us=true)(hp:∀c s M,¬Q (.panic c) s M)
    (h:aT P n l F M (fun s'=>aU P n l (fun j=>!lasts.contains j) F M (Q .normal) us s' M) ts s):Me P n (.region id l.toArray true) Q s M:=fun G a w R=>by
  simp only[QY,BX]at hB;obtain⟨⟨b1,b2⟩,b3⟩:=hB;obtain⟨I',E⟩:=R.inv.drawn (w.drawn+1);have R':FN n G s M a {w with drawn:=w.drawn+1}:=⟨R.defers,R.size,fun t=>(R.tmps t).ext E,I'⟩;have:=eY b1 hp us ts _ s b3 h G a _ R';have hl:Z ts+Z us=l.toArray.size:=by simpa using b2
  rw[hl]at this;refine wp_region_any hm (Pp (S:=Same F G M {w with drawn:=w.drawn+1}) (A:=fun j=>!lasts.contains j) _ _ _ _ ?_);simp only[List.size_toArray]at this⊢;exact wpAnyG_mono (fun e a w q=>q.ext E) _ _ _ _ this
  where
  wpAnyG_mono {P:Program} {ops:Array Oper} {Q Q':Exit->Act->World->Prop} {S:World->Prop} {A:Nat->Bool} (hq:∀e a w,Q e a w->Q' e a w):∀(fuel:Nat) (listed:Array Bool) (a:Act) (w:World),Jh P ops Q S A fuel listed a w->Jh P ops Q' S A fuel listed a w
    |0,_,_,_,h=>⟨h.1,hq _ _ _ h.2⟩
    |fuel+1,listed,a,w,h=>⟨fun h0=>hq _ _ _ (h.1 h0),fun i hi=>wpOp_mono_q (fun a' w' h'=>⟨h'.1,wpAnyG_mono hq fuel _ a' w' h'.2⟩) hq (h.2 i hi)⟩
  wpOp_mono_q {P:Program} {ops:Array Oper} {Q Q':Exit->Act->World->Prop} {i:Nat} {a:Act} {w:World} {K K':Act->World->Prop} (hk:∀a w,K a w->K' a w) (hq:∀e a w,Q e a w->Q' e a w) (h:wpOp P ops Q i K a w):wpOp P ops Q' i K' a w:=by
    unfold wpOp at*
    split
    · exact hk _ _ (by simpa[*]using h)
    · rename_i o ho
      simp only[ho]at h;have hlets:LetsOut Q->LetsOut Q':=fun⟨a,w,q⟩=>⟨a,w,hq _ _ _ q⟩;split
      · rename_i hw
        simp only[hw,if_true]at h;rcases h with h|h
        · refine .inl ?_
          unfold Oper.wp at*
          generalize (execOp a.eval o).run P w=r at*
          cases r with
          |ok nx w'=>
           cases nx<;>simp only[Oper.upon]at h⊢ <;>
             first
               |exact hk _ _ h
               |exact Calls.mono h (fun e w'' he=>by cases e<;>first|exact hk _ _ he|exact hq _ _ _ he|exact hlets he)
               |exact Rows.mono h (fun _ _ he=>hk _ _ he)
          |halt x w'=>cases x<;>simp only[Oper.upon]at h⊢ <;>exact hq _ _ _ h
        · exact .inr ⟨h.1,hlets h.2⟩
      · rename_i hw;simp only[hw]at h;exact hk _ _ h
end
theorem i64w {n}(h1: -9223372036854775808<=n)(h2:n<=9223372036854775807):IntKind.i64.wrap n=n:=Go.IntWalk.i64_in n ⟨h1,h2⟩
theorem u8w {n}(h1:0<=n)(h2:n<=255):IntKind.u8.wrap n=n:=Go.IntWalk.u8_in n ⟨h1,h2⟩
theorem SI {α:Sort _}{c:Prop}{_:Decidable c}{a b:α}(h:c):(if c then a else b)=a:=if_pos h
def bs (l:List UInt8):ByteArray:=⟨l.toArray⟩
abbrev str (l:List UInt8):AV:=sc (.string (bs l))
theorem Oy (l):(bs l).size=Z l:=by simp[bs,ByteArray.size]
theorem SJ (l)(i:Nat):(bs l)[i]?=l[i]?:=by
  by_cases h:i<Z l
  · have h2:i<(bs l).size:=by rw[Oy];exact h
    rw[getElem?_pos (bs l) i h2,AJ h];rfl
  · have h2:¬i<(bs l).size:=by rw[Oy];exact h
    rw[getElem?_neg (bs l) i h2,FK AA]
theorem eH (l):(bs l).toList=l:=by unfold bs;exact ByteArray.toList_mk l
theorem Yz (l i j):(bs l).extract i j=bs ((l.drop i).take (j-i)):=by unfold bs;exact ByteArray.extract_mk l i j
theorem eI (l m):bs l++bs m=bs (l++m):=by unfold bs;exact ByteArray.mk_append_mk l m
theorem ir (b):b=bs b.data.toList:=by
  cases b;simp[bs]
theorem RP:(⟨#[]⟩:ByteArray)=bs []:=rfl
def EL {α:Type}(E:α->List AV->Prop):List α->List AV->Prop
  |[],cs=>cs=[]
  |a::l,cs=>∃c d,E a c/\EL E l d/\cs=c++d
section
variable {α:Type} {E:α->List AV->Prop} {z:Nat}
theorem EL.length (hz:∀a c,E a c->Z c=z):∀{l:List α} {cs:List AV},EL E l cs->Z cs=Z l*z
  |[],cs,h=>by simp[EL]at h;simp[h]
  |a::l,cs,⟨c,d,hc,hd,e⟩=>by rw[e,AX,hz a c hc,EL.length hz hd,BQ,JG];omega
theorem EL.append:∀{l m:List α} {cs ds:List AV},EL E l cs->EL E m ds->EL E (l++m) (cs++ds)
  |[],m,cs,ds,h,h'=>by simp[EL]at h;subst h;exact h'
  |a::l,m,cs,ds,⟨c,d,hc,hd,e⟩,h'=>⟨c,d++ds,hc,EL.append hd h',by rw[e,CX]⟩
theorem EL.single {a c}(h:E a c):EL E [a] c:=⟨c,[],h,rfl,by simp⟩
theorem EL.get (hz:∀a c,E a c->Z c=z):∀{l:List α} {cs:List AV} {i:Nat} {a:α},EL E l cs->l[i]?=some a->∃c r,E a c/\cs.drop (i*z)=c++r
  |[],cs,i,a,h,hi=>by simp at hi
  |b::l,cs,0,a,⟨c,d,hc,hd,e⟩,hi=>by simp at hi;subst hi;exact⟨c,d,hc,by simp[e]⟩
  |b::l,cs,i+1,a,⟨c,d,hc,hd,e⟩,hi=>by
   obtain⟨c',r,h1,h2⟩:=EL.get hz hd (i:=i) (by simpa using hi);refine⟨c',r,h1,?_⟩;rw[<-h2,e,show (i+1)*z=Z c+i*z by rw[hz b c hc,JG];omega,List.drop_append,NW AA,Nat.add_sub_cancel_left];rfl
theorem EL.mono {E'}(h:∀a c,E a c->E' a c):∀{l:List α} {cs:List AV},EL E l cs->EL E' l cs
  |[],cs,hl=>hl
  |a::l,cs,⟨c,d,hc,hd,e⟩=>⟨c,d,h a c hc,EL.mono h hd,e⟩
theorem EL.flat (hf:∀a c,E a c->c.all flat=true):∀{l:List α} {cs:List AV},EL E l cs->cs.all flat=true
  |[],cs,h=>by simp[EL]at h;simp[h]
  |a::l,cs,⟨c,d,hc,hd,e⟩=>by rw[e,List.all_append,hf a c hc,EL.flat hf hd];rfl
end
def E1 {α:Type}(f:α->AV)(a:α)(c:List AV):Prop:=c=[f a]
structure AE (M M':St):Prop where
  B:M.B<=M'.B
  C:∀o,o<M.B->M'.C o=M.C o
  ver:∀o,o<M.B->M'.ver o=M.ver o
  D:M.D<=M'.D
  top:∀k,k<M.D->M'.top k=M.top k
theorem AE.refl (M):AE M M:=⟨AR _,fun _ _=>rfl,fun _ _=>rfl,AR _,fun _ _=>rfl⟩
theorem AE.trans {a b c}(h:AE a b)(k:AE b c):AE a c:=
  ⟨BO h.B k.B,fun o ho=>(k.C o (By ho h.B)).trans (h.C o ho),fun o ho=>(k.ver o (By ho h.B)).trans (h.ver o ho),
   BO h.D k.D,fun o ho=>(k.top o (By ho h.D)).trans (h.top o ho)⟩
theorem AE.new {a b}(h:AE a b)(cs):AE a (b.new cs):=by
  have:=h.B;exact⟨by simp[St.new];omega,fun o ho=>by simp[St.new];rw[if_neg AA];exact h.C o ho,h.ver,h.D,h.top⟩
theorem AE.put {a b}(h:AE a b){o}(ho:a.B<=o)(cs):AE a (b.put o cs):=
  ⟨h.B,fun p hp=>by simp[St.put];rw[if_neg AA];exact h.C p hp,fun p hp=>by simp[St.put];rw[if_neg AA];exact h.ver p hp,h.D,h.top⟩
theorem AE.lay {a b}(h:AE a b)(n):AE a (b.lay n):=by
  have:=h.D;exact⟨h.B,h.C,h.ver,by simp[St.lay];omega,fun k hk=>by simp[St.lay];rw[if_neg AA];exact h.top k hk⟩
theorem AE.raise {a b}(h:AE a b){k}(hk:a.D<=k)(n):AE a (b.raise k n):=
  ⟨h.B,h.C,h.ver,h.D,fun j hj=>by simp[St.raise];rw[if_neg AA];exact h.top j hj⟩
theorem Ao {M:St}{cs}:(M.new cs).C M.B=cs:=by simp[St.new]
theorem Bg {M:St}{cs o}(h1:o<=M.B)(h2:M.B<=o):(M.new cs).C o=cs:=by simp[St.new];intro h;omega
theorem Ah {M:St}{cs o}(h:o<M.B):(M.new cs).C o=M.C o:=by simp[St.new];intro e;omega
theorem Aa {M:St}{cs}:(M.new cs).B=M.B+1:=rfl
theorem wA {M:St}{cs}:(M.new cs).top=M.top:=rfl
theorem mS {M:St}{cs}:(M.new cs).D=M.D:=rfl
theorem Ak {M:St}{cs o}:(M.put o cs).C o=cs:=by simp[St.put]
theorem Aj {M:St}{cs o p}(h:p<o):(M.put o cs).C p=M.C p:=by simp[St.put];intro e;omega
theorem Oe {M:St}{cs o p}(h:o<p):(M.put o cs).C p=M.C p:=by simp[St.put];intro e;omega
theorem Ab {M:St}{cs o}:(M.put o cs).B=M.B:=rfl
theorem Od {M:St}{cs o}:(M.put o cs).top=M.top:=rfl
theorem Nc {M:St}{cs o}:(M.put o cs).D=M.D:=rfl
theorem H6 {M:St}{n}:(M.lay n).C=M.C:=rfl
theorem Av {M:St}{n}:(M.lay n).B=M.B:=rfl
theorem K4 {M:St}{n}:(M.lay n).D=M.D+1:=rfl
def Own (σ0 M:St)(id n:Nat):Prop:=(id=1/\n=0)\/∃k,id=k+2/\σ0.D<=k/\k<M.D/\M.top k=n/\0<n
theorem Own.nil (σ0 M):Own σ0 M 1 0:=.inl ⟨rfl,rfl⟩
theorem Own.keep {σ0 M M' id n}(h:Own σ0 M id n)(k:AE M M'):Own σ0 M' id n:=by
  rcases h with h|⟨j,h1,h2,h3,h4,h5⟩
  · exact .inl h
  · exact .inr ⟨j,h1,h2,By h3 k.D,(k.top j h3).trans h4,h5⟩
theorem Own.made {σ0 M}(h:AE σ0 M){n}(hn:0<n):Own σ0 (M.lay n) (M.D+2) n:=
  .inr ⟨M.D,rfl,h.D,by simp[St.lay],by simp[St.lay],hn⟩
theorem Own.new {σ0 M id n}(h:Own σ0 M id n)(cs):Own σ0 (M.new cs) id n:=h
theorem Own.put {σ0 M id n}(h:Own σ0 M id n)(p cs):Own σ0 (M.put p cs) id n:=h
theorem Bn {P t z b zc σ0 M id id2 n m m' xs ys K}(ht:O5 P t=some (z,b,zc))(hK:AE σ0 M)(hO:Own σ0 M id n)
    (hz:0<z) (hzc:Z zc=z) (hx:Z xs=n*z) (hy:Z ys=m*z) (hf:ys.all flat=true) (hm:0<m) (hb:(n+m)*b<=140737488355328) (hl:n+m<=1099511627776)
    (h:∀id' M',Own σ0 M' id' (n+m)->AE σ0 M'->M'.C=M.C->M'.B=M.B->M'.ver=M.ver->M.D<M'.D->K (sl id' (n+m) (xs++ys)) M'):Iv P t t (sl id n xs) (sl id2 m ys) (M.lay m') K:=by
  unfold Iv iE;left;simp only[ht];rw[if_pos ⟨trivial,hz,hzc,hx,hy,hf,hm,hb,hl⟩];rcases hO with⟨rfl,rfl⟩|⟨k,rfl,h2,h3,h4,h5⟩
  · have hxs:xs=[]:=GQ (by simpa using hx)
    subst hxs;have:=h ((M.lay m').D+2) ((M.lay m').lay m) (by rw[EJ];exact Own.made (hK.lay m') hm) ((hK.lay m').lay m) rfl rfl rfl (by simp[St.lay];omega);simpa using this
  · have e1:(M.lay m').top k=n:=by simp[St.lay];rw[if_neg AA];exact h4
    simp only;rw[if_pos ⟨e1,h5⟩];exact h (k+2) _ (.inr ⟨k,rfl,h2,by simp[St.raise,St.lay];omega,by simp[St.raise],AA⟩) ((hK.lay m').raise h2 _) rfl rfl rfl (by simp[St.raise,St.lay])
theorem pw {P t t' y M K}(h:Iv P t t' nilS y M K):Iv P t t' nilS y M K:=h
theorem VW {P t z b zc M id2 m ys K}(ht:O5 P t=some (z,b,zc))(hz0:Z zc=z)
    (hz:0<z) (hy:Z ys=m*z) (hf:ys.all flat=true) (hm:0<m) (hb:m*b<=140737488355328) (hl:m<=1099511627776)
    (h:K (sl (M.D+2) m ys) (M.lay m)):Iv P t t nilS (sl id2 m ys) M K:=by
  unfold Iv iE;left;simp only[ht];rw[if_pos ⟨trivial,hz,hz0,by simp,hy,hf,hm,by simpa using hb,by simpa using hl⟩];exact h
theorem nC {α β:Type}(f:α->β):(#[]:Array α).toList.map f=[]:=rfl
theorem dJ {α β:Type}(f:α->β)(a l):(List.toArray (a::l)).toList.map f=f a::(List.toArray l).toList.map f:=rfl
theorem TI {a b:Prop}(h:a/\b):a/\b:=h
theorem px {P n Q s M c x y}(h:Me P n (.cond c x y) Q s M):Me P n (.cond c x y) Q s M:=h
theorem py {P t t' x y M K}(h:Iv P t t' x y M K):Iv P t t' x y M K:=h
theorem eO {P f args M R}(h:AF P f args M R):AF P f args M R:=h
def AD (p:Prop):Prop:=p
theorem AD.o {p:Prop}(h:AD p):p:=h
theorem R4 {P n Q s M id l}(h:∀K:Sl->St->Prop,AD (∀s M,Q .normal s M->K s M)->FR P n l K l s M):Me P n (.region id l.toArray false) Q s M:=
  tG (h (Q .normal) fun _ _ h=>h)
theorem Ay {P n Q s M id l}(hm:P.follows .mixedOrders=true)(F lasts ts us)(hB:QY l lasts ts us=true)(hp:∀c s M,¬Q (.panic c) s M)
    (h:∀K:Sl->St->Prop,AD (∀s M,Q .normal s M->K s M)->aT P n l F M (fun s'=>aU P n l (fun j=>!lasts.contains j) F M K us s' M) ts s):Me P n (.region id l.toArray true) Q s M:=
  FD hm F lasts ts us hB hp (h (Q .normal) fun _ _ h=>h)
theorem Bt {P n Q s M c x y}(hc:BU s c=sc (.bool true))(h:Me P n x Q s M):Me P n (.cond c x y) Q s M:=R5 hc h
theorem Ct {P n Q s M c x y}(hc:BU s c=sc (.bool false))(h:Me P n y Q s M):Me P n (.cond c x y) Q s M:=R5 hc h
def NS (n:Nat)(v:Value):List Value:=List.replicate n v
def Lb (n:Nat)(v:Value):List AV:=List.replicate n (cst1 v)
theorem mZ {n v}:(NS n v).map cst1=Lb n v:=by simp[NS,Lb]
theorem kept_refl {A F M i}:Kept A F M i M:=fun _ _ _ _=>rfl
theorem Al {A F M M' i}(h:AE M M'):Kept A F M i M':=fun _ o ho _=>h.ver o ho
theorem A5 {A F M M' i}(h:A i=false):Kept A F M i M':=fun h'=>by rw[h]at h';cases h'
def Plain (c:AV):Prop:=(∃v,c=sc v)\/∃id k xs,c=sl id k xs/\∀x∈xs,∃v,x=sc v
theorem VR.plain {G' G2 M' M2 w'}(hp:∀b off,G'.per b off->G2.per b off)(ht:M2.D=M'.D)(htop:M2.top=M'.top)(hsz:G2.siz=G'.siz)(hcu:G2.cur=G'.cur)(hca:G2.cap=G'.cap)
    {v x} (hx:Plain x) (h:VR G' M' w' v x):VR G2 M2 w' v x:=by
  rcases hx with⟨u,rfl⟩|⟨id,k,xs,rfl,hxs⟩
  · exact VR.fold (show v=u from h.unfold)
  · obtain⟨base,cap,e,h1,h2,h3⟩:=VR.of_sl h
    refine VR.fold ⟨base,cap,e,h1,fun hne=>?_,?_⟩
    · obtain⟨b,o,e,l⟩:=h2 hne
      refine⟨b,o,e,fun i x hx=>?_⟩;obtain⟨p,c,hc,r⟩:=l i x hx;obtain⟨u,rfl⟩:=hxs x (BD hx);exact⟨hp _ _ p,c,hc,VR.fold (show c=u from r.unfold)⟩
    · rw[ht,htop,hsz,hcu,hca];exact h3
theorem AF.freeze {P f args M}{Q:Nat->List AV->Prop}
    (h:AF P f args M fun x M'=>∃(o n:Nat) (cs:List AV),x=fx o 0 n/\M.B<=o/\M'.C o=cs/\AE M M'/\(∀c∈cs,Plain c)/\Q n cs):
    AF P f args M fun x M'=>∃n cs,x=sl 0 n cs/\Q n cs/\AE M M':=by
  refine⟨h.1,fun G w c I A=>(h.2 G w c I A).mono ?_⟩;rintro e w' ⟨v,G',x,M',he,I',E,hv,o,n,cs,rfl,ho,hob,hK,hpl,hq⟩;obtain⟨⟨cap,hvv,hle⟩,hlt⟩:=VR.of_fx' hv;let G2:Gh:={G' with per:=fun b off=>G'.per b off\/(b=G'.blk o/\off<Z cs)};let M2:St:={M' with B:=M.B};have E2:CH G M w G2 M2 w':=⟨E.base,E.w0,AR _,E.blk,E.D,E.top,fun b off p=>⟨.inl (E.per b off p).1,(E.per b off p).2⟩,fun o h=>E.ver o h⟩
  have I2:Inv G2 M2 w':=
    ⟨fun p hp=>by
      have hp:p<M.B:=hp;have hp':p<M'.B:=By hp hK.B;obtain⟨h1,h2,h3⟩:=I.C p hp;refine⟨(I'.C p hp').1,(I'.C p hp').2.1,fun hne=>?_⟩;have hne':M'.C p≠[]:=hne;have hne2:M.C p≠[]:=by rw[<-hK.C p hp];exact hne'
      obtain⟨⟨arr0,e0,hh,ha⟩,-⟩:=h3 hne2;refine⟨⟨arr0,e0,?_,?_⟩,?_⟩
      · show w'.heap[G'.blk p]?=_
        rw[E.blk p hp,(E.ver p hp).2 (hK.ver p hp)];exact hh
      · show AQ (VR G2 M2 w') arr0.toList (M'.C p)
        rw[hK.C p hp];exact VR.all E2 ha
      · rintro off (hh|⟨hh,-⟩)
        · exact ((I'.C p hp').2.2 hne').2 off hh
        · have:=I'.inj p o hp' hlt hh
          omega,
     fun p q hp hq=>I'.inj p q (By hp hK.B) (By hq hK.B),
     fun k hk=>by
      obtain⟨h1,h2,h3,h4⟩:=I'.lin k hk;refine⟨h1,h2,h3,?_⟩;rintro off (hh|⟨hh,-⟩)
      · exact h4 off hh
      · exact absurd hh.symm (I'.apart o k hlt hk),
     I'.linj,
     fun p k hp hk=>I'.apart p k (By hp hK.B) hk,
     fun b off hh=>by
      rcases hh with hh|⟨hh,-⟩
      · exact I'.perlt b off hh
      · rw[hh];exact I'.blk_lt hlt,
     fun b off hb=>.inl (I'.perlo b off hb),I'.below,I'.le,I'.hyp⟩
  refine⟨v,G2,sl 0 n cs,M2,he,I2,E2,VR.fold ⟨some ⟨G'.blk o,0,none⟩,cap,hvv,⟨hle,fun h=>by cases h⟩,fun _=>⟨G'.blk o,0,rfl,fun i x hx=>?_⟩,fun k hk=>AA⟩,n,cs,rfl,hq,⟨AR _,hK.C,hK.ver,hK.D,hK.top⟩⟩;have hi:=(BG.1 hx).1;obtain⟨⟨arr,e',hheap,hall⟩,hper⟩:=(I'.C o hlt).2.2 (fun e=>by rw[hob]at e;rw[e]at hi;simp at hi);rw[hob]at hall;refine⟨.inr ⟨rfl,AA⟩,?_⟩;have hl:=hall.1;have hg:arr.toList[i]?=some (arr.toList[i]'AA):=AJ _;refine⟨arr.toList[i]'AA,?_,VR.plain (G2:=G2) (M2:=M2) (G':=G') (M':=M') (fun b off p=>Or.inl p) rfl rfl rfl rfl rfl (hpl x (BD hx)) (hall.2 i _ _ hg hx)⟩;unfold World.cell?;rw[hheap];simp
section
variable {P:Program} {n:Nat} {Q:Im} {F:Nat->Prop} {A:Nat->Bool} {σ0:St} {all:List Oper}
def MW (ops:List Oper)(A:Nat->Bool)(L:Array Bool):List Nat->Array Bool->Bool
  |[],listed=>listed==L
  |i::rest,listed=>tB ops A listed i&&MW ops A L rest (listed.setIfInBounds i true)
theorem eX (hs:Region.noSelect all.toArray=true)(hp:∀c s M,¬Q (.panic c) s M)(m L):∀(ts:List Nat) (listed:Array Bool) (s:Sl),MW all A L ts listed=true->
    aT P n all F σ0 (fun s'=>Qm P n all Q F A σ0 m L s' σ0) ts s->tM P n all Q F A σ0 (Z ts+m) listed s
  |[],listed,s,hB,h=>by
   simp only[MW,EH]at hB;subst hB;simp only[CP,EJ];exact Q0 h
  |i::rest,listed,s,hB,h=>by
   simp only[MW,BX]at hB;have:Z (i::rest)+m=(Z rest+m)+1:=by simp;omega
   rw[this];refine cK hs hB.1 hp ?_;unfold aT at h;unfold MQ at h⊢;split at h
   · exact h.elim
   · rename_i o ho
     refine⟨h.1,?_⟩;have h2:=h.2;cases hw:La all o s with
     |none=>rw[hw]at h2;exact h2.elim
     |some b=>
      rw[hw]at h2;refine⟨fun e=>?_,fun e=>eX hs hp m L rest _ _ hB.2 (h2.2 e)⟩;have h3:=h2.1 e;split at h3
      · exact⟨h3.1,eX hs hp m L rest _ _ hB.2 h3.2⟩
      · exact h3.elim
theorem Aq {s M id l}(hm:P.follows .mixedOrders=true)(F)(lasts ts:List Nat)(m L)
    (hB:(Region.noSelect l.toArray&&Z ts+m==Z l&&MW l (fun j=>!lasts.contains j) L ts (Array.replicate (Z l) false))=true) (hp:∀c s M,¬Q (.panic c) s M)
    (h:∀K:Sl->Prop,AD (∀s',Qm P n l Q F (fun j=>!lasts.contains j) M m L s' M->K s')->aT P n l F M K ts s):Me P n (.region id l.toArray true) Q s M:=fun G a w R=>by
  simp only[BX]at hB;obtain⟨⟨b1,b2⟩,b3⟩:=hB;obtain⟨I',E⟩:=R.inv.drawn (w.drawn+1);have R':FN n G s M a {w with drawn:=w.drawn+1}:=⟨R.defers,R.size,fun t=>(R.tmps t).ext E,I'⟩;have:=eX b1 hp m L ts _ s b3 (h _ fun _ h=>h) G a _ R';have hl:Z ts+m=l.toArray.size:=by simpa using b2
  rw[hl]at this;refine wp_region_any hm (Pp (S:=Same F G M {w with drawn:=w.drawn+1}) (A:=fun j=>!lasts.contains j) _ _ _ _ ?_);simp only[List.size_toArray]at this⊢;exact FD.wpAnyG_mono (fun e a w q=>q.ext E) _ _ _ _ this
def QG:Op->Bool
  |.move _=>true
  |.assign _=>true
  |.extract _ _=>true
  |_=>false
theorem pe {G s M w}{a:Act}(hs:∀t,VR G M w (a.tmps.getD t undef) (s t)){o x}(hp:QG o.op=true)(h:aq P s M o.op=some x):∃v,VR G M w v x/\∀w',(execOp a.eval o).run P w'= .ok (.value v) w':=by
  cases hop:o.op<;>rw[hop]at hp h<;>simp[QG]at hp
  case move y=>simp only[aq]at h;cases h;exact⟨_,Bh hs y,fun w'=>by simp[execOp,hop]⟩
  case assign y=>simp only[aq]at h;cases h;exact⟨_,Bh hs y,fun w'=>by simp[execOp,hop]⟩
  case extract y i=>
    simp only[aq]at h;split at h
    case h_2=>cases h
    rename_i xs hx;have hv:=Bh hs y;rw[hx]at hv;obtain⟨cs,he,ha⟩:=VR.of_tp hv;obtain⟨v,h1,h2⟩:=ha.get h
    exact⟨v,h2,fun w'=>by
      have:cs[i]?=some v:=by simpa using h1
      simp[execOp,hop,Instr.extract,he,this]⟩
theorem Ed {i fuel listed s M}(o x)(ho:all[i]?=some o)(hpu:QG o.op=true)(hg:o.guard=none)(hd:DI n o.dst=true)(hx:aq P s M o.op=some x)(hs:Region.noSelect all.toArray=true)(hB:tB all A listed i=true)(hp:∀c s M,¬Q (.panic c) s M)
    (hk:∀o,o<σ0.B->F o->M.ver o=σ0.ver o) (h:Qm P n all Q F A σ0 fuel (listed.setIfInBounds i true) (BI s o.dst x) M):Qm P n all Q F A σ0 (fuel+1) listed s M:=fun G0 w0 G a w E R=>by
  have ho':all.toArray[i]?=some o:=by simpa using ho
  simp only[tB,BX]at hB;obtain⟨⟨⟨⟨b1,b2⟩,b3⟩,b4⟩,b5⟩:=hB;have hD:∀k ok,all.toArray[k]?=some ok->(desc all i).getD k false=true->∃e∈ok.after,Region.binds .any e=true/\(e.on=i\/(desc all i).getD e.on false=true):=fun k ok hk hd=>by
    have hks:k<(desc all i).size:=by
      rcases FQ k (desc all i).size with h'|h'
      · exact h'
      · simp[JP h']at hd
    have:=EK.1 b3 k (by simpa using hks);rw[hd]at this;have hk':all[k]?=some ok:=by simpa using hk
    simp only[hk',JA,MP]at this;obtain⟨e,he,h3⟩:=Array.any_eq_true'.1 this;simp at h3;exact⟨e,he,h3.1,h3.2.imp id (fun h=>by simpa using h)⟩
  have hDl:∀k,(desc all i).getD k false=true->listed.getD k false=false:=fun k hk=>by
    have hks:k<(desc all i).size:=by
      rcases FQ k (desc all i).size with h'|h'
      · exact h'
      · simp[JP h']at hk
    have:=EK.1 b4 k (by simpa using hks);rw[hk]at this;simpa using this
  have hA:∀j,j≠i->listed.getD j true=false->(desc all i).getD j false=false->A j=true:=fun j hj hl hd=>by
    have hjs:j<listed.size:=by
      rcases FQ j listed.size with h'|h'
      · exact h'
      · simp[JP h']at hl
    have:=EK.1 b5 j (by simpa using hjs);rw[hl,hd]at this;simpa[hj]using this
  obtain⟨v,hv,hr⟩:=pe (P:=P) R.tmps hpu hx;have hw:Region.wanted o (yielded all.toArray a.tmps)=true:=by unfold Region.wanted;rw[hg]
  exact Qs (D:=fun k=>(desc all i).getD k false) ho' (Region.noSelect_spec hs) (fun c a' w' ⟨_,_,_,_,_,q⟩=>(hp _ _ _ q).elim) hD fuel listed a w hDl hA (Region.free_spec ho' b2) (by simpa using b1)
    (.inl ⟨hw,fun w' _=>hr w'⟩) ⟨fun b o p=>(E.per b o p).2,fun o ho hF=>(E.ver o ho).2 (hk o ho hF)⟩
    (h G0 w0 G _ w E (R.put (CH.refl _ _ _) R.inv hv hd))
theorem Am {i s M K}(h:∀yd:Sl->St->Prop,AD (∀s' M',K s' M'->yd s' M')->FP P n all i s M yd):FP P n all i s M K:=h K fun _ _ h=>h
end
section
variable {P:Program} {n:Nat} {Q:Im} {F:Nat->Prop} {A:Nat->Bool} {σ0:St} {all:List Oper}
theorem Qr {ops Q S S'}(hS:∀w,S w->S' w):∀(fuel:Nat) (listed:Array Bool) (a:Act) (w:World),Jh P ops Q S A fuel listed a w->Jh P ops Q S' A fuel listed a w
  |0,_,_,_,h=>h
  |fuel+1,listed,a,w,h=>⟨h.1,fun i hi=>wpOp_mono (fun a' w' h'=>⟨fun hA=>hS _ (h'.1 hA),Qr hS fuel _ a' w' h'.2⟩) (h.2 i hi)⟩
theorem uB {fuel listed s M}(hno:σ0.B<=M.B)(hk:∀o,o<σ0.B->F o->M.ver o=σ0.ver o)(h:tM P n all Q F A M fuel listed s):Qm P n all Q F A σ0 fuel listed s M:=fun G0 w0 G a w E R=>by
  have h1:=h G a w R;have h2:=FD.wpAnyG_mono (Q':=ES n G0 σ0 w0 Q) (fun e a w q=>q.ext E) _ _ _ _ h1;refine Qr (fun w' hs=>⟨fun b o p=>?_,fun o ho hF=>?_⟩) _ _ _ _ h2
  · obtain⟨p1,p2⟩:=E.per b o p
    exact (hs.1 b o p1).trans p2
  · have:=hs.2 o (By ho hno) hF
    rw[E.blk o ho]at this;exact this.trans ((E.ver o ho).2 (hk o ho hF))
theorem Ci {listed s M}(ts)(hs:Region.noSelect all.toArray=true)(hB:OX all A [] ts listed=true)(hp:∀c s M,¬Q (.panic c) s M)(hno:σ0.B<=M.B)(hk:∀o,o<σ0.B->F o->M.ver o=σ0.ver o)
    (h:∀yd:Sl->St->Prop,AD (∀s M,Q .normal s M->yd s M)->aT P n all F M (fun s'=>yd s' M) ts s):Qm P n all Q F A σ0 (Z ts) listed s M:=
  uB hno hk (by
    have:=eY (P:=P) (n:=n) (Q:=Q) (F:=F) (A:=A) (σ0:=M) (all:=all) hs hp [] ts listed s hB (by
      have h1:=h (Q .normal) fun _ _ h=>h
      exact h1)
    simpa using this)
end
theorem B0:type_of% (And.intro @implies_true.{1} (And.intro @mZ (And.intro @List.head?_drop.{0} (And.intro @Nat.mul_one (And.intro @List.length_map.{0,0} (And.intro @Nat.zero_mul (And.intro @Nat.zero_add (And.intro @Option.map_none.{0,0} (And.intro @Nat.add_one_sub_one (And.intro @Nat.sub_zero (And.intro @List.take_length.{0} (And.intro @List.all_cons.{0} (And.intro @List.all_nil.{0} (And.intro @Option.map_some.{0,0} (And.intro @Option.bind_some.{0,0} (And.intro @Option.bind_none.{0,0} (And.intro @List.getElem?_cons_zero.{0} (And.intro @List.getElem?_cons_succ.{0} (And.intro @List.getElem?_toArray.{0} (And.intro @List.map_cons.{0,0} (And.intro @List.map_nil.{0,0} (And.intro @List.toList_toArray.{0} (And.intro @decide_true (And.intro @decide_false (And.intro @Bool.true_and (And.intro @Bool.and_true (And.intro @beq_self_eq_true.{0} (And.intro @beq_true (And.intro @beq_false (And.intro @Bool.not_false (And.intro @Bool.not_true (And.intro @ge_iff_le.{0} (And.intro @gt_iff_lt.{0} (And.intro @true_and (And.intro @and_true (And.intro @List.getD_cons_zero.{0} (And.intro @List.getD_cons_succ.{0} (And.intro @List.length_cons.{0} (And.intro @List.length_nil.{0} (And.intro @List.drop_succ_cons.{0} (And.intro @List.drop_zero.{0} (And.intro @List.take_succ_cons.{0} (And.intro @List.take_zero.{0} (And.intro @List.head?_cons.{0} (And.intro @Option.isSome_some.{0} (And.intro @if_true.{1} (And.intro @if_false.{1} (And.intro @Bool.false_eq_true (And.intro @Int.toNat_natCast (And.intro @Ao (And.intro @Bg (And.intro @Ah (And.intro @Aa (And.intro @wA (And.intro @mS (And.intro @Ak (And.intro @Aj (And.intro @Ab (And.intro @Od (And.intro @Nc (And.intro @H6 (And.intro @Av (And.intro @K4 (And.intro @Oy (And.intro @SJ (And.intro @eH (And.intro @Yz (And.intro @eI (And.intro @RP (And.intro @List.set_cons_zero.{0} (And.intro @List.set_cons_succ.{0} (And.intro @List.cons_append.{0} (And.intro @List.nil_append.{0} (And.intro @List.append_nil.{0} (And.intro @List.replicate_succ.{0} (And.intro @List.replicate_zero.{0} (And.intro @List.flatten_cons.{0} (And.intro @List.flatten_nil.{0} (And.intro @ne_eq.{1} (And.intro @not_true_eq_false (And.intro @false_or (And.intro @or_false (And.intro @Nat.lt_irrefl (And.intro @Int.natCast_nonneg (And.intro @i64w (And.intro @SI.{1} (And.intro @Oe (@implies_true.{0})))))))))))))))))))))))))))))))))))))))))))))))))))))))))))))))))))))))))))))))))))))))):=And.intro @implies_true.{1} (And.intro @mZ (And.intro @List.head?_drop.{0} (And.intro @Nat.mul_one (And.intro @List.length_map.{0,0} (And.intro @Nat.zero_mul (And.intro @Nat.zero_add (And.intro @Option.map_none.{0,0} (And.intro @Nat.add_one_sub_one (And.intro @Nat.sub_zero (And.intro @List.take_length.{0} (And.intro @List.all_cons.{0} (And.intro @List.all_nil.{0} (And.intro @Option.map_some.{0,0} (And.intro @Option.bind_some.{0,0} (And.intro @Option.bind_none.{0,0} (And.intro @List.getElem?_cons_zero.{0} (And.intro @List.getElem?_cons_succ.{0} (And.intro @List.getElem?_toArray.{0} (And.intro @List.map_cons.{0,0} (And.intro @List.map_nil.{0,0} (And.intro @List.toList_toArray.{0} (And.intro @decide_true (And.intro @decide_false (And.intro @Bool.true_and (And.intro @Bool.and_true (And.intro @beq_self_eq_true.{0} (And.intro @beq_true (And.intro @beq_false (And.intro @Bool.not_false (And.intro @Bool.not_true (And.intro @ge_iff_le.{0} (And.intro @gt_iff_lt.{0} (And.intro @true_and (And.intro @and_true (And.intro @List.getD_cons_zero.{0} (And.intro @List.getD_cons_succ.{0} (And.intro @List.length_cons.{0} (And.intro @List.length_nil.{0} (And.intro @List.drop_succ_cons.{0} (And.intro @List.drop_zero.{0} (And.intro @List.take_succ_cons.{0} (And.intro @List.take_zero.{0} (And.intro @List.head?_cons.{0} (And.intro @Option.isSome_some.{0} (And.intro @if_true.{1} (And.intro @if_false.{1} (And.intro @Bool.false_eq_true (And.intro @Int.toNat_natCast (And.intro @Ao (And.intro @Bg (And.intro @Ah (And.intro @Aa (And.intro @wA (And.intro @mS (And.intro @Ak (And.intro @Aj (And.intro @Ab (And.intro @Od (And.intro @Nc (And.intro @H6 (And.intro @Av (And.intro @K4 (And.intro @Oy (And.intro @SJ (And.intro @eH (And.intro @Yz (And.intro @eI (And.intro @RP (And.intro @List.set_cons_zero.{0} (And.intro @List.set_cons_succ.{0} (And.intro @List.cons_append.{0} (And.intro @List.nil_append.{0} (And.intro @List.append_nil.{0} (And.intro @List.replicate_succ.{0} (And.intro @List.replicate_zero.{0} (And.intro @List.flatten_cons.{0} (And.intro @List.flatten_nil.{0} (And.intro @ne_eq.{1} (And.intro @not_true_eq_false (And.intro @false_or (And.intro @or_false (And.intro @Nat.lt_irrefl (And.intro @Int.natCast_nonneg (And.intro @i64w (And.intro @SI.{1} (And.intro @Oe (@implies_true.{0})))))))))))))))))))))))))))))))))))))))))))))))))))))))))))))))))))))))))))))))))))))))
theorem B1:type_of% (And.intro @Aa (And.intro @Ab (And.intro @Av (And.intro @Oy (And.intro @List.length_cons.{0} (@List.length_nil.{0})))))):=And.intro @Aa (And.intro @Ab (And.intro @Av (And.intro @Oy (And.intro @List.length_cons.{0} (@List.length_nil.{0})))))
theorem B2:type_of% (And.intro @Bool.not_eq_true' (@Bool.not_eq_false')):=And.intro @Bool.not_eq_true' (@Bool.not_eq_false')
theorem B3:type_of% (And.intro @decide_eq_true_eq (And.intro @decide_eq_false_iff_not (And.intro @Int.not_lt (@Int.not_le)))):=And.intro @decide_eq_true_eq (And.intro @decide_eq_false_iff_not (And.intro @Int.not_lt (@Int.not_le)))
theorem B4:type_of% (And.intro @DV.eq_1 (And.intro @BU.eq_1 (And.intro @BU.eq_2 (And.intro @BU.eq_3 (And.intro @BU.eq_4 (And.intro @BI.eq_1 (And.intro @BI.eq_2 (And.intro @DI.eq_1 (And.intro @DI.eq_2 (And.intro @EI.eq_1 (And.intro @EV.eq_1 (And.intro @bnd.eq_1 (And.intro @bnd.eq_2 (And.intro @lsp.eq_1 (And.intro @lsp.eq_2 (And.intro @CN.eq_1 (And.intro @CN.eq_2 (And.intro @GU.eq_1 (And.intro @DW.eq_1 (And.intro @DW.eq_2 (And.intro @FF.eq_1 (And.intro @FF.eq_2 (And.intro @upd.eq_1 (And.intro @AM.eq_1 (And.intro @FR.eq_1 (And.intro @FR.eq_2 (And.intro @OF.eq_1 (And.intro @aT.eq_1 (And.intro @aT.eq_2 (And.intro @MQ.eq_1 (And.intro @aU.eq_1 (And.intro @aU.eq_2 (And.intro @FP.eq_1 (And.intro @QH.eq_1 (And.intro @EC (And.intro @DL (And.intro @EE (@DN)))))))))))))))))))))))))))))))))))))):=And.intro @DV.eq_1 (And.intro @BU.eq_1 (And.intro @BU.eq_2 (And.intro @BU.eq_3 (And.intro @BU.eq_4 (And.intro @BI.eq_1 (And.intro @BI.eq_2 (And.intro @DI.eq_1 (And.intro @DI.eq_2 (And.intro @EI.eq_1 (And.intro @EV.eq_1 (And.intro @bnd.eq_1 (And.intro @bnd.eq_2 (And.intro @lsp.eq_1 (And.intro @lsp.eq_2 (And.intro @CN.eq_1 (And.intro @CN.eq_2 (And.intro @GU.eq_1 (And.intro @DW.eq_1 (And.intro @DW.eq_2 (And.intro @FF.eq_1 (And.intro @FF.eq_2 (And.intro @upd.eq_1 (And.intro @AM.eq_1 (And.intro @FR.eq_1 (And.intro @FR.eq_2 (And.intro @OF.eq_1 (And.intro @aT.eq_1 (And.intro @aT.eq_2 (And.intro @MQ.eq_1 (And.intro @aU.eq_1 (And.intro @aU.eq_2 (And.intro @FP.eq_1 (And.intro @QH.eq_1 (And.intro @EC (And.intro @DL (And.intro @EE (@DN)))))))))))))))))))))))))))))))))))))
theorem B5:type_of% (And.intro @EC (And.intro @DL (And.intro @EE (@DN)))):=And.intro @EC (And.intro @DL (And.intro @EE (@DN)))
end Go.Abs
