import Derived.Test.YtmoeoppbmhfbpaaGreatDoorQOptD
import Derived.Test.YtmoeoppbmhfbpaaGreatDoorQOptF
import Derived.Test.YtmoeoppbmhfbpaaGreatDoorQAgrB
/- The program: the pass s. -/
namespace Go.Proofs.YtmoeoppbmhfbpaaGreatDoorQ
open Go.Abs
set_option linter.unusedSimpArgs false
set_option linter.unusedVariables false
set_option maxRecDepth 100000
def wantB (N : List Tx) (U : Nat → Nat → Bool) (l : List RItem) (q : Nat) : Bool := l.any fun x => x.out && (decide (N.idxOf x.head.pred = q) || U (N.idxOf x.head.pred) q)
theorem wantB_step {N : List Tx} {U : Nat → Nat → Bool} {l : List RItem} {i : Nat} {x : RItem} (h : l[i]? = some x) (q : Nat) : wantB N U (l.take (i + 1)) q = (wantB N U (l.take i) q || (x.out && (decide (N.idxOf x.head.pred = q) || U (N.idxOf x.head.pred) q))) := by
 unfold wantB
 rw [List.take_add_one, h, Option.toList_some, List.any_append]; simp
theorem bvec_congr {n : Nat} {f g : Nat → Bool} (h : ∀ q, q < n → f q = g q) : bvec n f = bvec n g := by
 unfold bvec
 exact List.map_congr_left fun q hq => by rw [h q (by simpa using hq)]
set_option maxHeartbeats 32000000 in
theorem pwanted_spec (N : List Tx) (l : List RItem) (cs : List AV) (idn idi : Nat) (hB : Bk N l cs) (σ : St) : ACalls Tryz.prog 192 [bookA N idn l idi cs] σ fun r σ' => ∃ o M, r = fx o 0 N.length ∧ Keep σ σ' ∧ σ.nobj ≤ o ∧ o < σ'.nobj ∧ isOnce N l M ∧ σ'.obj o = bvec N.length (wantB N (fwR N.length M N.length) l) := by
 have hcl := EL.length PI_len hB.el
 have hl16 := hB.len
 have hN := hB.nm
 have hbz := bvec_zero N.length
 refine acalls 49 [.tmp 2] Tryz.func192 rfl (by decide) rfl rfl (Nat.le_of_ble_eq_true rfl) ?_
 repeat' (first
 |with_reducible first|apply Xa|apply Xb|(refine Xc ?_;intro κ hκ)|(apply hκ.out;clear hκ κ)|apply Xd|apply Xe|apply Xf
 |((with_reducible first|refine Xl ?_ ?_|refine Xk ?_ ?_)<;> intro h hari<;> try exact Xp)
 |((with_reducible refine Xh ?_);refine Xi (puses_spec N l cs idn idi hB _) ?_;rintro _ _ ⟨idu,B,M0,rfl,hK0,hB0,hnb0,hM0,hI0⟩;(rw [new_nobj] at hB0;have kob0:=hK0.obj;have kno0:=hK0.nobj;(try simp only [new_nobj,put_nobj,lay_nobj] at kno0 kob0)))
 |refine Xr ?_
 |exact True.intro
 |(apply hκ.out;clear hκ κ))
 rename_i σ1
 have HI0 : Abs.Hid (isOnce N l M0) := hI0
 clear hI0 kob0
 have hrl := rowsC_len B N.length N.length
 have hKs : Keep σ σ1 := ((Keep.refl σ).new _).trans hK0
 clear hK0
 generalize hU : fwR N.length M0 N.length = U at hM0
 have HU : Abs.Hid _ := hU
 clear hU
 refine awp_loop (fun m s σ' => ∃ i : Nat, m = l.length - i ∧ i ≤ l.length ∧ s 3 = sl idu N.length (rowsC B N.length N.length) ∧ s 4 = fx σ1.nobj 0 N.length ∧ s 16 = sl idi l.length cs ∧ s 17 = sc (.int .i64 l.length) ∧ s 18 = sc (.int .i64 i) ∧ Keep σ σ' ∧ σ1.nobj < σ'.nobj ∧ σ'.obj σ1.nobj = bvec N.length (wantB N U (l.take i)) ∧ Abs.Hid (Mat B N.length U σ')) l.length
  ⟨0, by omega, by omega, by simp [upd], by simp [upd], by simp [upd], by simp [upd], rfl, by exact Xs, by simp only [new_nobj]; omega, by rw [new_same]; rfl, Mat.new hM0 hnb0 _⟩ ?_
 clear hM0
 rintro m s σ' ⟨i, rfl, hi, h3, h4, h16, h17, h18, hK, hno, hob, hM⟩
 have kno := hK.nobj
 by_cases hlt : i < l.length
 ·have hget := List.getElem?_eq_getElem hlt
  obtain ⟨hm, ih, id, b, r, hb, hd⟩ := EL_PI hB.el hget
  generalize l[i] = x at hd hget hb hm
  have hst := wantB_step (N := N) (U := U) hget
  have hpx := List.idxOf_lt_length_of_mem hm
  cases hxo : x.out with
  | false =>
   rw [hxo] at hd hst
   have hob2 : σ'.obj σ1.nobj = bvec N.length (wantB N U (l.take (i + 1))) := by
    rw [hob]
    exact bvec_congr fun q _ => by rw [hst q]; simp
   clear hst hget hob hxo
   generalize N.idxOf x.head.pred = ph at *
   repeat' (first
 |with_reducible first|apply Xa|apply Xb|(refine Xc ?_;intro κ hκ)|(apply hκ.out;clear hκ κ)|apply Xd|apply Xe|apply Xf
 |((with_reducible first|refine Xl ?_ ?_|refine Xk ?_ ?_)<;> intro h hari<;> try exact Xp)
 |refine Xr ?_
 |exact True.intro
 |(apply hκ.out;clear hκ κ))
   refine ⟨l.length - (i + 1), by omega, i + 1, ?_⟩
   ((repeat' with_reducible refine And.intro ?_ ?_)<;> first|exact Xq|exact (Mat.put (Mat.new hM.out (by omega) _) (by omega) _)|exact (by rw [put_ne (by omega), new_lt (by omega), hob2])|exact Xs)
  | true =>
   rw [hxo] at hd hst
   clear hget hxo
   generalize N.idxOf x.head.pred = ph at *
   generalize wantB N U (l.take i) = w0 at hob hst
   generalize hw1e : wantB N U (l.take (i + 1)) = w1 at hst
   have HW1 : Abs.Hid _ := hw1e
   have HST : Abs.Hid (∀ q, w1 q = (w0 q || (true && (decide (ph = q) || U ph q)))) := hst
   clear hst hw1e
   have hr1 := rowsC_get (B := B) (n := N.length) (k := N.length) hpx
   have hmo := hM.out _ hpx
   have hvl := bvec_len N.length (U ph)
   have hvl0 := bvec_len N.length w0
   have hvs := bvec_set (n := N.length) (i := ph) w0 true
   repeat' (first
 |with_reducible first|apply Xa|apply Xb|(refine Xc ?_;intro κ hκ)|(apply hκ.out;clear hκ κ)|apply Xd|apply Xe|apply Xf
 |((with_reducible first|refine Xl ?_ ?_|refine Xk ?_ ?_)<;> intro h hari<;> try exact Xp)
 |refine Xr ?_
 |exact True.intro
 |(apply hκ.out;clear hκ κ))
   refine awp_loop (fun m s σ2 => ∃ (p : Nat) (g : Nat → Bool), m = N.length - p ∧ p ≤ N.length ∧ s 3 = sl idu N.length (rowsC B N.length N.length) ∧ s 4 = fx σ1.nobj 0 N.length ∧ s 16 = sl idi l.length cs ∧ s 17 = sc (.int .i64 l.length) ∧ s 18 = sc (.int .i64 i) ∧ s 35 = fx (B + ph) 0 N.length ∧ s 36 = sc (.int .i64 N.length) ∧ s 37 = sc (.int .i64 p) ∧ Keep σ σ2 ∧ σ1.nobj < σ2.nobj ∧ σ2.obj σ1.nobj = bvec N.length g ∧ Abs.Hid (Mat B N.length U σ2) ∧ Abs.Hid (∀ q, g q = (w0 q || decide (ph = q) || (decide (q < p) && U ph q)))) N.length
    ⟨0, fun j => if j = ph then true else w0 j, by omega, by omega, by simp [upd, *], by simp [upd, *], by simp [upd, *], by simp [upd, *], by simp [upd, *], by simp [upd], by simp [upd], by simp [upd], by exact Xs, by simp only [put_nobj, new_nobj]; omega, by rw [put_same], Mat.put (Mat.put (Mat.new hM.out (by omega) _) (by omega) _) (by omega) _, fun q => by
     by_cases h : q = ph
     ·simp [h]
     ·simp [h, Ne.symm h]⟩ ?_
   clear h3 h4 h16 h17 h18 hK hno hob hM hmo hvs hvl0 kno
   rintro m s σ2 ⟨p, g, rfl, hp, h3, h4, h16, h17, h18, h35, h36, h37, hK, hno, hob, hM, hg⟩
   have kno := hK.nobj
   by_cases hltp : p < N.length
   ·have hmo := hM.out _ hpx
    have hvg := bvec_get (U ph) hltp
    have hgl := bvec_len N.length g
    cases hu : U ph p with
    | true =>
     rw [hu] at hvg
     have hvs := bvec_set (n := N.length) (i := p) g true
     have HG : Abs.Hid (∀ q, (if q = p then true else g q) = (w0 q || decide (ph = q) || (decide (q < p + 1) && U ph q))) := fun q => by
      by_cases h : q = p
      ·simp [h, hu]
      ·rw [if_neg h, hg.out q, show decide (q < p + 1) = decide (q < p) from by rw [decide_eq_decide]; omega]
     clear hg hu
     repeat' (first
 |with_reducible first|apply Xa|apply Xb|(refine Xc ?_;intro κ hκ)|(apply hκ.out;clear hκ κ)|apply Xd|apply Xe|apply Xf
 |((with_reducible first|refine Xl ?_ ?_|refine Xk ?_ ?_)<;> intro h hari<;> try exact Xp)
 |refine Xr ?_
 |exact True.intro
 |(apply hκ.out;clear hκ κ))
     refine ⟨N.length - (p + 1), by omega, p + 1, fun q => if q = p then true else g q, ?_⟩
     ((repeat' with_reducible refine And.intro ?_ ?_)<;> first|exact Xq|exact (HG)|exact (Mat.put hM.out (by omega) _)|exact (by rw [put_same])|exact Xs)
    | false =>
     rw [hu] at hvg
     have HG : Abs.Hid (∀ q, g q = (w0 q || decide (ph = q) || (decide (q < p + 1) && U ph q))) := fun q => by
      by_cases h : q = p
      ·rw [hg.out q]; simp [h, hu]
      ·rw [hg.out q, show decide (q < p + 1) = decide (q < p) from by rw [decide_eq_decide]; omega]
     clear hg hu
     repeat' (first
 |with_reducible first|apply Xa|apply Xb|(refine Xc ?_;intro κ hκ)|(apply hκ.out;clear hκ κ)|apply Xd|apply Xe|apply Xf
 |((with_reducible first|refine Xl ?_ ?_|refine Xk ?_ ?_)<;> intro h hari<;> try exact Xp)
 |refine Xr ?_
 |exact True.intro
 |(apply hκ.out;clear hκ κ))
     refine ⟨N.length - (p + 1), by omega, p + 1, g, ?_⟩
     ((repeat' with_reducible refine And.intro ?_ ?_)<;> first|exact Xq|exact (HG)|exact Xs)
   ·have hpl : p = N.length := by omega
    have hob2 : σ2.obj σ1.nobj = bvec N.length (wantB N U (l.take (i + 1))) := by
     rw [hob, HW1.out]
     exact bvec_congr fun q hq => by rw [HST.out q, hg.out q, hpl]; simp [hq, Bool.or_assoc]
    clear hg hob HST HW1
    repeat' (first
 |with_reducible first|apply Xa|apply Xb|(refine Xc ?_;intro κ hκ)|(apply hκ.out;clear hκ κ)|apply Xd|apply Xe|apply Xf
 |((with_reducible first|refine Xl ?_ ?_|refine Xk ?_ ?_)<;> intro h hari<;> try exact Xp)
 |refine Xr ?_
 |exact True.intro
 |(apply hκ.out;clear hκ κ))
    refine ⟨l.length - (i + 1), by omega, i + 1, ?_⟩
    ((repeat' with_reducible refine And.intro ?_ ?_)<;> first|exact Xq|exact (hM)|exact Xs)
 ·have hil : i = l.length := by omega
  subst hil
  rw [List.take_length] at hob
  repeat' (first
 |with_reducible first|apply Xa|apply Xb|(refine Xc ?_;intro κ hκ)|(apply hκ.out;clear hκ κ)|apply Xd|apply Xe|apply Xf
 |((with_reducible first|refine Xl ?_ ?_|refine Xk ?_ ?_)<;> intro h hari<;> try exact Xp)
 |refine Xr ?_
 |exact True.intro
 |(apply hκ.out;clear hκ κ))
  first | exact ⟨_, rfl, _, M0, rfl, hK, by omega, hno, HI0.out, by rw [HU.out]; exact hob⟩ | exact ⟨_, rfl, _, M0, rfl, by omega, hno, HI0.out, by rw [HU.out]; exact hob⟩ | exact ⟨_, rfl, _, M0, by omega, hno, HI0.out, by rw [HU.out]; exact hob⟩ | (trace_state; exact ⟨_, rfl, _, M0, rfl, hK, by omega, hno, HI0.out, by rw [HU.out]; exact hob⟩)
theorem GL.sub {N : List Tx} {l l' : List RItem} (h : GL N l) (hs : ∀ x ∈ l', x ∈ l) (hl : l'.length ≤ 16) : GL N l' :=
 ⟨hl, h.nm, fun x hx => h.msr x (hs x hx), fun x hx => h.fits x (hs x hx), fun x hx => h.pos x (hs x hx), fun x hx => h.va x (hs x hx), fun x hx => h.ar x (hs x hx)⟩
def keptL (N : List Tx) (U : Nat → Nat → Bool) (l : List RItem) : List RItem := l.filter fun x => wantB N U l (N.idxOf x.head.pred)
def chS (N : List Tx) (l : List RItem) (idn : Nat) (x : AV) (b : Bool) : Prop := ∃ M, isOnce N l M ∧
 (((keptL N (fwR N.length M N.length) l).length = l.length ∧ b = false) ∨
  ((keptL N (fwR N.length M N.length) l).length ≠ l.length ∧ b = behB N l (keptL N (fwR N.length M N.length) l) ∧ (b = true → ∃ id c', x = bookA N idn (keptL N (fwR N.length M N.length) l) id c' ∧ EL (PI N) (keptL N (fwR N.length M N.length) l) c')))
theorem filt_step {α : Type} {f : α → Bool} {l : List α} {i : Nat} {x : α} (h : l[i]? = some x) : (l.take (i + 1)).filter f = (l.take i).filter f ++ if f x = true then [x] else [] := by
 rw [List.take_add_one, h, Option.toList_some, List.filter_append]
 cases hf : f x <;> simp [hf]
set_option maxHeartbeats 32000000 in
theorem withoutUnwanted_spec (N : List Tx) (l : List RItem) (cs : List AV) (idn idi : Nat) (hG : GL N l) (hE : EL (PI N) l cs) (σ : St) :
  ACalls Tryz.prog 155 [bookA N idn l idi cs] σ fun r σ' => (∃ x b, r = tp [x, sc (.bool b)] ∧ chS N l idn x b ∧ Two x) ∧ Keep σ σ' := by
 have hcl := EL.length PI_len hE
 have hl16 := hG.len
 have hN := hG.nm
 have hBk : Bk N l cs := (hG.bkm hE).bk hl16
 have hWt := fun σ => pwanted_spec N l cs idn idi hBk σ
 refine acalls 41 [.cell 2 66, .tmp 3] Tryz.func155 rfl (by decide) rfl rfl (Nat.le_of_ble_eq_true rfl) ?_
 repeat' (first
 |with_reducible first|apply Xa|apply Xb|(refine Xc ?_;intro κ hκ)|(apply hκ.out;clear hκ κ)|apply Xd|apply Xe|apply Xf
 |((with_reducible first|refine Xl ?_ ?_|refine Xk ?_ ?_)<;> intro h hari<;> try exact Xp)
 |((with_reducible refine aapp_go ?_);refine Xt ?_;intro idn σn hOn hKn eobj enobj ever entop)
 |((with_reducible refine aappn_go ?_);refine Xu ?_)
 |((with_reducible refine Xh ?_);refine Xi (hWt _) ?_;rintro _ _ ⟨ow,M0,rfl,hK1,how1,how2,hI0,hob1⟩;(have kno1:=hK1.nobj;have kob1:=hK1.obj;(try simp only [new_nobj,put_nobj] at kno1 kob1 how1)))
 |refine Xr ?_
 |exact True.intro
 |(apply hκ.out;clear hκ κ))
 rename_i σ1
 have obk : σ1.obj σ.nobj = [sl idn N.length (N.map str), sl idi l.length cs] := by rw [kob1 _ (by omega), new_lt (by simp only [new_nobj]; omega), new_same]
 have obr : σ1.obj (σ.nobj + 1) = [nilS, nilS] := by rw [kob1 _ (by omega)]; first | exact new_same | simp [new_same]
 have HI0 : Abs.Hid (isOnce N l M0) := hI0
 generalize hUe : fwR N.length M0 N.length = U at hob1
 have HU : Abs.Hid _ := hUe
 have hKs : Keep σ σ1 := (((Keep.refl σ).new _).new _).trans hK1
 clear hI0 hUe hK1 kob1 hWt
 generalize hwe : wantB N U l = w at hob1
 have HW : Abs.Hid _ := hwe
 clear hwe
 refine awp_loop (fun m s σ' => ∃ (i id : Nat) (R : List RItem) (c : List AV), m = l.length - i ∧ i ≤ l.length ∧ s 1 = ptr σ.nobj 0 ∧ s 2 = ptr (σ.nobj + 1) 0 ∧ s 4 = fx ow 0 N.length ∧ s 5 = sl id R.length c ∧ s 12 = sl idi l.length cs ∧ s 13 = sc (.int .i64 l.length) ∧ s 14 = sc (.int .i64 i) ∧ Keep σ σ' ∧ σ1.nobj ≤ σ'.nobj ∧ σ'.obj ow = bvec N.length w ∧ σ'.obj σ.nobj = [sl idn N.length (N.map str), sl idi l.length cs] ∧ σ'.obj (σ.nobj + 1) = [nilS, nilS] ∧ Own σ σ' id R.length ∧ c.length = R.length * 4 ∧ R.length ≤ i ∧ Abs.Hid (R = (l.take i).filter (fun x => w (N.idxOf x.head.pred)) ∧ EL (PI N) R c)) l.length
  ⟨0, 1, [], [], by omega, by omega, by simp [upd], by simp [upd], by simp [upd], by simp [upd], by simp [upd], by simp [upd], rfl, hKs, by omega, hob1, obk, obr, Own.nil _ _, by simp, by simp, ⟨by simp, rfl⟩⟩ ?_
 clear hKs hob1 obk obr
 rintro m s σ' ⟨i, id, R, c, rfl, hi, h1, h2, h4, h5, h12, h13, h14, hK, hno, obw, obk, obr, hO, hcr, hRl, hA⟩
 have kno := hK.nobj
 have hbw := bvec_len N.length w
 by_cases hlt : i < l.length
 ·have hget := List.getElem?_eq_getElem hlt
  obtain ⟨hmm, ih, idb, b, r, hbd, hd⟩ := EL_PI hE hget
  generalize l[i] = x at hd hget hmm hbd
  have hpx := List.idxOf_lt_length_of_mem hmm
  have hst := filt_step (f := fun x : RItem => w (N.idxOf x.head.pred)) hget
  have hvg := bvec_get w hpx
  cases hw : w (N.idxOf x.head.pred) with
  | true =>
   simp only [hw, if_true] at hst
   rw [hw] at hvg
   have HA : Abs.Hid (R ++ [x] = (l.take (i + 1)).filter (fun x => w (N.idxOf x.head.pred)) ∧ EL (PI N) (R ++ [x]) (c ++ [sc (.bool x.out), sc (.int .i64 (N.idxOf x.head.pred : Nat)), sl ih x.head.terms.length (tcells x.head.terms), sl idb x.body.length b])) := ⟨by rw [hst, ← hA.out.1], EL.append hA.out.2 (EL.single (PI.of hmm hbd))⟩
   clear hst hget hA hw
   repeat' (first
 |with_reducible first|apply Xa|apply Xb|(refine Xc ?_;intro κ hκ)|(apply hκ.out;clear hκ κ)|apply Xd|apply Xe|apply Xf
 |((with_reducible first|refine Xl ?_ ?_|refine Xk ?_ ?_)<;> intro h hari<;> try exact Xp)
 |((with_reducible refine aapp_go ?_);refine Xt ?_;intro idn σn hOn hKn eobj enobj ever entop)
 |((with_reducible refine aappn_go ?_);refine Xu ?_)
 |refine Xr ?_
 |exact True.intro
 |(apply hκ.out;clear hκ κ))
   refine aApp_own (by first | exact tez_64) ((hK.new _).put hK.nobj _) (Own.put (Own.new hO _) _ _) (by decide) (by rfl) (hcr) (by rfl) (by rfl) (by decide) (by omega) (by omega) ?_
   intro idn' σn hOn hKn eobj enobj ever entop
   simp only [put_nobj, new_nobj] at enobj
   have eob : ∀ p, p < σ'.nobj → σn.obj p = σ'.obj p := fun p hp => by rw [eobj, put_ne (by omega), new_lt (by omega)]
   refine Xr ?_
   repeat' (first
 |with_reducible first|apply Xa|apply Xb|(refine Xc ?_;intro κ hκ)|(apply hκ.out;clear hκ κ)|apply Xd|apply Xe|apply Xf
 |((with_reducible first|refine Xl ?_ ?_|refine Xk ?_ ?_)<;> intro h hari<;> try exact Xp)
 |((with_reducible refine aapp_go ?_);refine Xt ?_;intro idn σn hOn hKn eobj enobj ever entop)
 |((with_reducible refine aappn_go ?_);refine Xu ?_)
 |refine Xr ?_
 |exact True.intro
 |(apply hκ.out;clear hκ κ))
   refine ⟨l.length - (i + 1), by omega, i + 1, idn', R ++ [x], c ++ [sc (.bool x.out), sc (.int .i64 (N.idxOf x.head.pred : Nat)), sl ih x.head.terms.length (tcells x.head.terms), sl idb x.body.length b], ?_⟩
   ((repeat' with_reducible refine And.intro ?_ ?_)<;> first|exact Xq|exact (HA)|exact ((by simpa using hOn))|exact ((by simp [hcr]; omega))|exact (by rw [eob _ (by omega), obw])|exact (by rw [eob _ (by omega), obk])|exact (by rw [eob _ (by omega), obr])|exact Xs)
  | false =>
   simp only [hw, Bool.false_eq_true, if_false, List.append_nil] at hst
   rw [hw] at hvg
   have HA : Abs.Hid (R = (l.take (i + 1)).filter (fun x => w (N.idxOf x.head.pred)) ∧ EL (PI N) R c) := ⟨by rw [hst, ← hA.out.1], hA.out.2⟩
   clear hst hget hA hw
   repeat' (first
 |with_reducible first|apply Xa|apply Xb|(refine Xc ?_;intro κ hκ)|(apply hκ.out;clear hκ κ)|apply Xd|apply Xe|apply Xf
 |((with_reducible first|refine Xl ?_ ?_|refine Xk ?_ ?_)<;> intro h hari<;> try exact Xp)
 |((with_reducible refine aapp_go ?_);refine Xt ?_;intro idn σn hOn hKn eobj enobj ever entop)
 |((with_reducible refine aappn_go ?_);refine Xu ?_)
 |refine Xr ?_
 |exact True.intro
 |(apply hκ.out;clear hκ κ))
   refine ⟨l.length - (i + 1), by omega, i + 1, id, R, c, ?_⟩
   ((repeat' with_reducible refine And.intro ?_ ?_)<;> first|exact Xq|exact (HA)|exact (Own.put (Own.new hO _) _ _)|exact (by rw [put_ne (by omega), new_lt (by omega), obw])|exact (by rw [put_ne (by omega), new_lt (by omega), obk])|exact (by rw [put_ne (by omega), new_lt (by omega), obr])|exact Xs)
 ·have hil : i = l.length := by omega
  subst hil
  rw [List.take_length] at hA
  have hRe : R = keptL N (fwR N.length M0 N.length) l := by rw [hA.out.1, keptL, HU.out, HW.out]
  have HR : Abs.Hid _ := hRe
  have HE : Abs.Hid (EL (PI N) R c) := hA.out.2
  have hG' : GL N R := hG.sub (fun x hx => (List.mem_filter.1 (by rw [← hA.out.1]; exact hx)).1) (by omega)
  have hBe := fun σ => behind_spec N l R cs c idn idi id (hG.bkm hE) (hG'.bkm HE.out) σ
  clear hA hRe hG'
  by_cases hlen : R.length = l.length
  ·have hlb : ((R.length : Int) == (l.length : Int)) = true := by simp [hlen]
   have HC : Abs.Hid (∀ x, chS N l idn x false) := fun x => ⟨M0, HI0.out, .inl ⟨by rw [← HR.out]; exact hlen, rfl⟩⟩
   clear hBe hlen
   repeat' (first
 |with_reducible first|apply Xa|apply Xb|(refine Xc ?_;intro κ hκ)|(apply hκ.out;clear hκ κ)|apply Xd|apply Xe|apply Xf
 |((with_reducible first|refine Xl ?_ ?_|refine Xk ?_ ?_)<;> intro h hari<;> try exact Xp)
 |((with_reducible refine aapp_go ?_);refine Xt ?_;intro idn σn hOn hKn eobj enobj ever entop)
 |((with_reducible refine aappn_go ?_);refine Xu ?_)
 |refine Xr ?_
 |exact True.intro
 |(apply hκ.out;clear hκ κ))
   exact ⟨_, rfl, ⟨_, false, rfl, HC.out _, _, _, _, _, _, _, rfl⟩, by exact Xs⟩
  ·have hlb : ((R.length : Int) == (l.length : Int)) = false := by simpa using (by omega : ¬ (R.length : Int) = l.length)
   have HC : Abs.Hid (∀ x, (behB N l R = true → x = bookA N idn R id c) → chS N l idn x (behB N l R)) := fun x hx => ⟨M0, HI0.out, .inr ⟨by rw [← HR.out]; exact hlen, by rw [← HR.out], fun hb => ⟨id, c, by rw [← HR.out]; exact hx hb, by rw [← HR.out]; exact HE.out⟩⟩⟩
   generalize behB N l R = bb at hBe HC
   clear hlen
   repeat' (first
 |with_reducible first|apply Xa|apply Xb|(refine Xc ?_;intro κ hκ)|(apply hκ.out;clear hκ κ)|apply Xd|apply Xe|apply Xf
 |((with_reducible first|refine Xl ?_ ?_|refine Xk ?_ ?_)<;> intro h hari<;> try exact Xp)
 |((with_reducible refine aapp_go ?_);refine Xt ?_;intro idn σn hOn hKn eobj enobj ever entop)
 |((with_reducible refine aappn_go ?_);refine Xu ?_)
 |((with_reducible refine Xh ?_);refine Xi (hBe _) ?_;rintro _ _ ⟨⟨x7,rfl,hx7,⟨id71,n71,c71,id72,n72,c72,rfl⟩⟩,hK7⟩;(have kno7:=hK7.nobj;have kob7:=hK7.obj))
 |refine Xr ?_
 |exact True.intro
 |(apply hκ.out;clear hκ κ))
   exact ⟨_, rfl, ⟨_, bb, rfl, HC.out _ hx7, _, _, _, _, _, _, rfl⟩, by exact Xs⟩
/- The program: one change of a pass. -/
def passB (c : UInt8) : Bool := decide (c = 115 ∨ c = 97 ∨ c = 114 ∨ c = 117 ∨ c = 108)
set_option maxHeartbeats 4000000 in
theorem isPass_spec (c : UInt8) (σ : St) : ACalls Tryz.prog 102 [sc (.int .u8 c.toNat)] σ fun r σ' => r = sc (.bool (passB c)) ∧ σ' = σ := by
 have key : ∀ (k : UInt8) (n : Int), n = (k.toNat : Int) → ((c.toNat : Int) == n) = decide (c = k) := fun k n e => by rw [e]; exact byte_is
 have e1 := key 115 115 rfl
 have e2 := key 97 97 rfl
 have e3 := key 114 114 rfl
 have e4 := key 117 117 rfl
 have e5 := key 108 108 rfl
 have hp : passB c = (decide (c = 115) || (decide (c = 97) || (decide (c = 114) || (decide (c = 117) || decide (c = 108))))) := by
  unfold passB
  simp only [Bool.decide_or]
 have HP : Abs.Hid _ := hp
 clear key hp
 generalize decide (c = 115) = b1 at e1 HP
 generalize decide (c = 97) = b2 at e2 HP
 generalize decide (c = 114) = b3 at e3 HP
 generalize decide (c = 117) = b4 at e4 HP
 generalize decide (c = 108) = b5 at e5 HP
 cases b1 <;> cases b2 <;> cases b3 <;> cases b4 <;> cases b5
 all_goals
  refine acalls 10 [.tmp 2] Tryz.func102 rfl (by decide) rfl rfl (Nat.le_of_ble_eq_true rfl) ?_
  repeat' (first
 |with_reducible first|apply Xa|apply Xb|(refine Xc ?_;intro κ hκ)|(apply hκ.out;clear hκ κ)|apply Xd|apply Xe|apply Xf
 |((with_reducible first|refine Xl ?_ ?_|refine Xk ?_ ?_)<;> intro h hari<;> try exact Xp)
 |refine Xr ?_
 |exact True.intro
 |(apply hκ.out;clear hκ κ))
  exact ⟨_, rfl, by rw [HP.out]; rfl⟩
def StA (N : List Tx) (l : List RItem) (o : Option (List RItem)) : Prop :=
 (o = none ∧ noAl N l l.length) ∨ ∃ i k y, o = some (rpl i [woL y k] l) ∧ l[i]? = some y ∧ y.out = false ∧ k < y.body.length ∧ okA N l i k = true ∧ noAl N l i ∧ ∀ k', k' < k → okA N l i k' = false
def StR (N : List Tx) (l : List RItem) (o : Option (List RItem)) : Prop :=
 (o = none ∧ noRl N l l.length) ∨ ∃ i y, o = some (rpl i [] l) ∧ l[i]? = some y ∧ y.out = false ∧ behB N l (rpl i [] l) = true ∧ impP N l i y true ∧ noRl N l i
def StS (N : List Tx) (l : List RItem) (o : Option (List RItem)) : Prop := ∃ M, isOnce N l M ∧
 (((keptL N (fwR N.length M N.length) l).length = l.length ∧ o = none) ∨ ((keptL N (fwR N.length M N.length) l).length ≠ l.length ∧
  ((behB N l (keptL N (fwR N.length M N.length) l) = false ∧ o = none) ∨ (behB N l (keptL N (fwR N.length M N.length) l) = true ∧ o = some (keptL N (fwR N.length M N.length) l)))))
def Step (N : List Tx) (c : UInt8) (l : List RItem) (o : Option (List RItem)) : Prop := (c = 115 ∧ StS N l o) ∨ (c = 97 ∧ StA N l o) ∨ (c = 114 ∧ StR N l o)
def StepR (N : List Tx) (c : UInt8) (l : List RItem) (idn : Nat) (x : AV) (b : Bool) : Prop := Two x ∧ ∃ o, Step N c l o ∧ b = o.isSome ∧ ∀ l', o = some l' → ∃ id c', x = bookA N idn l' id c' ∧ EL (PI N) l' c'
theorem chA.step {N : List Tx} {l : List RItem} {idn : Nat} {x : AV} {b : Bool} (h : chA N l idn x b) (ht : Two x) : StepR N 97 l idn x b := by
 refine ⟨ht, ?_⟩
 rcases h with ⟨rfl, h⟩ | ⟨rfl, i, k, y, h1, h2, h3, h4, h5, h6, id, c', h7, h8⟩
 ·exact ⟨none, .inr (.inl ⟨rfl, .inl ⟨rfl, h⟩⟩), rfl, fun l' e => by cases e⟩
 ·exact ⟨_, .inr (.inl ⟨rfl, .inr ⟨i, k, y, rfl, h1, h2, h3, h4, h5, h6⟩⟩), rfl, fun l' e => by cases e; exact ⟨id, c', h7, h8⟩⟩
theorem chR.step {N : List Tx} {l : List RItem} {idn : Nat} {x : AV} {b : Bool} (h : chR N l idn x b) (ht : Two x) : StepR N 114 l idn x b := by
 refine ⟨ht, ?_⟩
 rcases h with ⟨rfl, h⟩ | ⟨rfl, i, y, h1, h2, h3, h4, h5, id, c', h7, h8⟩
 ·exact ⟨none, .inr (.inr ⟨rfl, .inl ⟨rfl, h⟩⟩), rfl, fun l' e => by cases e⟩
 ·exact ⟨_, .inr (.inr ⟨rfl, .inr ⟨i, y, rfl, h1, h2, h3, h4, h5⟩⟩), rfl, fun l' e => by cases e; exact ⟨id, c', h7, h8⟩⟩
theorem chS.step {N : List Tx} {l : List RItem} {idn : Nat} {x : AV} {b : Bool} (h : chS N l idn x b) (ht : Two x) : StepR N 115 l idn x b := by
 refine ⟨ht, ?_⟩
 obtain ⟨M, hM, h⟩ := h
 rcases h with ⟨h1, rfl⟩ | ⟨h1, h2, h3⟩
 ·exact ⟨none, .inl ⟨rfl, M, hM, .inl ⟨h1, rfl⟩⟩, rfl, fun l' e => by cases e⟩
 ·cases hb : behB N l (keptL N (fwR N.length M N.length) l) with
  | false => exact ⟨none, .inl ⟨rfl, M, hM, .inr ⟨h1, .inl ⟨hb, rfl⟩⟩⟩, by rw [h2, hb]; rfl, fun l' e => by cases e⟩
  | true => exact ⟨_, .inl ⟨rfl, M, hM, .inr ⟨h1, .inr ⟨hb, rfl⟩⟩⟩, by rw [h2, hb]; rfl, fun l' e => by cases e; exact h3 (by rw [h2, hb])⟩
theorem Step.rt {N : List Tx} {ar : Tx → Nat} {c : UInt8} {l l' : List RItem} (h : Step N c l (some l')) (hR : RtL N ar l) : RtL N ar l' := by
 rcases h with ⟨-, M, -, h⟩ | ⟨-, h⟩ | ⟨-, h⟩
 ·rcases h with ⟨-, h⟩ | ⟨-, ⟨-, h⟩ | ⟨-, h⟩⟩
  ·cases h
  ·cases h
  ·cases h
   exact hR.sub (fun x hx => (List.mem_filter.1 hx).1) (Nat.le_trans (List.length_filter_le _ _) hR.gl.len)
 ·rcases h with ⟨h, -⟩ | ⟨i, k, y, h, h1, h2, h3, h4, -⟩
  ·cases h
  ·cases h
   refine hR.wo h1 h2 ?_
   unfold okA at h4
   rw [h1] at h4
   simp only [Bool.and_eq_true] at h4
   obtain ⟨s, hs⟩ := Option.isSome_iff_exists.1 h4.1
   unfold spE at hs
   obtain ⟨s0, -, hs⟩ := Option.bind_eq_some_iff.1 hs
   unfold spareE at hs
   split at hs
   ·assumption
   ·cases hs
 ·rcases h with ⟨h, -⟩ | ⟨i, y, h, -⟩
  ·cases h
  ·cases h
   exact hR.less i
set_option maxHeartbeats 16000000 in
theorem changed_spec (N : List Tx) (ar : Tx → Nat) (l : List RItem) (cs : List AV) (idn idi : Nat) (c : UInt8) (hc : c = 115 ∨ c = 97 ∨ c = 114) (hR : RtL N ar l) (hE : EL (PI N) l cs) (σ : St) :
  ACalls Tryz.prog 103 [bookA N idn l idi cs, sc (.int .u8 c.toNat)] σ fun r σ' => (∃ x b, r = tp [x, sc (.bool b)] ∧ StepR N c l idn x b) ∧ Keep σ σ' := by
 have hA := fun σ => withoutSpare_spec N l cs idn idi hR.gl hE σ
 have hI := fun σ => withoutImplied_spec N l cs idn idi _ hR.gl hR.bki hE σ
 have hS := fun σ => withoutUnwanted_spec N l cs idn idi hR.gl hE σ
 rcases hc with rfl | rfl | rfl
 ·have e1 : ((((115 : UInt8).toNat : Nat) : Int) == 115) = true := rfl
  clear hA hI
  refine acalls 38 [.cell 4 66, .tmp 5] Tryz.func103 rfl (by decide) rfl rfl (Nat.le_of_ble_eq_true rfl) ?_
  repeat' (first
 |with_reducible first|apply Xa|apply Xb|(refine Xc ?_;intro κ hκ)|(apply hκ.out;clear hκ κ)|apply Xd|apply Xe|apply Xf
 |((with_reducible first|refine Xl ?_ ?_|refine Xk ?_ ?_)<;> intro h hari<;> try exact Xp)
 |((with_reducible refine Xh ?_);refine Xi (hS _) ?_;rintro _ _ ⟨⟨x1,b1,rfl,hx1,ht1⟩,hK1⟩;(have HX : Abs.Hid _:=hx1;have HT : Abs.Hid (Two x1):=ht1;obtain ⟨t1,t2,t3,t4,t5,t6,rfl⟩:=ht1;clear hx1;have kno1:=hK1.nobj;have kob1:=hK1.obj;(try simp only [new_nobj] at kno1 kob1)))
 |refine Xr ?_
 |exact True.intro
 |(apply hκ.out;clear hκ κ))
  exact ⟨_, rfl, ⟨_, b1, rfl, chS.step HX.out HT.out⟩, by exact Xs⟩
 ·have e1 : ((((97 : UInt8).toNat : Nat) : Int) == 115) = false := rfl
  have e2 : ((((97 : UInt8).toNat : Nat) : Int) == 97) = true := rfl
  clear hI hS
  refine acalls 38 [.cell 4 66, .tmp 5] Tryz.func103 rfl (by decide) rfl rfl (Nat.le_of_ble_eq_true rfl) ?_
  repeat' (first
 |with_reducible first|apply Xa|apply Xb|(refine Xc ?_;intro κ hκ)|(apply hκ.out;clear hκ κ)|apply Xd|apply Xe|apply Xf
 |((with_reducible first|refine Xl ?_ ?_|refine Xk ?_ ?_)<;> intro h hari<;> try exact Xp)
 |((with_reducible refine Xh ?_);refine Xi (hA _) ?_;rintro _ _ ⟨⟨x1,b1,rfl,hx1,ht1⟩,hK1⟩;(have HX : Abs.Hid _:=hx1;have HT : Abs.Hid (Two x1):=ht1;obtain ⟨t1,t2,t3,t4,t5,t6,rfl⟩:=ht1;clear hx1;have kno1:=hK1.nobj;have kob1:=hK1.obj;(try simp only [new_nobj] at kno1 kob1)))
 |refine Xr ?_
 |exact True.intro
 |(apply hκ.out;clear hκ κ))
  exact ⟨_, rfl, ⟨_, b1, rfl, chA.step HX.out HT.out⟩, by exact Xs⟩
 ·have e1 : ((((114 : UInt8).toNat : Nat) : Int) == 115) = false := rfl
  have e2 : ((((114 : UInt8).toNat : Nat) : Int) == 97) = false := rfl
  have e3 : ((((114 : UInt8).toNat : Nat) : Int) == 114) = true := rfl
  clear hA hS
  refine acalls 38 [.cell 4 66, .tmp 5] Tryz.func103 rfl (by decide) rfl rfl (Nat.le_of_ble_eq_true rfl) ?_
  repeat' (first
 |with_reducible first|apply Xa|apply Xb|(refine Xc ?_;intro κ hκ)|(apply hκ.out;clear hκ κ)|apply Xd|apply Xe|apply Xf
 |((with_reducible first|refine Xl ?_ ?_|refine Xk ?_ ?_)<;> intro h hari<;> try exact Xp)
 |((with_reducible refine Xh ?_);refine Xi (hI _) ?_;rintro _ _ ⟨⟨x1,b1,rfl,hx1,ht1⟩,hK1⟩;(have HX : Abs.Hid _:=hx1;have HT : Abs.Hid (Two x1):=ht1;obtain ⟨t1,t2,t3,t4,t5,t6,rfl⟩:=ht1;clear hx1;have kno1:=hK1.nobj;have kob1:=hK1.obj;(try simp only [new_nobj] at kno1 kob1)))
 |refine Xr ?_
 |exact True.intro
 |(apply hκ.out;clear hκ κ))
  exact ⟨_, rfl, ⟨_, b1, rfl, chR.step HX.out HT.out⟩, by exact Xs⟩
end Go.Proofs.YtmoeoppbmhfbpaaGreatDoorQ
