import Derived.Test.YtmoeoppbmhfbpaaGreatDoorBFacB
import Derived.Test.YtmoeoppbmhfbpaaGreatDoorBNegB
import Derived.Test.YtmoeoppbmhfbpaaGreatDoorBProgR
/- The program's facts: read for a book. -/
namespace Go.Proofs.YtmoeoppbmhfbpaaGreatDoorB
open Go.Abs
set_option linter.unusedSimpArgs false
set_option linter.unusedVariables false
set_option maxRecDepth 100000
def rulT (l : List RItem) (p : Tx) : Bool := l.any fun x => !x.out && decide (x.head.pred = p)
theorem rulN_T {N : List Tx} {l : List RItem} (hN : ∀ x ∈ l, x.head.pred ∈ N) {p : Tx} (hp : p ∈ N) : rulN N l (N.idxOf p) = rulT l p := by
 unfold rulN rulT
 rw [Bool.eq_iff_iff, List.any_eq_true, List.any_eq_true]
 constructor
 ·rintro ⟨x, hx, h⟩
  simp only [Bool.and_eq_true, decide_eq_true_eq] at h
  exact ⟨x, hx, by simp only [Bool.and_eq_true, decide_eq_true_eq]; exact ⟨h.1, idx_inj (hN x hx) hp h.2⟩⟩
 ·rintro ⟨x, hx, h⟩
  simp only [Bool.and_eq_true, decide_eq_true_eq] at h
  exact ⟨x, hx, by simp only [Bool.and_eq_true, decide_eq_true_eq]; exact ⟨h.1, by rw [h.2]⟩⟩
theorem any_eq {α : Type} {l : List α} {f g : α → Bool} (h : ∀ a ∈ l, f a = g a) : l.any f = l.any g := by
 rw [Bool.eq_iff_iff, List.any_eq_true, List.any_eq_true]
 exact ⟨fun ⟨a, ha, e⟩ => ⟨a, ha, by rw [← h a ha]; exact e⟩, fun ⟨a, ha, e⟩ => ⟨a, ha, by rw [h a ha]; exact e⟩⟩
def facE (l : List RItem) (t : Tx) : Int := match pFacts 400 t with
 | .bad _ => 7
 | .got F _ => if othF (l.flatMap atomsL) F = true then 3 else if F.any (fun a => rulT l a.pred) = true then 8 else 0
theorem pFacts_took : ∀ (n : Nat) (s : Tx) (F : List RAtom) (r : Tx), pFacts n s = .got F r → r = [] ∧ F.length ≤ n ∧ s = F.flatMap (fun a => uAtom a ++ [46]) ∧ ∀ a ∈ F, WAtom a ∧ a.nt = false ∧ setA a = true
 | n, [], F, r, h => by
  rw [pFacts_nil] at h
  cases h
  simp
 | 0, b :: s, F, r, h => by cases h
 | n + 1, b :: s, F, r, h => by
  rw [pFacts_succ] at h
  cases h1 : pFact (b :: s) with
  | bad e => rw [h1] at h; cases h
  | got x r1 =>
   rw [h1] at h
   simp only [Rd.bnd] at h
   cases h2 : pFacts n r1 with
   | bad e => rw [h2] at h; cases h
   | got xs r2 =>
    rw [h2] at h
    cases h
    obtain ⟨e1, e2, e3, e4⟩ := pFacts_took n r1 xs r h2
    obtain ⟨f1, f2, f3, f4⟩ := pFact_took h1
    refine ⟨e1, by simp; omega, ?_, fun a ha => ?_⟩
    ·rw [f1, e3]; simp
    ·rcases List.mem_cons.1 ha with rfl | ha
     ·exact ⟨f2, f3, f4⟩
     ·exact e4 a ha
set_option maxHeartbeats 64000000 in
theorem loadFacts_spec (N : List Tx) (l : List RItem) (cs : List AV) (idn idi : Nat) (hB : Bk N l cs) (hNl : N.length ≤ 600) (hT : ∀ S, S <+: l.flatMap atomsL → ∀ a ∈ l.flatMap atomsL, S.any (clash a) = false) (t : Tx) (ht : t.length ≤ 400) (σ : St) :
  ACalls Tryz.prog 45 [bookA N idn l idi cs, str t] σ fun r σ' => ∃ (idf n np : Nat) (fc : List AV), r = tp [sl idf n fc, ic np, ic (facE l t)] ∧ Keep σ σ' ∧ (facE l t = 0 → ∃ F N', pFacts 400 t = .got F [] ∧ n = F.length ∧ np = N'.length ∧ N <+: N' ∧ N'.length ≤ 1000 ∧ EL (PF N') F fc) := by
 have hl16 := hB.len
 have hnl : (N.map str).length = N.length := by simp
 have hOth := fun N' hN F fc idf hF h1 h2 h3 σ => otherTerms_spec N N' hN l cs idn idi hB hT F fc idf hF h1 h2 h3 σ
 have hAny := fun N' hN F fc idf hF h1 σ => anyRuled_spec N N' hN l cs idn idi hB F fc idf hF h1 σ
 have hhd : ∀ x ∈ l, x.head.pred ∈ N := fun x hx => by
  obtain ⟨i, hi⟩ := List.getElem?_of_mem hx
  exact (EL_PI hB.el hi).1
 unfold bookA at hOth hAny ⊢
 refine acalls 47 [.tmp 4, .tmp 5, .tmp 6] Tryz.func45 rfl (by decide) rfl rfl (Nat.le_of_ble_eq_true rfl) ?_
 repeat' (first
 |with_reducible first|apply Xa|apply Xb|(refine Xc ?_;intro κ hκ)|(apply hκ.out;clear hκ κ)|apply Xd|apply Xe|apply Xf
 |((with_reducible first|refine Xl ?_ ?_|refine Xm ?_ ?_|refine Xk ?_ ?_)<;> intro h hari<;> try exact Xp)
 |((with_reducible refine aapp_go ?_);refine Xt ?_;intro idn σn hOn hKn eobj enobj ever entop)
 |((with_reducible refine aappn_go ?_);refine Xu ?_)
 |refine Xr ?_
 |exact True.intro
 |((with_reducible refine Xg ?_);refine Xj ?_)
 |(apply hκ.out;clear hκ κ))
 refine awp_loop (fun m s σ' => ∃ (i i3 : Nat), m = N.length - i ∧ i ≤ N.length ∧ s 2 = ptr σ.nobj 0 ∧ s 7 = ptr (σ.nobj + 1) 0 ∧ s 15 = sl idn N.length (N.map str) ∧ s 16 = ic N.length ∧ s 17 = ic i ∧ Keep σ σ' ∧ σ.nobj + 1 < σ'.nobj ∧ σ'.obj σ.nobj = [sl idn N.length (N.map str), sl idi l.length cs] ∧ σ'.obj (σ.nobj + 1) = [str t, ic 0, sl i3 i ((N.take i).map str)] ∧ Own σ σ' i3 i) N.length
  ⟨0, 1, by omega, by omega, by simp [upd], by simp [upd], by simp [upd], by simp [upd], rfl, by exact Xs, by simp only [put_nobj, new_nobj]; omega, ?_, ?_, Own.nil _ _⟩ ?_
 ·rw [put_ne (by omega), new_lt (by simp only [new_nobj]; omega), new_same]
 ·rw [put_same]; simp
 rintro m s σ' ⟨i, i3, rfl, hi, h2, h7, h15, h16, h17, hK, hno, ob0, ob1, hO⟩
 have kno := hK.nobj
 by_cases hlt : i < N.length
 ·have hget := List.getElem?_eq_getElem hlt
  have hgx : (N.map str).drop i = str N[i] :: (N.map str).drop (i + 1) := by
   rw [List.drop_eq_getElem_cons (by simpa using hlt)]; simp
  generalize N[i] = w at hget hgx
  have HX : Abs.Hid ((N.take i).map str ++ [str w] = (N.take (i + 1)).map str) := by rw [Abs.Hid, List.take_add_one, hget]; simp
  have hxl : ((N.take i).map str).length = i * 1 := by simp; omega
  clear hget
  generalize (N.take i).map str = xs at ob1 HX hxl
  repeat' (first
 |with_reducible first|apply Xa|apply Xb|(refine Xc ?_;intro κ hκ)|(apply hκ.out;clear hκ κ)|apply Xd|apply Xe|apply Xf
 |((with_reducible first|refine Xl ?_ ?_|refine Xm ?_ ?_|refine Xk ?_ ?_)<;> intro h hari<;> try exact Xp)
 |((with_reducible refine aapp_go ?_);refine Xt ?_;intro idn σn hOn hKn eobj enobj ever entop)
 |((with_reducible refine aappn_go ?_);refine Xu ?_)
 |refine Xr ?_
 |exact True.intro
 |((with_reducible refine Xg ?_);refine Xj ?_)
 |(apply hκ.out;clear hκ κ))
  refine ⟨N.length - (i + 1), by omega, i + 1, idn, ?_⟩
  exact ⟨rfl, by omega, by simp, hKn.put (by omega) _, by rw [← HX.out], Own.put hOn _ _⟩
 ·have hil : i = N.length := by omega
  subst hil
  rw [List.take_length] at ob1
  have hRS : RS N.length t (σ.nobj + 1) N i3 t σ' := by
   refine ⟨by rw [ob1]; simp [rdS, rdr], hno, ?_, List.suffix_refl _, by omega, by omega⟩
   rcases hO with e | ⟨k, e1, e2, e3, e4, e5⟩
   ·exact .inl e
   ·exact .inr ⟨k, e1, e3, e4, e5⟩
  have hid : i3 < 2 ∨ σ.ntop + 2 ≤ i3 := by
   rcases hO with e | ⟨k, e1, e2, e3, e4, e5⟩ <;> omega
  have hR := readFacts_R (Bd := N.length) ht hRS
  clear hRS ob1 hO hi
  cases hp : pFacts 400 t with
  | bad e =>
   have hfe : facE l t = 7 := by unfold facE; rw [hp]
   rw [hp] at hR
   simp only [Rd.ok, Rd.Val] at hR
   rw [hfe]
   clear hp hfe hOth hAny
   repeat' (first
 |with_reducible first|apply Xa|apply Xb|(refine Xc ?_;intro κ hκ)|(apply hκ.out;clear hκ κ)|apply Xd|apply Xe|apply Xf
 |((with_reducible first|refine Xl ?_ ?_|refine Xm ?_ ?_|refine Xk ?_ ?_)<;> intro h hari<;> try exact Xp)
 |((with_reducible refine aapp_go ?_);refine Xt ?_;intro idn σn hOn hKn eobj enobj ever entop)
 |((with_reducible refine aappn_go ?_);refine Xu ?_)
 |((with_reducible refine Xh ?_);refine Xi (hR) ?_;rintro _ _ ⟨n,ids,c,N2,id2,r2,rfl,hS1,hR1,hP1,-⟩;(have kno1:=hS1.keep.nobj;have hKx:=KeepR.keep hK hS1.keep (by omega) hid))
 |refine Xr ?_
 |exact True.intro
 |((with_reducible refine Xg ?_);refine Xj ?_)
 |(apply hκ.out;clear hκ κ))
   first | exact ⟨_, rfl, 1, 0, 0, [], rfl, hKx, fun h => by simp at h⟩ | exact ⟨_, rfl, 1, 0, 0, [], rfl, fun h => by simp at h⟩
  | got F r0 =>
   obtain ⟨rfl, hFl, -, hFw⟩ := pFacts_took _ _ _ _ hp
   rw [hp] at hR
   simp only [Rd.ok, Rd.Val] at hR
   have hfe : facE l t = if othF (l.flatMap atomsL) F = true then 3 else if F.any (fun a => rulT l a.pred) = true then 8 else 0 := by unfold facE; rw [hp]
   rw [hfe]
   have hFp : ∀ a ∈ F, 0 < a.terms.length ∧ a.terms.length ≤ 3 := fun a ha => ⟨by
    have := (hFw a ha).1.2.1
    cases hh : a.terms with
    | nil => exact absurd hh this
    | cons y ys => simp, (hFw a ha).1.2.2.1⟩
   have hFl2 : F.length ≤ 1000 := by omega
   have HP : Abs.Hid _ := hp
   clear hp hfe hFw
   generalize hAe : l.flatMap atomsL = A at *
   have hO1 := fun N' hN fc idf hF => hOth N' hN F fc idf hF hFl2 hFp
   have hA1 := fun N' hN fc idf hF => hAny N' hN F fc idf hF hFl2
   clear hOth hAny
   cases hoth : othF A F with
   | true =>
    simp only [hoth] at hO1
    simp only [if_true]
    clear hA1 hoth
    repeat' (first
 |with_reducible first|apply Xa|apply Xb|(refine Xc ?_;intro κ hκ)|(apply hκ.out;clear hκ κ)|apply Xd|apply Xe|apply Xf
 |((with_reducible first|refine Xl ?_ ?_|refine Xm ?_ ?_|refine Xk ?_ ?_)<;> intro h hari<;> try exact Xp)
 |((with_reducible refine aapp_go ?_);refine Xt ?_;intro idn σn hOn hKn eobj enobj ever entop)
 |((with_reducible refine aappn_go ?_);refine Xu ?_)
 |((with_reducible refine Xh ?_);first|(refine Xi (hR) ?_;rintro _ _ ⟨n,ids,c,N2,id2,r2,rfl,hS1,hR1,hP1,⟨rfl,hE1⟩⟩;(have kno1:=hS1.keep.nobj;have hKx:=KeepR.keep hK hS1.keep (by omega) hid;have hob1:=hR1.obj;unfold rdS rdr at hob1;have hob0:=hS1.keep.obj σ.nobj (by omega) (by omega);rw [ob0] at hob0;have hO2:=fun σ => hO1 N2 hP1 c ids hE1 (by have:=hR1.len;omega) σ))|(refine Xi (hO2 _) ?_;rintro _ _ ⟨rfl,hK3⟩;(have hKy:=hKx.trans hK3)))
 |refine Xr ?_
 |exact True.intro
 |((with_reducible refine Xg ?_);refine Xj ?_)
 |(apply hκ.out;clear hκ κ))
    first | exact ⟨_, rfl, 1, 0, 0, [], rfl, hKy, fun h => by simp at h⟩ | exact ⟨_, rfl, 1, 0, 0, [], rfl, fun h => by simp at h⟩
   | false =>
    simp only [hoth] at hO1
    simp only [Bool.false_eq_true, if_false]
    clear hoth
    cases hru : F.any (fun a => rulT l a.pred) with
    | true =>
     have hA2 : ∀ (N2 : List Tx), N <+: N2 → ∀ (fc : List AV) (idf : Nat), EL (PF N2) F fc → F.any (fun a => rulN N2 l (N2.idxOf a.pred)) = true := fun N2 hP fc idf hE => by
      rw [← hru]
      refine any_eq fun a ha => rulN_T (fun x hx => hP.subset (hhd x hx)) ?_
      obtain ⟨i, hi⟩ := List.getElem?_of_mem ha
      exact (PF_get hE hi).1
     simp only [if_true]
     clear hru
     repeat' (first
 |with_reducible first|apply Xa|apply Xb|(refine Xc ?_;intro κ hκ)|(apply hκ.out;clear hκ κ)|apply Xd|apply Xe|apply Xf
 |((with_reducible first|refine Xl ?_ ?_|refine Xm ?_ ?_|refine Xk ?_ ?_)<;> intro h hari<;> try exact Xp)
 |((with_reducible refine aapp_go ?_);refine Xt ?_;intro idn σn hOn hKn eobj enobj ever entop)
 |((with_reducible refine aappn_go ?_);refine Xu ?_)
 |((with_reducible refine Xh ?_);first|(refine Xi (hR) ?_;rintro _ _ ⟨n,ids,c,N2,id2,r2,rfl,hS1,hR1,hP1,⟨rfl,hE1⟩⟩;(have kno1:=hS1.keep.nobj;have hKx:=KeepR.keep hK hS1.keep (by omega) hid;have hob1:=hR1.obj;unfold rdS rdr at hob1;have hob0:=hS1.keep.obj σ.nobj (by omega) (by omega);rw [ob0] at hob0;have hO2:=fun σ => hO1 N2 hP1 c ids hE1 (by have:=hR1.len;omega) σ;have hA3:=fun σ => hA1 N2 hP1 c ids hE1 σ;rw [hA2 N2 hP1 c ids hE1] at hA3))|(refine Xi (hO2 _) ?_;rintro _ _ ⟨rfl,hK3⟩;(have hKy:=hKx.trans hK3;have kob3:=hK3.obj;have kno3:=hK3.nobj))|(refine Xi (hA3 _) ?_;rintro _ _ ⟨rfl,hK4⟩;(have hKz:=hKy.trans hK4)))
 |refine Xr ?_
 |exact True.intro
 |((with_reducible refine Xg ?_);refine Xj ?_)
 |(apply hκ.out;clear hκ κ))
     first | exact ⟨_, rfl, 1, 0, 0, [], rfl, hKz, fun h => by simp at h⟩ | exact ⟨_, rfl, 1, 0, 0, [], rfl, fun h => by simp at h⟩
    | false =>
     have hA2 : ∀ (N2 : List Tx), N <+: N2 → ∀ (fc : List AV) (idf : Nat), EL (PF N2) F fc → F.any (fun a => rulN N2 l (N2.idxOf a.pred)) = false := fun N2 hP fc idf hE => by
      rw [← hru]
      refine any_eq fun a ha => rulN_T (fun x hx => hP.subset (hhd x hx)) ?_
      obtain ⟨i, hi⟩ := List.getElem?_of_mem ha
      exact (PF_get hE hi).1
     simp only [Bool.false_eq_true, if_false]
     clear hru
     repeat' (first
 |with_reducible first|apply Xa|apply Xb|(refine Xc ?_;intro κ hκ)|(apply hκ.out;clear hκ κ)|apply Xd|apply Xe|apply Xf
 |((with_reducible first|refine Xl ?_ ?_|refine Xm ?_ ?_|refine Xk ?_ ?_)<;> intro h hari<;> try exact Xp)
 |((with_reducible refine aapp_go ?_);refine Xt ?_;intro idn σn hOn hKn eobj enobj ever entop)
 |((with_reducible refine aappn_go ?_);refine Xu ?_)
 |((with_reducible refine Xh ?_);first|(refine Xi (hR) ?_;rintro _ _ ⟨n,ids,c,N2,id2,r2,rfl,hS1,hR1,hP1,⟨rfl,hE1⟩⟩;(have kno1:=hS1.keep.nobj;have hKx:=KeepR.keep hK hS1.keep (by omega) hid;have hob1:=hR1.obj;unfold rdS rdr at hob1;have hob0:=hS1.keep.obj σ.nobj (by omega) (by omega);rw [ob0] at hob0;have hO2:=fun σ => hO1 N2 hP1 c ids hE1 (by have:=hR1.len;omega) σ;have hA3:=fun σ => hA1 N2 hP1 c ids hE1 σ;rw [hA2 N2 hP1 c ids hE1] at hA3))|(refine Xi (hO2 _) ?_;rintro _ _ ⟨rfl,hK3⟩;(have hKy:=hKx.trans hK3;have kob3:=hK3.obj;have kno3:=hK3.nobj))|(refine Xi (hA3 _) ?_;rintro _ _ ⟨rfl,hK4⟩;(have hKz:=hKy.trans hK4;have kob4:=hK4.obj;have kno4:=hK4.nobj)))
 |refine Xr ?_
 |exact True.intro
 |((with_reducible refine Xg ?_);refine Xj ?_)
 |(apply hκ.out;clear hκ κ))
     rename_i σ1 _ σ3 _ σ4
     have o7 : σ4.obj (σ.nobj + 1) = [str t, ic ((t.length - r2.length : Nat) : Int), sl id2 N2.length (N2.map str)] := by rw [kob4 _ (by omega), kob3 _ (by omega)]; exact hob1
     refine awp_draw_k follows_mixed (fun _ => True) [] [0, 1, 2, 3, 4, 5, 6] [] (by kernel_rfl) (fun _ _ _ h => h) ?_
     intro κ hκ
     repeat' (first
 |with_reducible first|apply Xa|apply Xb|(refine Xc ?_;intro κ hκ)|(apply hκ.out;clear hκ κ)|apply Xd|apply Xe|apply Xf
 |((with_reducible first|refine Xl ?_ ?_|refine Xm ?_ ?_|refine Xk ?_ ?_)<;> intro h hari<;> try exact Xp)
 |((with_reducible refine aapp_go ?_);refine Xt ?_;intro idn σn hOn hKn eobj enobj ever entop)
 |((with_reducible refine aappn_go ?_);refine Xu ?_)
 |refine Xr ?_
 |exact True.intro
 |((with_reducible refine Xg ?_);refine Xj ?_)
 |(apply hκ.out;clear hκ κ))
     first | exact ⟨_, rfl, ids, F.length, N2.length, c, rfl, hKz, fun _ => ⟨F, N2, rfl, rfl, rfl, hP1, by have := hR1.len; omega, hE1⟩⟩ | exact ⟨_, rfl, ids, F.length, N2.length, c, rfl, fun _ => ⟨F, N2, rfl, rfl, rfl, hP1, by have := hR1.len; omega, hE1⟩⟩
/- The program tells a model: a tuple's rank and text. -/
def lexL : List Int → List Int → Bool
 | x :: t, y :: u => if x = y then lexL t u else decide (x < y)
 | _, _ => false
theorem lex_step {t u : List Int} {i : Nat} {x y : Int} (ht : t[i]? = some x) (hu : u[i]? = some y) : lexL (t.drop i) (u.drop i) = if x = y then lexL (t.drop (i + 1)) (u.drop (i + 1)) else decide (x < y) := by
 obtain ⟨h1, e1⟩ := List.getElem?_eq_some_iff.1 ht
 obtain ⟨h2, e2⟩ := List.getElem?_eq_some_iff.1 hu
 rw [List.drop_eq_getElem_cons h1, List.drop_eq_getElem_cons h2, e1, e2]
 rfl
theorem lex_asym : ∀ {t u : List Int}, lexL t u = true → lexL u t = false
 | [], _, h => by simp [lexL] at h
 | _ :: _, [], h => by simp [lexL] at h
 | x :: t, y :: u, h => by
  unfold lexL at h ⊢
  by_cases e : x = y
  ·subst e
   simp only [if_true] at h ⊢
   exact lex_asym h
  ·rw [if_neg e] at h
   rw [if_neg (fun e' => e e'.symm)]
   simp at h ⊢; omega
theorem lex3 (a b c d e f : Int) : lexL [d, e, f] [a, b, c] = false ↔ (a < d ∨ (a = d ∧ (b < e ∨ (b = e ∧ c ≤ f)))) := by
 simp only [lexL]
 by_cases e1 : d = a
 ·rw [if_pos e1]
  by_cases e2 : e = b
  ·rw [if_pos e2]
   by_cases e3 : f = c
   ·rw [if_pos e3]; simp; omega
   ·rw [if_neg e3]; simp; omega
  ·rw [if_neg e2]; simp; omega
 ·rw [if_neg e1]; simp; omega
theorem lex_trans {t u v : List Int} (ht : t.length = 3) (hu : u.length = 3) (hv : v.length = 3) (h1 : lexL u t = false) (h2 : lexL v u = false) : lexL v t = false := by
 match t, u, v, ht, hu, hv with
 | [a, b, c], [d, e, f], [g, h, i], _, _, _ =>
  rw [lex3] at h1 h2 ⊢
  omega
theorem lex_tot {t u : List Int} (ht : t.length = 3) (hu : u.length = 3) (h1 : lexL t u = false) (h2 : lexL u t = false) : t = u := by
 match t, u, ht, hu with
 | [a, b, c], [d, e, f], _, _ =>
  simp only [lexL] at h1 h2
  by_cases e1 : a = d
  ·subst e1
   simp only [if_true] at h1 h2
   by_cases e2 : b = e
   ·subst e2
    simp only [if_true] at h1 h2
    by_cases e3 : c = f
    ·rw [e3]
    ·rw [if_neg e3] at h1; rw [if_neg (fun e => e3 e.symm)] at h2; simp at h1 h2; omega
   ·rw [if_neg e2] at h1; rw [if_neg (fun e => e2 e.symm)] at h2; simp at h1 h2; omega
  ·rw [if_neg e1] at h1; rw [if_neg (fun e => e1 e.symm)] at h2; simp at h1 h2; omega
set_option maxHeartbeats 16000000 in
theorem eless_spec (t u : Tup) (ht : t.length = 3) (hu : u.length = 3) (σ : St) : ACalls Tryz.prog 133 [ag (icells t), ag (icells u)] σ fun r σ' => r = sc (.bool (lexL t u)) ∧ Keep σ σ' := by
 have f1 := i3_len ht
 have f3 := i3_take0 ht
 have f4 := i3_lsp ht
 have f5 := icells_flat t
 have g1 := i3_len hu
 have g3 := i3_take0 hu
 have g4 := i3_lsp hu
 have g5 := icells_flat u
 refine acalls 24 [.tmp 4] Tryz.func133 rfl (by decide) rfl rfl (Nat.le_of_ble_eq_true rfl) ?_
 repeat' (first
 |with_reducible first|apply Xa|apply Xb|(refine Xc ?_;intro κ hκ)|(apply hκ.out;clear hκ κ)|apply Xd|apply Xe|apply Xf
 |((with_reducible first|refine Xl ?_ ?_|refine Xm ?_ ?_|refine Xk ?_ ?_)<;> intro h hari<;> try exact Xp)
 |refine Xw ?_
 |exact True.intro
 |((with_reducible refine Xg ?_);refine Xj ?_)
 |(apply hκ.out;clear hκ κ))
 refine awp_loop (fun m s σ' => ∃ i : Nat, m = 3 - i ∧ i ≤ 3 ∧ s 2 = ptr σ.nobj 0 ∧ s 3 = ptr (σ.nobj + 1) 0 ∧ s 6 = ic i ∧ σ' = (σ.new (icells t)).new (icells u) ∧ Abs.Hid (lexL t u = lexL (t.drop i) (u.drop i))) 3
  ⟨0, by omega, by omega, by simp [upd], by simp [upd], by simp [upd], rfl, by simp [Abs.Hid]⟩ ?_
 rintro m s σ' ⟨i, rfl, hi, h2, h3, h6, rfl, hL⟩
 by_cases hlt : i < 3
 ·have hti : t[i]? = some t[i] := List.getElem?_eq_getElem (by omega)
  have hui : u[i]? = some u[i] := List.getElem?_eq_getElem (by omega)
  have hgt := i3_get hti
  have hgu := i3_get hui
  have HS : Abs.Hid _ := lex_step hti hui
  generalize t[i] = x at hgt HS
  generalize u[i] = y at hgu HS
  clear hti hui
  repeat' (first
 |with_reducible first|apply Xa|apply Xb|(refine Xc ?_;intro κ hκ)|(apply hκ.out;clear hκ κ)|apply Xd|apply Xe|apply Xf
 |((with_reducible first|refine Xl ?_ ?_|refine Xm ?_ ?_|refine Xk ?_ ?_)<;> intro h hari<;> try exact Xp)
 |refine Xw ?_
 |exact True.intro
 |((with_reducible refine Xg ?_);refine Xj ?_)
 |(apply hκ.out;clear hκ κ))
  refine awp_draw_k follows_mixed (fun _ => True) [] [0, 1, 2, 3, 4, 5, 6] [] (by kernel_rfl) (fun _ _ _ h => h) ?_
  intro κ hκ
  repeat' (first
 |with_reducible first|apply Xa|apply Xb|(refine Xc ?_;intro κ hκ)|(apply hκ.out;clear hκ κ)|apply Xd|apply Xe|apply Xf
 |((with_reducible first|refine Xl ?_ ?_|refine Xm ?_ ?_|refine Xk ?_ ?_)<;> intro h hari<;> try exact Xp)
 |refine Xw ?_
 |exact True.intro
 |((with_reducible refine Xg ?_);refine Xj ?_)
 |(apply hκ.out;clear hκ κ))
  ·refine awp_draw_k follows_mixed (fun _ => True) [] [0, 1, 2, 3, 4, 5, 6, 7] [] (by kernel_rfl) (fun _ _ _ h => h) ?_
   intro κ hκ
   repeat' (first
 |with_reducible first|apply Xa|apply Xb|(refine Xc ?_;intro κ hκ)|(apply hκ.out;clear hκ κ)|apply Xd|apply Xe|apply Xf
 |((with_reducible first|refine Xl ?_ ?_|refine Xm ?_ ?_|refine Xk ?_ ?_)<;> intro h hari<;> try exact Xp)
 |refine Xw ?_
 |exact True.intro
 |((with_reducible refine Xg ?_);refine Xj ?_)
 |(apply hκ.out;clear hκ κ))
   have hne : x ≠ y := by simpa using h
   exact ⟨_, rfl, by rw [hL.out, HS.out, if_neg hne], ((Keep.refl σ).new _).new _⟩
  ·have he : x = y := by simpa using h
   have HL : Abs.Hid (lexL t u = lexL (t.drop (i + 1)) (u.drop (i + 1))) := by rw [Abs.Hid, hL.out, HS.out, if_pos he]
   refine ⟨3 - (i + 1), by omega, i + 1, ?_⟩
   ((repeat' with_reducible refine And.intro ?_ ?_)<;> first|exact Xq|exact (HL)|exact Xs)
 ·have hil : i = 3 := by omega
  subst hil
  have hz : lexL t u = false := by rw [hL.out, List.drop_eq_nil_of_le (by omega)]; rfl
  rw [hz]
  repeat' (first
 |with_reducible first|apply Xa|apply Xb|(refine Xc ?_;intro κ hκ)|(apply hκ.out;clear hκ κ)|apply Xd|apply Xe|apply Xf
 |((with_reducible first|refine Xl ?_ ?_|refine Xm ?_ ?_|refine Xk ?_ ?_)<;> intro h hari<;> try exact Xp)
 |refine Xw ?_
 |exact True.intro
 |((with_reducible refine Xg ?_);refine Xj ?_)
 |(apply hκ.out;clear hκ κ))
  exact ⟨_, rfl, rfl, ((Keep.refl σ).new _).new _⟩
def jn : List Int → Tx
 | [] => []
 | x :: xs => Lib.itoa x ++ xs.flatMap fun y => 44 :: Lib.itoa y
theorem jn_snoc (l : List Int) (x : Int) : jn (l ++ [x]) = if l = [] then Lib.itoa x else jn l ++ 44 :: Lib.itoa x := by
 cases l with
 | nil => simp [jn]
 | cons y l => simp [jn]
def tups (t : Tup) : List Int := t.takeWhile (fun x => decide (x ≠ -1))
def tupX (t : Tup) : Tx := jn (tups t)
theorem take_while {t : Tup} {i : Nat} (h : ∀ x ∈ t.take i, x ≠ -1) (he : t[i]? = some (-1) ∨ t.length ≤ i) : tups t = t.take i := by
 unfold tups
 conv => lhs; rw [← List.take_append_drop i t]
 rw [List.takeWhile_append_of_pos (fun x hx => by simpa using h x hx)]
 rcases he with he | he
 ·obtain ⟨h1, h2⟩ := List.getElem?_eq_some_iff.1 he
  rw [List.drop_eq_getElem_cons h1, h2]
  simp
 ·rw [List.drop_eq_nil_of_le he]; simp
theorem itoa_len (x : Int) (h0 : 0 ≤ x) (h1 : x ≤ 9999) : (Lib.itoa x).length ≤ 10 := by
 have key : ∀ (k u : Nat), u < 10 ^ (k + 1) → (Lib.decDigits u).length ≤ k + 1 := by
  intro k
  induction k with
  | zero => intro u hu; rw [Lib.decDigits, dif_pos (by simpa using hu)]; simp
  | succ k ih =>
   intro u hu
   rw [Lib.decDigits]
   split
   ·simp
   ·rw [List.length_append]
    have := ih (u / 10) (by rw [Nat.pow_succ] at hu; omega)
    simp; omega
 unfold Lib.itoa
 rw [if_neg (by omega)]
 have := key 3 x.toNat (by simp; omega)
 omega
set_option maxHeartbeats 16000000 in
theorem etupText_spec (t : Tup) (ht : t.length = 3) (hb : ∀ x ∈ t, -1 ≤ x ∧ x ≤ 9999) (σ : St) : ACalls Tryz.prog 81 [ag (icells t)] σ fun r σ' => r = str (tupX t) ∧ Keep σ σ' := by
 have f1 := i3_len ht
 have f3 := i3_take0 ht
 have f4 := i3_lsp ht
 have f5 := icells_flat t
 have hcm : ({ data := #[44] } : ByteArray) = bs [44] := rfl
 have hts := tsz_3
 refine acalls 24 [.tmp 2] Tryz.func81 rfl (by decide) rfl rfl (Nat.le_of_ble_eq_true rfl) ?_
 repeat' (first
 |with_reducible first|apply Xa|apply Xb|(refine Xc ?_;intro κ hκ)|(apply hκ.out;clear hκ κ)|apply Xd|apply Xe|apply Xf
 |((with_reducible first|refine Xl ?_ ?_|refine Xk ?_ ?_)<;> intro h hari<;> try exact Xp)
 |refine Xw ?_
 |exact True.intro
 |(apply hκ.out;clear hκ κ))
 refine awp_loop (fun m s σ' => ∃ i : Nat, m = 3 - i ∧ i ≤ 3 ∧ s 3 = str (jn (t.take i)) ∧ s 6 = ag (icells t) ∧ s 7 = ic i ∧ Keep σ σ' ∧ (jn (t.take i)).length ≤ 20 * i ∧ Abs.Hid (∀ x ∈ t.take i, x ≠ -1)) 3
  ⟨0, by omega, by omega, by simp [upd, jn]; try rfl, by simp [upd, *], by simp [upd], by exact Xs, by simp [jn], by simp [Abs.Hid]⟩ ?_
 rintro m s σ' ⟨i, rfl, hi, h3, h6, h7, hK, hjl, hN⟩
 by_cases hlt : i < 3
 ·have hti : t[i]? = some t[i] := List.getElem?_eq_getElem (by omega)
  have hgt := i3_get hti
  have hxb := hb t[i] (List.getElem_mem (by omega))
  generalize t[i] = x at hgt hti hxb
  by_cases hx : x = -1
  ·subst hx
   have HR : Abs.Hid (tupX t = jn (t.take i)) := by rw [Abs.Hid, tupX, take_while hN.out (.inl hti)]
   clear hti
   repeat' (first
 |with_reducible first|apply Xa|apply Xb|(refine Xc ?_;intro κ hκ)|(apply hκ.out;clear hκ κ)|apply Xd|apply Xe|apply Xf
 |((with_reducible first|refine Xl ?_ ?_|refine Xk ?_ ?_)<;> intro h hari<;> try exact Xp)
 |refine Xw ?_
 |exact True.intro
 |(apply hκ.out;clear hκ κ))
   first | exact ⟨_, rfl, by rw [HR.out], hK⟩ | exact ⟨_, rfl, by rw [HR.out]⟩
  ·have hxe : (x == -1) = false := by simpa using hx
   have hI := fun σ => itoa_spec x (by omega) (by omega) σ
   have HT : Abs.Hid (jn (t.take (i + 1)) = if i = 0 then Lib.itoa x else jn (t.take i) ++ 44 :: Lib.itoa x) := by
    rw [Abs.Hid, List.take_add_one, hti, Option.toList_some, jn_snoc]
    by_cases e : i = 0
    ·subst e; simp
    ·rw [if_neg e, if_neg (fun h => by have := congrArg List.length h; rw [List.length_take, List.length_nil] at this; omega)]
   have HN : Abs.Hid (∀ y ∈ t.take (i + 1), y ≠ -1) := fun y hy => by
    rw [List.take_add_one, hti, Option.toList_some] at hy
    rcases List.mem_append.1 hy with h | h
    ·exact hN.out y h
    ·simp at h; subst h; exact hx
   by_cases e : i = 0
   ·subst e
    have HJ : Abs.Hid (jn (t.take 1) = Lib.itoa x) := by rw [Abs.Hid]; have := HT.out; simpa using this
    have hj0 : jn (t.take 0) = [] := by simp [jn]
    rw [hj0] at h3
    have hgh : (icells t).head? = some (ic x) := by rw [List.head?_eq_getElem?]; exact hgt
    have hil := itoa_len x (by omega) (by omega)
    clear hti hx HT hj0
    repeat' (first
 |with_reducible first|apply Xa|apply Xb|(refine Xc ?_;intro κ hκ)|(apply hκ.out;clear hκ κ)|apply Xd|apply Xe|apply Xf
 |((with_reducible first|refine Xl ?_ ?_|refine Xk ?_ ?_)<;> intro h hari<;> try exact Xp)
 |((with_reducible refine Xh ?_);refine Xi (hI _) ?_;rintro _ _ ⟨rfl,rfl⟩)
 |refine Xw ?_
 |exact True.intro
 |(apply hκ.out;clear hκ κ))
    exact ⟨3 - (0 + 1), by omega, 1, rfl, by omega, by rw [HJ.out], rfl, by rw [HJ.out]; omega, HN⟩
   ·have hi0 : decide ((i : Int) > 0) = true := by simp; omega
    have HJ : Abs.Hid (jn (t.take (i + 1)) = jn (t.take i) ++ 44 :: Lib.itoa x) := by have := HT.out; rwa [if_neg e] at this
    have hil := itoa_len x (by omega) (by omega)
    have HJL : Abs.Hid ((jn (t.take (i + 1))).length ≤ 20 * (i + 1)) := by rw [Abs.Hid, HJ.out]; simp; omega
    clear hti hx HT
    generalize hje : jn (t.take i) = js at h3 hjl HJ
    repeat' (first
 |with_reducible first|apply Xa|apply Xb|(refine Xc ?_;intro κ hκ)|(apply hκ.out;clear hκ κ)|apply Xd|apply Xe|apply Xf
 |((with_reducible first|refine Xl ?_ ?_|refine Xk ?_ ?_)<;> intro h hari<;> try exact Xp)
 |((with_reducible refine Xh ?_);refine Xi (hI _) ?_;rintro _ _ ⟨rfl,rfl⟩)
 |refine Xw ?_
 |exact True.intro
 |(apply hκ.out;clear hκ κ))
    exact ⟨3 - (i + 1), by omega, i + 1, rfl, by omega, by rw [HJ.out]; simp [str], by simp, HJL, HN⟩
 ·have hil : i = 3 := by omega
  subst hil
  have HR : Abs.Hid (tupX t = jn (t.take 3)) := by rw [Abs.Hid, tupX, take_while hN.out (.inr (by omega))]
  repeat' (first
 |with_reducible first|apply Xa|apply Xb|(refine Xc ?_;intro κ hκ)|(apply hκ.out;clear hκ κ)|apply Xd|apply Xe|apply Xf
 |((with_reducible first|refine Xl ?_ ?_|refine Xk ?_ ?_)<;> intro h hari<;> try exact Xp)
 |refine Xw ?_
 |exact True.intro
 |(apply hκ.out;clear hκ κ))
  first | exact ⟨_, rfl, by rw [HR.out], hK⟩ | exact ⟨_, rfl, by rw [HR.out]⟩
end Go.Proofs.YtmoeoppbmhfbpaaGreatDoorB
