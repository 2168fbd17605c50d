import Derived.Test.YtmoeoppbmhfbpaaGreatDoorBProgG
/- The program's reader: atoms and literals. -/
namespace Go.Proofs.YtmoeoppbmhfbpaaGreatDoorB
open Go.Abs
variable {Bd : Nat}
set_option linter.unusedSimpArgs false
set_option linter.unusedVariables false
set_option maxRecDepth 100000
structure PA (N : List Tx) (a : RAtom) (k : Int) (n : Nat) (c : List AV) : Prop where
 mem : a.pred ∈ N
 idx : k = (N.idxOf a.pred : Nat)
 len : n = a.terms.length
 cells : c = tcells a.terms
theorem pAtom_sep (nt : Bool) (s : Tx) : pAtom nt s = (pName s).bnd fun p r => (pByte 40 r).bnd fun _ r => (pTerms r).bnd fun ts r => (pByte 41 r).bnd fun _ r => .got { nt := nt, pred := p, terms := ts } r := by
 unfold pAtom pArgs pTerms pSep
 cases pName s with
 | bad e => rfl
 | got p r =>
  simp only [Rd.bnd]
  cases pByte 40 r with
  | bad e => rfl
  | got u r =>
   simp only [Rd.bnd]
   cases pTerm r with
   | bad e => rfl
   | got w r =>
    simp only [Rd.bnd]
    cases pMore pTerm 2 r <;> rfl
set_option maxHeartbeats 16000000 in
theorem readAtom_R (nt : Bool) {t : Tx} {o : Nat} {N : List Tx} {id : Nat} {s : Tx} {σ : St} (ht : t.length ≤ 1000) (hR : RS Bd t o N id s σ) :
  ACalls Tryz.prog 124 [ptr o 0] σ fun x σ' => ∃ k n ids c N' id', x = tp [ag [sc (.int .i64 k), sl ids n c], sc (.bool (pAtom nt s).ok)] ∧ Rs o σ id σ' id' ∧ RS Bd t o N' id' (pAtom nt s).rest σ' ∧ N <+: N' ∧ Rd.Val (pAtom nt s) fun a => PA N' a k n c := by
 have hn := hR.lt
 rw [pAtom_sep]
 refine acalls 34 [.cell 2 94, .tmp 3] Tryz.func124 rfl (by decide) rfl rfl (Nat.le_of_ble_eq_true rfl) ?_
 repeat' (first
 |with_reducible first|apply Xa|apply Xb|(refine Xc ?_;intro κ hκ)|(apply hκ.out;clear hκ κ)|apply Xd|apply Xe|apply Xf
 |((with_reducible first|refine Xl ?_ ?_|refine Xk ?_ ?_)<;> intro h hari<;> try exact Xp)
 |((with_reducible refine Xh ?_);first|(refine Xi (readPredicate_R ht (by repeat (first | (with_reducible assumption) | (with_reducible apply RS.put; rotate_left; (first | omega | (simp only [new_nobj, put_nobj, lay_nobj, lay_obj] at *; omega))) | (with_reducible apply RS.new) | (with_reducible apply RS.lay) | assumption))) ?_;rintro _ _ ⟨k,N',id',rfl,hS1,hR1,hP1,hV1⟩;(have kno1:=hS1.keep.nobj;(try simp only [new_nobj,put_nobj,lay_nobj] at kno1);have kob1:=hS1.keep.obj))|(refine Xi (take_R ht (by assumption)) ?_;rintro _ _ ⟨rfl,hKt,hRt⟩;(have kno2:=hKt.nobj;(try simp only [new_nobj,put_nobj,lay_nobj] at kno2);have kob2:=hKt.obj))|(refine Xi (readTerms_R ht (by assumption)) ?_;rintro _ _ ⟨n,ids,c,rfl,hKr,hRr,hVr⟩;(have kno3:=hKr.nobj;(try simp only [new_nobj,put_nobj,lay_nobj] at kno3);have kob3:=hKr.obj)))
 |refine Xr ?_
 |exact True.intro
 |(apply hκ.out;clear hκ κ))
 ·obtain ⟨e, he⟩ := Rd.ok_false h
  rw [he] at hR1 ⊢
  simp only [Rd.rest] at hR1
  exact ⟨_, rfl, 0, 0, 1, [], N', id', rfl, by repeat (first | exact Rs.refl _ _ _ | (with_reducible assumption) | (with_reducible apply Rs.put; rotate_left; (first | omega | (simp only [new_nobj, put_nobj, lay_nobj, lay_obj] at *; omega))) | (with_reducible apply Rs.new) | (with_reducible apply Rs.lay) | (refine Rs.trans ?_ (by with_reducible assumption)) | (refine Rs.transX ?_ (by with_reducible assumption))), by show RS Bd t o N' id' e _; repeat (first | (with_reducible assumption) | (with_reducible apply RS.put; rotate_left; (first | omega | (simp only [new_nobj, put_nobj, lay_nobj, lay_obj] at *; omega))) | (with_reducible apply RS.new) | (with_reducible apply RS.lay) | assumption), hP1, trivial⟩
 ·obtain ⟨p, r, he⟩ := Rd.ok_true (show (pName s).ok = true by assumption)
  rw [he] at hR1 hRt h ⊢
  rw [show (Rd.got p r).rest = r from rfl] at h hRt
  obtain ⟨e, hb⟩ := Rd.ok_false h
  rw [hb] at hRt
  simp only [Rd.rest] at hRt
  simp only [Rd.bnd, hb]
  exact ⟨_, rfl, 0, 0, 1, [], N', id', rfl, by repeat (first | exact Rs.refl _ _ _ | (with_reducible assumption) | (with_reducible apply Rs.put; rotate_left; (first | omega | (simp only [new_nobj, put_nobj, lay_nobj, lay_obj] at *; omega))) | (with_reducible apply Rs.new) | (with_reducible apply Rs.lay) | (refine Rs.trans ?_ (by with_reducible assumption)) | (refine Rs.transX ?_ (by with_reducible assumption))), by show RS Bd t o N' id' e _; repeat (first | (with_reducible assumption) | (with_reducible apply RS.put; rotate_left; (first | omega | (simp only [new_nobj, put_nobj, lay_nobj, lay_obj] at *; omega))) | (with_reducible apply RS.new) | (with_reducible apply RS.lay) | assumption), hP1, trivial⟩
 ·obtain ⟨p, r, he⟩ := Rd.ok_true (show (pName s).ok = true by assumption)
  have hb1 : (pByte 40 (pName s).rest).ok = true := by assumption
  rw [he] at hb1 hRr h ⊢
  rw [show (Rd.got p r).rest = r from rfl] at hb1 h hRr
  obtain ⟨u, r2, hb⟩ := Rd.ok_true hb1
  rw [hb] at h hRr
  rw [show (Rd.got u r2).rest = r2 from rfl] at h hRr
  obtain ⟨e, hc⟩ := Rd.ok_false h
  rw [hc] at hRr
  simp only [Rd.rest] at hRr
  simp only [Rd.bnd, hb, hc]
  exact ⟨_, rfl, 0, 0, 1, [], N', id', rfl, by repeat (first | exact Rs.refl _ _ _ | (with_reducible assumption) | (with_reducible apply Rs.put; rotate_left; (first | omega | (simp only [new_nobj, put_nobj, lay_nobj, lay_obj] at *; omega))) | (with_reducible apply Rs.new) | (with_reducible apply Rs.lay) | (refine Rs.trans ?_ (by with_reducible assumption)) | (refine Rs.transX ?_ (by with_reducible assumption))), by show RS Bd t o N' id' e _; repeat (first | (with_reducible assumption) | (with_reducible apply RS.put; rotate_left; (first | omega | (simp only [new_nobj, put_nobj, lay_nobj, lay_obj] at *; omega))) | (with_reducible apply RS.new) | (with_reducible apply RS.lay) | assumption), hP1, trivial⟩
 ·obtain ⟨p, r, he⟩ := Rd.ok_true (show (pName s).ok = true by assumption)
  have hb1 : (pByte 40 (pName s).rest).ok = true := by assumption
  rw [he] at hb1 hRr h hRt hVr hV1 ⊢
  rw [show (Rd.got p r).rest = r from rfl] at hb1 h hRr hRt hVr
  obtain ⟨u, r2, hb⟩ := Rd.ok_true hb1
  rw [hb] at h hRr hRt hVr
  rw [show (Rd.got u r2).rest = r2 from rfl] at h hRr hRt hVr
  obtain ⟨ts, r3, hc⟩ := Rd.ok_true h
  rw [hc] at hRr hRt hVr
  rw [show (Rd.got ts r3).rest = r3 from rfl] at hRr hRt
  obtain ⟨v1, v2⟩ : p ∈ N' ∧ k = (N'.idxOf p : Nat) := hV1
  obtain ⟨v3, v4⟩ : n = ts.length ∧ c = tcells ts := hVr
  simp only [Rd.bnd, hb, hc]
  cases hd : pByte 41 r3 with
  | bad e =>
   rw [hd] at hRt
   simp only [Rd.rest] at hRt
   exact ⟨_, rfl, k, n, ids, c, N', id', by simp only [Rd.rest, hb, hc, hd, Rd.ok, Rd.bnd], by repeat (first | exact Rs.refl _ _ _ | (with_reducible assumption) | (with_reducible apply Rs.put; rotate_left; (first | omega | (simp only [new_nobj, put_nobj, lay_nobj, lay_obj] at *; omega))) | (with_reducible apply Rs.new) | (with_reducible apply Rs.lay) | (refine Rs.trans ?_ (by with_reducible assumption)) | (refine Rs.transX ?_ (by with_reducible assumption))), by show RS Bd t o N' id' e _; repeat (first | (with_reducible assumption) | (with_reducible apply RS.put; rotate_left; (first | omega | (simp only [new_nobj, put_nobj, lay_nobj, lay_obj] at *; omega))) | (with_reducible apply RS.new) | (with_reducible apply RS.lay) | assumption), hP1, trivial⟩
  | got u2 r4 =>
   rw [hd] at hRt
   simp only [Rd.rest] at hRt
   exact ⟨_, rfl, k, n, ids, c, N', id', by simp only [Rd.rest, hb, hc, hd, Rd.ok, Rd.bnd], by repeat (first | exact Rs.refl _ _ _ | (with_reducible assumption) | (with_reducible apply Rs.put; rotate_left; (first | omega | (simp only [new_nobj, put_nobj, lay_nobj, lay_obj] at *; omega))) | (with_reducible apply Rs.new) | (with_reducible apply Rs.lay) | (refine Rs.trans ?_ (by with_reducible assumption)) | (refine Rs.transX ?_ (by with_reducible assumption))), by show RS Bd t o N' id' r4 _; repeat (first | (with_reducible assumption) | (with_reducible apply RS.put; rotate_left; (first | omega | (simp only [new_nobj, put_nobj, lay_nobj, lay_obj] at *; omega))) | (with_reducible apply RS.new) | (with_reducible apply RS.lay) | assumption), hP1, ⟨v1, v2, v3, v4⟩⟩
theorem pLit_eq (s : Tx) : pLit s = pAtom (pByte 33 s).ok (pByte 33 s).rest := by
 cases s with
 | nil => rfl
 | cons b r =>
  unfold pLit pByte; dsimp only
  split <;> rfl
set_option maxHeartbeats 16000000 in
theorem readLiteral_R {t : Tx} {o : Nat} {N : List Tx} {id : Nat} {s : Tx} {σ : St} (ht : t.length ≤ 1000) (hR : RS Bd t o N id s σ) :
  ACalls Tryz.prog 242 [ptr o 0] σ fun x σ' => ∃ b k n ids c N' id', x = tp [ag [sc (.bool b), sc (.int .i64 k), sl ids n c], sc (.bool (pLit s).ok)] ∧ Rs o σ id σ' id' ∧ RS Bd t o N' id' (pLit s).rest σ' ∧ N <+: N' ∧ Rd.Val (pLit s) fun a => b = a.nt ∧ PA N' a k n c := by
 have hn := hR.lt
 rw [pLit_eq]
 refine acalls 18 [.cell 2 164, .tmp 3] Tryz.func242 rfl (by decide) rfl rfl (Nat.le_of_ble_eq_true rfl) ?_
 repeat' (first
 |with_reducible first|apply Xa|apply Xb|(refine Xc ?_;intro κ hκ)|(apply hκ.out;clear hκ κ)|apply Xd|apply Xe|apply Xf
 |((with_reducible first|refine Xl ?_ ?_|refine Xk ?_ ?_)<;> intro h hari<;> try exact Xp)
 |((with_reducible refine Xh ?_);first|(refine Xi (take_R ht (by repeat (first | (with_reducible assumption) | (with_reducible apply RS.put; rotate_left; (first | omega | (simp only [new_nobj, put_nobj, lay_nobj, lay_obj] at *; omega))) | (with_reducible apply RS.new) | (with_reducible apply RS.lay) | assumption))) ?_;rintro _ _ ⟨rfl,hKt,hRt⟩;(have kno2:=hKt.nobj;(try simp only [new_nobj,put_nobj,lay_nobj] at kno2);have kob2:=hKt.obj))|(refine Xi (readAtom_R (pByte 33 s).ok ht (by assumption)) ?_;rintro _ _ ⟨k,n,ids,c,N',id',rfl,hS1,hR1,hP1,hV1⟩;(have kno1:=hS1.keep.nobj;(try simp only [new_nobj,put_nobj,lay_nobj] at kno1);have kob1:=hS1.keep.obj)))
 |refine Xr ?_
 |exact True.intro
 |(apply hκ.out;clear hκ κ))
 refine ⟨_, rfl, (pByte 33 s).ok, k, n, ids, c, N', id', rfl, by repeat (first | exact Rs.refl _ _ _ | (with_reducible assumption) | (with_reducible apply Rs.put; rotate_left; (first | omega | (simp only [new_nobj, put_nobj, lay_nobj, lay_obj] at *; omega))) | (with_reducible apply Rs.new) | (with_reducible apply Rs.lay) | (refine Rs.trans ?_ (by with_reducible assumption)) | (refine Rs.transX ?_ (by with_reducible assumption))), by repeat (first | (with_reducible assumption) | (with_reducible apply RS.put; rotate_left; (first | omega | (simp only [new_nobj, put_nobj, lay_nobj, lay_obj] at *; omega))) | (with_reducible apply RS.new) | (with_reducible apply RS.lay) | assumption), hP1, ?_⟩
 cases hp : pAtom (pByte 33 s).ok (pByte 33 s).rest with
 | bad e => trivial
 | got a r =>
  rw [hp] at hV1
  exact ⟨(pAtom_took hp).2.2.symm, hV1⟩
def PL (N : List Tx) (a : RAtom) (c : List AV) : Prop := a.pred ∈ N ∧ ∃ ids, c = [sc (.bool a.nt), sc (.int .i64 (N.idxOf a.pred : Nat)), sl ids a.terms.length (tcells a.terms)]
theorem PL_len {N : List Tx} (a : RAtom) (c : List AV) (h : PL N a c) : c.length = 3 := by obtain ⟨-, ids, rfl⟩ := h; rfl
theorem PL.mono {N N' : List Tx} (hN : N <+: N') (a : RAtom) (c : List AV) (h : PL N a c) : PL N' a c := by
 obtain ⟨hm, ids, rfl⟩ := h
 exact ⟨hN.subset hm, ids, by rw [idx_pre hN hm]⟩
theorem PL.of {N : List Tx} {a : RAtom} {b : Bool} {k : Int} {n : Nat} {ids : Nat} {c : List AV} (hb : b = a.nt) (h : PA N a k n c) : PL N a [sc (.bool b), sc (.int .i64 k), sl ids n c] := by
 obtain ⟨h1, rfl, rfl, rfl⟩ := h
 subst hb
 exact ⟨h1, ids, rfl⟩
def PI (N : List Tx) (x : RItem) (c : List AV) : Prop := x.head.pred ∈ N ∧ ∃ ih id b, EL (PL N) x.body b ∧ c = [sc (.bool x.out), sc (.int .i64 (N.idxOf x.head.pred : Nat)), sl ih x.head.terms.length (tcells x.head.terms), sl id x.body.length b]
theorem PI_len {N : List Tx} (x : RItem) (c : List AV) (h : PI N x c) : c.length = 4 := by obtain ⟨-, ih, id, b, -, rfl⟩ := h; rfl
theorem PI.mono {N N' : List Tx} (hN : N <+: N') (x : RItem) (c : List AV) (h : PI N x c) : PI N' x c := by
 obtain ⟨hm, ih, id, b, hb, rfl⟩ := h
 exact ⟨hN.subset hm, ih, id, b, hb.mono (PL.mono hN), by rw [idx_pre hN hm]⟩
/- The program's reader: bodies. -/
variable {Bd : Nat}
set_option linter.unusedSimpArgs false
set_option linter.unusedVariables false
set_option maxRecDepth 100000
def pArrow (s : Tx) : Rd Unit := (pByte 58 s).bnd fun _ r => pByte 45 r
set_option maxHeartbeats 4000000 in
theorem takeArrow_R {t : Tx} {o : Nat} {N : List Tx} {id : Nat} {s : Tx} {σ : St} (ht : t.length ≤ 1000) (hR : RS Bd t o N id s σ) :
  ACalls Tryz.prog 204 [ptr o 0] σ fun x σ' => x = sc (.bool (pArrow s).ok) ∧ KeepX o σ σ' ∧ RS Bd t o N id (pArrow s).rest σ' := by
 unfold pArrow
 refine acalls 8 [.tmp 2] Tryz.func204 rfl (by decide) rfl rfl (Nat.le_of_ble_eq_true rfl) ?_
 repeat' (first
 |with_reducible first|apply Xa|apply Xb|(refine Xc ?_;intro κ hκ)|(apply hκ.out;clear hκ κ)|apply Xd|apply Xe|apply Xf
 |((with_reducible first|refine Xl ?_ ?_|refine Xk ?_ ?_)<;> intro h hari<;> try exact Xp)
 |((with_reducible refine Xh ?_);refine Xi (take_R ht (by assumption)) ?_;rintro _ _ ⟨rfl,hKt,hRt⟩)
 |refine Xr ?_
 |exact True.intro
 |(apply hκ.out;clear hκ κ))
 ·obtain ⟨e, he⟩ := Rd.ok_false h
  rw [he] at hRt ⊢
  first | exact ⟨_, rfl, rfl, hKt, hRt⟩ | exact ⟨_, rfl, rfl, hRt⟩ | exact ⟨_, rfl, hKt, hRt⟩
 ·obtain ⟨u, r, he⟩ := Rd.ok_true h
  rw [he] at hRt ⊢
  first | exact ⟨_, rfl, rfl, by repeat (first | exact KeepX.refl _ _ | (with_reducible assumption) | (with_reducible apply KeepX.putN; rotate_left; (first | omega | (simp only [new_nobj, put_nobj, lay_nobj, lay_obj] at *; omega))) | (with_reducible apply KeepX.new) | (with_reducible apply KeepX.lay) | (with_reducible refine KeepX.trans ?_ (by assumption))), hRt⟩ | exact ⟨_, rfl, rfl, hRt⟩ | exact ⟨_, rfl, by repeat (first | exact KeepX.refl _ _ | (with_reducible assumption) | (with_reducible apply KeepX.putN; rotate_left; (first | omega | (simp only [new_nobj, put_nobj, lay_nobj, lay_obj] at *; omega))) | (with_reducible apply KeepX.new) | (with_reducible apply KeepX.lay) | (with_reducible refine KeepX.trans ?_ (by assumption))), hRt⟩
theorem apart_step {σ0 σ2 : St} {id1 id2 ids n : Nat} (h : id1 = 1 ∨ id1 ≠ ids) (hO : Own σ0 σ2 ids n) (hn : 0 < n) (hs : id2 = id1 ∨ σ2.ntop + 2 ≤ id2) : id2 = 1 ∨ id2 ≠ ids := by
 rcases hO with ⟨-, rfl⟩ | ⟨k, h1, h2, h3, h4, h5⟩ <;> omega
theorem apart_flip {σ0 σ2 : St} {id1 ids n : Nat} (h : id1 = 1 ∨ id1 ≠ ids) (hO : Own σ0 σ2 ids n) : ids = 1 ∨ ids ≠ id1 := by
 rcases hO with ⟨h1, rfl⟩ | ⟨k, h1, h2, h3, h4, h5⟩ <;> omega
theorem OwnN.fresh {σ : St} {id n : Nat} (h : OwnN σ id n) : id = 1 ∨ id ≠ σ.ntop + 2 := by
 rcases h with ⟨rfl, -⟩ | ⟨k, h1, h2, -⟩ <;> omega
theorem apart_app {X : St} {id3 ids idn n : Nat} (h : OwnN X id3 n) (hap : id3 = 1 ∨ id3 ≠ ids) (hid : idn = ids ∨ X.ntop + 2 ≤ idn) : id3 = 1 ∨ id3 ≠ idn := by
 rcases h with ⟨rfl, -⟩ | ⟨k, h1, h2, -⟩ <;> omega
abbrev pLits (s : Tx) : Rd (List RAtom) := pSep pLit 4 s
set_option maxHeartbeats 16000000 in
theorem readBody_R {t : Tx} {o : Nat} {N : List Tx} {id : Nat} {s : Tx} {σ : St} (ht : t.length ≤ 1000) (hR : RS Bd t o N id s σ) :
  ACalls Tryz.prog 205 [ptr o 0] σ fun x σ' => ∃ n ids c N' id', x = tp [sl ids n c, sc (.bool (pLits s).ok)] ∧ Rs o σ id σ' id' ∧ RS Bd t o N' id' (pLits s).rest σ' ∧ N <+: N' ∧ Rd.Val (pLits s) fun ls => n = ls.length ∧ EL (PL N') ls c := by
 have hn := hR.lt
 refine acalls 37 [.tmp 2, .tmp 3] Tryz.func205 rfl (by decide) rfl rfl (Nat.le_of_ble_eq_true rfl) ?_
 repeat' (first
 |with_reducible first|apply Xa|apply Xb|(refine Xc ?_;intro κ hκ)|(apply hκ.out;clear hκ κ)|apply Xd|apply Xe|apply Xf
 |((with_reducible first|refine Xl ?_ ?_|refine Xk ?_ ?_)<;> intro h hari<;> try exact Xp)
 |((with_reducible refine aapp_go ?_);refine Xt ?_;intro idn σn hOn hKn eobj enobj ever entop)
 |((with_reducible refine aappn_go ?_);refine Xu ?_)
 |((with_reducible refine Xh ?_);refine Xi (readLiteral_R ht hR) ?_;rintro _ _ ⟨b,k,n,ia,c,N1,id1,rfl,hS1,hR1,hP1,hV1⟩;(have kno1:=hS1.keep.nobj))
 |refine Xr ?_
 |exact True.intro
 |(apply hκ.out;clear hκ κ))
 ·rename_i σ1
  obtain ⟨e, he⟩ := Rd.ok_false h
  have hp := sepI.none (n := 4) he
  rw [he] at hR1
  simp only [Rd.rest] at hR1
  refine ⟨_, rfl, 0, 1, [], N1, id1, by rw [pLits, hp]; rfl, by repeat (first | exact Rs.refl _ _ _ | (with_reducible assumption) | (with_reducible apply Rs.put; rotate_left; (first | omega | (simp only [new_nobj, put_nobj, lay_nobj, lay_obj] at *; omega))) | (with_reducible apply Rs.new) | (with_reducible apply Rs.lay) | (refine Rs.trans ?_ (by with_reducible assumption)) | (refine Rs.transX ?_ (by with_reducible assumption))), ?_, hP1, by rw [pLits, hp]; trivial⟩
  rw [pLits, hp]
  show RS Bd t o N1 id1 e _
  repeat (first | (with_reducible assumption) | (with_reducible apply RS.put; rotate_left; (first | omega | (simp only [new_nobj, put_nobj, lay_nobj, lay_obj] at *; omega))) | (with_reducible apply RS.new) | (with_reducible apply RS.lay) | assumption)
 ·rename_i σ1
  obtain ⟨w, q, he⟩ := Rd.ok_true h
  have hp := sepI.first (n := 4) he
  rw [he] at hR1 hV1
  obtain ⟨hb, hA⟩ : b = w.nt ∧ PA N1 w k n c := hV1
  have hR1 : RS Bd t o N1 id1 q σ1 := hR1
  have hC : PL N1 w [sc (.bool b), sc (.int .i64 k), sl ia n c] := PL.of hb hA
  have hcl : [sc (.bool b), sc (.int .i64 k), sl ia n c].length = 3 := rfl
  generalize hcw : [sc (.bool b), sc (.int .i64 k), sl ia n c] = cw at hC hcl
  refine awp_loop (fun m s' σ' => ∃ (ls : List RAtom) (q : Tx) (ids : Nat) (d : List AV) (N2 : List Tx) (id2 : Nat), m = 5 - ls.length ∧ s' 0 = ptr o 0 ∧ s' 6 = sl ids ls.length d ∧ Rs o σ id σ' id2 ∧ RS Bd t o N2 id2 q σ' ∧ Own σ σ' ids ls.length ∧ Abs.Hid (id2 = 1 ∨ id2 ≠ ids) ∧ N <+: N2 ∧ 0 < ls.length ∧ ls.length ≤ 5 ∧ d.length = ls.length * 3 ∧ Abs.Hid (EL (PL N2) ls d) ∧ Abs.Hid (sepI pLit 4 s ls q)) 4
   ⟨[w], q, _, cw, N1, id1, rfl, rfl, by rw [← hcw]; rfl, by repeat (first | exact Rs.refl _ _ _ | (with_reducible assumption) | (with_reducible apply Rs.put; rotate_left; (first | omega | (simp only [new_nobj, put_nobj, lay_nobj, lay_obj] at *; omega))) | (with_reducible apply Rs.new) | (with_reducible apply Rs.lay) | (refine Rs.trans ?_ (by with_reducible assumption)) | (refine Rs.transX ?_ (by with_reducible assumption))), by repeat (first | (with_reducible assumption) | (with_reducible apply RS.put; rotate_left; (first | omega | (simp only [new_nobj, put_nobj, lay_nobj, lay_obj] at *; omega))) | (with_reducible apply RS.new) | (with_reducible apply RS.lay) | assumption), Own.made' (b := (σ1.new _).put _ _) hS1.keep.ntop (by decide), hR1.own.fresh, hP1, by simp, by simp, by simpa using hcl, EL.single hC, hp⟩ ?_
  clear hS1 hR1 kno1 hp he h hC hcw hcl hA hb hP1
  rintro m s' σ' ⟨ls, q, ids, d, N2, id2, rfl, h0, h6, hS, hR2, hO, hap, hP2, hl0, hl5, hdl, hE, hI⟩
  have kno := hS.keep.nobj
  by_cases hlt : ls.length < 5
  ·repeat' (first
 |with_reducible first|apply Xa|apply Xb|(refine Xc ?_;intro κ hκ)|(apply hκ.out;clear hκ κ)|apply Xd|apply Xe|apply Xf
 |((with_reducible first|refine Xl ?_ ?_|refine Xk ?_ ?_)<;> intro h hari<;> try exact Xp)
 |((with_reducible refine aapp_go ?_);refine Xt ?_;intro idn σn hOn hKn eobj enobj ever entop)
 |((with_reducible refine aappn_go ?_);refine Xu ?_)
 |((with_reducible refine Xh ?_);first|(refine Xi (take_R ht (by assumption)) ?_;rintro _ _ ⟨rfl,hKt,hRt⟩;(have kno1:=hKt.nobj))|(refine Xi (readLiteral_R ht (by assumption)) ?_;rintro _ _ ⟨b,k,n,ia,c,N3,id3,rfl,hSr,hRr,hPr,hVr⟩;(have kno2:=hSr.keep.nobj)))
 |refine Xr ?_
 |exact True.intro
 |(apply hκ.out;clear hκ κ))
   ·rename_i σ2 hbb _ σ3
    obtain ⟨u, r, hb⟩ := Rd.ok_true hbb
    rw [hb] at h hRr
    obtain ⟨e, he⟩ := Rd.ok_false h
    rw [show (Rd.got u r).rest = r from rfl] at he hRr
    have hp := hI.out.fail (by omega) hb he
    rw [he] at hRr
    simp only [Rd.rest] at hRr
    refine ⟨_, rfl, 0, 1, [], N3, id3, by rw [pLits, hp]; rfl, by repeat (first | exact Rs.refl _ _ _ | (with_reducible assumption) | (with_reducible apply Rs.put; rotate_left; (first | omega | (simp only [new_nobj, put_nobj, lay_nobj, lay_obj] at *; omega))) | (with_reducible apply Rs.new) | (with_reducible apply Rs.lay) | (refine Rs.trans ?_ (by with_reducible assumption)) | (refine Rs.transX ?_ (by with_reducible assumption))), ?_, hP2.trans hPr, by rw [pLits, hp]; trivial⟩
    rw [pLits, hp]
    show RS Bd t o N3 id3 e _
    repeat (first | (with_reducible assumption) | (with_reducible apply RS.put; rotate_left; (first | omega | (simp only [new_nobj, put_nobj, lay_nobj, lay_obj] at *; omega))) | (with_reducible apply RS.new) | (with_reducible apply RS.lay) | assumption)
   ·rename_i σ2 hbb _ σ3
    obtain ⟨u, r, hb⟩ := Rd.ok_true hbb
    rw [hb] at h hRr hVr
    obtain ⟨x, r2, he⟩ := Rd.ok_true h
    rw [show (Rd.got u r).rest = r from rfl] at he hRr hVr
    have hp := hI.out.next (by omega) hb he
    rw [he] at hRr hVr
    obtain ⟨hbx, hA⟩ : b = x.nt ∧ PA N3 x k n c := hVr
    have hRr : RS Bd t o N3 id3 r2 σ3 := hRr
    have hC : PL N3 x [sc (.bool b), sc (.int .i64 k), sl ia n c] := PL.of hbx hA
    have hSx : Rs o σ id ((σ3.new [sc (.bool false), sc (.int .i64 0), nilS]).put σ3.nobj [sc (.bool b), sc (.int .i64 k), sl ia n c]) id3 := by repeat (first | exact Rs.refl _ _ _ | (with_reducible assumption) | (with_reducible apply Rs.put; rotate_left; (first | omega | (simp only [new_nobj, put_nobj, lay_nobj, lay_obj] at *; omega))) | (with_reducible apply Rs.new) | (with_reducible apply Rs.lay) | (refine Rs.trans ?_ (by with_reducible assumption)) | (refine Rs.transX ?_ (by with_reducible assumption)))
    have hO2 := Own.keepX hO hKt
    have hO3 := Own.keepR hO2 hSr.keep (apart_flip hap.out hO2)
    have hOx : Own σ ((σ3.new [sc (.bool false), sc (.int .i64 0), nilS]).put σ3.nobj [sc (.bool b), sc (.int .i64 k), sl ia n c]) ids ls.length := Own.put (Own.new hO3 _) _ _
    have hRx : RS Bd t o N3 id3 r2 ((σ3.new [sc (.bool false), sc (.int .i64 0), nilS]).put σ3.nobj [sc (.bool b), sc (.int .i64 k), sl ia n c]) := by repeat (first | (with_reducible assumption) | (with_reducible apply RS.put; rotate_left; (first | omega | (simp only [new_nobj, put_nobj, lay_nobj, lay_obj] at *; omega))) | (with_reducible apply RS.new) | (with_reducible apply RS.lay) | assumption)
    have hapx : id3 = 1 ∨ id3 ≠ ids := apart_step hap.out hO2 hl0 hSr.nid
    refine aApp_ownR (o := o) (idn := id) (σ0 := σ) (by first | exact tez_95) hSx.keep hOx (by decide) (by rfl) hdl (by rfl) (by rfl) (by decide) (by omega) (by omega) ?_
    intro idn σn hOn hKn eobj enobj ever entop etop hid
    refine Xr ?_
    repeat' (first
 |with_reducible first|apply Xa|apply Xb|(refine Xc ?_;intro κ hκ)|(apply hκ.out;clear hκ κ)|apply Xd|apply Xe|apply Xf
 |((with_reducible first|refine Xl ?_ ?_|refine Xk ?_ ?_)<;> intro h hari<;> try exact Xp)
 |((with_reducible refine aapp_go ?_);refine Xt ?_;intro idn σn hOn hKn eobj enobj ever entop)
 |((with_reducible refine aappn_go ?_);refine Xu ?_)
 |refine Xr ?_
 |exact True.intro
 |(apply hκ.out;clear hκ κ))
    refine ⟨5 - (ls ++ [x]).length, by simp; omega, ls ++ [x], r2, idn, d ++ [sc (.bool b), sc (.int .i64 k), sl ia n c], N3, id3, rfl, by simp [hbx], ⟨hKn, hSx.nid⟩, hRx.app eobj enobj entop etop hapx, by simpa using hOn, apart_app hRx.own hapx hid, hP2.trans hPr, by simp, by simp; omega, by simp; omega, EL.append (hE.out.mono (PL.mono hPr)) (EL.single hC), hp⟩
   ·have hp := hI.out.stop h
    rename_i σ2
    rw [pByte_no h] at hRt
    simp only [Rd.rest] at hRt
    refine ⟨_, rfl, _, ids, _, N2, id2, by rw [pLits, hp]; rfl, by repeat (first | exact Rs.refl _ _ _ | (with_reducible assumption) | (with_reducible apply Rs.put; rotate_left; (first | omega | (simp only [new_nobj, put_nobj, lay_nobj, lay_obj] at *; omega))) | (with_reducible apply Rs.new) | (with_reducible apply Rs.lay) | (refine Rs.trans ?_ (by with_reducible assumption)) | (refine Rs.transX ?_ (by with_reducible assumption))), ?_, hP2, by rw [pLits, hp]; exact ⟨rfl, hE.out⟩⟩
    rw [pLits, hp]
    show RS Bd t o N2 id2 q _
    repeat (first | (with_reducible assumption) | (with_reducible apply RS.put; rotate_left; (first | omega | (simp only [new_nobj, put_nobj, lay_nobj, lay_obj] at *; omega))) | (with_reducible apply RS.new) | (with_reducible apply RS.lay) | assumption)
  ·repeat' (first
 |with_reducible first|apply Xa|apply Xb|(refine Xc ?_;intro κ hκ)|(apply hκ.out;clear hκ κ)|apply Xd|apply Xe|apply Xf
 |((with_reducible first|refine Xl ?_ ?_|refine Xk ?_ ?_)<;> intro h hari<;> try exact Xp)
 |((with_reducible refine aapp_go ?_);refine Xt ?_;intro idn σn hOn hKn eobj enobj ever entop)
 |((with_reducible refine aappn_go ?_);refine Xu ?_)
 |((with_reducible refine Xh ?_);refine Xi (take_R ht (by assumption)) ?_;rintro _ _ ⟨rfl,hKt,hRt⟩)
 |refine Xr ?_
 |exact True.intro
 |(apply hκ.out;clear hκ κ))
   have hp := hI.out.full (by omega)
   first
   | exact ⟨_, rfl, _, ids, d, N2, id2, by rw [pLits, hp]; rfl, hS, by rw [pLits, hp]; exact hR2, hP2, by rw [pLits, hp]; exact ⟨rfl, hE.out⟩⟩
   | exact ⟨_, rfl, _, ids, d, N2, id2, by rw [pLits, hp]; rfl, by rw [pLits, hp]; exact hR2, hP2, by rw [pLits, hp]; exact ⟨rfl, hE.out⟩⟩
/- The program's reader: items. -/
variable {Bd : Nat}
set_option linter.unusedSimpArgs false
set_option linter.unusedVariables false
set_option maxRecDepth 100000
def IPost (Bd : Nat) (t : Tx) (o : Nat) (N : List Tx) (id : Nat) (σ : St) (p : Rd RItem) (x : AV) (σ' : St) : Prop :=
 ∃ b k ih n c ib m d N' id', x = tp [ag [sc (.bool b), sc (.int .i64 k), sl ih n c, sl ib m d], sc (.bool p.ok)] ∧ Rs o σ id σ' id' ∧ RS Bd t o N' id' p.rest σ' ∧ N <+: N' ∧ Rd.Val p fun it => PI N' it [sc (.bool b), sc (.int .i64 k), sl ih n c, sl ib m d]
set_option maxHeartbeats 16000000 in
theorem readOutput_R {t : Tx} {o : Nat} {N : List Tx} {id : Nat} {s : Tx} {σ : St} (ht : t.length ≤ 1000) (hR : RS Bd t o N id s σ) :
  ACalls Tryz.prog 163 [ptr o 0] σ (IPost Bd t o N id σ (pOut s)) := by
 have hn := hR.lt
 unfold pOut IPost
 refine acalls 20 [.cell 2 97, .tmp 3] Tryz.func163 rfl (by decide) rfl rfl (Nat.le_of_ble_eq_true rfl) ?_
 repeat' (first
 |with_reducible first|apply Xa|apply Xb|(refine Xc ?_;intro κ hκ)|(apply hκ.out;clear hκ κ)|apply Xd|apply Xe|apply Xf
 |((with_reducible first|refine Xl ?_ ?_|refine Xk ?_ ?_)<;> intro h hari<;> try exact Xp)
 |((with_reducible refine Xh ?_);first|(refine Xi (readPredicate_R ht (by repeat (first | (with_reducible assumption) | (with_reducible apply RS.put; rotate_left; (first | omega | (simp only [new_nobj, put_nobj, lay_nobj, lay_obj] at *; omega))) | (with_reducible apply RS.new) | (with_reducible apply RS.lay) | assumption))) ?_;rintro _ _ ⟨k,N',id',rfl,hS1,hR1,hP1,hV1⟩;(have kno1:=hS1.keep.nobj;(try simp only [new_nobj,put_nobj,lay_nobj] at kno1);have kob1:=hS1.keep.obj))|(refine Xi (take_R ht (by assumption)) ?_;rintro _ _ ⟨rfl,hKt,hRt⟩;(have kno2:=hKt.nobj;(try simp only [new_nobj,put_nobj,lay_nobj] at kno2);have kob2:=hKt.obj)))
 |refine Xr ?_
 |exact True.intro
 |(apply hκ.out;clear hκ κ))
 ·obtain ⟨e, he⟩ := Rd.ok_false h
  rw [he] at hR1 ⊢
  simp only [Rd.rest] at hR1
  exact ⟨_, rfl, false, 0, 1, 0, [], 1, 0, [], N', id', rfl, by repeat (first | exact Rs.refl _ _ _ | (with_reducible assumption) | (with_reducible apply Rs.put; rotate_left; (first | omega | (simp only [new_nobj, put_nobj, lay_nobj, lay_obj] at *; omega))) | (with_reducible apply Rs.new) | (with_reducible apply Rs.lay) | (refine Rs.trans ?_ (by with_reducible assumption)) | (refine Rs.transX ?_ (by with_reducible assumption))), by show RS Bd t o N' id' e _; repeat (first | (with_reducible assumption) | (with_reducible apply RS.put; rotate_left; (first | omega | (simp only [new_nobj, put_nobj, lay_nobj, lay_obj] at *; omega))) | (with_reducible apply RS.new) | (with_reducible apply RS.lay) | assumption), hP1, trivial⟩
 ·obtain ⟨p, r, he⟩ := Rd.ok_true h
  rw [he] at hRt hV1 ⊢
  rw [show (Rd.got p r).rest = r from rfl] at hRt ⊢
  obtain ⟨v1, v2⟩ : p ∈ N' ∧ k = (N'.idxOf p : Nat) := hV1
  simp only [Rd.bnd]
  cases hd : pByte 46 r with
  | bad e =>
   rw [hd] at hRt
   simp only [Rd.rest] at hRt
   exact ⟨_, rfl, true, k, 1, 0, [], 1, 0, [], N', id', rfl, by repeat (first | exact Rs.refl _ _ _ | (with_reducible assumption) | (with_reducible apply Rs.put; rotate_left; (first | omega | (simp only [new_nobj, put_nobj, lay_nobj, lay_obj] at *; omega))) | (with_reducible apply Rs.new) | (with_reducible apply Rs.lay) | (refine Rs.trans ?_ (by with_reducible assumption)) | (refine Rs.transX ?_ (by with_reducible assumption))), by show RS Bd t o N' id' e _; repeat (first | (with_reducible assumption) | (with_reducible apply RS.put; rotate_left; (first | omega | (simp only [new_nobj, put_nobj, lay_nobj, lay_obj] at *; omega))) | (with_reducible apply RS.new) | (with_reducible apply RS.lay) | assumption), hP1, trivial⟩
  | got u2 r4 =>
   rw [hd] at hRt
   simp only [Rd.rest] at hRt
   exact ⟨_, rfl, true, k, 1, 0, [], 1, 0, [], N', id', rfl, by repeat (first | exact Rs.refl _ _ _ | (with_reducible assumption) | (with_reducible apply Rs.put; rotate_left; (first | omega | (simp only [new_nobj, put_nobj, lay_nobj, lay_obj] at *; omega))) | (with_reducible apply Rs.new) | (with_reducible apply Rs.lay) | (refine Rs.trans ?_ (by with_reducible assumption)) | (refine Rs.transX ?_ (by with_reducible assumption))), by show RS Bd t o N' id' r4 _; repeat (first | (with_reducible assumption) | (with_reducible apply RS.put; rotate_left; (first | omega | (simp only [new_nobj, put_nobj, lay_nobj, lay_obj] at *; omega))) | (with_reducible apply RS.new) | (with_reducible apply RS.lay) | assumption), hP1, ⟨v1, 1, 1, [], rfl, by rw [v2]; rfl⟩⟩
theorem pTail_eq (h : RAtom) (r : Tx) : pTail h r = if (pByte 46 r).ok = true then .got { out := false, head := h, body := [] } (pByte 46 r).rest
  else (pArrow r).bnd fun _ r => (pLits r).bnd fun ls r => (pByte 46 r).bnd fun _ r => .got { out := false, head := h, body := ls } r := by
 cases r with
 | nil => rfl
 | cons b r =>
  have hx : pTail h (b :: r) = if ((b.toNat : Int) == 46) = true then .got { out := false, head := h, body := [] } r else
   (pByte 58 (b :: r)).bnd fun _ r => (pByte 45 r).bnd fun _ r => pBody h r := rfl
  rw [hx]
  by_cases hb : ((b.toNat : Int) == 46) = true
  ·have hp : pByte 46 (b :: r) = .got () r := by unfold pByte; dsimp only; rw [if_pos hb]
   rw [if_pos hb, hp]; rfl
  ·have hp : pByte 46 (b :: r) = .bad (b :: r) := by unfold pByte; dsimp only; rw [if_neg hb]
   rw [if_neg hb, hp, if_neg (by simp [Rd.ok])]
   unfold pArrow pBody pLits pSep
   rw [bnd_assoc]
   congr 1; funext u r1
   congr 1; funext u r2
   rw [bnd_assoc]
   congr 1; funext l r3
   rw [bnd_assoc]
   rfl
set_option maxHeartbeats 16000000 in
theorem readRule_R {t : Tx} {o : Nat} {N : List Tx} {id : Nat} {s : Tx} {σ : St} (ht : t.length ≤ 1000) (hR : RS Bd t o N id s σ) :
  ACalls Tryz.prog 164 [ptr o 0] σ (IPost Bd t o N id σ (pRule s)) := by
 have hn := hR.lt
 unfold pRule IPost
 simp only [pTail_eq]
 refine acalls 38 [.cell 2 97, .tmp 3] Tryz.func164 rfl (by decide) rfl rfl (Nat.le_of_ble_eq_true rfl) ?_
 repeat' (first
 |with_reducible first|apply Xa|apply Xb|(refine Xc ?_;intro κ hκ)|(apply hκ.out;clear hκ κ)|apply Xd|apply Xe|apply Xf
 |((with_reducible first|refine Xl ?_ ?_|refine Xk ?_ ?_)<;> intro h hari<;> try exact Xp)
 |((with_reducible refine Xh ?_);first|(refine Xi (readAtom_R false ht (by repeat (first | (with_reducible assumption) | (with_reducible apply RS.put; rotate_left; (first | omega | (simp only [new_nobj, put_nobj, lay_nobj, lay_obj] at *; omega))) | (with_reducible apply RS.new) | (with_reducible apply RS.lay) | assumption))) ?_;rintro _ _ ⟨k,n,ids,c,N',id',rfl,hS1,hR1,hP1,hV1⟩;(have kno1:=hS1.keep.nobj;(try simp only [new_nobj,put_nobj,lay_nobj] at kno1);have kob1:=hS1.keep.obj))|(refine Xi (take_R ht (by repeat (first | (with_reducible assumption) | (with_reducible apply RS.put; rotate_left; (first | omega | (simp only [new_nobj, put_nobj, lay_nobj, lay_obj] at *; omega))) | (with_reducible apply RS.new) | (with_reducible apply RS.lay) | assumption))) ?_;rintro _ _ ⟨rfl,hKt,hRt⟩;(have kno2:=hKt.nobj;(try simp only [new_nobj,put_nobj,lay_nobj] at kno2);have kob2:=hKt.obj))|(refine Xi (takeArrow_R ht (by assumption)) ?_;rintro _ _ ⟨rfl,hKa,hRa⟩;(have kno3:=hKa.nobj;(try simp only [new_nobj,put_nobj,lay_nobj] at kno3);have kob3:=hKa.obj))|(refine Xi (readBody_R ht (by assumption)) ?_;rintro _ _ ⟨m,ib,d,N2,id2,rfl,hS4,hR4,hP4,hV4⟩;(have kno4:=hS4.keep.nobj;(try simp only [new_nobj,put_nobj,lay_nobj] at kno4);have kob4:=hS4.keep.obj)))
 |refine Xr ?_
 |exact True.intro
 |(apply hκ.out;clear hκ κ))
 ·obtain ⟨e, he⟩ := Rd.ok_false h
  rw [he] at hR1 ⊢
  simp only [Rd.rest] at hR1
  exact ⟨_, rfl, false, 0, 1, 0, [], 1, 0, [], N', id', rfl, by repeat (first | exact Rs.refl _ _ _ | (with_reducible assumption) | (with_reducible apply Rs.put; rotate_left; (first | omega | (simp only [new_nobj, put_nobj, lay_nobj, lay_obj] at *; omega))) | (with_reducible apply Rs.new) | (with_reducible apply Rs.lay) | (refine Rs.trans ?_ (by with_reducible assumption)) | (refine Rs.transX ?_ (by with_reducible assumption))), by show RS Bd t o N' id' e _; repeat (first | (with_reducible assumption) | (with_reducible apply RS.put; rotate_left; (first | omega | (simp only [new_nobj, put_nobj, lay_nobj, lay_obj] at *; omega))) | (with_reducible apply RS.new) | (with_reducible apply RS.lay) | assumption), hP1, trivial⟩
 ·obtain ⟨a, r, he⟩ := Rd.ok_true (show (pAtom false s).ok = true by assumption)
  rw [he] at h hRt hV1 ⊢
  have h : (pByte 46 r).ok = true := h
  have hRt : RS Bd t o N' id' (pByte 46 r).rest _ := hRt
  obtain ⟨v1, v2, v3, v4⟩ : PA N' a k n c := hV1
  simp only [Rd.bnd, h, if_true]
  exact ⟨_, rfl, false, k, ids, n, c, 1, 0, [], N', id', rfl, by repeat (first | exact Rs.refl _ _ _ | (with_reducible assumption) | (with_reducible apply Rs.put; rotate_left; (first | omega | (simp only [new_nobj, put_nobj, lay_nobj, lay_obj] at *; omega))) | (with_reducible apply Rs.new) | (with_reducible apply Rs.lay) | (refine Rs.trans ?_ (by with_reducible assumption)) | (refine Rs.transX ?_ (by with_reducible assumption))), by show RS Bd t o N' id' (pByte 46 r).rest _; repeat (first | (with_reducible assumption) | (with_reducible apply RS.put; rotate_left; (first | omega | (simp only [new_nobj, put_nobj, lay_nobj, lay_obj] at *; omega))) | (with_reducible apply RS.new) | (with_reducible apply RS.lay) | assumption), hP1, ⟨v1, ids, 1, [], rfl, by rw [v2, v3, v4]; rfl⟩⟩
 ·obtain ⟨a, r, he⟩ := Rd.ok_true (show (pAtom false s).ok = true by assumption)
  have h46 : (pByte 46 (pAtom false s).rest).ok = false := by assumption
  rw [he] at h h46 hRa ⊢
  have h46 : (pByte 46 r).ok = false := h46
  rw [show (Rd.got a r).rest = r from rfl, pByte_no h46] at h hRa
  obtain ⟨e, hA⟩ := Rd.ok_false (show (pArrow r).ok = false from h)
  have hRa : RS Bd t o N' id' (pArrow r).rest _ := hRa
  rw [hA] at hRa
  simp only [Rd.rest] at hRa
  simp only [Rd.bnd, h46, hA, Bool.false_eq_true, if_false]
  exact ⟨_, rfl, false, 0, 1, 0, [], 1, 0, [], N', id', rfl, by repeat (first | exact Rs.refl _ _ _ | (with_reducible assumption) | (with_reducible apply Rs.put; rotate_left; (first | omega | (simp only [new_nobj, put_nobj, lay_nobj, lay_obj] at *; omega))) | (with_reducible apply Rs.new) | (with_reducible apply Rs.lay) | (refine Rs.trans ?_ (by with_reducible assumption)) | (refine Rs.transX ?_ (by with_reducible assumption))), by show RS Bd t o N' id' e _; repeat (first | (with_reducible assumption) | (with_reducible apply RS.put; rotate_left; (first | omega | (simp only [new_nobj, put_nobj, lay_nobj, lay_obj] at *; omega))) | (with_reducible apply RS.new) | (with_reducible apply RS.lay) | assumption), hP1, trivial⟩
 ·obtain ⟨a, r, he⟩ := Rd.ok_true (show (pAtom false s).ok = true by assumption)
  have h46 : (pByte 46 (pAtom false s).rest).ok = false := by assumption
  have h58 : (pArrow (pByte 46 (pAtom false s).rest).rest).ok = true := by assumption
  rw [he] at h h46 h58 hR4 ⊢
  have h46 : (pByte 46 r).ok = false := h46
  rw [show (Rd.got a r).rest = r from rfl, pByte_no h46] at h h58 hR4
  obtain ⟨u, r2, hA⟩ := Rd.ok_true (show (pArrow r).ok = true from h58)
  rw [show (Rd.bad r : Rd Unit).rest = r from rfl, hA] at h hR4
  obtain ⟨e, hL⟩ := Rd.ok_false (show (pLits r2).ok = false from h)
  have hR4 : RS Bd t o N2 id2 (pLits r2).rest _ := hR4
  rw [hL] at hR4
  simp only [Rd.rest] at hR4
  simp only [Rd.bnd, h46, hA, hL, Bool.false_eq_true, if_false]
  exact ⟨_, rfl, false, 0, 1, 0, [], 1, 0, [], N2, id2, rfl, by repeat (first | exact Rs.refl _ _ _ | (with_reducible assumption) | (with_reducible apply Rs.put; rotate_left; (first | omega | (simp only [new_nobj, put_nobj, lay_nobj, lay_obj] at *; omega))) | (with_reducible apply Rs.new) | (with_reducible apply Rs.lay) | (refine Rs.trans ?_ (by with_reducible assumption)) | (refine Rs.transX ?_ (by with_reducible assumption))), by show RS Bd t o N2 id2 e _; repeat (first | (with_reducible assumption) | (with_reducible apply RS.put; rotate_left; (first | omega | (simp only [new_nobj, put_nobj, lay_nobj, lay_obj] at *; omega))) | (with_reducible apply RS.new) | (with_reducible apply RS.lay) | assumption), hP1.trans hP4, trivial⟩
 ·obtain ⟨a, r, he⟩ := Rd.ok_true (show (pAtom false s).ok = true by assumption)
  have h46 : (pByte 46 (pAtom false s).rest).ok = false := by assumption
  have h58 : (pArrow (pByte 46 (pAtom false s).rest).rest).ok = true := by assumption
  rw [he] at h h46 h58 hR4 hV1 hV4 hRt ⊢
  have h46 : (pByte 46 r).ok = false := h46
  rw [show (Rd.got a r).rest = r from rfl, pByte_no h46] at h h58 hR4 hV4 hRt
  obtain ⟨u, r2, hA⟩ := Rd.ok_true (show (pArrow r).ok = true from h58)
  rw [show (Rd.bad r : Rd Unit).rest = r from rfl, hA] at h hR4 hV4 hRt
  obtain ⟨ls, r3, hL⟩ := Rd.ok_true (show (pLits r2).ok = true from h)
  have hR4 : RS Bd t o N2 id2 (pLits r2).rest _ := hR4
  have hRt : RS Bd t o N2 id2 (pByte 46 (pLits r2).rest).rest _ := hRt
  rw [show (Rd.got u r2).rest = r2 from rfl] at hV4
  rw [hL] at hR4 hRt hV4
  obtain ⟨v1, v2, v3, v4⟩ : PA N' a k n c := hV1
  obtain ⟨w1, w2⟩ : m = ls.length ∧ EL (PL N2) ls d := hV4
  have hRt : RS Bd t o N2 id2 (pByte 46 r3).rest _ := hRt
  simp only [Rd.bnd, Rd.rest, pByte_no h46, h46, hA, hL, Bool.false_eq_true, if_false]
  cases hd : pByte 46 r3 with
  | bad e =>
   rw [hd] at hRt
   simp only [Rd.rest] at hRt
   exact ⟨_, rfl, false, k, ids, n, c, ib, m, d, N2, id2, rfl, by repeat (first | exact Rs.refl _ _ _ | (with_reducible assumption) | (with_reducible apply Rs.put; rotate_left; (first | omega | (simp only [new_nobj, put_nobj, lay_nobj, lay_obj] at *; omega))) | (with_reducible apply Rs.new) | (with_reducible apply Rs.lay) | (refine Rs.trans ?_ (by with_reducible assumption)) | (refine Rs.transX ?_ (by with_reducible assumption))), by show RS Bd t o N2 id2 e _; repeat (first | (with_reducible assumption) | (with_reducible apply RS.put; rotate_left; (first | omega | (simp only [new_nobj, put_nobj, lay_nobj, lay_obj] at *; omega))) | (with_reducible apply RS.new) | (with_reducible apply RS.lay) | assumption), hP1.trans hP4, trivial⟩
  | got u2 r4 =>
   rw [hd] at hRt
   simp only [Rd.rest] at hRt
   exact ⟨_, rfl, false, k, ids, n, c, ib, m, d, N2, id2, rfl, by repeat (first | exact Rs.refl _ _ _ | (with_reducible assumption) | (with_reducible apply Rs.put; rotate_left; (first | omega | (simp only [new_nobj, put_nobj, lay_nobj, lay_obj] at *; omega))) | (with_reducible apply Rs.new) | (with_reducible apply Rs.lay) | (refine Rs.trans ?_ (by with_reducible assumption)) | (refine Rs.transX ?_ (by with_reducible assumption))), by show RS Bd t o N2 id2 r4 _; repeat (first | (with_reducible assumption) | (with_reducible apply RS.put; rotate_left; (first | omega | (simp only [new_nobj, put_nobj, lay_nobj, lay_obj] at *; omega))) | (with_reducible apply RS.new) | (with_reducible apply RS.lay) | assumption), hP1.trans hP4, ⟨hP4.subset v1, ids, ib, d, w2, by rw [v2, v3, v4, w1, idx_pre hP4 v1]⟩⟩
theorem pItem_eq (s : Tx) : pItem s = if (pByte 63 s).ok = true then pOut (pByte 63 s).rest else pRule (pByte 63 s).rest := by
 cases s with
 | nil => rfl
 | cons b r =>
  unfold pItem pByte; dsimp only
  split <;> simp [Rd.ok, Rd.rest]
set_option maxHeartbeats 16000000 in
theorem readItem_R {t : Tx} {o : Nat} {N : List Tx} {id : Nat} {s : Tx} {σ : St} (ht : t.length ≤ 1000) (hR : RS Bd t o N id s σ) :
  ACalls Tryz.prog 120 [ptr o 0] σ (IPost Bd t o N id σ (pItem s)) := by
 have hn := hR.lt
 rw [pItem_eq]
 unfold IPost
 refine acalls 14 [.cell 2 97, .tmp 3] Tryz.func120 rfl (by decide) rfl rfl (Nat.le_of_ble_eq_true rfl) ?_
 repeat' (first
 |with_reducible first|apply Xa|apply Xb|(refine Xc ?_;intro κ hκ)|(apply hκ.out;clear hκ κ)|apply Xd|apply Xe|apply Xf
 |((with_reducible first|refine Xl ?_ ?_|refine Xk ?_ ?_)<;> intro h hari<;> try exact Xp)
 |((with_reducible refine Xh ?_);first|(refine Xi (take_R ht (by repeat (first | (with_reducible assumption) | (with_reducible apply RS.put; rotate_left; (first | omega | (simp only [new_nobj, put_nobj, lay_nobj, lay_obj] at *; omega))) | (with_reducible apply RS.new) | (with_reducible apply RS.lay) | assumption))) ?_;rintro _ _ ⟨rfl,hKt,hRt⟩;(have kno2:=hKt.nobj;(try simp only [new_nobj,put_nobj,lay_nobj] at kno2);have kob2:=hKt.obj))|(refine Xi (readOutput_R ht (by assumption)) ?_;rintro _ _ ⟨b,k,ih,n,c,ib,m,d,N',id',rfl,hS1,hR1,hP1,hV1⟩;(have kno1:=hS1.keep.nobj;(try simp only [new_nobj,put_nobj,lay_nobj] at kno1);have kob1:=hS1.keep.obj))|(refine Xi (readRule_R ht (by assumption)) ?_;rintro _ _ ⟨b,k,ih,n,c,ib,m,d,N',id',rfl,hS1,hR1,hP1,hV1⟩;(have kno1:=hS1.keep.nobj;(try simp only [new_nobj,put_nobj,lay_nobj] at kno1);have kob1:=hS1.keep.obj)))
 |refine Xr ?_
 |exact True.intro
 |(apply hκ.out;clear hκ κ))
 all_goals exact ⟨_, rfl, b, k, ih, n, c, ib, m, d, N', id', rfl, by repeat (first | exact Rs.refl _ _ _ | (with_reducible assumption) | (with_reducible apply Rs.put; rotate_left; (first | omega | (simp only [new_nobj, put_nobj, lay_nobj, lay_obj] at *; omega))) | (with_reducible apply Rs.new) | (with_reducible apply Rs.lay) | (refine Rs.trans ?_ (by with_reducible assumption)) | (refine Rs.transX ?_ (by with_reducible assumption))), by repeat (first | (with_reducible assumption) | (with_reducible apply RS.put; rotate_left; (first | omega | (simp only [new_nobj, put_nobj, lay_nobj, lay_obj] at *; omega))) | (with_reducible apply RS.new) | (with_reducible apply RS.lay) | assumption), hP1, hV1⟩
end Go.Proofs.YtmoeoppbmhfbpaaGreatDoorB
