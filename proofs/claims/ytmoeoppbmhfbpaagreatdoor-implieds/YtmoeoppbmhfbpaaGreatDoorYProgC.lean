import Derived.Test.YtmoeoppbmhfbpaaGreatDoorYProgA
/- The program's reader: its state, what a step keeps, what it tells. -/
namespace Go.Proofs.YtmoeoppbmhfbpaaGreatDoorY
open Go.Abs
set_option linter.unusedSimpArgs false
set_option linter.unusedVariables false
set_option maxRecDepth 100000
/-! ### Readers -/
namespace Rd
def ok {α : Type} : Rd α → Bool
 | .bad _ => false
 | .got _ _ => true
def rest {α : Type} : Rd α → Tx
 | .bad e => e
 | .got _ r => r
def Val {α : Type} : Rd α → (α → Prop) → Prop
 | .bad _, _ => True
 | .got a _, P => P a
theorem ok_true {α : Type} {x : Rd α} (h : x.ok = true) : ∃ a r, x = .got a r := by
 cases x with
 | bad e => cases h
 | got a r => exact ⟨a, r, rfl⟩
theorem ok_false {α : Type} {x : Rd α} (h : x.ok = false) : ∃ e, x = .bad e := by
 cases x with
 | bad e => exact ⟨e, rfl⟩
 | got a r => cases h
theorem bnd_assoc {α β γ : Type} (x : Rd α) (f : α → Tx → Rd β) (g : β → Tx → Rd γ) : (x.bnd f).bnd g = x.bnd fun a r => (f a r).bnd g := by cases x <;> rfl
theorem Val.mono {α : Type} {x : Rd α} {P Q : α → Prop} (h : Val x P) (k : ∀ a, P a → Q a) : Val x Q := by
 cases x with
 | bad e => trivial
 | got a r => exact k a h
end Rd
def pSep {α : Type} (f : Tx → Rd α) (n : Nat) (s : Tx) : Rd (List α) := (f s).bnd fun x r => (pMore f n r).bnd fun xs r => .got (x :: xs) r
def sepI {α : Type} (f : Tx → Rd α) (n : Nat) (s : Tx) (xs : List α) (q : Tx) : Prop :=
 xs.length ≤ n + 1 ∧ 0 < xs.length ∧ pSep f n s = (pMore f (n + 1 - xs.length) q).bnd fun ys r => .got (xs ++ ys) r
theorem sepI.first {α : Type} {f : Tx → Rd α} {n : Nat} {s r : Tx} {x : α} (h : f s = .got x r) : sepI f n s [x] r := by
 refine ⟨by simp, by simp, ?_⟩
 unfold pSep
 rw [h]
 simp only [Rd.bnd, List.length_singleton, Nat.add_sub_cancel, List.singleton_append]
theorem sepI.none {α : Type} {f : Tx → Rd α} {n : Nat} {s e : Tx} (h : f s = .bad e) : pSep f n s = .bad e := by
 unfold pSep; rw [h]; rfl
theorem sepI.full {α : Type} {f : Tx → Rd α} {n : Nat} {s q : Tx} {xs : List α} (h : sepI f n s xs q) (hl : n + 1 ≤ xs.length) : pSep f n s = .got xs q := by
 rw [h.2.2, show n + 1 - xs.length = 0 by omega]
 simp [pMore, Rd.bnd]
theorem sepI.stop {α : Type} {f : Tx → Rd α} {n : Nat} {s q : Tx} {xs : List α} (h : sepI f n s xs q) (hb : (pByte 44 q).ok = false) : pSep f n s = .got xs q := by
 rw [h.2.2]
 cases hk : n + 1 - xs.length with
 | zero => simp [pMore, Rd.bnd]
 | succ k =>
  cases q with
  | nil => simp [pMore, Rd.bnd]
  | cons b r =>
   unfold pByte at hb; dsimp only at hb
   have hb2 : ((b.toNat : Int) == 44) = false := by
    by_cases hc : ((b.toNat : Int) == 44) = true
    ·rw [if_pos hc] at hb; cases hb
    ·simpa using hc
   unfold pMore
   rw [if_neg (by rw [hb2]; simp)]
   simp [Rd.bnd]
theorem sepI.fail {α : Type} {f : Tx → Rd α} {n : Nat} {s q r e : Tx} {xs : List α} {u : Unit} (h : sepI f n s xs q) (hl : xs.length < n + 1) (hb : pByte 44 q = .got u r) (hf : f r = .bad e) : pSep f n s = .bad e := by
 rw [h.2.2]
 obtain ⟨k, hk⟩ : ∃ k, n + 1 - xs.length = k + 1 := ⟨n - xs.length, by omega⟩
 rw [hk]
 cases q with
 | nil => cases hb
 | cons b q =>
  unfold pByte at hb; dsimp only at hb
  by_cases hc : ((b.toNat : Int) == 44) = true
  ·rw [if_pos hc] at hb
   cases hb
   rw [pMore, if_pos hc, hf]; rfl
  ·rw [if_neg hc] at hb; cases hb
theorem sepI.next {α : Type} {f : Tx → Rd α} {n : Nat} {s q r r2 : Tx} {xs : List α} {u : Unit} {x : α} (h : sepI f n s xs q) (hl : xs.length < n + 1) (hb : pByte 44 q = .got u r) (hf : f r = .got x r2) : sepI f n s (xs ++ [x]) r2 := by
 refine ⟨by simp; omega, by simp, ?_⟩
 rw [h.2.2]
 obtain ⟨k, hk⟩ : ∃ k, n + 1 - xs.length = k + 1 := ⟨n - xs.length, by omega⟩
 rw [hk, show n + 1 - (xs ++ [x]).length = k by simp; omega]
 cases q with
 | nil => cases hb
 | cons b q =>
  unfold pByte at hb; dsimp only at hb
  by_cases hc : ((b.toNat : Int) == 44) = true
  ·rw [if_pos hc] at hb
   cases hb
   rw [pMore, if_pos hc, hf]
   simp only [Rd.bnd]
   cases pMore f k r2 <;> simp [Rd.bnd]
  ·rw [if_neg hc] at hb; cases hb
/-! ### What is kept -/
structure KeepR (o id : Nat) (σ σ' : St) : Prop where
 nobj : σ.nobj ≤ σ'.nobj
 obj : ∀ p, p < σ.nobj → p ≠ o → σ'.obj p = σ.obj p
 ver : ∀ p, p < σ.nobj → p ≠ o → σ'.ver p = σ.ver p
 ntop : σ.ntop ≤ σ'.ntop
 top : ∀ k, k < σ.ntop → k + 2 ≠ id → σ'.top k = σ.top k
theorem KeepR.refl (o id : Nat) (σ : St) : KeepR o id σ σ := ⟨Nat.le_refl _, fun _ _ _ => rfl, fun _ _ _ => rfl, Nat.le_refl _, fun _ _ _ => rfl⟩
theorem KeepX.kr {o : Nat} {σ σ' : St} (h : KeepX o σ σ') (id : Nat) : KeepR o id σ σ' := ⟨h.nobj, h.obj, h.ver, h.ntop, fun k hk _ => h.top k hk⟩
theorem Keep.kr {σ σ' : St} (h : Keep σ σ') (o id : Nat) : KeepR o id σ σ' := ⟨h.nobj, fun p hp _ => h.obj p hp, fun p hp _ => h.ver p hp, h.ntop, fun k hk _ => h.top k hk⟩
theorem KeepR.trans {o id id' : Nat} {a b c : St} (h : KeepR o id a b) (hi : id' = id ∨ a.ntop + 2 ≤ id') (k : KeepR o id' b c) : KeepR o id a c :=
 ⟨Nat.le_trans h.nobj k.nobj, fun p hp hne => (k.obj p (Nat.lt_of_lt_of_le hp h.nobj) hne).trans (h.obj p hp hne), fun p hp hne => (k.ver p (Nat.lt_of_lt_of_le hp h.nobj) hne).trans (h.ver p hp hne),
  Nat.le_trans h.ntop k.ntop, fun j hj hne => (k.top j (Nat.lt_of_lt_of_le hj h.ntop) (by omega)).trans (h.top j hj hne)⟩
theorem KeepR.put {o id : Nat} {σ σ' : St} (h : KeepR o id σ σ') (cs : List AV) : KeepR o id σ (σ'.put o cs) :=
 ⟨h.nobj, fun p hp hne => by simp [St.put, hne]; exact h.obj p hp hne, fun p hp hne => by simp [St.put, hne]; exact h.ver p hp hne, h.ntop, h.top⟩
theorem KeepR.lay {o id : Nat} {a b : St} (h : KeepR o id a b) (n : Nat) : KeepR o id a (b.lay n) := by
 have := h.ntop
 exact ⟨h.nobj, h.obj, h.ver, by simp [St.lay]; omega, fun k hk hne => by simp [St.lay]; rw [if_neg (by omega)]; exact h.top k hk hne⟩
theorem KeepR.new {o id : Nat} {a b : St} (h : KeepR o id a b) (cs : List AV) : KeepR o id a (b.new cs) := by
 have := h.nobj
 exact ⟨by simp [St.new]; omega, fun p hp hne => by simp [St.new]; rw [if_neg (by omega)]; exact h.obj p hp hne, h.ver, h.ntop, h.top⟩
theorem KeepR.raise {o id : Nat} {a b : St} (h : KeepR o id a b) {k : Nat} (hk : a.ntop ≤ k ∨ k + 2 = id) (n : Nat) : KeepR o id a (b.raise k n) :=
 ⟨h.nobj, h.obj, h.ver, h.ntop, fun j hj hne => by simp [St.raise]; rw [if_neg (by omega)]; exact h.top j hj hne⟩
theorem KeepR.keep {o id : Nat} {a b c : St} (h : Keep a b) (k : KeepR o id b c) (ho : a.nobj ≤ o) (hi : id < 2 ∨ a.ntop + 2 ≤ id) : Keep a c :=
 ⟨Nat.le_trans h.nobj k.nobj, fun p hp => (k.obj p (Nat.lt_of_lt_of_le hp h.nobj) (by omega)).trans (h.obj p hp), fun p hp => (k.ver p (Nat.lt_of_lt_of_le hp h.nobj) (by omega)).trans (h.ver p hp),
  Nat.le_trans h.ntop k.ntop, fun j hj => (k.top j (Nat.lt_of_lt_of_le hj h.ntop) (by omega)).trans (h.top j hj)⟩
def OwnN (σ : St) (id n : Nat) : Prop := (id = 1 ∧ n = 0) ∨ ∃ k, id = k + 2 ∧ k < σ.ntop ∧ σ.top k = n ∧ 0 < n
theorem OwnN.keepX {o : Nat} {σ σ' : St} {id n : Nat} (h : OwnN σ id n) (k : KeepX o σ σ') : OwnN σ' id n := by
 rcases h with h | ⟨j, h1, h3, h4, h5⟩
 ·exact .inl h
 ·exact .inr ⟨j, h1, Nat.lt_of_lt_of_le h3 k.ntop, (k.top j h3).trans h4, h5⟩
theorem Own.keepR {o idn : Nat} {σ0 σ σ' : St} {id n : Nat} (h : Own σ0 σ id n) (k : KeepR o idn σ σ') (hne : id = 1 ∨ id ≠ idn) : Own σ0 σ' id n := by
 rcases h with h | ⟨j, h1, h2, h3, h4, h5⟩
 ·exact .inl h
 ·exact .inr ⟨j, h1, h2, Nat.lt_of_lt_of_le h3 k.ntop, (k.top j h3 (by omega)).trans h4, h5⟩
theorem OwnN.keepR {o idn : Nat} {σ σ' : St} {id n : Nat} (h : OwnN σ id n) (k : KeepR o idn σ σ') (hne : id = 1 ∨ id ≠ idn) : OwnN σ' id n := by
 rcases h with h | ⟨j, h1, h3, h4, h5⟩
 ·exact .inl h
 ·exact .inr ⟨j, h1, Nat.lt_of_lt_of_le h3 k.ntop, (k.top j h3 (by omega)).trans h4, h5⟩
theorem lay_old {σ : St} {n k : Nat} (h : k < σ.ntop) : (σ.lay n).top k = σ.top k := by simp [St.lay]; intro e; omega
theorem raise_old {σ : St} {n k j : Nat} (h : j ≠ k) : (σ.raise k n).top j = σ.top j := by simp [St.raise, h]
theorem aApp_ownR {P : Program} {t : TypeId} {z b : Nat} {zc : List Value} {σ0 σ : St} {o idn id id2 n m m' : Nat} {xs ys : List AV} {K : AV → St → Prop} (ht : tez P t = some (z, b, zc)) (hK : KeepR o idn σ0 σ) (hO : Own σ0 σ id n)
  (hz : 0 < z) (hzc : zc.length = z) (hx : xs.length = n * z) (hy : ys.length = m * z) (hf : ys.all flat = true) (hm : 0 < m) (hb : (n + m) * b ≤ 140737488355328) (hl : n + m ≤ 1099511627776)
  (h : ∀ id' σ', Own σ0 σ' id' (n + m) → KeepR o idn σ0 σ' → σ'.obj = σ.obj → σ'.nobj = σ.nobj → σ'.ver = σ.ver → σ.ntop < σ'.ntop → (∀ k, k < σ.ntop → k + 2 ≠ id → σ'.top k = σ.top k) → (id' = id ∨ σ.ntop + 2 ≤ id') → K (sl id' (n + m) (xs ++ ys)) σ') : aApp P t t (sl id n xs) (sl id2 m ys) (σ.lay m') K := by
 unfold aApp aapp
 simp only [ht]
 rw [if_pos ⟨trivial, hz, hzc, hx, hy, hf, hm, hb, hl⟩]
 rcases hO with ⟨rfl, rfl⟩ | ⟨k, rfl, h2, h3, h4, h5⟩
 ·have hxs : xs = [] := List.eq_nil_of_length_eq_zero (by simpa using hx)
  subst hxs
  have hn0 := hK.ntop
  have := h ((σ.lay m').ntop + 2) ((σ.lay m').lay m) (by rw [Nat.zero_add]; exact .inr ⟨(σ.lay m').ntop, rfl, by simp [St.lay]; omega, by simp [St.lay], by simp [St.lay], hm⟩) ((hK.lay m').lay m) rfl rfl rfl (by simp [St.lay]; omega)
   (fun j hj _ => by rw [lay_old (by rw [lay_ntop]; omega), lay_old hj]) (by rw [lay_ntop]; omega)
  simpa using this
 ·have e1 : (σ.lay m').top k = n := by simp [St.lay]; rw [if_neg (by omega)]; exact h4
  simp only
  rw [if_pos ⟨e1, h5⟩]
  exact h (k + 2) _ (.inr ⟨k, rfl, h2, by simp [St.raise, St.lay]; omega, by simp [St.raise], by omega⟩) ((hK.lay m').raise (.inl h2) _) rfl rfl rfl (by simp [St.raise, St.lay])
   (fun j hj hne => by rw [raise_old (by omega), lay_old hj]) (.inl rfl)
theorem aApp_names {P : Program} {t : TypeId} {z b : Nat} {zc : List Value} {σ0 σ : St} {o id id2 n m m' : Nat} {xs ys : List AV} {K : AV → St → Prop} (ht : tez P t = some (z, b, zc)) (hO : OwnN σ id n)
  (hz : 0 < z) (hzc : zc.length = z) (hx : xs.length = n * z) (hy : ys.length = m * z) (hf : ys.all flat = true) (hm : 0 < m) (hb : (n + m) * b ≤ 140737488355328) (hl : n + m ≤ 1099511627776)
  (h : ∀ id' σ', OwnN σ' id' (n + m) → KeepR o id σ σ' → σ'.obj = σ.obj → σ'.nobj = σ.nobj → σ'.ver = σ.ver → (id' = id ∨ σ.ntop + 2 ≤ id') → K (sl id' (n + m) (xs ++ ys)) σ') : aApp P t t (sl id n xs) (sl id2 m ys) (σ.lay m') K := by
 unfold aApp aapp
 simp only [ht]
 rw [if_pos ⟨trivial, hz, hzc, hx, hy, hf, hm, hb, hl⟩]
 have hR := KeepR.refl o id σ
 rcases hO with ⟨rfl, rfl⟩ | ⟨k, rfl, h3, h4, h5⟩
 ·have hxs : xs = [] := List.eq_nil_of_length_eq_zero (by simpa using hx)
  subst hxs
  have := h ((σ.lay m').ntop + 2) ((σ.lay m').lay m) (by rw [Nat.zero_add]; exact .inr ⟨(σ.lay m').ntop, rfl, by simp [St.lay], by simp [St.lay], hm⟩) ((hR.lay m').lay m) rfl rfl rfl (by rw [lay_ntop]; omega)
  simpa using this
 ·have e1 : (σ.lay m').top k = n := by simp [St.lay]; rw [if_neg (by omega)]; exact h4
  simp only
  rw [if_pos ⟨e1, h5⟩]
  exact h (k + 2) _ (.inr ⟨k, rfl, by simp [St.raise, St.lay]; omega, by simp [St.raise], by omega⟩) ((hR.lay m').raise (.inr rfl) _) rfl rfl rfl (.inl rfl)
/-! ### The reader's state -/
structure RS (t : Tx) (o : Nat) (N : List Tx) (id : Nat) (s : Tx) (σ : St) : Prop where
 obj : σ.obj o = rdS t s (sl id N.length (N.map str))
 lt : o < σ.nobj
 own : OwnN σ id N.length
 suf : s <:+ t
 len : N.length + s.length ≤ 1000 + t.length
structure Rs (o : Nat) (σ : St) (id : Nat) (σ' : St) (id' : Nat) : Prop where
 keep : KeepR o id σ σ'
 nid : id' = id ∨ σ.ntop + 2 ≤ id'
theorem Rs.refl (o : Nat) (σ : St) (id : Nat) : Rs o σ id σ id := ⟨KeepR.refl _ _ _, .inl rfl⟩
theorem Rs.trans {o : Nat} {a b c : St} {i j k : Nat} (h : Rs o a i b j) (g : Rs o b j c k) : Rs o a i c k :=
 ⟨h.keep.trans h.nid g.keep, by have := h.keep.ntop; rcases h.nid with h1 | h1 <;> rcases g.nid with h2 | h2 <;> omega⟩
theorem Rs.ofX {o : Nat} {a b : St} {i : Nat} (h : KeepX o a b) : Rs o a i b i := ⟨h.kr i, .inl rfl⟩
theorem RS.stepX {t : Tx} {o : Nat} {N : List Tx} {id : Nat} {s r : Tx} {σ σ' : St} (h : RS t o N id s σ) (k : KeepX o σ σ') (ho : σ'.obj o = rdS t r (sl id N.length (N.map str))) (hr : r <:+ t) (hl : r.length ≤ s.length) : RS t o N id r σ' :=
 ⟨ho, Nat.lt_of_lt_of_le h.lt k.nobj, h.own.keepX k, hr, by have := h.len; omega⟩
theorem pByte_rest (c : Int) (s : Tx) : (pByte c s).rest <:+ s := by
 cases s with
 | nil => exact List.suffix_refl _
 | cons b r =>
  unfold pByte; dsimp only; split
  ·exact List.suffix_cons b r
  ·exact List.suffix_refl _
theorem take_R {t : Tx} {o : Nat} {N : List Tx} {id : Nat} {s : Tx} {c : Int} {σ : St} (ht : t.length ≤ 1000) (h : RS t o N id s σ) :
  ACalls Tryz.prog 126 [ptr o 0, sc (.int .u8 c)] σ fun x σ' => x = sc (.bool (pByte c s).ok) ∧ KeepX o σ σ' ∧ RS t o N id (pByte c s).rest σ' := by
 refine ACalls.mono (take_suff t s o _ c ht h.suf σ h.obj h.lt) ?_
 rintro x σ' ⟨hK, hm⟩
 have hr := pByte_rest c s
 have hl := hr.length_le
 have hs := hr.trans h.suf
 cases hp : pByte c s with
 | bad e =>
  rw [hp] at hm hr hl hs
  obtain ⟨rfl, hO, rfl⟩ := hm
  exact ⟨rfl, hK, h.stepX hK hO hs hl⟩
 | got u r =>
  rw [hp] at hm hr hl hs
  obtain ⟨rfl, hO, -⟩ := hm
  exact ⟨rfl, hK, h.stepX hK hO hs hl⟩
/- The program's reader: terms. -/
theorem KeepX.new {o : Nat} {σ σ' : St} (h : KeepX o σ σ') (cs : List AV) : KeepX o σ (σ'.new cs) := by
 have := h.nobj
 exact ⟨by simp [St.new]; omega, fun p hp hne => by simp [St.new]; rw [if_neg (by omega)]; exact h.obj p hp hne, h.ver, h.ntop, h.top⟩
theorem KeepX.putN {o p : Nat} {σ σ' : St} (h : KeepX o σ σ') (hp : σ.nobj ≤ p) (cs : List AV) : KeepX o σ (σ'.put p cs) :=
 ⟨h.nobj, fun q hq hne => by simp [St.put]; rw [if_neg (by omega)]; exact h.obj q hq hne, fun q hq hne => by simp [St.put]; rw [if_neg (by omega)]; exact h.ver q hq hne, h.ntop, h.top⟩
theorem KeepX.lay {o : Nat} {a b : St} (h : KeepX o a b) (n : Nat) : KeepX o a (b.lay n) := by
 have := h.ntop
 exact ⟨h.nobj, h.obj, h.ver, by simp [St.lay]; omega, fun k hk => by simp [St.lay]; rw [if_neg (by omega)]; exact h.top k hk⟩
def encT : Tx → Bool × Int
 | [] => (false, 0)
 | b :: r => if largeB b.toNat = true then (true, (b.toNat : Int) - 65) else (false, numV (b :: r))
theorem encT_large {b : UInt8} {r : Tx} (h : largeB b.toNat = true) : encT (b :: r) = (true, (b.toNat : Int) - 65) := by unfold encT; dsimp only; rw [if_pos h]
theorem encT_num {b : UInt8} {r : Tx} (h : largeB b.toNat = false) : encT (b :: r) = (false, numV (b :: r)) := by unfold encT; dsimp only; rw [if_neg (by rw [h]; simp)]
def tcell (x : Tx) : List AV := [sc (.bool (encT x).1), sc (.int .i64 (encT x).2)]
def tcells (ts : List Tx) : List AV := ts.flatMap tcell
theorem tcells_len (ts : List Tx) : (tcells ts).length = ts.length * 2 := by
 induction ts with
 | nil => rfl
 | cons a l ih => unfold tcells at *; rw [List.flatMap_cons, List.length_append, ih]; simp [tcell]; omega
theorem tcells_snoc (ts : List Tx) (x : Tx) : tcells (ts ++ [x]) = tcells ts ++ tcell x := by simp [tcells]
theorem pWhile_rest (p : Int → Bool) (n : Nat) (s : Tx) : (pWhile p n s).2 <:+ s := ⟨(pWhile p n s).1, (pWhile_took p n s).1.symm⟩
theorem pTerm_rest (s : Tx) : (pTerm s).rest <:+ s := by
 cases s with
 | nil => exact List.suffix_refl _
 | cons b r =>
  unfold pTerm; dsimp only
  split
  ·exact List.suffix_cons b r
  split
  ·exact List.suffix_cons b r
  split
  ·exact (pWhile_rest digitB 2 r).trans (List.suffix_cons b r)
  ·exact List.suffix_refl _
set_option maxHeartbeats 4000000 in
theorem readZero_spec (t r : Tx) (b : UInt8) (o : Nat) (nm : AV) (ht : t.length ≤ 1000) (hs : (b :: r) <:+ t) (σ : St) (ho : σ.obj o = rdS t (b :: r) nm) (hn : o < σ.nobj) (h48 : ((b.toNat : Int) == 48) = true) :
  ACalls Tryz.prog 245 [ptr o 0] σ fun x σ' => KeepX o σ σ' ∧ σ'.obj o = rdS t r nm ∧ x = sc (.int .i64 0) := by
 have hp : pByte 48 (b :: r) = .got () r := by unfold pByte; dsimp only; rw [if_pos h48]
 have hT := take_suff t (b :: r) o nm 48 ht hs σ ho hn
 rw [hp] at hT
 refine acalls 57 [.tmp 2] Tryz.func245 rfl (by decide) rfl rfl (Nat.le_of_ble_eq_true rfl) ?_
 repeat' (first
 |with_reducible first|apply Xa|apply Xb|(refine Xc ?_;intro κ hκ)|(apply hκ.out;clear hκ κ)|apply Xd|apply Xe|apply Xf
 |((with_reducible first|refine Xl ?_ ?_|refine Xm ?_ ?_|refine Xk ?_ ?_)<;> intro h hari<;> try exact Xp)
 |((with_reducible refine Xh ?_);refine Xi (hT) ?_;rintro _ _ ⟨hK1,rfl,hO1,-⟩)
 |refine Xr ?_
 |exact True.intro
 |((with_reducible refine Xg ?_);refine Xj ?_)
 |(apply hκ.out;clear hκ κ))
 first | exact ⟨_, rfl, hK1, hO1, rfl⟩ | exact ⟨_, rfl, hK1, hO1⟩ | exact ⟨_, rfl, hK1, rfl⟩ | exact ⟨_, rfl, rfl⟩
set_option maxHeartbeats 16000000 in
theorem readTerm_R {t : Tx} {o : Nat} {N : List Tx} {id : Nat} {s : Tx} {σ : St} (ht : t.length ≤ 1000) (hR : RS t o N id s σ) :
  ACalls Tryz.prog 209 [ptr o 0] σ fun x σ' => ∃ v k, x = tp [ag [sc (.bool v), sc (.int .i64 k)], sc (.bool (pTerm s).ok)] ∧ KeepX o σ σ' ∧ RS t o N id (pTerm s).rest σ' ∧ Rd.Val (pTerm s) fun w => encT w = (v, k) := by
 have hR' : Abs.Hid (RS t o N id s σ) := hR
 obtain ⟨ho, hn, -, hs, -⟩ := hR
 have hsl := suff_len hs
 have hsg := suff_get hs
 have hrl : Abs.Hid ((pTerm s).rest.length ≤ s.length) := (pTerm_rest s).length_le
 have hrs : Abs.Hid ((pTerm s).rest <:+ t) := (pTerm_rest s).trans hs
 generalize hnm : sl id N.length (N.map str) = nm at ho
 have hnm : Abs.Hid (sl id N.length (N.map str) = nm) := hnm
 have ho' : Abs.Hid (σ.obj o = rdS t s nm) := ho
 unfold rdS rdr at ho
 refine acalls 46 [.cell 2 101, .tmp 3] Tryz.func209 rfl (by decide) rfl rfl (Nat.le_of_ble_eq_true rfl) ?_
 repeat' (first
 |with_reducible first|apply Xa|apply Xb|(refine Xc ?_;intro κ hκ)|(apply hκ.out;clear hκ κ)|apply Xd|apply Xe|apply Xf
 |((with_reducible first|refine Xl ?_ ?_|refine Xm ?_ ?_|refine Xk ?_ ?_)<;> intro h hari<;> try exact Xp)
 |refine Xr ?_
 |exact True.intro
 |((with_reducible refine Xg ?_);refine Xj ?_)
 |(apply hκ.out;clear hκ κ))
 refine awp_draw_k follows_mixed (fun _ => True) [9] [0, 1, 2, 3, 4, 5, 6, 7, 8] [9] (by kernel_rfl) (fun _ _ _ h => h) ?_
 intro κ hκ
 cases s with
 | nil =>
  simp only [List.length_nil, Nat.sub_zero] at ho hsg hsl
  refine Xr ?_
  repeat' (first
 |with_reducible first|apply Xa|apply Xb|(refine Xc ?_;intro κ hκ)|(apply hκ.out;clear hκ κ)|apply Xd|apply Xe|apply Xf
 |((with_reducible first|refine Xl ?_ ?_|refine Xm ?_ ?_|refine Xk ?_ ?_)<;> intro h hari<;> try exact Xp)
 |refine Xr ?_
 |exact True.intro
 |((with_reducible refine Xg ?_);refine Xj ?_)
 |(apply hκ.out;clear hκ κ))
  have hK : KeepX o σ ((σ.new [sc (.bool false), sc (.int .i64 0)]).put σ.nobj [sc (.bool false), sc (.int .i64 0)]) := ((KeepX.refl _ _).new _).putN (Nat.le_refl _) _
  refine ⟨_, rfl, false, 0, rfl, hK, hR'.out.stepX hK ?_ hrs.out hrl.out, trivial⟩
  rw [hnm.out, put_ne hn, new_lt hn]; exact ho'.out
 | cons b r =>
  simp only [List.length_cons, List.head?_cons] at ho hsg hsl
  refine Xr ?_
  repeat' (first
 |with_reducible first|apply Xa|apply Xb|(refine Xc ?_;intro κ hκ)|(apply hκ.out;clear hκ κ)|apply Xd|apply Xe|apply Xf
 |((with_reducible first|refine Xl ?_ ?_|refine Xm ?_ ?_|refine Xk ?_ ?_)<;> intro h hari<;> try exact Xp)
 |refine Xr ?_
 |exact True.intro
 |((with_reducible refine Xg ?_);refine Xj ?_)
 |(apply hκ.out;clear hκ κ))
  refine awp_draw_k follows_mixed (fun _ => True) [9] [0, 1, 2, 3, 4, 5, 6, 7, 8] [9] (by kernel_rfl) (fun _ _ _ h => h) ?_
  intro κ hκ
  refine Xr ?_
  have hdr : digitB b.toNat = true → 48 ≤ (b.toNat : Int) ∧ (b.toNat : Int) ≤ 57 := fun h => by simp [digitB] at h; omega
  have hcr : largeB b.toNat = true → 65 ≤ (b.toNat : Int) ∧ (b.toNat : Int) ≤ 90 := fun h => by simp [largeB] at h; omega
  have ho1 : Abs.Hid ((σ.new [sc (.bool false), sc (.int .i64 0)]).obj o = rdS t (b :: r) nm) := by rw [Abs.Hid, new_lt hn]; exact ho'.out
  have hn1 : o < (σ.new [sc (.bool false), sc (.int .i64 0)]).nobj := by rw [new_nobj]; omega
  have hK0 : Abs.Hid (KeepX o σ (σ.new [sc (.bool false), sc (.int .i64 0)])) := (KeepX.refl _ _).new _
  by_cases h48 : ((b.toNat : Int) == 48) = true
  ·have hl : largeB b.toNat = false := by
    cases hl : largeB b.toNat with
    | false => rfl
    | true => have := hcr hl; simp at h48; omega
   have hd : digitB b.toNat = true := by simp at h48; simp [digitB]; omega
   have hp : pTerm (b :: r) = .got [b] r := by
    unfold pTerm; dsimp only; rw [if_neg (by rw [hl]; simp), if_pos h48]
   rw [hp] at hrl hrs
   have hE : Abs.Hid (encT [b] = (false, 0)) := by
    rw [Abs.Hid, encT_num hl]; simp at h48; simp [numV]; omega
   repeat' (first
 |with_reducible first|apply Xa|apply Xb|(refine Xc ?_;intro κ hκ)|(apply hκ.out;clear hκ κ)|apply Xd|apply Xe|apply Xf
 |((with_reducible first|refine Xl ?_ ?_|refine Xm ?_ ?_|refine Xk ?_ ?_)<;> intro h hari<;> try exact Xp)
 |((with_reducible refine Xh ?_);first|(refine Xi (isCapital_spec _ _) ?_;rintro _ _ ⟨rfl,rfl⟩)|(refine Xi (isDigit_spec _ _) ?_;rintro _ _ ⟨rfl,rfl⟩)|(refine Xi (readZero_spec t r b o nm ht hs _ ho1.out hn1 h48) ?_;rintro _ _ ⟨hK1,hO1,rfl⟩;(have hob:=hK1.obj σ.nobj (by rw [new_nobj];omega) (by omega);rw [new_same] at hob;have HK1 : Abs.Hid _:=hK1;have HO1 : Abs.Hid _:=hO1;clear hK1 hO1)))
 |refine Xr ?_
 |exact True.intro
 |((with_reducible refine Xg ?_);refine Xj ?_)
 |(apply hκ.out;clear hκ κ))
   rename_i σ1
   have hK : KeepX o σ (σ1.put σ.nobj [sc (.bool false), sc (.int .i64 0)]) := (hK0.out.trans HK1.out).putN (Nat.le_refl _) _
   refine ⟨_, rfl, false, 0, rfl, hK, hR'.out.stepX hK ?_ hrs.out hrl.out, hE.out⟩
   rw [hnm.out, put_ne hn]; exact HO1.out
  ·have h48 : ((b.toNat : Int) == 48) = false := by simpa using h48
   by_cases hl : largeB b.toNat = true
   ·have hp : pTerm (b :: r) = .got [b] r := by
     unfold pTerm; dsimp only; rw [if_pos hl]
    rw [hp] at hrl hrs
    have hE : Abs.Hid (encT [b] = (true, (b.toNat : Int) - 65)) := by
     exact encT_large hl
    have hcr := hcr hl
    have hw : IntKind.i64.wrap (IntKind.u8.wrap ((b.toNat : Int) - 65)) = (b.toNat : Int) - 65 := by
     rw [Abs.u8w (by omega) (by omega), Abs.i64w (by omega) (by omega)]
    repeat' (first
 |with_reducible first|apply Xa|apply Xb|(refine Xc ?_;intro κ hκ)|(apply hκ.out;clear hκ κ)|apply Xd|apply Xe|apply Xf
 |((with_reducible first|refine Xl ?_ ?_|refine Xm ?_ ?_|refine Xk ?_ ?_)<;> intro h hari<;> try exact Xp)
 |((with_reducible refine Xh ?_);refine Xi (isCapital_spec _ _) ?_;rintro _ _ ⟨rfl,rfl⟩)
 |refine Xr ?_
 |exact True.intro
 |((with_reducible refine Xg ?_);refine Xj ?_)
 |(apply hκ.out;clear hκ κ))
    have hK : KeepX o σ (((σ.new [sc (.bool false), sc (.int .i64 0)]).put o [str t, sc (.int .i64 ((t.length - (r.length + 1) : Nat) + 1)), nm]).put σ.nobj [sc (.bool true), sc (.int .i64 ((b.toNat : Int) - 65))]) := (hK0.out.put _).putN (Nat.le_refl _) _
    refine ⟨_, rfl, true, _, rfl, hK, hR'.out.stepX hK ?_ hrs.out hrl.out, hE.out⟩
    rw [hnm.out, put_ne hn, put_same]
    unfold rdS rdr
    rw [show ((t.length - (r.length + 1) : Nat) : Int) + 1 = ((t.length - r.length : Nat) : Int) by omega]
    rfl
   ·have hl : largeB b.toNat = false := by simpa using hl
    by_cases hd : digitB b.toNat = true
    ·have hN := readNumber_spec t (b :: r) o nm ht hs _ ho1.out hn1 (fun b' r' e => by cases e; exact h48)
     have hw : pWhile digitB 3 (b :: r) = (b :: (pWhile digitB 2 r).1, (pWhile digitB 2 r).2) := by rw [pWhile, if_pos hd]
     rw [hw] at hN
     have hN : Abs.Hid _ := hN
     have hni : nineB b.toNat = true := by
      rcases digit_iff.1 hd with h | h
      ·exact h
      ·rw [h48] at h; cases h
     have hp : pTerm (b :: r) = .got (b :: (pWhile digitB 2 r).1) (pWhile digitB 2 r).2 := by
      unfold pTerm; dsimp only; rw [if_neg (by rw [hl]; simp), if_neg (by rw [h48]; simp), if_pos hni]
     rw [hp] at hrl hrs
     have hE : Abs.Hid (encT (b :: (pWhile digitB 2 r).1) = (false, numV (b :: (pWhile digitB 2 r).1))) := by
      exact encT_num hl
     clear hw
     repeat' (first
 |with_reducible first|apply Xa|apply Xb|(refine Xc ?_;intro κ hκ)|(apply hκ.out;clear hκ κ)|apply Xd|apply Xe|apply Xf
 |((with_reducible first|refine Xl ?_ ?_|refine Xm ?_ ?_|refine Xk ?_ ?_)<;> intro h hari<;> try exact Xp)
 |((with_reducible refine Xh ?_);first|(refine Xi (isCapital_spec _ _) ?_;rintro _ _ ⟨rfl,rfl⟩)|(refine Xi (isDigit_spec _ _) ?_;rintro _ _ ⟨rfl,rfl⟩)|(refine Xi (hN.out) ?_;rintro _ _ ⟨hK1,q,hO1,hq,hq2,rfl⟩;(have hob:=hK1.obj σ.nobj (by rw [new_nobj];omega) (by omega);rw [new_same] at hob;have HK1 : Abs.Hid _:=hK1;have HO1 : Abs.Hid _:=hO1;have HQ : Abs.Hid _:=hq2;clear hK1 hO1 hq2)))
 |refine Xr ?_
 |exact True.intro
 |((with_reducible refine Xg ?_);refine Xj ?_)
 |(apply hκ.out;clear hκ κ))
     rename_i σ1
     have hK : KeepX o σ (σ1.put σ.nobj [sc (.bool false), sc (.int .i64 (numV (b :: (pWhile digitB 2 r).1)))]) := (hK0.out.trans HK1.out).putN (Nat.le_refl _) _
     refine ⟨_, rfl, false, _, rfl, hK, hR'.out.stepX hK ?_ hrs.out hrl.out, hE.out⟩
     rw [hnm.out, put_ne hn, show (Rd.got (b :: (pWhile digitB 2 r).1) (pWhile digitB 2 r).2).rest = q from HQ.out.symm]; exact HO1.out
    ·have hd : digitB b.toNat = false := by simpa using hd
     have hni : nineB b.toNat = false := by
      cases hni : nineB b.toNat with
      | false => rfl
      | true => rw [digit_iff.2 (.inl hni)] at hd; cases hd
     have hp : pTerm (b :: r) = .bad (b :: r) := by
      unfold pTerm; dsimp only; rw [if_neg (by rw [hl]; simp), if_neg (by rw [h48]; simp), if_neg (by rw [hni]; simp)]
     rw [hp] at hrl hrs
     repeat' (first
 |with_reducible first|apply Xa|apply Xb|(refine Xc ?_;intro κ hκ)|(apply hκ.out;clear hκ κ)|apply Xd|apply Xe|apply Xf
 |((with_reducible first|refine Xl ?_ ?_|refine Xm ?_ ?_|refine Xk ?_ ?_)<;> intro h hari<;> try exact Xp)
 |((with_reducible refine Xh ?_);first|(refine Xi (isCapital_spec _ _) ?_;rintro _ _ ⟨rfl,rfl⟩)|(refine Xi (isDigit_spec _ _) ?_;rintro _ _ ⟨rfl,rfl⟩))
 |refine Xr ?_
 |exact True.intro
 |((with_reducible refine Xg ?_);refine Xj ?_)
 |(apply hκ.out;clear hκ κ))
     have hK : KeepX o σ ((σ.new [sc (.bool false), sc (.int .i64 0)]).put σ.nobj [sc (.bool false), sc (.int .i64 0)]) := hK0.out.putN (Nat.le_refl _) _
     refine ⟨_, rfl, false, 0, rfl, hK, hR'.out.stepX hK ?_ hrs.out hrl.out, trivial⟩
     rw [hnm.out, put_ne hn]; exact ho1.out
end Go.Proofs.YtmoeoppbmhfbpaaGreatDoorY
