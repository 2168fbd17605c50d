import Derived.Test.YtmoeoppbmhfbpaaGreatDoorBGram
/- The program's reader: bytes. -/
namespace Go.Proofs.YtmoeoppbmhfbpaaGreatDoorB
open Go.Abs
set_option linter.unusedSimpArgs false
set_option linter.unusedVariables false
set_option maxRecDepth 100000
theorem isSmall_spec (c : Int) (σ : St) : ACalls Tryz.prog 207 [sc (.int .u8 c)] σ fun x σ' => x = sc (.bool (smallB c)) ∧ σ' = σ := by
 refine acalls 9 [.tmp 2] Tryz.func207 rfl (by decide) rfl rfl (Nat.le_of_ble_eq_true rfl) ?_
 repeat' (first
 |with_reducible first|apply Xa|apply Xb|(refine Xc ?_;intro κ hκ)|(apply hκ.out;clear hκ κ)|apply Xd|apply Xe|apply Xf
 |((with_reducible first|refine Xl ?_ ?_|refine Xk ?_ ?_)<;> intro h hari<;> try exact Xp)
 |refine Xr ?_
 |exact True.intro
 |(apply hκ.out;clear hκ κ))
 all_goals exact ⟨_, rfl, by simp [smallB, *]⟩
theorem isCapital_spec (c : Int) (σ : St) : ACalls Tryz.prog 243 [sc (.int .u8 c)] σ fun x σ' => x = sc (.bool (largeB c)) ∧ σ' = σ := by
 refine acalls 9 [.tmp 2] Tryz.func243 rfl (by decide) rfl rfl (Nat.le_of_ble_eq_true rfl) ?_
 repeat' (first
 |with_reducible first|apply Xa|apply Xb|(refine Xc ?_;intro κ hκ)|(apply hκ.out;clear hκ κ)|apply Xd|apply Xe|apply Xf
 |((with_reducible first|refine Xl ?_ ?_|refine Xk ?_ ?_)<;> intro h hari<;> try exact Xp)
 |refine Xr ?_
 |exact True.intro
 |(apply hκ.out;clear hκ κ))
 all_goals exact ⟨_, rfl, by simp [largeB, *]⟩
theorem isDigit_spec (c : Int) (σ : St) : ACalls Tryz.prog 244 [sc (.int .u8 c)] σ fun x σ' => x = sc (.bool (digitB c)) ∧ σ' = σ := by
 refine acalls 9 [.tmp 2] Tryz.func244 rfl (by decide) rfl rfl (Nat.le_of_ble_eq_true rfl) ?_
 repeat' (first
 |with_reducible first|apply Xa|apply Xb|(refine Xc ?_;intro κ hκ)|(apply hκ.out;clear hκ κ)|apply Xd|apply Xe|apply Xf
 |((with_reducible first|refine Xl ?_ ?_|refine Xk ?_ ?_)<;> intro h hari<;> try exact Xp)
 |refine Xr ?_
 |exact True.intro
 |(apply hκ.out;clear hκ κ))
 all_goals exact ⟨_, rfl, by simp [digitB, *]⟩
def rdr (t : Tx) (k : Nat) (nm : AV) : List AV := [str t, sc (.int .i64 k), nm]
def takeB (t : Tx) (k : Nat) (c : Int) : Bool := match t[k]? with | some b => (b.toNat : Int) == c | none => false
def takeN (t : Tx) (k : Nat) (c : Int) : Nat := if takeB t k c = true then k + 1 else k
set_option maxHeartbeats 4000000 in
theorem take_spec (t : Tx) (k o : Nat) (nm : AV) (c : Int) (ht : t.length ≤ 1000) (hk : k ≤ t.length) (σ : St) (ho : σ.obj o = rdr t k nm) (hn : o < σ.nobj) : ACalls Tryz.prog 126 [ptr o 0, sc (.int .u8 c)] σ fun x σ' => x = sc (.bool (takeB t k c)) ∧ KeepX o σ σ' ∧ σ'.obj o = rdr t (takeN t k c) nm := by
 unfold rdr at *
 refine acalls 35 [.tmp 4] Tryz.func126 rfl (by decide) rfl rfl (Nat.le_of_ble_eq_true rfl) ?_
 repeat' (first
 |with_reducible first|apply Xa|apply Xb|(refine Xc ?_;intro κ hκ)|(apply hκ.out;clear hκ κ)|apply Xd|apply Xe|apply Xf
 |((with_reducible first|refine Xl ?_ ?_|refine Xm ?_ ?_|refine Xk ?_ ?_)<;> intro h hari<;> try exact Xp)
 |refine Xr ?_
 |exact True.intro
 |((with_reducible refine Xg ?_);refine Xj ?_)
 |(apply hκ.out;clear hκ κ))
 refine awp_draw_k follows_mixed (fun _ => True) [22] [0, 1, 2, 3, 4, 5, 6, 7, 8, 9, 10, 11, 12, 13, 14, 15, 16, 17, 18, 19, 20, 21] [22] (by kernel_rfl) (fun _ _ _ h => h) ?_
 intro κ hκ
 by_cases hlt : k < t.length
 ·have hg := List.getElem?_eq_getElem hlt
  generalize t[k] = b at hg
  refine Xr ?_
  repeat' (first
 |with_reducible first|apply Xa|apply Xb|(refine Xc ?_;intro κ hκ)|(apply hκ.out;clear hκ κ)|apply Xd|apply Xe|apply Xf
 |((with_reducible first|refine Xl ?_ ?_|refine Xm ?_ ?_|refine Xk ?_ ?_)<;> intro h hari<;> try exact Xp)
 |refine Xr ?_
 |exact True.intro
 |((with_reducible refine Xg ?_);refine Xj ?_)
 |(apply hκ.out;clear hκ κ))
  ·have hB : takeB t k c = false := by simp [takeB, hg]; simpa using h
   exact ⟨_, rfl, by rw [hB], KeepX.refl _ _, by simp [takeN, hB]⟩
  ·have hB : takeB t k c = true := by simp [takeB, hg]; simpa using h
   exact ⟨_, rfl, by rw [hB], (KeepX.refl _ _).put _, by simp [takeN, hB]⟩
 ·have hg : t[k]? = none := by simp; omega
  refine Xr ?_
  repeat' (first
 |with_reducible first|apply Xa|apply Xb|(refine Xc ?_;intro κ hκ)|(apply hκ.out;clear hκ κ)|apply Xd|apply Xe|apply Xf
 |((with_reducible first|refine Xl ?_ ?_|refine Xm ?_ ?_|refine Xk ?_ ?_)<;> intro h hari<;> try exact Xp)
 |refine Xr ?_
 |exact True.intro
 |((with_reducible refine Xg ?_);refine Xj ?_)
 |(apply hκ.out;clear hκ κ))
  have hB : takeB t k c = false := by simp [takeB, hg]
  exact ⟨_, rfl, by rw [hB], KeepX.refl _ _, by simp [takeN, hB]⟩
/-! ### By what is left of the text -/
def rdS (t s : Tx) (nm : AV) : List AV := rdr t (t.length - s.length) nm
theorem suff_get {t s : Tx} (h : s <:+ t) : t[t.length - s.length]? = s.head? := by
 obtain ⟨p, rfl⟩ := h
 rw [List.length_append, Nat.add_sub_cancel, List.getElem?_append_right (Nat.le_refl _), Nat.sub_self]
 cases s <;> rfl
theorem suff_tail {t s : Tx} {b : UInt8} (h : (b :: s) <:+ t) : s <:+ t := (List.suffix_cons b s).trans h
theorem suff_len {t s : Tx} (h : s <:+ t) : s.length ≤ t.length := h.length_le
theorem take_suff (t s : Tx) (o : Nat) (nm : AV) (c : Int) (ht : t.length ≤ 1000) (hs : s <:+ t) (σ : St) (ho : σ.obj o = rdS t s nm) (hn : o < σ.nobj) :
  ACalls Tryz.prog 126 [ptr o 0, sc (.int .u8 c)] σ fun x σ' => KeepX o σ σ' ∧ match pByte c s with
   | .got _ r => x = sc (.bool true) ∧ σ'.obj o = rdS t r nm ∧ r <:+ t
   | .bad e => x = sc (.bool false) ∧ σ'.obj o = rdS t s nm ∧ e = s := by
 have hl := suff_len hs
 refine ACalls.mono (take_spec t _ o nm c ht (by omega) σ ho hn) ?_
 rintro x σ' ⟨rfl, hK, hO⟩
 refine ⟨hK, ?_⟩
 have hg := suff_get hs
 cases s with
 | nil =>
  have hB : takeB t (t.length - ([] : Tx).length) c = false := by unfold takeB; rw [hg]; rfl
  refine ⟨by rw [hB], ?_, rfl⟩
  rw [hO, takeN, hB]; rfl
 | cons b r =>
  have hB : takeB t (t.length - (b :: r).length) c = ((b.toNat : Int) == c) := by unfold takeB; rw [hg]; rfl
  unfold pByte
  by_cases hb : ((b.toNat : Int) == c) = true
  ·rw [hb] at hB
   simp only [hb, if_true]
   refine ⟨by rw [hB], ?_, suff_tail hs⟩
   rw [hO, takeN, hB, rdS]
   simp only [if_true, List.length_cons] at *
   rw [show t.length - (r.length + 1) + 1 = t.length - r.length by omega]
  ·have hb' : ((b.toNat : Int) == c) = false := by simpa using hb
   rw [hb'] at hB
   simp only [hb', Bool.false_eq_true, if_false]
   refine ⟨by rw [hB], ?_, trivial⟩
   rw [hO, takeN, hB]; rfl
/- The program's reader: numbers. -/
def numV (ds : Tx) : Int := ds.foldl (fun v b => v * 10 + ((b.toNat : Int) - 48)) 0
theorem numV_snoc (ds : Tx) (b : UInt8) : numV (ds ++ [b]) = numV ds * 10 + ((b.toNat : Int) - 48) := by simp [numV]
def digs (s ds q : Tx) : Prop := ds.length ≤ 3 ∧ pWhile digitB 3 s = (ds ++ (pWhile digitB (3 - ds.length) q).1, (pWhile digitB (3 - ds.length) q).2) ∧ 0 ≤ numV ds ∧ (ds.length = 0 → numV ds = 0) ∧ (ds.length = 1 → numV ds ≤ 9) ∧ (ds.length = 2 → numV ds ≤ 99)
theorem digs_nil (s : Tx) : digs s [] s := ⟨by simp, by simp, by simp [numV], by simp [numV], by simp, by simp⟩
theorem digs_step {s ds q : Tx} {b : UInt8} (h : digs s ds (b :: q)) (hl : ds.length < 3) (hb : digitB b.toNat = true) : digs s (ds ++ [b]) q := by
 obtain ⟨h1, h2, h3, h4, h5, h6⟩ := h
 have hr : 48 ≤ b.toNat ∧ b.toNat ≤ 57 := by simp [digitB] at hb; omega
 have e : 3 - ds.length = (3 - (ds ++ [b]).length) + 1 := by simp; omega
 rw [e, pWhile, if_pos hb] at h2
 refine ⟨by simp; omega, by rw [h2]; simp, ?_, by simp, ?_, ?_⟩
 ·rw [numV_snoc]; omega
 ·intro hh; rw [numV_snoc]; have := h4 (by simp at hh; simp [hh]); omega
 ·intro hh; rw [numV_snoc]; have := h5 (by simp at hh; omega); omega
theorem digs_end {s ds q : Tx} (h : digs s ds q) (he : ds.length = 3 ∨ q = [] ∨ ∃ b r, q = b :: r ∧ digitB b.toNat = false) : pWhile digitB 3 s = (ds, q) := by
 obtain ⟨h1, h2, -⟩ := h
 rw [h2]
 rcases he with he | rfl | ⟨b, r, rfl, hb⟩
 ·rw [he]; simp [pWhile]
 ·cases hn : 3 - ds.length <;> simp [pWhile]
 ·cases hn : 3 - ds.length <;> simp [pWhile, hb]
set_option maxHeartbeats 16000000 in
theorem readNumber_spec (t s : Tx) (o : Nat) (nm : AV) (ht : t.length ≤ 1000) (hs : s <:+ t) (σ : St) (ho : σ.obj o = rdS t s nm) (hn : o < σ.nobj) (h48 : ∀ b r, s = b :: r → ((b.toNat : Int) == 48) = false) :
  ACalls Tryz.prog 245 [ptr o 0] σ fun x σ' => KeepX o σ σ' ∧ ∃ q, σ'.obj o = rdS t q nm ∧ q <:+ t ∧ q = (pWhile digitB 3 s).2 ∧ x = sc (.int .i64 (numV (pWhile digitB 3 s).1)) := by
 have hp : pByte 48 s = .bad s := by
  cases s with
  | nil => rfl
  | cons b r => unfold pByte; simp only [h48 b r rfl]; simp
 have hT := take_suff t s o nm 48 ht hs σ ho hn
 rw [hp] at hT
 refine acalls 57 [.tmp 2] Tryz.func245 rfl (by decide) rfl rfl (Nat.le_of_ble_eq_true rfl) ?_
 repeat' (first
 |with_reducible first|apply Xa|apply Xb|(refine Xc ?_;intro κ hκ)|(apply hκ.out;clear hκ κ)|apply Xd|apply Xe|apply Xf
 |((with_reducible first|refine Xl ?_ ?_|refine Xm ?_ ?_|refine Xk ?_ ?_)<;> intro h hari<;> try exact Xp)
 |((with_reducible refine Xh ?_);refine Xi (hT) ?_;rintro _ _ ⟨hK1,rfl,hO1,-⟩)
 |refine Xr ?_
 |exact True.intro
 |((with_reducible refine Xg ?_);refine Xj ?_)
 |(apply hκ.out;clear hκ κ))
 rename_i σ1
 have hn1 : o < σ1.nobj := Nat.lt_of_lt_of_le hn hK1.nobj
 clear hT hp ho
 refine awp_loop (fun m s' σ' => ∃ (q ds : Tx), m = 3 - ds.length ∧ s' 0 = ptr o 0 ∧ s' 3 = sc (.int .i64 (numV ds)) ∧ s' 4 = sc (.int .i64 ds.length) ∧ KeepX o σ σ' ∧ σ'.obj o = rdS t q nm ∧ o < σ'.nobj ∧ q <:+ t ∧ Abs.Hid (digs s ds q)) 3
  ⟨s, [], rfl, rfl, rfl, rfl, hK1, hO1, hn1, hs, digs_nil s⟩ ?_
 rintro m s' σ' ⟨q, ds, rfl, h0, h3, h4, hK, hO, hn', hq, hD⟩
 clear hK1 hO1 hn1
 have hql := suff_len hq
 have hqg := suff_get hq
 have hD' := hD.out
 obtain ⟨d1, -, d3, d4, d5, d6⟩ := hD'
 unfold rdS rdr at hO
 repeat' (first
 |with_reducible first|apply Xa|apply Xb|(refine Xc ?_;intro κ hκ)|(apply hκ.out;clear hκ κ)|apply Xd|apply Xe|apply Xf
 |((with_reducible first|refine Xl ?_ ?_|refine Xm ?_ ?_|refine Xk ?_ ?_)<;> intro h hari<;> try exact Xp)
 |refine Xr ?_
 |exact True.intro
 |((with_reducible refine Xg ?_);refine Xj ?_)
 |(apply hκ.out;clear hκ κ))
 refine awp_draw_k follows_mixed (fun _ => True) [25] [0, 1, 2, 3, 4, 5, 6, 7, 8, 9, 10, 11, 12, 13, 14, 15, 16, 17, 18, 19, 20, 21, 22, 23] [24, 25] (by kernel_rfl) (fun _ _ _ h => h) ?_
 intro κ hκ
 cases q with
 | nil =>
  simp only [List.length_nil, Nat.sub_zero] at hO hqg hql
  refine Xr ?_
  repeat' (first
 |with_reducible first|apply Xa|apply Xb|(refine Xc ?_;intro κ hκ)|(apply hκ.out;clear hκ κ)|apply Xd|apply Xe|apply Xf
 |((with_reducible first|refine Xl ?_ ?_|refine Xm ?_ ?_|refine Xk ?_ ?_)<;> intro h hari<;> try exact Xp)
 |((with_reducible refine Xh ?_);refine Xi (isDigit_spec _ _) ?_;rintro _ _ ⟨rfl,rfl⟩)
 |refine Xr ?_
 |exact True.intro
 |((with_reducible refine Xg ?_);refine Xj ?_)
 |(apply hκ.out;clear hκ κ))
  all_goals
   have he := digs_end hD.out (.inr (.inl rfl))
   exact ⟨_, rfl, [], by simp [rdS, rdr], hq, by rw [he], by rw [he]⟩
 | cons b r =>
  simp only [List.length_cons, List.head?_cons] at hO hqg hql
  have hqr := suff_tail hq
  refine Xr ?_
  have hdr : digitB b.toNat = true → 48 ≤ (b.toNat : Int) ∧ (b.toNat : Int) ≤ 57 := fun h => by simp [digitB] at h; omega
  repeat' (first
 |with_reducible first|apply Xa|apply Xb|(refine Xc ?_;intro κ hκ)|(apply hκ.out;clear hκ κ)|apply Xd|apply Xe|apply Xf
 |((with_reducible first|refine Xl ?_ ?_|refine Xm ?_ ?_|refine Xk ?_ ?_)<;> intro h hari<;> try exact Xp)
 |((with_reducible refine Xh ?_);refine Xi (isDigit_spec _ _) ?_;rintro _ _ ⟨rfl,rfl⟩)
 |refine Xr ?_
 |exact True.intro
 |((with_reducible refine Xg ?_);refine Xj ?_)
 |(apply hκ.out;clear hκ κ))
  all_goals
   first
   | (have he := digs_end hD.out (.inr (.inr ⟨b, r, rfl, by assumption⟩))
      exact ⟨_, rfl, b :: r, by simp [rdS, rdr], hq, by rw [he], by rw [he]⟩)
   | (have he := digs_end hD.out (.inl (by omega))
      exact ⟨_, rfl, b :: r, by simp [rdS, rdr], hq, by rw [he], by rw [he]⟩)
   | skip
  have hdg : digitB b.toNat = true := by assumption
  have hdr := hdr hdg
  have hl3 : ds.length < 3 := by omega
  have hnv : numV ds ≤ 99 := by
   have : ds.length = 0 ∨ ds.length = 1 ∨ ds.length = 2 := by omega
   rcases this with h | h | h
   ·have := d4 h; omega
   ·have := d5 h; omega
   ·exact d6 h
  clear d4 d5 d6
  refine awp_draw_k follows_mixed (fun _ => True) [14] [0, 1, 2, 3, 4, 5, 6, 7, 8, 9, 10, 11, 12, 13] [14] (by kernel_rfl) (fun _ _ _ h => h) ?_
  intro κ hκ
  refine Xr ?_
  repeat' (first
 |with_reducible first|apply Xa|apply Xb|(refine Xc ?_;intro κ hκ)|(apply hκ.out;clear hκ κ)|apply Xd|apply Xe|apply Xf
 |((with_reducible first|refine Xl ?_ ?_|refine Xm ?_ ?_|refine Xk ?_ ?_)<;> intro h hari<;> try exact Xp)
 |refine Xr ?_
 |exact True.intro
 |((with_reducible refine Xg ?_);refine Xj ?_)
 |(apply hκ.out;clear hκ κ))
  have hw : IntKind.i64.wrap (numV ds * 10 + IntKind.i64.wrap (IntKind.u8.wrap ((b.toNat : Int) - 48))) = numV (ds ++ [b]) := by
   rw [Abs.u8w (by omega) (by omega), show IntKind.i64.wrap ((b.toNat : Int) - 48) = (b.toNat : Int) - 48 from Abs.i64w (by omega) (by omega), Abs.i64w (by omega) (by omega), numV_snoc]
  rw [hw]
  refine ⟨3 - (ds ++ [b]).length, by simp; omega, r, ds ++ [b], rfl, rfl, by simp, hK.put _, ?_, hqr, digs_step hD.out hl3 hdg⟩
  unfold rdS rdr
  rw [show ((t.length - (r.length + 1) : Nat) : Int) + 1 = ((t.length - r.length : Nat) : Int) by omega]
/- The program's reader: its state, what a step keeps, what it tells. -/
variable {Bd : Nat}
set_option linter.unusedSimpArgs false
set_option linter.unusedVariables false
set_option maxRecDepth 100000
/-! ### Readers -/
namespace Rd
def ok {α : Type} : Rd α → Bool
 | .bad _ => false
 | .got _ _ => true
def rest {α : Type} : Rd α → Tx
 | .bad e => e
 | .got _ r => r
def Val {α : Type} : Rd α → (α → Prop) → Prop
 | .bad _, _ => True
 | .got a _, P => P a
theorem ok_true {α : Type} {x : Rd α} (h : x.ok = true) : ∃ a r, x = .got a r := by
 cases x with
 | bad e => cases h
 | got a r => exact ⟨a, r, rfl⟩
theorem ok_false {α : Type} {x : Rd α} (h : x.ok = false) : ∃ e, x = .bad e := by
 cases x with
 | bad e => exact ⟨e, rfl⟩
 | got a r => cases h
theorem bnd_assoc {α β γ : Type} (x : Rd α) (f : α → Tx → Rd β) (g : β → Tx → Rd γ) : (x.bnd f).bnd g = x.bnd fun a r => (f a r).bnd g := by cases x <;> rfl
theorem Val.mono {α : Type} {x : Rd α} {P Q : α → Prop} (h : Val x P) (k : ∀ a, P a → Q a) : Val x Q := by
 cases x with
 | bad e => trivial
 | got a r => exact k a h
end Rd
def pSep {α : Type} (f : Tx → Rd α) (n : Nat) (s : Tx) : Rd (List α) := (f s).bnd fun x r => (pMore f n r).bnd fun xs r => .got (x :: xs) r
def sepI {α : Type} (f : Tx → Rd α) (n : Nat) (s : Tx) (xs : List α) (q : Tx) : Prop :=
 xs.length ≤ n + 1 ∧ 0 < xs.length ∧ pSep f n s = (pMore f (n + 1 - xs.length) q).bnd fun ys r => .got (xs ++ ys) r
theorem sepI.first {α : Type} {f : Tx → Rd α} {n : Nat} {s r : Tx} {x : α} (h : f s = .got x r) : sepI f n s [x] r := by
 refine ⟨by simp, by simp, ?_⟩
 unfold pSep
 rw [h]
 simp only [Rd.bnd, List.length_singleton, Nat.add_sub_cancel, List.singleton_append]
theorem sepI.none {α : Type} {f : Tx → Rd α} {n : Nat} {s e : Tx} (h : f s = .bad e) : pSep f n s = .bad e := by
 unfold pSep; rw [h]; rfl
theorem sepI.full {α : Type} {f : Tx → Rd α} {n : Nat} {s q : Tx} {xs : List α} (h : sepI f n s xs q) (hl : n + 1 ≤ xs.length) : pSep f n s = .got xs q := by
 rw [h.2.2, show n + 1 - xs.length = 0 by omega]
 simp [pMore, Rd.bnd]
theorem sepI.stop {α : Type} {f : Tx → Rd α} {n : Nat} {s q : Tx} {xs : List α} (h : sepI f n s xs q) (hb : (pByte 44 q).ok = false) : pSep f n s = .got xs q := by
 rw [h.2.2]
 cases hk : n + 1 - xs.length with
 | zero => simp [pMore, Rd.bnd]
 | succ k =>
  cases q with
  | nil => simp [pMore, Rd.bnd]
  | cons b r =>
   unfold pByte at hb; dsimp only at hb
   have hb2 : ((b.toNat : Int) == 44) = false := by
    by_cases hc : ((b.toNat : Int) == 44) = true
    ·rw [if_pos hc] at hb; cases hb
    ·simpa using hc
   unfold pMore
   rw [if_neg (by rw [hb2]; simp)]
   simp [Rd.bnd]
theorem sepI.fail {α : Type} {f : Tx → Rd α} {n : Nat} {s q r e : Tx} {xs : List α} {u : Unit} (h : sepI f n s xs q) (hl : xs.length < n + 1) (hb : pByte 44 q = .got u r) (hf : f r = .bad e) : pSep f n s = .bad e := by
 rw [h.2.2]
 obtain ⟨k, hk⟩ : ∃ k, n + 1 - xs.length = k + 1 := ⟨n - xs.length, by omega⟩
 rw [hk]
 cases q with
 | nil => cases hb
 | cons b q =>
  unfold pByte at hb; dsimp only at hb
  by_cases hc : ((b.toNat : Int) == 44) = true
  ·rw [if_pos hc] at hb
   cases hb
   rw [pMore, if_pos hc, hf]; rfl
  ·rw [if_neg hc] at hb; cases hb
theorem sepI.next {α : Type} {f : Tx → Rd α} {n : Nat} {s q r r2 : Tx} {xs : List α} {u : Unit} {x : α} (h : sepI f n s xs q) (hl : xs.length < n + 1) (hb : pByte 44 q = .got u r) (hf : f r = .got x r2) : sepI f n s (xs ++ [x]) r2 := by
 refine ⟨by simp; omega, by simp, ?_⟩
 rw [h.2.2]
 obtain ⟨k, hk⟩ : ∃ k, n + 1 - xs.length = k + 1 := ⟨n - xs.length, by omega⟩
 rw [hk, show n + 1 - (xs ++ [x]).length = k by simp; omega]
 cases q with
 | nil => cases hb
 | cons b q =>
  unfold pByte at hb; dsimp only at hb
  by_cases hc : ((b.toNat : Int) == 44) = true
  ·rw [if_pos hc] at hb
   cases hb
   rw [pMore, if_pos hc, hf]
   simp only [Rd.bnd]
   cases pMore f k r2 <;> simp [Rd.bnd]
  ·rw [if_neg hc] at hb; cases hb
/-! ### What is kept -/
structure KeepR (o id : Nat) (σ σ' : St) : Prop where
 nobj : σ.nobj ≤ σ'.nobj
 obj : ∀ p, p < σ.nobj → p ≠ o → σ'.obj p = σ.obj p
 ver : ∀ p, p < σ.nobj → p ≠ o → σ'.ver p = σ.ver p
 ntop : σ.ntop ≤ σ'.ntop
 top : ∀ k, k < σ.ntop → k + 2 ≠ id → σ'.top k = σ.top k
theorem KeepR.refl (o id : Nat) (σ : St) : KeepR o id σ σ := ⟨Nat.le_refl _, fun _ _ _ => rfl, fun _ _ _ => rfl, Nat.le_refl _, fun _ _ _ => rfl⟩
theorem KeepX.kr {o : Nat} {σ σ' : St} (h : KeepX o σ σ') (id : Nat) : KeepR o id σ σ' := ⟨h.nobj, h.obj, h.ver, h.ntop, fun k hk _ => h.top k hk⟩
theorem Keep.kr {σ σ' : St} (h : Keep σ σ') (o id : Nat) : KeepR o id σ σ' := ⟨h.nobj, fun p hp _ => h.obj p hp, fun p hp _ => h.ver p hp, h.ntop, fun k hk _ => h.top k hk⟩
theorem KeepR.trans {o id id' : Nat} {a b c : St} (h : KeepR o id a b) (hi : id' = id ∨ a.ntop + 2 ≤ id') (k : KeepR o id' b c) : KeepR o id a c :=
 ⟨Nat.le_trans h.nobj k.nobj, fun p hp hne => (k.obj p (Nat.lt_of_lt_of_le hp h.nobj) hne).trans (h.obj p hp hne), fun p hp hne => (k.ver p (Nat.lt_of_lt_of_le hp h.nobj) hne).trans (h.ver p hp hne),
  Nat.le_trans h.ntop k.ntop, fun j hj hne => (k.top j (Nat.lt_of_lt_of_le hj h.ntop) (by omega)).trans (h.top j hj hne)⟩
theorem KeepR.put {o id : Nat} {σ σ' : St} (h : KeepR o id σ σ') (cs : List AV) : KeepR o id σ (σ'.put o cs) :=
 ⟨h.nobj, fun p hp hne => by simp [St.put, hne]; exact h.obj p hp hne, fun p hp hne => by simp [St.put, hne]; exact h.ver p hp hne, h.ntop, h.top⟩
theorem KeepR.lay {o id : Nat} {a b : St} (h : KeepR o id a b) (n : Nat) : KeepR o id a (b.lay n) := by
 have := h.ntop
 exact ⟨h.nobj, h.obj, h.ver, by simp [St.lay]; omega, fun k hk hne => by simp [St.lay]; rw [if_neg (by omega)]; exact h.top k hk hne⟩
theorem KeepR.new {o id : Nat} {a b : St} (h : KeepR o id a b) (cs : List AV) : KeepR o id a (b.new cs) := by
 have := h.nobj
 exact ⟨by simp [St.new]; omega, fun p hp hne => by simp [St.new]; rw [if_neg (by omega)]; exact h.obj p hp hne, h.ver, h.ntop, h.top⟩
theorem KeepR.raise {o id : Nat} {a b : St} (h : KeepR o id a b) {k : Nat} (hk : a.ntop ≤ k ∨ k + 2 = id) (n : Nat) : KeepR o id a (b.raise k n) :=
 ⟨h.nobj, h.obj, h.ver, h.ntop, fun j hj hne => by simp [St.raise]; rw [if_neg (by omega)]; exact h.top j hj hne⟩
theorem KeepR.keep {o id : Nat} {a b c : St} (h : Keep a b) (k : KeepR o id b c) (ho : a.nobj ≤ o) (hi : id < 2 ∨ a.ntop + 2 ≤ id) : Keep a c :=
 ⟨Nat.le_trans h.nobj k.nobj, fun p hp => (k.obj p (Nat.lt_of_lt_of_le hp h.nobj) (by omega)).trans (h.obj p hp), fun p hp => (k.ver p (Nat.lt_of_lt_of_le hp h.nobj) (by omega)).trans (h.ver p hp),
  Nat.le_trans h.ntop k.ntop, fun j hj => (k.top j (Nat.lt_of_lt_of_le hj h.ntop) (by omega)).trans (h.top j hj)⟩
def OwnN (σ : St) (id n : Nat) : Prop := (id = 1 ∧ n = 0) ∨ ∃ k, id = k + 2 ∧ k < σ.ntop ∧ σ.top k = n ∧ 0 < n
theorem OwnN.keepX {o : Nat} {σ σ' : St} {id n : Nat} (h : OwnN σ id n) (k : KeepX o σ σ') : OwnN σ' id n := by
 rcases h with h | ⟨j, h1, h3, h4, h5⟩
 ·exact .inl h
 ·exact .inr ⟨j, h1, Nat.lt_of_lt_of_le h3 k.ntop, (k.top j h3).trans h4, h5⟩
theorem Own.keepR {o idn : Nat} {σ0 σ σ' : St} {id n : Nat} (h : Own σ0 σ id n) (k : KeepR o idn σ σ') (hne : id = 1 ∨ id ≠ idn) : Own σ0 σ' id n := by
 rcases h with h | ⟨j, h1, h2, h3, h4, h5⟩
 ·exact .inl h
 ·exact .inr ⟨j, h1, h2, Nat.lt_of_lt_of_le h3 k.ntop, (k.top j h3 (by omega)).trans h4, h5⟩
theorem OwnN.keepR {o idn : Nat} {σ σ' : St} {id n : Nat} (h : OwnN σ id n) (k : KeepR o idn σ σ') (hne : id = 1 ∨ id ≠ idn) : OwnN σ' id n := by
 rcases h with h | ⟨j, h1, h3, h4, h5⟩
 ·exact .inl h
 ·exact .inr ⟨j, h1, Nat.lt_of_lt_of_le h3 k.ntop, (k.top j h3 (by omega)).trans h4, h5⟩
theorem lay_old {σ : St} {n k : Nat} (h : k < σ.ntop) : (σ.lay n).top k = σ.top k := by simp [St.lay]; intro e; omega
theorem raise_old {σ : St} {n k j : Nat} (h : j ≠ k) : (σ.raise k n).top j = σ.top j := by simp [St.raise, h]
theorem aApp_ownR {P : Program} {t : TypeId} {z b : Nat} {zc : List Value} {σ0 σ : St} {o idn id id2 n m m' : Nat} {xs ys : List AV} {K : AV → St → Prop} (ht : tez P t = some (z, b, zc)) (hK : KeepR o idn σ0 σ) (hO : Own σ0 σ id n)
  (hz : 0 < z) (hzc : zc.length = z) (hx : xs.length = n * z) (hy : ys.length = m * z) (hf : ys.all flat = true) (hm : 0 < m) (hb : (n + m) * b ≤ 140737488355328) (hl : n + m ≤ 1099511627776)
  (h : ∀ id' σ', Own σ0 σ' id' (n + m) → KeepR o idn σ0 σ' → σ'.obj = σ.obj → σ'.nobj = σ.nobj → σ'.ver = σ.ver → σ.ntop < σ'.ntop → (∀ k, k < σ.ntop → k + 2 ≠ id → σ'.top k = σ.top k) → (id' = id ∨ σ.ntop + 2 ≤ id') → K (sl id' (n + m) (xs ++ ys)) σ') : aApp P t t (sl id n xs) (sl id2 m ys) (σ.lay m') K := by
 unfold aApp aapp
 left
 simp only [ht]
 rw [if_pos ⟨trivial, hz, hzc, hx, hy, hf, hm, hb, hl⟩]
 rcases hO with ⟨rfl, rfl⟩ | ⟨k, rfl, h2, h3, h4, h5⟩
 ·have hxs : xs = [] := List.eq_nil_of_length_eq_zero (by simpa using hx)
  subst hxs
  have hn0 := hK.ntop
  have := h ((σ.lay m').ntop + 2) ((σ.lay m').lay m) (by rw [Nat.zero_add]; exact .inr ⟨(σ.lay m').ntop, rfl, by simp [St.lay]; omega, by simp [St.lay], by simp [St.lay], hm⟩) ((hK.lay m').lay m) rfl rfl rfl (by simp [St.lay]; omega)
   (fun j hj _ => by rw [lay_old (by rw [lay_ntop]; omega), lay_old hj]) (by rw [lay_ntop]; omega)
  simpa using this
 ·have e1 : (σ.lay m').top k = n := by simp [St.lay]; rw [if_neg (by omega)]; exact h4
  simp only
  rw [if_pos ⟨e1, h5⟩]
  exact h (k + 2) _ (.inr ⟨k, rfl, h2, by simp [St.raise, St.lay]; omega, by simp [St.raise], by omega⟩) ((hK.lay m').raise (.inl h2) _) rfl rfl rfl (by simp [St.raise, St.lay])
   (fun j hj hne => by rw [raise_old (by omega), lay_old hj]) (.inl rfl)
theorem aApp_names {P : Program} {t : TypeId} {z b : Nat} {zc : List Value} {σ0 σ : St} {o id id2 n m m' : Nat} {xs ys : List AV} {K : AV → St → Prop} (ht : tez P t = some (z, b, zc)) (hO : OwnN σ id n)
  (hz : 0 < z) (hzc : zc.length = z) (hx : xs.length = n * z) (hy : ys.length = m * z) (hf : ys.all flat = true) (hm : 0 < m) (hb : (n + m) * b ≤ 140737488355328) (hl : n + m ≤ 1099511627776)
  (h : ∀ id' σ', OwnN σ' id' (n + m) → KeepR o id σ σ' → σ'.obj = σ.obj → σ'.nobj = σ.nobj → σ'.ver = σ.ver → (id' = id ∨ σ.ntop + 2 ≤ id') → K (sl id' (n + m) (xs ++ ys)) σ') : aApp P t t (sl id n xs) (sl id2 m ys) (σ.lay m') K := by
 unfold aApp aapp
 left
 simp only [ht]
 rw [if_pos ⟨trivial, hz, hzc, hx, hy, hf, hm, hb, hl⟩]
 have hR := KeepR.refl o id σ
 rcases hO with ⟨rfl, rfl⟩ | ⟨k, rfl, h3, h4, h5⟩
 ·have hxs : xs = [] := List.eq_nil_of_length_eq_zero (by simpa using hx)
  subst hxs
  have := h ((σ.lay m').ntop + 2) ((σ.lay m').lay m) (by rw [Nat.zero_add]; exact .inr ⟨(σ.lay m').ntop, rfl, by simp [St.lay], by simp [St.lay], hm⟩) ((hR.lay m').lay m) rfl rfl rfl (by rw [lay_ntop]; omega)
  simpa using this
 ·have e1 : (σ.lay m').top k = n := by simp [St.lay]; rw [if_neg (by omega)]; exact h4
  simp only
  rw [if_pos ⟨e1, h5⟩]
  exact h (k + 2) _ (.inr ⟨k, rfl, by simp [St.raise, St.lay]; omega, by simp [St.raise], by omega⟩) ((hR.lay m').raise (.inr rfl) _) rfl rfl rfl (.inl rfl)
/-! ### The reader's state -/
structure RS (Bd : Nat) (t : Tx) (o : Nat) (N : List Tx) (id : Nat) (s : Tx) (σ : St) : Prop where
 obj : σ.obj o = rdS t s (sl id N.length (N.map str))
 lt : o < σ.nobj
 own : OwnN σ id N.length
 suf : s <:+ t
 len : N.length + s.length ≤ Bd + t.length ∧ Bd ≤ 1000
structure Rs (o : Nat) (σ : St) (id : Nat) (σ' : St) (id' : Nat) : Prop where
 keep : KeepR o id σ σ'
 nid : id' = id ∨ σ.ntop + 2 ≤ id'
theorem Rs.refl (o : Nat) (σ : St) (id : Nat) : Rs o σ id σ id := ⟨KeepR.refl _ _ _, .inl rfl⟩
theorem Rs.trans {o : Nat} {a b c : St} {i j k : Nat} (h : Rs o a i b j) (g : Rs o b j c k) : Rs o a i c k :=
 ⟨h.keep.trans h.nid g.keep, by have := h.keep.ntop; rcases h.nid with h1 | h1 <;> rcases g.nid with h2 | h2 <;> omega⟩
theorem Rs.ofX {o : Nat} {a b : St} {i : Nat} (h : KeepX o a b) : Rs o a i b i := ⟨h.kr i, .inl rfl⟩
theorem RS.stepX {t : Tx} {o : Nat} {N : List Tx} {id : Nat} {s r : Tx} {σ σ' : St} (h : RS Bd t o N id s σ) (k : KeepX o σ σ') (ho : σ'.obj o = rdS t r (sl id N.length (N.map str))) (hr : r <:+ t) (hl : r.length ≤ s.length) : RS Bd t o N id r σ' :=
 ⟨ho, Nat.lt_of_lt_of_le h.lt k.nobj, h.own.keepX k, hr, by have := h.len; omega⟩
theorem pByte_rest (c : Int) (s : Tx) : (pByte c s).rest <:+ s := by
 cases s with
 | nil => exact List.suffix_refl _
 | cons b r =>
  unfold pByte; dsimp only; split
  ·exact List.suffix_cons b r
  ·exact List.suffix_refl _
theorem take_R {t : Tx} {o : Nat} {N : List Tx} {id : Nat} {s : Tx} {c : Int} {σ : St} (ht : t.length ≤ 1000) (h : RS Bd t o N id s σ) :
  ACalls Tryz.prog 126 [ptr o 0, sc (.int .u8 c)] σ fun x σ' => x = sc (.bool (pByte c s).ok) ∧ KeepX o σ σ' ∧ RS Bd t o N id (pByte c s).rest σ' := by
 refine ACalls.mono (take_suff t s o _ c ht h.suf σ h.obj h.lt) ?_
 rintro x σ' ⟨hK, hm⟩
 have hr := pByte_rest c s
 have hl := hr.length_le
 have hs := hr.trans h.suf
 cases hp : pByte c s with
 | bad e =>
  rw [hp] at hm hr hl hs
  obtain ⟨rfl, hO, rfl⟩ := hm
  exact ⟨rfl, hK, h.stepX hK hO hs hl⟩
 | got u r =>
  rw [hp] at hm hr hl hs
  obtain ⟨rfl, hO, -⟩ := hm
  exact ⟨rfl, hK, h.stepX hK hO hs hl⟩
end Go.Proofs.YtmoeoppbmhfbpaaGreatDoorB
