import Derived.Test.YtmoeoppbmhfbpaaGreatDoorBProgA
/- The program's reader: terms. -/
namespace Go.Proofs.YtmoeoppbmhfbpaaGreatDoorB
open Go.Abs
variable {Bd : Nat}
set_option linter.unusedSimpArgs false
set_option linter.unusedVariables false
set_option maxRecDepth 100000
theorem KeepX.new {o : Nat} {σ σ' : St} (h : KeepX o σ σ') (cs : List AV) : KeepX o σ (σ'.new cs) := by
 have := h.nobj
 exact ⟨by simp [St.new]; omega, fun p hp hne => by simp [St.new]; rw [if_neg (by omega)]; exact h.obj p hp hne, h.ver, h.ntop, h.top⟩
theorem KeepX.putN {o p : Nat} {σ σ' : St} (h : KeepX o σ σ') (hp : σ.nobj ≤ p) (cs : List AV) : KeepX o σ (σ'.put p cs) :=
 ⟨h.nobj, fun q hq hne => by simp [St.put]; rw [if_neg (by omega)]; exact h.obj q hq hne, fun q hq hne => by simp [St.put]; rw [if_neg (by omega)]; exact h.ver q hq hne, h.ntop, h.top⟩
theorem KeepX.lay {o : Nat} {a b : St} (h : KeepX o a b) (n : Nat) : KeepX o a (b.lay n) := by
 have := h.ntop
 exact ⟨h.nobj, h.obj, h.ver, by simp [St.lay]; omega, fun k hk => by simp [St.lay]; rw [if_neg (by omega)]; exact h.top k hk⟩
def encT : Tx → Bool × Int
 | [] => (false, 0)
 | b :: r => if largeB b.toNat = true then (true, (b.toNat : Int) - 65) else (false, numV (b :: r))
theorem encT_large {b : UInt8} {r : Tx} (h : largeB b.toNat = true) : encT (b :: r) = (true, (b.toNat : Int) - 65) := by unfold encT; dsimp only; rw [if_pos h]
theorem encT_num {b : UInt8} {r : Tx} (h : largeB b.toNat = false) : encT (b :: r) = (false, numV (b :: r)) := by unfold encT; dsimp only; rw [if_neg (by rw [h]; simp)]
def tcell (x : Tx) : List AV := [sc (.bool (encT x).1), sc (.int .i64 (encT x).2)]
def tcells (ts : List Tx) : List AV := ts.flatMap tcell
theorem tcells_len (ts : List Tx) : (tcells ts).length = ts.length * 2 := by
 induction ts with
 | nil => rfl
 | cons a l ih => unfold tcells at *; rw [List.flatMap_cons, List.length_append, ih]; simp [tcell]; omega
theorem tcells_snoc (ts : List Tx) (x : Tx) : tcells (ts ++ [x]) = tcells ts ++ tcell x := by simp [tcells]
theorem pWhile_rest (p : Int → Bool) (n : Nat) (s : Tx) : (pWhile p n s).2 <:+ s := ⟨(pWhile p n s).1, (pWhile_took p n s).1.symm⟩
theorem pTerm_rest (s : Tx) : (pTerm s).rest <:+ s := by
 cases s with
 | nil => exact List.suffix_refl _
 | cons b r =>
  unfold pTerm; dsimp only
  split
  ·exact List.suffix_cons b r
  split
  ·exact List.suffix_cons b r
  split
  ·exact (pWhile_rest digitB 2 r).trans (List.suffix_cons b r)
  ·exact List.suffix_refl _
set_option maxHeartbeats 4000000 in
theorem readZero_spec (t r : Tx) (b : UInt8) (o : Nat) (nm : AV) (ht : t.length ≤ 1000) (hs : (b :: r) <:+ t) (σ : St) (ho : σ.obj o = rdS t (b :: r) nm) (hn : o < σ.nobj) (h48 : ((b.toNat : Int) == 48) = true) :
  ACalls Tryz.prog 245 [ptr o 0] σ fun x σ' => KeepX o σ σ' ∧ σ'.obj o = rdS t r nm ∧ x = sc (.int .i64 0) := by
 have hp : pByte 48 (b :: r) = .got () r := by unfold pByte; dsimp only; rw [if_pos h48]
 have hT := take_suff t (b :: r) o nm 48 ht hs σ ho hn
 rw [hp] at hT
 refine acalls 57 [.tmp 2] Tryz.func245 rfl (by decide) rfl rfl (Nat.le_of_ble_eq_true rfl) ?_
 repeat' (first
 |with_reducible first|apply Xa|apply Xb|(refine Xc ?_;intro κ hκ)|(apply hκ.out;clear hκ κ)|apply Xd|apply Xe|apply Xf
 |((with_reducible first|refine Xl ?_ ?_|refine Xm ?_ ?_|refine Xk ?_ ?_)<;> intro h hari<;> try exact Xp)
 |((with_reducible refine Xh ?_);refine Xi (hT) ?_;rintro _ _ ⟨hK1,rfl,hO1,-⟩)
 |refine Xr ?_
 |exact True.intro
 |((with_reducible refine Xg ?_);refine Xj ?_)
 |(apply hκ.out;clear hκ κ))
 first | exact ⟨_, rfl, hK1, hO1, rfl⟩ | exact ⟨_, rfl, hK1, hO1⟩ | exact ⟨_, rfl, hK1, rfl⟩ | exact ⟨_, rfl, rfl⟩
set_option maxHeartbeats 16000000 in
theorem readTerm_R {t : Tx} {o : Nat} {N : List Tx} {id : Nat} {s : Tx} {σ : St} (ht : t.length ≤ 1000) (hR : RS Bd t o N id s σ) :
  ACalls Tryz.prog 209 [ptr o 0] σ fun x σ' => ∃ v k, x = tp [ag [sc (.bool v), sc (.int .i64 k)], sc (.bool (pTerm s).ok)] ∧ KeepX o σ σ' ∧ RS Bd t o N id (pTerm s).rest σ' ∧ Rd.Val (pTerm s) fun w => encT w = (v, k) := by
 have hR' : Abs.Hid (RS Bd t o N id s σ) := hR
 obtain ⟨ho, hn, -, hs, -⟩ := hR
 have hsl := suff_len hs
 have hsg := suff_get hs
 have hrl : Abs.Hid ((pTerm s).rest.length ≤ s.length) := (pTerm_rest s).length_le
 have hrs : Abs.Hid ((pTerm s).rest <:+ t) := (pTerm_rest s).trans hs
 generalize hnm : sl id N.length (N.map str) = nm at ho
 have hnm : Abs.Hid (sl id N.length (N.map str) = nm) := hnm
 have ho' : Abs.Hid (σ.obj o = rdS t s nm) := ho
 unfold rdS rdr at ho
 refine acalls 46 [.cell 2 101, .tmp 3] Tryz.func209 rfl (by decide) rfl rfl (Nat.le_of_ble_eq_true rfl) ?_
 repeat' (first
 |with_reducible first|apply Xa|apply Xb|(refine Xc ?_;intro κ hκ)|(apply hκ.out;clear hκ κ)|apply Xd|apply Xe|apply Xf
 |((with_reducible first|refine Xl ?_ ?_|refine Xm ?_ ?_|refine Xk ?_ ?_)<;> intro h hari<;> try exact Xp)
 |refine Xr ?_
 |exact True.intro
 |((with_reducible refine Xg ?_);refine Xj ?_)
 |(apply hκ.out;clear hκ κ))
 refine awp_draw_k follows_mixed (fun _ => True) [9] [0, 1, 2, 3, 4, 5, 6, 7, 8] [9] (by kernel_rfl) (fun _ _ _ h => h) ?_
 intro κ hκ
 cases s with
 | nil =>
  simp only [List.length_nil, Nat.sub_zero] at ho hsg hsl
  refine Xr ?_
  repeat' (first
 |with_reducible first|apply Xa|apply Xb|(refine Xc ?_;intro κ hκ)|(apply hκ.out;clear hκ κ)|apply Xd|apply Xe|apply Xf
 |((with_reducible first|refine Xl ?_ ?_|refine Xm ?_ ?_|refine Xk ?_ ?_)<;> intro h hari<;> try exact Xp)
 |refine Xr ?_
 |exact True.intro
 |((with_reducible refine Xg ?_);refine Xj ?_)
 |(apply hκ.out;clear hκ κ))
  have hK : KeepX o σ ((σ.new [sc (.bool false), sc (.int .i64 0)]).put σ.nobj [sc (.bool false), sc (.int .i64 0)]) := ((KeepX.refl _ _).new _).putN (Nat.le_refl _) _
  refine ⟨_, rfl, false, 0, rfl, hK, hR'.out.stepX hK ?_ hrs.out hrl.out, trivial⟩
  rw [hnm.out, put_ne hn, new_lt hn]; exact ho'.out
 | cons b r =>
  simp only [List.length_cons, List.head?_cons] at ho hsg hsl
  refine Xr ?_
  repeat' (first
 |with_reducible first|apply Xa|apply Xb|(refine Xc ?_;intro κ hκ)|(apply hκ.out;clear hκ κ)|apply Xd|apply Xe|apply Xf
 |((with_reducible first|refine Xl ?_ ?_|refine Xm ?_ ?_|refine Xk ?_ ?_)<;> intro h hari<;> try exact Xp)
 |refine Xr ?_
 |exact True.intro
 |((with_reducible refine Xg ?_);refine Xj ?_)
 |(apply hκ.out;clear hκ κ))
  refine awp_draw_k follows_mixed (fun _ => True) [9] [0, 1, 2, 3, 4, 5, 6, 7, 8] [9] (by kernel_rfl) (fun _ _ _ h => h) ?_
  intro κ hκ
  refine Xr ?_
  have hdr : digitB b.toNat = true → 48 ≤ (b.toNat : Int) ∧ (b.toNat : Int) ≤ 57 := fun h => by simp [digitB] at h; omega
  have hcr : largeB b.toNat = true → 65 ≤ (b.toNat : Int) ∧ (b.toNat : Int) ≤ 90 := fun h => by simp [largeB] at h; omega
  have ho1 : Abs.Hid ((σ.new [sc (.bool false), sc (.int .i64 0)]).obj o = rdS t (b :: r) nm) := by rw [Abs.Hid, new_lt hn]; exact ho'.out
  have hn1 : o < (σ.new [sc (.bool false), sc (.int .i64 0)]).nobj := by rw [new_nobj]; omega
  have hK0 : Abs.Hid (KeepX o σ (σ.new [sc (.bool false), sc (.int .i64 0)])) := (KeepX.refl _ _).new _
  by_cases h48 : ((b.toNat : Int) == 48) = true
  ·have hl : largeB b.toNat = false := by
    cases hl : largeB b.toNat with
    | false => rfl
    | true => have := hcr hl; simp at h48; omega
   have hd : digitB b.toNat = true := by simp at h48; simp [digitB]; omega
   have hp : pTerm (b :: r) = .got [b] r := by
    unfold pTerm; dsimp only; rw [if_neg (by rw [hl]; simp), if_pos h48]
   rw [hp] at hrl hrs
   have hE : Abs.Hid (encT [b] = (false, 0)) := by
    rw [Abs.Hid, encT_num hl]; simp at h48; simp [numV]; omega
   repeat' (first
 |with_reducible first|apply Xa|apply Xb|(refine Xc ?_;intro κ hκ)|(apply hκ.out;clear hκ κ)|apply Xd|apply Xe|apply Xf
 |((with_reducible first|refine Xl ?_ ?_|refine Xm ?_ ?_|refine Xk ?_ ?_)<;> intro h hari<;> try exact Xp)
 |((with_reducible refine Xh ?_);first|(refine Xi (isCapital_spec _ _) ?_;rintro _ _ ⟨rfl,rfl⟩)|(refine Xi (isDigit_spec _ _) ?_;rintro _ _ ⟨rfl,rfl⟩)|(refine Xi (readZero_spec t r b o nm ht hs _ ho1.out hn1 h48) ?_;rintro _ _ ⟨hK1,hO1,rfl⟩;(have hob:=hK1.obj σ.nobj (by rw [new_nobj];omega) (by omega);rw [new_same] at hob;have HK1 : Abs.Hid _:=hK1;have HO1 : Abs.Hid _:=hO1;clear hK1 hO1)))
 |refine Xr ?_
 |exact True.intro
 |((with_reducible refine Xg ?_);refine Xj ?_)
 |(apply hκ.out;clear hκ κ))
   rename_i σ1
   have hK : KeepX o σ (σ1.put σ.nobj [sc (.bool false), sc (.int .i64 0)]) := (hK0.out.trans HK1.out).putN (Nat.le_refl _) _
   refine ⟨_, rfl, false, 0, rfl, hK, hR'.out.stepX hK ?_ hrs.out hrl.out, hE.out⟩
   rw [hnm.out, put_ne hn]; exact HO1.out
  ·have h48 : ((b.toNat : Int) == 48) = false := by simpa using h48
   by_cases hl : largeB b.toNat = true
   ·have hp : pTerm (b :: r) = .got [b] r := by
     unfold pTerm; dsimp only; rw [if_pos hl]
    rw [hp] at hrl hrs
    have hE : Abs.Hid (encT [b] = (true, (b.toNat : Int) - 65)) := by
     exact encT_large hl
    have hcr := hcr hl
    have hw : IntKind.i64.wrap (IntKind.u8.wrap ((b.toNat : Int) - 65)) = (b.toNat : Int) - 65 := by
     rw [Abs.u8w (by omega) (by omega), Abs.i64w (by omega) (by omega)]
    repeat' (first
 |with_reducible first|apply Xa|apply Xb|(refine Xc ?_;intro κ hκ)|(apply hκ.out;clear hκ κ)|apply Xd|apply Xe|apply Xf
 |((with_reducible first|refine Xl ?_ ?_|refine Xm ?_ ?_|refine Xk ?_ ?_)<;> intro h hari<;> try exact Xp)
 |((with_reducible refine Xh ?_);refine Xi (isCapital_spec _ _) ?_;rintro _ _ ⟨rfl,rfl⟩)
 |refine Xr ?_
 |exact True.intro
 |((with_reducible refine Xg ?_);refine Xj ?_)
 |(apply hκ.out;clear hκ κ))
    have hK : KeepX o σ (((σ.new [sc (.bool false), sc (.int .i64 0)]).put o [str t, sc (.int .i64 ((t.length - (r.length + 1) : Nat) + 1)), nm]).put σ.nobj [sc (.bool true), sc (.int .i64 ((b.toNat : Int) - 65))]) := (hK0.out.put _).putN (Nat.le_refl _) _
    refine ⟨_, rfl, true, _, rfl, hK, hR'.out.stepX hK ?_ hrs.out hrl.out, hE.out⟩
    rw [hnm.out, put_ne hn, put_same]
    unfold rdS rdr
    rw [show ((t.length - (r.length + 1) : Nat) : Int) + 1 = ((t.length - r.length : Nat) : Int) by omega]
    rfl
   ·have hl : largeB b.toNat = false := by simpa using hl
    by_cases hd : digitB b.toNat = true
    ·have hN := readNumber_spec t (b :: r) o nm ht hs _ ho1.out hn1 (fun b' r' e => by cases e; exact h48)
     have hw : pWhile digitB 3 (b :: r) = (b :: (pWhile digitB 2 r).1, (pWhile digitB 2 r).2) := by rw [pWhile, if_pos hd]
     rw [hw] at hN
     have hN : Abs.Hid _ := hN
     have hni : nineB b.toNat = true := by
      rcases digit_iff.1 hd with h | h
      ·exact h
      ·rw [h48] at h; cases h
     have hp : pTerm (b :: r) = .got (b :: (pWhile digitB 2 r).1) (pWhile digitB 2 r).2 := by
      unfold pTerm; dsimp only; rw [if_neg (by rw [hl]; simp), if_neg (by rw [h48]; simp), if_pos hni]
     rw [hp] at hrl hrs
     have hE : Abs.Hid (encT (b :: (pWhile digitB 2 r).1) = (false, numV (b :: (pWhile digitB 2 r).1))) := by
      exact encT_num hl
     clear hw
     repeat' (first
 |with_reducible first|apply Xa|apply Xb|(refine Xc ?_;intro κ hκ)|(apply hκ.out;clear hκ κ)|apply Xd|apply Xe|apply Xf
 |((with_reducible first|refine Xl ?_ ?_|refine Xm ?_ ?_|refine Xk ?_ ?_)<;> intro h hari<;> try exact Xp)
 |((with_reducible refine Xh ?_);first|(refine Xi (isCapital_spec _ _) ?_;rintro _ _ ⟨rfl,rfl⟩)|(refine Xi (isDigit_spec _ _) ?_;rintro _ _ ⟨rfl,rfl⟩)|(refine Xi (hN.out) ?_;rintro _ _ ⟨hK1,q,hO1,hq,hq2,rfl⟩;(have hob:=hK1.obj σ.nobj (by rw [new_nobj];omega) (by omega);rw [new_same] at hob;have HK1 : Abs.Hid _:=hK1;have HO1 : Abs.Hid _:=hO1;have HQ : Abs.Hid _:=hq2;clear hK1 hO1 hq2)))
 |refine Xr ?_
 |exact True.intro
 |((with_reducible refine Xg ?_);refine Xj ?_)
 |(apply hκ.out;clear hκ κ))
     rename_i σ1
     have hK : KeepX o σ (σ1.put σ.nobj [sc (.bool false), sc (.int .i64 (numV (b :: (pWhile digitB 2 r).1)))]) := (hK0.out.trans HK1.out).putN (Nat.le_refl _) _
     refine ⟨_, rfl, false, _, rfl, hK, hR'.out.stepX hK ?_ hrs.out hrl.out, hE.out⟩
     rw [hnm.out, put_ne hn, show (Rd.got (b :: (pWhile digitB 2 r).1) (pWhile digitB 2 r).2).rest = q from HQ.out.symm]; exact HO1.out
    ·have hd : digitB b.toNat = false := by simpa using hd
     have hni : nineB b.toNat = false := by
      cases hni : nineB b.toNat with
      | false => rfl
      | true => rw [digit_iff.2 (.inl hni)] at hd; cases hd
     have hp : pTerm (b :: r) = .bad (b :: r) := by
      unfold pTerm; dsimp only; rw [if_neg (by rw [hl]; simp), if_neg (by rw [h48]; simp), if_neg (by rw [hni]; simp)]
     rw [hp] at hrl hrs
     repeat' (first
 |with_reducible first|apply Xa|apply Xb|(refine Xc ?_;intro κ hκ)|(apply hκ.out;clear hκ κ)|apply Xd|apply Xe|apply Xf
 |((with_reducible first|refine Xl ?_ ?_|refine Xm ?_ ?_|refine Xk ?_ ?_)<;> intro h hari<;> try exact Xp)
 |((with_reducible refine Xh ?_);first|(refine Xi (isCapital_spec _ _) ?_;rintro _ _ ⟨rfl,rfl⟩)|(refine Xi (isDigit_spec _ _) ?_;rintro _ _ ⟨rfl,rfl⟩))
 |refine Xr ?_
 |exact True.intro
 |((with_reducible refine Xg ?_);refine Xj ?_)
 |(apply hκ.out;clear hκ κ))
     have hK : KeepX o σ ((σ.new [sc (.bool false), sc (.int .i64 0)]).put σ.nobj [sc (.bool false), sc (.int .i64 0)]) := hK0.out.putN (Nat.le_refl _) _
     refine ⟨_, rfl, false, 0, rfl, hK, hR'.out.stepX hK ?_ hrs.out hrl.out, trivial⟩
     rw [hnm.out, put_ne hn]; exact ho1.out
/- The program's reader: predicates. -/
variable {Bd : Nat}
set_option linter.unusedSimpArgs false
set_option linter.unusedVariables false
set_option maxRecDepth 100000
def ins (N : List Tx) (n : Tx) : List Tx := if n ∈ N then N else N ++ [n]
theorem ins_mem (N : List Tx) (n : Tx) : n ∈ ins N n := by unfold ins; split <;> simp_all
theorem ins_pre (N : List Tx) (n : Tx) : N <+: ins N n := by
 unfold ins; split
 ·exact List.prefix_refl _
 ·exact List.prefix_append _ _
theorem idx_pre {N N' : List Tx} {n : Tx} (h : N <+: N') (hm : n ∈ N) : N'.idxOf n = N.idxOf n := by
 obtain ⟨r, rfl⟩ := h
 rw [List.idxOf_append, if_pos hm]
theorem ins_idx (N : List Tx) (n : Tx) : (ins N n).idxOf n = N.idxOf n := by
 unfold ins; split
 ·rfl
 ·rename_i h
  rw [List.idxOf_append, if_neg h, List.idxOf_eq_length h]; simp
theorem idx_first : ∀ {N : List Tx} {i : Nat} {n : Tx}, (∀ a, a < i → N[a]? ≠ some n) → N[i]? = some n → N.idxOf n = i
 | [], i, n, h, hi => by simp at hi
 | x :: N, 0, n, h, hi => by simp at hi; subst hi; simp
 | x :: N, i + 1, n, h, hi => by
  have h0 := h 0 (by omega)
  have ih := idx_first (N := N) (i := i) (n := n) (fun a ha => by have := h (a + 1) (by omega); simpa using this) (by simpa using hi)
  have hx : (x == n) = false := by
   simp at h0
   simpa using h0
  rw [List.idxOf_cons, hx, ih]; rfl
theorem not_mem_of {N : List Tx} {n : Tx} (h : ∀ a, a < N.length → N[a]? ≠ some n) : n ∉ N := fun hm => by
 obtain ⟨i, hi, he⟩ := List.getElem_of_mem hm
 exact h i hi (by rw [List.getElem?_eq_getElem hi, he])
set_option maxHeartbeats 16000000 in
theorem place_R {t : Tx} {o : Nat} {N : List Tx} {id : Nat} {s : Tx} {σ : St} (n : Tx) (ht : t.length ≤ 1000) (hR : RS Bd t o N id s σ) (hl : N.length + 1 + s.length ≤ Bd + t.length) :
  ACalls Tryz.prog 208 [ptr o 0, str n] σ fun x σ' => ∃ id', x = sc (.int .i64 (N.idxOf n : Nat)) ∧ Rs o σ id σ' id' ∧ RS Bd t o (ins N n) id' s σ' := by
 have hR' : Abs.Hid (RS Bd t o N id s σ) := hR
 obtain ⟨ho, hn, hown, hs, hlen⟩ := hR
 have HOwn : Abs.Hid (OwnN σ id N.length) := hown
 clear hown
 have hsl := suff_len hs
 unfold rdS rdr at ho
 refine acalls 38 [.tmp 4] Tryz.func208 rfl (by decide) rfl rfl (Nat.le_of_ble_eq_true rfl) ?_
 repeat' (first
 |with_reducible first|apply Xa|apply Xb|(refine Xc ?_;intro κ hκ)|(apply hκ.out;clear hκ κ)|apply Xd|apply Xe|apply Xf
 |((with_reducible first|refine Xl ?_ ?_|refine Xk ?_ ?_)<;> intro h hari<;> try exact Xp)
 |((with_reducible refine aapp_go ?_);refine Xt ?_;intro idn σn hOn hKn eobj enobj ever entop)
 |((with_reducible refine aappn_go ?_);refine Xu ?_)
 |refine Xr ?_
 |exact True.intro
 |(apply hκ.out;clear hκ κ))
 refine awp_loop (fun m s' σ' => ∃ i : Nat, m = N.length - i ∧ i ≤ N.length ∧ s' 0 = ptr o 0 ∧ s' 1 = str n ∧ s' 10 = sl id N.length (N.map str) ∧ s' 11 = sc (.int .i64 N.length) ∧ s' 12 = sc (.int .i64 i) ∧ σ' = σ ∧ Abs.Hid (∀ a, a < i → N[a]? ≠ some n)) N.length
  ⟨0, by omega, by omega, rfl, rfl, rfl, rfl, rfl, rfl, fun a ha => by omega⟩ ?_
 rintro m s' σ' ⟨i, rfl, hi, h0, h1, h10, h11, h12, hσ, hno⟩
 subst hσ
 by_cases hlt : i < N.length
 ·have hts := map_str_get hlt
  have HX : Abs.Hid (N[i]? = some N[i]) := List.getElem?_eq_getElem hlt
  generalize N[i] = w at hts HX
  repeat' (first
 |with_reducible first|apply Xa|apply Xb|(refine Xc ?_;intro κ hκ)|(apply hκ.out;clear hκ κ)|apply Xd|apply Xe|apply Xf
 |((with_reducible first|refine Xl ?_ ?_|refine Xk ?_ ?_)<;> intro h hari<;> try exact Xp)
 |((with_reducible refine aapp_go ?_);refine Xt ?_;intro idn σn hOn hKn eobj enobj ever entop)
 |((with_reducible refine aappn_go ?_);refine Xu ?_)
 |refine Xr ?_
 |exact True.intro
 |(apply hκ.out;clear hκ κ))
  ·have hw : w = n := by simpa using h
   subst hw
   have hmem : w ∈ N := List.mem_of_getElem? HX.out
   refine ⟨_, rfl, id, by rw [idx_first hno.out HX.out], Rs.refl _ _ _, ?_⟩
   rw [ins, if_pos hmem]; exact hR'.out
  ·have hw : w ≠ n := by simpa using h
   refine ⟨N.length - (i + 1), by omega, i + 1, rfl, by omega, by simp, ?_⟩
   intro a ha
   by_cases hai : a = i
   ·subst hai; rw [HX.out]; simpa using hw
   ·exact hno.out a (by omega)
 ·have hil : i = N.length := by omega
  subst hil
  have hnm := not_mem_of hno.out
  repeat' (first
 |with_reducible first|apply Xa|apply Xb|(refine Xc ?_;intro κ hκ)|(apply hκ.out;clear hκ κ)|apply Xd|apply Xe|apply Xf
 |((with_reducible first|refine Xl ?_ ?_|refine Xk ?_ ?_)<;> intro h hari<;> try exact Xp)
 |((with_reducible refine aapp_go ?_);refine Xt ?_;intro idn σn hOn hKn eobj enobj ever entop)
 |((with_reducible refine aappn_go ?_);refine Xu ?_)
 |refine Xr ?_
 |exact True.intro
 |(apply hκ.out;clear hκ κ))
  refine aApp_names (σ0 := σ') (o := o) (by first | exact tez_37) HOwn.out (by decide) (by rfl) (by simp) (by rfl) (by rfl) (by decide) (by omega) (by omega) ?_
  intro id' σ1 hO' hK' eobj enobj ever hid
  have hn1 : o < σ1.nobj := by omega
  have hO1 : σ1.obj o = [str t, sc (.int .i64 (t.length - s.length : Nat)), sl id N.length (N.map str)] := by rw [eobj]; exact ho
  refine Xr ?_
  repeat' (first
 |with_reducible first|apply Xa|apply Xb|(refine Xc ?_;intro κ hκ)|(apply hκ.out;clear hκ κ)|apply Xd|apply Xe|apply Xf
 |((with_reducible first|refine Xl ?_ ?_|refine Xk ?_ ?_)<;> intro h hari<;> try exact Xp)
 |((with_reducible refine aapp_go ?_);refine Xt ?_;intro idn σn hOn hKn eobj enobj ever entop)
 |((with_reducible refine aappn_go ?_);refine Xu ?_)
 |refine Xr ?_
 |exact True.intro
 |(apply hκ.out;clear hκ κ))
  have hI : ins N n = N ++ [n] := by rw [ins, if_neg hnm]
  have hx : N.idxOf n = N.length := List.idxOf_eq_length hnm
  refine ⟨_, rfl, id', by rw [hx, show ((N.length + 1 : Nat) : Int) - 1 = N.length by omega], ⟨hK'.put _, hid⟩, ?_⟩
  rw [hI]
  refine ⟨?_, hn1, ?_, hs, by simp; omega⟩
  ·rw [put_same]; simp [rdS, rdr]
  ·rcases hO' with h | ⟨j, q1, q2, q3, q4⟩
   ·exact .inl ⟨h.1, by have := h.2; omega⟩
   ·exact .inr ⟨j, q1, q2, by rw [put_top, q3]; simp, by simp⟩
theorem place_R' {t : Tx} {o : Nat} {N : List Tx} {id : Nat} {s : Tx} {σ : St} (ds : Tx) {n : Tx} (ht : t.length ≤ 1000) (hR : RS Bd t o N id s σ) (hl : N.length + 1 + s.length ≤ Bd + t.length) (he : n = ds) :
  ACalls Tryz.prog 208 [ptr o 0, str n] σ fun x σ' => ∃ id', x = sc (.int .i64 (N.idxOf ds : Nat)) ∧ Rs o σ id σ' id' ∧ RS Bd t o (ins N ds) id' s σ' := by
 subst he; exact place_R n ht hR hl
/- The program's reader: a predicate of the text. -/
variable {Bd : Nat}
set_option linter.unusedSimpArgs false
set_option linter.unusedVariables false
set_option maxRecDepth 100000
def smalls (s ds q : Tx) : Prop := ds.length ≤ 6 ∧ s = ds ++ q ∧ pWhile smallB 6 s = (ds ++ (pWhile smallB (6 - ds.length) q).1, (pWhile smallB (6 - ds.length) q).2)
theorem smalls_nil (s : Tx) : smalls s [] s := ⟨by simp, by simp, by simp⟩
theorem smalls_step {s ds q : Tx} {b : UInt8} (h : smalls s ds (b :: q)) (hl : ds.length < 6) (hb : smallB b.toNat = true) : smalls s (ds ++ [b]) q := by
 obtain ⟨h1, h2, h3⟩ := h
 have e : 6 - ds.length = (6 - (ds ++ [b]).length) + 1 := by simp; omega
 rw [e, pWhile, if_pos hb] at h3
 exact ⟨by simp; omega, by rw [h2]; simp, by rw [h3]; simp⟩
theorem smalls_end {s ds q : Tx} (h : smalls s ds q) (he : ds.length = 6 ∨ q = [] ∨ ∃ b r, q = b :: r ∧ smallB b.toNat = false) : pWhile smallB 6 s = (ds, q) := by
 obtain ⟨h1, -, h2⟩ := h
 rw [h2]
 rcases he with he | rfl | ⟨b, r, rfl, hb⟩
 ·rw [he]; simp [pWhile]
 ·cases hn : 6 - ds.length <;> simp [pWhile]
 ·cases hn : 6 - ds.length <;> simp [pWhile, hb]
theorem suff_drop {t s : Tx} (h : s <:+ t) : t.drop (t.length - s.length) = s := by
 obtain ⟨p, rfl⟩ := h
 simp
theorem suff_cut {t s ds q : Tx} (h : s <:+ t) (e : s = ds ++ q) {k : Nat} (hk : k = ds.length) : (t.drop (t.length - s.length)).take k = ds := by
 rw [suff_drop h, e, hk]; simp
theorem suff_cut' {t s ds q : Tx} (h : s <:+ t) (e : s = ds ++ q) {j k : Nat} (hj : j = t.length - s.length) (hk : k = ds.length) : (t.drop j).take k = ds := by
 subst hj; exact suff_cut h e hk
theorem pName_bad {s ds q : Tx} (h : pWhile smallB 6 s = (ds, q)) (h0 : ds.length = 0) : pName s = .bad s := by
 have : ds = [] := List.eq_nil_of_length_eq_zero h0
 unfold pName; rw [h, if_pos this]
theorem pName_got {s ds q : Tx} (h : pWhile smallB 6 s = (ds, q)) (h0 : ds.length ≠ 0) : pName s = .got ds q := by
 unfold pName; rw [h, if_neg (by intro e; simp at e; simp [e] at h0)]
set_option maxHeartbeats 16000000 in
theorem readPredicate_R {t : Tx} {o : Nat} {N : List Tx} {id : Nat} {s : Tx} {σ : St} (ht : t.length ≤ 1000) (hR : RS Bd t o N id s σ) :
  ACalls Tryz.prog 166 [ptr o 0] σ fun x σ' => ∃ k N' id', x = tp [sc (.int .i64 k), sc (.bool (pName s).ok)] ∧ Rs o σ id σ' id' ∧ RS Bd t o N' id' (pName s).rest σ' ∧ N <+: N' ∧ Rd.Val (pName s) fun n => n ∈ N' ∧ k = (N'.idxOf n : Nat) := by
 have hR' : Abs.Hid (RS Bd t o N id s σ) := hR
 obtain ⟨ho, hn, -, hs, -⟩ := hR
 have hsl := suff_len hs
 generalize hnm : sl id N.length (N.map str) = nm at ho
 have ho' : Abs.Hid (σ.obj o = rdS t s nm) := ho
 unfold rdS rdr at ho
 refine acalls 67 [.tmp 2, .tmp 3] Tryz.func166 rfl (by decide) rfl rfl (Nat.le_of_ble_eq_true rfl) ?_
 repeat' (first
 |with_reducible first|apply Xa|apply Xb|(refine Xc ?_;intro κ hκ)|(apply hκ.out;clear hκ κ)|apply Xd|apply Xe|apply Xf
 |((with_reducible first|refine Xl ?_ ?_|refine Xm ?_ ?_|refine Xk ?_ ?_)<;> intro h hari<;> try exact Xp)
 |refine Xr ?_
 |exact True.intro
 |((with_reducible refine Xg ?_);refine Xj ?_)
 |(apply hκ.out;clear hκ κ))
 refine awp_loop (fun m s' σ' => ∃ (q ds : Tx), m = 6 - ds.length ∧ s' 0 = ptr o 0 ∧ s' 4 = sc (.int .i64 (t.length - s.length : Nat)) ∧ KeepX o σ σ' ∧ σ'.obj o = rdS t q nm ∧ o < σ'.nobj ∧ q <:+ t ∧ s.length = ds.length + q.length ∧ Abs.Hid (smalls s ds q)) 6
  ⟨s, [], rfl, rfl, rfl, KeepX.refl _ _, ho'.out, hn, hs, by simp, smalls_nil s⟩ ?_
 rintro m s' σ' ⟨q, ds, rfl, h0, h4, hK, hO, hn', hq, hqs, hD⟩
 clear ho
 have hql := suff_len hq
 have hqg := suff_get hq
 have hd6 := hD.out.1
 have HO : Abs.Hid (σ'.obj o = rdS t q nm) := hO
 unfold rdS rdr at hO
 repeat' (first
 |with_reducible first|apply Xa|apply Xb|(refine Xc ?_;intro κ hκ)|(apply hκ.out;clear hκ κ)|apply Xd|apply Xe|apply Xf
 |((with_reducible first|refine Xl ?_ ?_|refine Xm ?_ ?_|refine Xk ?_ ?_)<;> intro h hari<;> try exact Xp)
 |refine Xr ?_
 |exact True.intro
 |((with_reducible refine Xg ?_);refine Xj ?_)
 |(apply hκ.out;clear hκ κ))
 refine awp_draw_k follows_mixed (fun _ => True) [30] [0, 1, 2, 3, 4, 5, 6, 7, 8, 9, 10, 11, 12, 13, 14, 15, 16, 17, 18, 19, 20, 21, 22, 23, 24, 25, 26, 27, 28] [29, 30] (by kernel_rfl) (fun _ _ _ h => h) ?_
 intro κ hκ
 cases q with
 | nil =>
  simp only [List.length_nil, Nat.sub_zero, Nat.add_zero] at hO hqg hql hqs
  refine Xr ?_
  repeat' (first
 |with_reducible first|apply Xa|apply Xb|(refine Xc ?_;intro κ hκ)|(apply hκ.out;clear hκ κ)|apply Xd|apply Xe|apply Xf
 |((with_reducible first|refine Xl ?_ ?_|refine Xm ?_ ?_|refine Xk ?_ ?_)<;> intro h hari<;> try exact Xp)
 |((with_reducible refine Xh ?_);refine Xi (isSmall_spec _ _) ?_;rintro _ _ ⟨rfl,rfl⟩)
 |refine Xr ?_
 |exact True.intro
 |((with_reducible refine Xg ?_);refine Xj ?_)
 |(apply hκ.out;clear hκ κ))
  all_goals have hsm := smalls_end hD.out (.inr (.inl rfl))
  ·
   have hdl : ds.length = 0 := by simp at h; omega
   have hp := pName_bad hsm hdl
   have hsq := hD.out.2.1
   rw [List.eq_nil_of_length_eq_zero hdl, List.nil_append] at hsq
   refine ⟨_, rfl, 0, N, id, by rw [hp]; rfl, Rs.ofX hK, ?_, List.prefix_refl _, by rw [hp]; trivial⟩
   rw [hp]
   exact hR'.out.stepX hK (by rw [hnm]; exact hsq ▸ HO.out) hs (Nat.le_refl _)
  ·
   have hdl : ds.length ≠ 0 := by simp at h; omega
   have hp := pName_got hsm hdl
   have hRq := hR'.out.stepX hK (by rw [hnm]; exact HO.out) hq (by first | omega | (simp only [List.length_cons, List.length_nil]; omega))
   have hlN := hR'.out.len
   have HRq : Abs.Hid _ := hRq
   have HD : Abs.Hid _ := hD
   have HP : Abs.Hid _ := hp
   have HK : Abs.Hid _ := hK
   clear hRq hp hK hsm
   refine awp_draw_k follows_mixed (fun _ => True) [10] [0, 1, 2, 3, 4, 5, 6, 7, 8, 9] [10] (by kernel_rfl) (fun _ _ _ h => h) ?_
   intro κ hκ
   refine Xr ?_
   repeat' (first
 |with_reducible first|apply Xa|apply Xb|(refine Xc ?_;intro κ hκ)|(apply hκ.out;clear hκ κ)|apply Xd|apply Xe|apply Xf
 |((with_reducible first|refine Xl ?_ ?_|refine Xm ?_ ?_|refine Xk ?_ ?_)<;> intro h hari<;> try exact Xp)
 |((with_reducible refine Xh ?_);refine Xi (place_R' ds ht HRq.out (by first|omega|(simp only [List.length_cons,List.length_nil];omega)) (by refine suff_cut' hs HD.out.2.1 ?_ ?_<;>first|omega|(simp only [List.length_cons,List.length_nil,Nat.add_zero];omega))) ?_;rintro _ _ ⟨id',rfl,hRs,hRS⟩)
 |refine Xr ?_
 |exact True.intro
 |((with_reducible refine Xg ?_);refine Xj ?_)
 |(apply hκ.out;clear hκ κ))
   refine ⟨_, rfl, _, ins N ds, id', by rw [HP.out]; rfl, (Rs.ofX HK.out).trans hRs, ?_, ins_pre _ _, ?_⟩
   ·rw [HP.out]; exact hRS
   ·rw [HP.out]; exact ⟨ins_mem _ _, by rw [ins_idx]⟩
 | cons b r =>
  simp only [List.length_cons, List.head?_cons] at hO hqg hql hqs
  have hqr := suff_tail hq
  refine Xr ?_
  repeat' (first
 |with_reducible first|apply Xa|apply Xb|(refine Xc ?_;intro κ hκ)|(apply hκ.out;clear hκ κ)|apply Xd|apply Xe|apply Xf
 |((with_reducible first|refine Xl ?_ ?_|refine Xm ?_ ?_|refine Xk ?_ ?_)<;> intro h hari<;> try exact Xp)
 |((with_reducible refine Xh ?_);refine Xi (isSmall_spec _ _) ?_;rintro _ _ ⟨rfl,rfl⟩)
 |refine Xr ?_
 |exact True.intro
 |((with_reducible refine Xg ?_);refine Xj ?_)
 |(apply hκ.out;clear hκ κ))
  ·have hl6 : ds.length < 6 := by omega
   have hsb : smallB b.toNat = true := by assumption
   refine ⟨6 - (ds ++ [b]).length, by simp; omega, r, ds ++ [b], rfl, hK.put _, ?_, hqr, by simp; omega, smalls_step hD.out hl6 hsb⟩
   unfold rdS rdr
   rw [show ((t.length - (r.length + 1) : Nat) : Int) + 1 = ((t.length - r.length : Nat) : Int) by omega]
  ·have hsm := smalls_end hD.out (.inr (.inr ⟨b, r, rfl, by assumption⟩))
   have hdl : ds.length = 0 := by simp at h; omega
   have hp := pName_bad hsm hdl
   have hsq := hD.out.2.1
   rw [List.eq_nil_of_length_eq_zero hdl, List.nil_append] at hsq
   refine ⟨_, rfl, 0, N, id, by rw [hp]; rfl, Rs.ofX hK, ?_, List.prefix_refl _, by rw [hp]; trivial⟩
   rw [hp]
   exact hR'.out.stepX hK (by rw [hnm]; exact hsq ▸ HO.out) hs (Nat.le_refl _)
  ·have hsm := smalls_end hD.out (.inr (.inr ⟨b, r, rfl, by assumption⟩))
   have hdl : ds.length ≠ 0 := by simp at h; omega
   have hp := pName_got hsm hdl
   have hRq := hR'.out.stepX hK (by rw [hnm]; exact HO.out) hq (by first | omega | (simp only [List.length_cons, List.length_nil]; omega))
   have hlN := hR'.out.len
   have HRq : Abs.Hid _ := hRq
   have HD : Abs.Hid _ := hD
   have HP : Abs.Hid _ := hp
   have HK : Abs.Hid _ := hK
   clear hRq hp hK hsm
   refine awp_draw_k follows_mixed (fun _ => True) [10] [0, 1, 2, 3, 4, 5, 6, 7, 8, 9] [10] (by kernel_rfl) (fun _ _ _ h => h) ?_
   intro κ hκ
   refine Xr ?_
   repeat' (first
 |with_reducible first|apply Xa|apply Xb|(refine Xc ?_;intro κ hκ)|(apply hκ.out;clear hκ κ)|apply Xd|apply Xe|apply Xf
 |((with_reducible first|refine Xl ?_ ?_|refine Xm ?_ ?_|refine Xk ?_ ?_)<;> intro h hari<;> try exact Xp)
 |((with_reducible refine Xh ?_);refine Xi (place_R' ds ht HRq.out (by first|omega|(simp only [List.length_cons,List.length_nil];omega)) (by refine suff_cut' hs HD.out.2.1 ?_ ?_<;>first|omega|(simp only [List.length_cons,List.length_nil,Nat.add_zero];omega))) ?_;rintro _ _ ⟨id',rfl,hRs,hRS⟩)
 |refine Xr ?_
 |exact True.intro
 |((with_reducible refine Xg ?_);refine Xj ?_)
 |(apply hκ.out;clear hκ κ))
   refine ⟨_, rfl, _, ins N ds, id', by rw [HP.out]; rfl, (Rs.ofX HK.out).trans hRs, ?_, ins_pre _ _, ?_⟩
   ·rw [HP.out]; exact hRS
   ·rw [HP.out]; exact ⟨ins_mem _ _, by rw [ins_idx]⟩
  ·exfalso; simp at h; omega
  ·have hsm := smalls_end hD.out (.inl (by omega))
   have hdl : ds.length ≠ 0 := by simp at h; omega
   have hp := pName_got hsm hdl
   have hRq := hR'.out.stepX hK (by rw [hnm]; exact HO.out) hq (by first | omega | (simp only [List.length_cons, List.length_nil]; omega))
   have hlN := hR'.out.len
   have HRq : Abs.Hid _ := hRq
   have HD : Abs.Hid _ := hD
   have HP : Abs.Hid _ := hp
   have HK : Abs.Hid _ := hK
   clear hRq hp hK hsm
   refine awp_draw_k follows_mixed (fun _ => True) [10] [0, 1, 2, 3, 4, 5, 6, 7, 8, 9] [10] (by kernel_rfl) (fun _ _ _ h => h) ?_
   intro κ hκ
   refine Xr ?_
   repeat' (first
 |with_reducible first|apply Xa|apply Xb|(refine Xc ?_;intro κ hκ)|(apply hκ.out;clear hκ κ)|apply Xd|apply Xe|apply Xf
 |((with_reducible first|refine Xl ?_ ?_|refine Xm ?_ ?_|refine Xk ?_ ?_)<;> intro h hari<;> try exact Xp)
 |((with_reducible refine Xh ?_);refine Xi (place_R' ds ht HRq.out (by first|omega|(simp only [List.length_cons,List.length_nil];omega)) (by refine suff_cut' hs HD.out.2.1 ?_ ?_<;>first|omega|(simp only [List.length_cons,List.length_nil,Nat.add_zero];omega))) ?_;rintro _ _ ⟨id',rfl,hRs,hRS⟩)
 |refine Xr ?_
 |exact True.intro
 |((with_reducible refine Xg ?_);refine Xj ?_)
 |(apply hκ.out;clear hκ κ))
   refine ⟨_, rfl, _, ins N ds, id', by rw [HP.out]; rfl, (Rs.ofX HK.out).trans hRs, ?_, ins_pre _ _, ?_⟩
   ·rw [HP.out]; exact hRS
   ·rw [HP.out]; exact ⟨ins_mem _ _, by rw [ins_idx]⟩
end Go.Proofs.YtmoeoppbmhfbpaaGreatDoorB
