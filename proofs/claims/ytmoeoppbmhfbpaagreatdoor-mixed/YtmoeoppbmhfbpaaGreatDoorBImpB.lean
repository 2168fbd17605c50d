import Derived.Test.YtmoeoppbmhfbpaaGreatDoorBFolB
import Derived.Test.YtmoeoppbmhfbpaaGreatDoorBProgL
import Derived.Test.YtmoeoppbmhfbpaaGreatDoorBStrC
/- The program's Implied: a model of facts. -/
namespace Go.Proofs.YtmoeoppbmhfbpaaGreatDoorB
open Go.Abs
set_option linter.unusedSimpArgs false
set_option linter.unusedVariables false
set_option maxRecDepth 100000
structure MkM (np : Nat) (F : List Atm) (M : MM) : Prop where
 len : M.length = np
 nd : ∀ x ∈ M, x.2.Nodup
 mem : ∀ (k : Nat) (t : Tup), MD M k t ↔ ∃ a ∈ F, a.p = (k : Int) ∧ t = tupA a
 tot : tot M ≤ F.length
theorem tupsOf_get' {M : MM} {k : Nat} {x : Nat × List Tup} (h : M[k]? = some x) : tupsOf M (k : Int) = x.2 := tupsOf_get h
theorem MkM.nil (np : Nat) : MkM np [] (List.replicate np (1, [])) := by
 refine ⟨by simp, fun x hx => ?_, fun k t => ⟨fun h => ?_, fun ⟨a, ha, _⟩ => by simp at ha⟩, ?_⟩
 ·rw [(List.mem_replicate.1 hx).2]; exact List.nodup_nil
 ·exfalso
  unfold MD at h
  by_cases hk : k < np
  ·rw [tupsOf_get' (x := (1, [])) (by rw [List.getElem?_replicate, if_pos hk])] at h
   simp at h
  ·unfold tupsOf at h
   simp [hk] at h
 ·have : ∀ n : Nat, Go.Proofs.YtmoeoppbmhfbpaaGreatDoorB.tot (List.replicate n ((1 : Nat), ([] : List Tup))) = 0 := by
   intro n
   induction n with
   | zero => rfl
   | succ n ih => rw [List.replicate_succ, tot_cons, ih]; rfl
  rw [this]; simp
theorem MkM.has {np : Nat} {F : List Atm} {M : MM} {a : Atm} {k : Nat} {x : Nat × List Tup} (h : MkM np F M) (hk : a.p = (k : Int)) (hx : M[k]? = some x) (hm : tupA a ∈ x.2) : MkM np (F ++ [a]) M := by
 refine ⟨h.len, h.nd, fun j t => ?_, by have := h.tot; simp; omega⟩
 rw [h.mem j t]
 constructor
 ·rintro ⟨b, hb, h1, h2⟩; exact ⟨b, List.mem_append_left _ hb, h1, h2⟩
 ·rintro ⟨b, hb, h1, h2⟩
  rcases List.mem_append.1 hb with h' | h'
  ·exact ⟨b, h', h1, h2⟩
  ·rw [List.mem_singleton] at h'
   subst h'
   have hkj : j = k := by omega
   subst hkj
   refine (h.mem j t).1 ?_
   unfold MD
   rw [tupsOf_get hx, h2]; exact hm
theorem MkM.add {np : Nat} {F : List Atm} {M : MM} {a : Atm} {k id' : Nat} {x : Nat × List Tup} (h : MkM np F M) (hk : a.p = (k : Int)) (hx : M[k]? = some x) (hm : tupA a ∉ x.2) : MkM np (F ++ [a]) (M.set k (id', x.2 ++ [tupA a])) := by
 have hkl : k < M.length := (List.getElem?_eq_some_iff.1 hx).1
 have hk1 : tupsOf (M.set k (id', x.2 ++ [tupA a])) (k : Int) = x.2 ++ [tupA a] := tupsOf_get (x := (id', x.2 ++ [tupA a])) (by rw [List.getElem?_set, if_pos rfl, if_pos hkl])
 have hk2 : ∀ j : Nat, j ≠ k → (M.set k (id', x.2 ++ [tupA a]))[j]? = M[j]? := fun j hj => by rw [List.getElem?_set, if_neg (fun e => hj e.symm)]
 refine ⟨by simp [h.len], fun y hy => ?_, fun j t => ?_, ?_⟩
 ·rcases List.mem_or_eq_of_mem_set hy with h' | rfl
  ·exact h.nd y h'
  ·rw [List.nodup_append]
   exact ⟨h.nd x (List.mem_of_getElem? hx), by simp, fun u hu v hv e => hm (by rw [List.mem_singleton] at hv; rw [← hv, ← e]; exact hu)⟩
 ·by_cases hj : j = k
  ·subst hj
   unfold MD
   rw [hk1, List.mem_append, List.mem_singleton]
   have hM := h.mem j t
   unfold MD at hM
   rw [tupsOf_get hx] at hM
   rw [hM]
   constructor
   ·rintro (⟨b, hb, h1, h2⟩ | h')
    ·exact ⟨b, List.mem_append_left _ hb, h1, h2⟩
    ·exact ⟨a, by simp, hk, h'⟩
   ·rintro ⟨b, hb, h1, h2⟩
    rcases List.mem_append.1 hb with h' | h'
    ·exact .inl ⟨b, h', h1, h2⟩
    ·rw [List.mem_singleton] at h'; subst h'; exact .inr h2
  ·have hM := h.mem j t
   unfold MD tupsOf at hM ⊢
   rw [Int.toNat_natCast] at hM ⊢
   rw [hk2 j hj, hM]
   constructor
   ·rintro ⟨b, hb, h1, h2⟩; exact ⟨b, List.mem_append_left _ hb, h1, h2⟩
   ·rintro ⟨b, hb, h1, h2⟩
    rcases List.mem_append.1 hb with h' | h'
    ·exact ⟨b, h', h1, h2⟩
    ·rw [List.mem_singleton] at h'; subst h'; omega
 ·have := tot_diff M (M.set k (id', x.2 ++ [tupA a])) k 1 (by simp) (fun j hj => by rw [hk2 j hj]) (fun _ => by rw [hk1, tupsOf_get hx]; simp) (fun h' => by omega)
  have h2 := h.tot
  simp
  omega
structure MPt (σ : St) (ot : Nat) (M : MM) : Prop where
 oc : σ.obj ot = mcells M
 lt : ot < σ.nobj
 live : ∀ x ∈ M, Live σ x.1 x.2.length
 inj : ∀ (i j : Nat) (x y : Nat × List Tup), M[i]? = some x → M[j]? = some y → i ≠ j → x.1 = 1 ∨ x.1 ≠ y.1
 t3 : ∀ x ∈ M, T3 x.2
 ln : ∀ x ∈ M, x.2.length ≤ 5000
 pl : M.length ≤ 5000
theorem MPt.keep {σ σ' : St} {ot : Nat} {M : MM} (h : MPt σ ot M) (k : Keep σ σ') : MPt σ' ot M := ⟨(k.obj _ h.lt).trans h.oc, Nat.lt_of_lt_of_le h.lt k.nobj, fun x hx => (h.live x hx).keep k, h.inj, h.t3, h.ln, h.pl⟩
theorem MPt.mob {σ : St} {om ot : Nat} {M : MM} {d b : Int} (h : MPt σ ot M) (ho : σ.obj om = [fx ot 0 M.length, ic d, ic b]) (hl : om < σ.nobj) (hn : om ≠ ot) : MOb σ om ot M d b := ⟨ho, h.oc, hl, h.lt, hn, h.live, h.inj, h.t3, h.ln, h.pl⟩
theorem MOb.mpt {σ : St} {om ot : Nat} {M : MM} {d b : Int} (h : MOb σ om ot M d b) : MPt σ ot M := ⟨h.oc, h.lt, h.live, h.inj, h.t3, h.ln, h.pl⟩
theorem Keep.km {σ0 σ σ' : St} {om ot : Nat} {M M' : MM} (hK : Keep σ0 σ) (h : KM om ot M M' σ σ') (hm : σ0.nobj ≤ om) (ht : σ0.nobj ≤ ot) (hM : ∀ x ∈ M, x.1 = 1) : Keep σ0 σ' :=
 ⟨Nat.le_trans hK.nobj h.nobj, fun o ho => (h.obj o (Nat.lt_of_lt_of_le ho hK.nobj) (by omega) (by omega)).trans (hK.obj o ho), fun o ho => (h.ver o (Nat.lt_of_lt_of_le ho hK.nobj) (by omega) (by omega)).trans (hK.ver o ho), Nat.le_trans hK.ntop h.ntop, fun k hk => (h.top k (Nat.lt_of_lt_of_le hk hK.ntop) (fun x hx e => by rw [hM x hx] at e; omega)).trans (hK.top k hk)⟩
theorem mcells_zero (np : Nat) : mcells (List.replicate np (1, [])) = List.replicate np nilS := by
 unfold mcells
 rw [List.map_replicate]; rfl
set_option maxHeartbeats 32000000 in
theorem enewModel_spec (np : Nat) (F : List Atm) (cs : List AV) (idf : Nat) (b : Int) (hF : EL EAt F cs) (hn : np ≤ 5000) (hFl : F.length ≤ 1000) (hFa : ∀ a ∈ F, a.ts.length ≤ 3 ∧ ∃ k : Nat, a.p = (k : Int) ∧ k < np) (σ : St) :
  ACalls Tryz.prog 46 [ic np, sl idf F.length cs, ic b] σ fun r σ' => ∃ ot M, r = ag [fx ot 0 np, ic 0, ic b] ∧ MkM np F M ∧ Keep σ σ' ∧ σ.nobj ≤ ot ∧ MPt σ' ot M ∧ (∀ x ∈ M, x.1 = 1 ∨ σ.ntop + 2 ≤ x.1) := by
 have hfl := EL.length EAt_len hF
 refine acalls 27 [.cell 6 74] Tryz.func46 rfl (by decide) rfl rfl (Nat.le_of_ble_eq_true rfl) ?_
 repeat' (first
 |with_reducible first|apply Xa|apply Xb|(refine Xc ?_;intro κ hκ)|(apply hκ.out;clear hκ κ)|apply Xd|apply Xe|apply Xf
 |((with_reducible first|refine Xl ?_ ?_|refine Xk ?_ ?_)<;> intro h hari<;> try exact Xp)
 |refine Xr ?_
 |exact True.intro
 |(apply hκ.out;clear hκ κ))
 obtain ⟨σ0, hσ0⟩ : ∃ τ, τ = ((((σ.new [nilS, ic 0, ic 0]).new (List.replicate np nilS)).new [nilS, ic 0, ic 0]).put (σ.nobj + 1 + 1) [fx (σ.nobj + 1) 0 np, ic 0, ic b]) := ⟨_, rfl⟩
 rw [← hσ0]
 have hK0 : Keep σ σ0 := by rw [hσ0]; exact Xs
 have hn0 : σ0.nobj = σ.nobj + 3 := by rw [hσ0]; rfl
 have hq0 : σ0.obj σ.nobj = [nilS, ic 0, ic 0] := by rw [hσ0, put_ne (by omega), new_lt (by simp only [new_nobj]; omega), new_lt (by simp only [new_nobj]; omega), new_same]
 have hM0 : MOb σ0 (σ.nobj + 2) (σ.nobj + 1) (List.replicate np (1, [])) 0 b :=
  ⟨by rw [hσ0, put_same]; simp, by rw [mcells_zero, hσ0, put_ne (by omega), new_lt (by simp only [new_nobj]; omega), new_at (by simp only [new_nobj]; omega) (by simp only [new_nobj]; omega)], by omega, by omega, by omega, fun x hx => by rw [(List.mem_replicate.1 hx).2]; exact .inl ⟨rfl, rfl⟩, fun i j x y hx hy _ => .inl (by rw [(List.mem_replicate.1 (List.mem_of_getElem? hx)).2]), fun x hx => by rw [(List.mem_replicate.1 hx).2]; intro t ht; simp at ht, fun x hx => by rw [(List.mem_replicate.1 hx).2]; simp, by simpa using hn⟩
 refine awp_loop (fun m s σ' => ∃ (i : Nat) (M : MM), m = F.length - i ∧ i ≤ F.length ∧ s 6 = ptr σ.nobj 0 ∧ s 7 = ptr (σ.nobj + 2) 0 ∧ s 14 = sl idf F.length cs ∧ s 15 = ic F.length ∧ s 16 = ic i ∧ MOb σ' (σ.nobj + 2) (σ.nobj + 1) M 0 b ∧ KM (σ.nobj + 2) (σ.nobj + 1) (List.replicate np (1, [])) M σ0 σ' ∧ σ'.obj σ.nobj = [nilS, ic 0, ic 0] ∧ Abs.Hid (MkM np (F.take i) M)) F.length
  ⟨0, List.replicate np (1, []), by omega, by omega, by simp [upd], by simp [upd], by simp [upd], by simp [upd], by simp [upd], hM0, KM.ofKeep (Keep.refl _), hq0, MkM.nil np⟩ ?_
 clear hM0 hq0 hσ0
 rintro m s σ' ⟨i, M, rfl, hi, h6, h7, h14, h15, h16, hM, hKM, hq, hI⟩
 have hmn := hKM.nobj
 by_cases hlt : i < F.length
 ·have hget := List.getElem?_eq_getElem hlt
  obtain ⟨id, rr, hd⟩ := EAt_get hF hget
  obtain ⟨ha3, k, hak, hkn⟩ := hFa _ (List.getElem_mem hlt)
  generalize F[i] = a at hget hd ha3 hak
  have hML := hI.out.len
  have hx := List.getElem?_eq_getElem (l := M) (i := k) (by omega)
  generalize M[k]'(by omega) = x at hx
  have HTK : Abs.Hid (F.take (i + 1) = F.take i ++ [a]) := by rw [Abs.Hid, List.take_add_one, hget, Option.toList_some]
  clear hget
  have hxl : x.2.length < 5000 := by
   have h1 := hI.out.tot
   have h2 : (x.2.length : Int) ≤ Go.Proofs.YtmoeoppbmhfbpaaGreatDoorB.tot M := by
    have hg : ∀ (M : MM) (k : Nat) (x : Nat × List Tup), M[k]? = some x → (x.2.length : Int) ≤ Go.Proofs.YtmoeoppbmhfbpaaGreatDoorB.tot M := by
     intro M
     induction M with
     | nil => intro k x h; simp at h
     | cons y M ih =>
      intro k x h
      rw [tot_cons]
      have hp : ∀ M : MM, 0 ≤ Go.Proofs.YtmoeoppbmhfbpaaGreatDoorB.tot M := by
       intro M
       induction M with
       | nil => exact Int.le_refl _
       | cons y M ih => rw [tot_cons]; omega
      cases k with
      | zero => simp at h; subst h; have := hp M; omega
      | succ k => have := ih k x (by simpa using h); omega
    exact hg M k x hx
   rw [List.length_take] at h1
   omega
  have hHa := fun σ (h : MOb σ (σ0.nobj - 1) (σ0.nobj - 2) M 0 b) => ehasM_spec (σ0.nobj - 1) (σ0.nobj - 2) M 0 b a id k x ha3 hak hx σ h
  have hKe := fun σ (h : MOb σ (σ0.nobj - 1) (σ0.nobj - 2) M 0 b) => ekeep_spec (σ0.nobj - 1) (σ0.nobj - 2) M 0 b a id k x ha3 hak hx hxl σ h
  rw [show σ0.nobj - 1 = σ.nobj + 2 by omega, show σ0.nobj - 2 = σ.nobj + 1 by omega] at hHa hKe
  have HX : Abs.Hid (M[k]? = some x) := hx
  have HAK : Abs.Hid (a.p = (k : Int)) := hak
  clear hx hak hML
  by_cases hmm : tupA a ∈ x.2
  ·rw [show decide (tupA a ∈ x.2) = true by simpa using hmm] at hHa
   have HN : Abs.Hid (MkM np (F.take (i + 1)) M) := by rw [Abs.Hid, HTK.out]; exact hI.out.has HAK.out HX.out hmm
   clear hmm hI
   have hKm : Keep σ' ((σ'.new [ic 0, nilS]).put σ'.nobj [ic a.p, sl id a.ts.length (ecells a.ts)]) := ((Keep.refl σ').new _).put (Nat.le_refl _) _
   repeat' (first
 |with_reducible first|apply Xa|apply Xb|(refine Xc ?_;intro κ hκ)|(apply hκ.out;clear hκ κ)|apply Xd|apply Xe|apply Xf
 |((with_reducible first|refine Xl ?_ ?_|refine Xk ?_ ?_)<;> intro h hari<;> try exact Xp)
 |((with_reducible refine Xh ?_);refine Xi (hHa _ (hM.keep hKm)) ?_;rintro _ _ ⟨rfl,hK2⟩;(have hKz:=hKm.trans hK2))
 |refine Xr ?_
 |exact True.intro
 |(apply hκ.out;clear hκ κ))
   refine ⟨F.length - (i + 1), by omega, i + 1, M, ?_⟩
   ((repeat' with_reducible refine And.intro ?_ ?_)<;> first|exact Xq|exact (HN)|exact (hM.keep hKz)|exact (hKM.trans (KM.ofKeep hKz))|exact (by rw [hKz.obj _ (by omega), hq])|exact Xs)
  ·rw [show decide (tupA a ∈ x.2) = false by simpa using hmm] at hHa
   have HN : Abs.Hid (∀ id', MkM np (F.take (i + 1)) (M.set k (id', x.2 ++ [tupA a]))) := fun id' => by rw [HTK.out]; exact hI.out.add HAK.out HX.out hmm
   clear hmm hI
   have hKm : Keep σ' ((σ'.new [ic 0, nilS]).put σ'.nobj [ic a.p, sl id a.ts.length (ecells a.ts)]) := ((Keep.refl σ').new _).put (Nat.le_refl _) _
   have hqv : ∀ p, p < σ'.nobj + 1 → ((σ'.new [ic 0, nilS]).put σ'.nobj [ic a.p, sl id a.ts.length (ecells a.ts)]).obj p = ((σ'.new [ic 0, nilS]).put σ'.nobj [ic a.p, sl id a.ts.length (ecells a.ts)]).obj p := fun p _ => rfl
   clear hqv
   repeat' (first
 |with_reducible first|apply Xa|apply Xb|(refine Xc ?_;intro κ hκ)|(apply hκ.out;clear hκ κ)|apply Xd|apply Xe|apply Xf
 |((with_reducible first|refine Xl ?_ ?_|refine Xk ?_ ?_)<;> intro h hari<;> try exact Xp)
 |((with_reducible refine Xh ?_);first|(refine Xi (hHa _ (hM.keep hKm)) ?_;rintro _ _ ⟨rfl,hK2⟩;(have hKz:=hKm.trans hK2;have kob2:=hK2.obj;have kno2:=hK2.nobj;simp only [put_nobj,new_nobj] at kno2 kob2))|(refine Xi (hKe _ (hM.keep hKz)) ?_;rintro _ _ ⟨id',hM3,hKM3⟩))
 |refine Xr ?_
 |exact True.intro
 |(apply hκ.out;clear hκ κ))
   rename_i σ2 σ3
   have hKM4 := (hKM.trans (KM.ofKeep hKz)).trans hKM3
   have hq3 : σ3.obj σ.nobj = [nilS, ic 0, ic 0] := by rw [hKM3.obj _ (by omega) (by omega) (by omega), hKz.obj _ (by omega), hq]
   refine ⟨F.length - (i + 1), by omega, i + 1, M.set k (id', x.2 ++ [tupA a]), ?_⟩
   ((repeat' with_reducible refine And.intro ?_ ?_)<;> first|exact Xq|exact (HN.out id')|exact (hM3)|exact (hKM4)|exact (hq3)|exact Xs)
 ·have hil : i = F.length := by omega
  subst hil
  have hI := hI.out
  rw [List.take_length] at hI
  have hML := hI.len
  have hob := hM.ob
  rw [hML] at hob
  have hlo := hM.lo
  have HI : Abs.Hid _ := hI
  have HM : Abs.Hid _ := hM
  have HKM : Abs.Hid _ := hKM
  clear hI hM hKM hML
  repeat' (first
 |with_reducible first|apply Xa|apply Xb|(refine Xc ?_;intro κ hκ)|(apply hκ.out;clear hκ κ)|apply Xd|apply Xe|apply Xf
 |((with_reducible first|refine Xl ?_ ?_|refine Xk ?_ ?_)<;> intro h hari<;> try exact Xp)
 |refine Xr ?_
 |exact True.intro
 |(apply hκ.out;clear hκ κ))
  have hKf := Keep.km hK0 HKM.out (by omega) (by omega) (fun x hx => by rw [(List.mem_replicate.1 hx).2])
  refine ⟨_, rfl, σ.nobj + 1, M, rfl, HI.out, hKf.put (by omega) _, by omega, ?_, fun x hx => ?_⟩
  ·have h := HM.out.mpt
   exact ⟨by rw [put_ne' (by omega)]; exact h.oc, h.lt, h.live, h.inj, h.t3, h.ln, h.pl⟩
  ·have hnt := hK0.ntop
   rcases HKM.out.mid x hx with ⟨y, hy, e⟩ | e | e
   ·rw [(List.mem_replicate.1 hy).2] at e; exact .inl e.symm
   ·exact .inl e
   ·exact .inr (by omega)
/- The program's Implied: rules of a book, the least set. -/
def atmP (N : List Tx) (a : RAtom) : Atm := ⟨(N.idxOf a.pred : Nat), a.terms.map encT⟩
def litP (N : List Tx) (a : RAtom) : Lit := ⟨a.nt, atmP N a⟩
def rulP (N : List Tx) (x : RItem) : Rul := ⟨atmP N x.head, x.body.map (litP N)⟩
theorem ecells_enc (ts : List Tx) : ecells (ts.map encT) = tcells ts := by
 unfold ecells tcells
 rw [List.flatMap_map]
 rfl
theorem EL_lit {N : List Tx} : ∀ {l : List RAtom} {b : List AV}, EL (PL N) l b → EL ELt (l.map (litP N)) b
 | [], b, h => h
 | a :: l, b, h => by
  obtain ⟨c1, c2, ⟨-, ids, rfl⟩, h2, rfl⟩ := h
  exact ⟨_, c2, ⟨ids, by simp [litP, atmP, ecells_enc]⟩, EL_lit h2, rfl⟩
theorem PI_rul {N : List Tx} {x : RItem} {c : List AV} (h : PI N x c) : ERu (rulP N x) c := by
 obtain ⟨hm, ih, id, b, hb, rfl⟩ := h
 exact ⟨x.out, ih, id, b, by simp [rulP, atmP, ecells_enc], EL_lit hb⟩
theorem GroA.nodup {D : Dset} {M M' : MM} {d d' : Int} (h : GroA D M M' d d') (hn : ∀ x ∈ M, x.2.Nodup) : ∀ x ∈ M', x.2.Nodup := fun x hx => by
 obtain ⟨k, hk⟩ := List.getElem?_of_mem hx
 obtain ⟨nw, e, h1, h2⟩ := h.ext k
 rw [tupsOf_get hk] at e
 have hkl : k < M.length := by rw [← h.len]; exact (List.getElem?_eq_some_iff.1 hk).1
 have hg : M[k]? = some M[k] := List.getElem?_eq_getElem hkl
 rw [tupsOf_get hg] at e
 rw [e, List.nodup_append]
 refine ⟨hn _ (List.getElem_mem hkl), h1, fun a ha b hb e2 => ?_⟩
 have := (h2 b hb).2
 rw [tupsOf_get hg] at this
 exact this (e2 ▸ ha)
/- The program's engine: all strata, one after another. -/
def inS (l : List RItem) (s : Nat) (x : RItem) : Bool := !x.out && (stratumL l x.head.pred == s)
def RulS (l : List RItem) (s : Nat) : List RItem := l.filter (inS l s)
def PMi (N : List Tx) (l : List RItem) (B : Dset) : Nat → Dset
 | 0 => B
 | s + 1 => LstG ((RulS l s).map (rulP N)) (PMi N l B s)
structure BkR (N : List Tx) (l : List RItem) (np : Nat) (ar : Nat → Nat) : Prop where
 nn : N.length ≤ np
 hN : ∀ x ∈ l, x.head.pred ∈ N ∧ ∀ a ∈ x.body, a.pred ∈ N
 kn : ∀ i, i < l.length → knotP l i = false
 rw' : ∀ x ∈ l, x.out = false → RW np ar (rulP N x)
theorem idxN_inj {N : List Tx} {p q : Tx} (hp : p ∈ N) (hq : q ∈ N) (h : N.idxOf p = N.idxOf q) : p = q := by
 have h1 : N[N.idxOf p]? = some p := by rw [List.getElem?_eq_getElem (List.idxOf_lt_length_iff.2 hp)]; simp
 have h2 : N[N.idxOf q]? = some q := by rw [List.getElem?_eq_getElem (List.idxOf_lt_length_iff.2 hq)]; simp
 rw [h, h2] at h1
 exact (Option.some.inj h1).symm
theorem neg_lower {l : List RItem} (ho : ∀ x ∈ l, x.out = true → x.body = []) (hk : ∀ i, i < l.length → knotP l i = false) (hl : l.length ≤ 16) {x : RItem} (hx : x ∈ l) {a : RAtom} (ha : a ∈ x.body) (hn : a.nt = true) : stratumL l a.pred < stratumL l x.head.pred := by
 have hi := stratum_iff ho (loose_of ho hk) hl
 have h1 := (hi a.pred (stratumL l a.pred)).2 (Nat.le_refl _)
 have h2 : HH l (stratumL l a.pred + 1) x.head.pred := ⟨x, hx, .inl rfl, a, ha, hn, h1⟩
 exact (hi _ _).1 h2
theorem rs_apart {N : List Tx} {l : List RItem} {np : Nat} {ar : Nat → Nat} (h : BkR N l np ar) (ho : ∀ x ∈ l, x.out = true → x.body = []) (hl : l.length ≤ 16) (s : Nat) : Apart ((RulS l s).map (rulP N)) := fun r hr k hk hn r' hr' e => by
 obtain ⟨x, hx, rfl⟩ := List.mem_map.1 hr
 obtain ⟨y, hy, rfl⟩ := List.mem_map.1 hr'
 obtain ⟨a, ha, rfl⟩ := List.mem_map.1 hk
 obtain ⟨hx1, hx2⟩ := List.mem_filter.1 hx
 obtain ⟨hy1, hy2⟩ := List.mem_filter.1 hy
 simp only [inS, Bool.and_eq_true, beq_iff_eq] at hx2 hy2
 simp only [rulP, atmP, litP, Int.toNat_natCast] at e
 have e2 := idxN_inj (h.hN y hy1).1 ((h.hN x hx1).2 a ha) e
 have := neg_lower ho h.kn hl hx1 ha hn
 rw [← e2] at this
 omega
theorem rs_rw {N : List Tx} {l : List RItem} {np : Nat} {ar : Nat → Nat} (h : BkR N l np ar) (s : Nat) : ∀ r ∈ (RulS l s).map (rulP N), RW np ar r := fun r hr => by
 obtain ⟨x, hx, rfl⟩ := List.mem_map.1 hr
 obtain ⟨hx1, hx2⟩ := List.mem_filter.1 hx
 simp only [inS, Bool.and_eq_true] at hx2
 exact h.rw' x hx1 (by simpa using hx2.1)
theorem PMi.up {N : List Tx} {l : List RItem} {B : Dset} {k : Nat} {t : Tup} : ∀ {s s' : Nat}, s ≤ s' → PMi N l B s k t → PMi N l B s' k t
 | s, 0, h, g => by
  have : s = 0 := by omega
  subst this; exact g
 | s, s' + 1, h, g => by
  by_cases e : s = s' + 1
  ·subst e; exact g
  ·exact LstG.base (PMi.up (s := s) (s' := s') (by omega) g)
def FolI (N : List Tx) (l : List RItem) (M : MM) (b : Int) (s : Nat) (M1 : MM) (d1 : Int) : Prop :=
 M1.length = M.length ∧ d1 = tot M1 - tot M ∧
 ((¬ b < d1 ∧ (∀ k t, MD M1 k t ↔ PMi N l (MD M) s k t) ∧ ∀ x ∈ M1, x.2.Nodup) ∨
  (b < d1 ∧ ∃ M2 : MM, M2.length = M.length ∧ (∀ x ∈ M2, x.2.Nodup) ∧ (∀ k t, MD M k t → MD M2 k t) ∧ (∀ k t, MD M2 k t → PMi N l (MD M) s k t) ∧ b < tot M2 - tot M))
theorem FolI.start {N : List Tx} {l : List RItem} {M : MM} {b : Int} (hb : 0 ≤ b) (hn : ∀ x ∈ M, x.2.Nodup) : FolI N l M b 0 M 0 :=
 ⟨rfl, by omega, .inl ⟨by omega, fun k t => Iff.rfl, hn⟩⟩
theorem fol_ex {N : List Tx} {l : List RItem} {np : Nat} {ar : Nat → Nat} (h : BkR N l np ar) (ho : ∀ x ∈ l, x.out = true → x.body = []) (hl : l.length ≤ 16) {M M1 : MM} {b d1 : Int} {s : Nat} (hI : FolI N l M b s M1 d1) (hS : MSh ar M1) (hp : ∀ k t, PMi N l (MD M) s k t → Sh ar k t) :
  ∃ D : Dset, Fol np ar ((RulS l s).map (rulP N)) D ∧ (∀ k t, MD M1 k t → D k t) ∧ NgIn ((RulS l s).map (rulP N)) D M1 ∧ (∀ k t, D k t → Sh ar k t) ∧
   ∀ M' d', GroA D M1 M' d1 d' → (¬ b < d' → ClG ((RulS l s).map (rulP N)) D (MD M')) → FolI N l M b (s + 1) M' d' := by
 have hR := rs_rw h s
 have hA := rs_apart h ho hl s
 obtain ⟨e1, e2, h3⟩ := hI
 rcases h3 with ⟨a1, a2, a3⟩ | ⟨a1, M2, b1, b2, b3, b4, b5⟩
 ·have hF := fol_step (B := PMi N l (MD M) s) hR hp
  refine ⟨LstG ((RulS l s).map (rulP N)) (PMi N l (MD M) s), hF, fun k t g => LstG.base ((a2 k t).1 g), ng_step hA (fun k t g => (a2 k t).2 g), fun k t g => hF.sh k t g, fun M' d' hG hC => ?_⟩
  have hc := hG.cnt
  have hin : ∀ k t, MD M' k t → PMi N l (MD M) (s + 1) k t := hG.inD (fun k t g => LstG.base ((a2 k t).1 g))
  have hnd := hG.nodup a3
  refine ⟨hG.len.trans e1, by omega, ?_⟩
  by_cases hb : b < d'
  ·exact .inr ⟨hb, M', hG.len.trans e1, hnd, fun k t g => hG.sub ((a2 k t).2 (PMi.up (Nat.zero_le s) g)), hin, by omega⟩
  ·refine .inl ⟨hb, fun k t => ⟨hin k t, fun g => ?_⟩, hnd⟩
   exact done_step hA (fun k t g => hG.sub ((a2 k t).2 g)) (hC hb) g
 ·have hF := fol_over (M := M1) hR hA
  refine ⟨DX ar ((RulS l s).map (rulP N)) M1, hF, fun k t g => ⟨hS k t g, fun _ => g⟩, ng_over, fun k t g => g.1, fun M' d' hG hC => ?_⟩
  have hc := hG.cnt
  have hle := (tot_eq M1 M' hG.len hG.lens).1
  exact ⟨hG.len.trans e1, by omega, .inr ⟨by omega, M2, b1, b2, b3, fun k t g => LstG.base (b4 k t g), b5⟩⟩
theorem pmi_sh {N : List Tx} {l : List RItem} {np : Nat} {ar : Nat → Nat} (h : BkR N l np ar) {B : Dset} (hB : ∀ k t, B k t → Sh ar k t) : ∀ s k t, PMi N l B s k t → Sh ar k t
 | 0, k, t, g => hB k t g
 | s + 1, k, t, g => g.least (pmi_sh h hB s) (sh_clG (rs_rw h s))
theorem rs_take {l : List RItem} {s q : Nat} {y : RItem} (h : l[q]? = some y) : (l.take (q + 1)).filter (inS l s) = (l.take q).filter (inS l s) ++ if inS l s y = true then [y] else [] := by
 rw [List.take_add_one, h, Option.toList_some, filter_snoc]
set_option maxHeartbeats 64000000 in
theorem efollow_spec (N : List Tx) (l : List RItem) (cs : List AV) (idn idi : Nat) (np : Nat) (ar : Nat → Nat) (hB : Bk N l cs) (hR : BkR N l np ar) (om ot : Nat) (b : Int) (hb0 : 0 ≤ b) (hb1 : b ≤ 1000) (M : MM) (hn : M.length = np) (hS : MSh ar M) (hnd : ∀ x ∈ M, x.2.Nodup) (ht : tot M ≤ 1000) (σ : St) (hM : MOb σ om ot M 0 b) :
  ACalls Tryz.prog 47 [ptr om 0, bookA N idn l idi cs] σ fun r σ' => ∃ M' d', MOb σ' om ot M' d' b ∧ KM om ot M M' σ σ' ∧ FolI N l M b (l.length + 1) M' d' := by
 have hcl := EL.length PI_len hB.el
 have hl16 := hB.len
 have hN5 := hB.nm
 have hE := hB.el
 have hSt := fun σ => strata_spec N l cs idn idi hB σ
 have hcc : ∀ p ∈ N, iterC N l l.length (N.idxOf p) = stratumL l p := fun p hp => strata_eq hl16 hB.out hR.hN hR.kn hp
 have hpm := pmi_sh hR (B := MD M) hS
 generalize iterC N l l.length = cc at hSt hcc
 have lo := hM.lo
 have lt := hM.lt
 unfold bookA at hSt ⊢
 refine acalls 47 [] Tryz.func47 rfl (by decide) rfl rfl (Nat.le_of_ble_eq_true rfl) ?_
 repeat' (first
 |with_reducible first|apply Xa|apply Xb|(refine Xc ?_;intro κ hκ)|(apply hκ.out;clear hκ κ)|apply Xd|apply Xe|apply Xf
 |((with_reducible first|refine Xl ?_ ?_|refine Xk ?_ ?_)<;> intro h hari<;> try exact Xp)
 |((with_reducible refine aapp_go ?_);refine Xt ?_;intro idn σn hOn hKn eobj enobj ever entop)
 |((with_reducible refine aappn_go ?_);refine Xu ?_)
 |((with_reducible refine Xh ?_);refine Xi (hSt _) ?_;rintro _ _ ⟨o,rfl,oo,ho1,ho2,hK1⟩;(have kno1:=hK1.nobj;have kob1:=hK1.obj;simp only [new_nobj] at kno1 kob1 ho1))
 |refine Xr ?_
 |exact True.intro
 |(apply hκ.out;clear hκ κ))
 rename_i σ1
 have ob0 : σ1.obj σ.nobj = [sl idn N.length (N.map str), sl idi l.length cs] := by rw [kob1 _ (by omega), new_same]
 have hKa : Keep σ σ1 := ((Keep.refl σ).new _).trans hK1
 refine awp_loop (fun m s σ' => ∃ (q : Nat) (M1 : MM) (d1 : Int), m = l.length + 1 - q ∧ q ≤ l.length + 1 ∧ s 0 = ptr om 0 ∧ s 3 = ptr σ.nobj 0 ∧ s 4 = fx o 0 N.length ∧ s 5 = ic q ∧ MOb σ' om ot M1 d1 b ∧ KM om ot M M1 σ σ' ∧ o < σ'.nobj ∧ σ'.obj σ.nobj = [sl idn N.length (N.map str), sl idi l.length cs] ∧ σ'.obj o = cvec N.length cc ∧ 0 ≤ d1 ∧ d1 ≤ 1000000 ∧ Abs.Hid (FolI N l M b q M1 d1 ∧ MSh ar M1)) (l.length + 1)
  ⟨0, M, 0, by omega, by omega, by simp [upd, initS], by simp [upd], by simp [upd], by simp [upd], hM.keep hKa, KM.ofKeep hKa, ho2, ob0, oo, by omega, by omega, FolI.start hb0 hnd, hS⟩ ?_
 clear hKa hK1 kob1 kno1 ob0 oo ho2
 rintro m s σ' ⟨q, M1, d1, rfl, hq, h0, h3, h4, h5, hM1, hKM1, hol, ob0, oo, hd0, hd1, hI⟩
 have kno := hKM1.nobj
 have lo1 := hM1.lo
 have lt1 := hM1.lt
 by_cases hlt : q ≤ l.length
 ·have hqb : (q : Int) ≤ 16 := by omega
  repeat' (first
 |with_reducible first|apply Xa|apply Xb|(refine Xc ?_;intro κ hκ)|(apply hκ.out;clear hκ κ)|apply Xd|apply Xe|apply Xf
 |((with_reducible first|refine Xl ?_ ?_|refine Xk ?_ ?_)<;> intro h hari<;> try exact Xp)
 |((with_reducible refine aapp_go ?_);refine Xt ?_;intro idn σn hOn hKn eobj enobj ever entop)
 |((with_reducible refine aappn_go ?_);refine Xu ?_)
 |refine Xr ?_
 |exact True.intro
 |(apply hκ.out;clear hκ κ))
  refine awp_loop (fun m s σ2 => ∃ (j i6 : Nat) (L : List RItem) (ys : List AV), m = l.length - j ∧ j ≤ l.length ∧ s 0 = ptr om 0 ∧ s 3 = ptr σ.nobj 0 ∧ s 4 = fx o 0 N.length ∧ s 5 = ic q ∧ s 6 = sl i6 L.length ys ∧ s 20 = sl idi l.length cs ∧ s 21 = ic l.length ∧ s 22 = ic j ∧ Keep σ' σ2 ∧ Own σ' σ2 i6 L.length ∧ ys.length = L.length * 4 ∧ L.length ≤ j ∧ Abs.Hid (L = (l.take j).filter (inS l q) ∧ EL ERu (L.map (rulP N)) ys)) l.length
   ⟨0, 1, [], [], by omega, by omega, by simp [upd, *], by simp [upd, *], by simp [upd, *], by simp [upd, *], by simp [upd], by simp [upd, *], by simp [upd, *], by simp [upd], Keep.refl _, Own.nil _ _, rfl, by simp, by simp, rfl⟩ ?_
  clear h0 h3 h4 h5
  rintro m s σ2 ⟨j, i6, L, ys, rfl, hj, h0, h3, h4, h5, h6, h20, h21, h22, hK, hO, hyl, hLj, hL⟩
  have kno2 := hK.nobj
  have oo2 : σ2.obj o = cvec N.length cc := by rw [hK.obj _ hol, oo]
  by_cases hltj : j < l.length
  ·have hget := List.getElem?_eq_getElem hltj
   obtain ⟨hm2, jh, jd, jb, r2, hjb, hd2⟩ := EL_PI hE hget
   generalize l[j] = y at hget hjb hd2 hm2
   have HST : Abs.Hid _ := rs_take (s := q) hget
   have hER := PI_rul (PI.of (ih := jh) (id := jd) hm2 hjb)
   have hix := List.idxOf_lt_length_iff.2 hm2
   have hcv := cvec_get cc hix
   rw [hcc _ hm2] at hcv
   clear hget
   cases hout : y.out with
   | true =>
    have HN : Abs.Hid (L = (l.take (j + 1)).filter (inS l q) ∧ EL ERu (L.map (rulP N)) ys) := ⟨by rw [HST.out, if_neg (by simp [inS, hout]), List.append_nil]; exact hL.out.1, hL.out.2⟩
    clear HST hER
    repeat' (first
 |with_reducible first|apply Xa|apply Xb|(refine Xc ?_;intro κ hκ)|(apply hκ.out;clear hκ κ)|apply Xd|apply Xe|apply Xf
 |((with_reducible first|refine Xl ?_ ?_|refine Xk ?_ ?_)<;> intro h hari<;> try exact Xp)
 |((with_reducible refine aapp_go ?_);refine Xt ?_;intro idn σn hOn hKn eobj enobj ever entop)
 |((with_reducible refine aappn_go ?_);refine Xu ?_)
 |refine Xr ?_
 |exact True.intro
 |(apply hκ.out;clear hκ κ))
    refine ⟨l.length - (j + 1), by omega, j + 1, i6, L, ys, ?_⟩
    ((repeat' with_reducible refine And.intro ?_ ?_)<;> first|exact Xq|exact (HN)|exact ((hK.new _).put hK.nobj _)|exact (Own.put (Own.new hO _) _ _)|exact Xs)
   | false =>
    rw [hout] at hER
    by_cases hsq : stratumL l y.head.pred = q
    ·have HN : Abs.Hid (L ++ [y] = (l.take (j + 1)).filter (inS l q) ∧ EL ERu ((L ++ [y]).map (rulP N)) (ys ++ [sc (.bool false), sc (.int .i64 (N.idxOf y.head.pred : Nat)), sl jh y.head.terms.length (tcells y.head.terms), sl jd y.body.length jb])) := ⟨by rw [HST.out, if_pos (by simp [inS, hout, hsq]), hL.out.1], by rw [List.map_append]; exact EL.append hL.out.2 (EL.single hER)⟩
     rw [hsq] at hcv
     clear HST hER hsq
     repeat' (first
 |with_reducible first|apply Xa|apply Xb|(refine Xc ?_;intro κ hκ)|(apply hκ.out;clear hκ κ)|apply Xd|apply Xe|apply Xf
 |((with_reducible first|refine Xl ?_ ?_|refine Xk ?_ ?_)<;> intro h hari<;> try exact Xp)
 |((with_reducible refine aapp_go ?_);refine Xt ?_;intro idn σn hOn hKn eobj enobj ever entop)
 |((with_reducible refine aappn_go ?_);refine Xu ?_)
 |refine Xr ?_
 |exact True.intro
 |(apply hκ.out;clear hκ κ))
     refine aApp_own (by first | exact tez_64) ((hK.new _).put hK.nobj _) (Own.put (Own.new hO _) _ _) (by decide) (by rfl) (hyl) (by rfl) (by rfl) (by decide) (by omega) (by omega) ?_
     intro idx σn hOn hKn eobj enobj ever entop
     refine Xr ?_
     repeat' (first
 |with_reducible first|apply Xa|apply Xb|(refine Xc ?_;intro κ hκ)|(apply hκ.out;clear hκ κ)|apply Xd|apply Xe|apply Xf
 |((with_reducible first|refine Xl ?_ ?_|refine Xk ?_ ?_)<;> intro h hari<;> try exact Xp)
 |((with_reducible refine aapp_go ?_);refine Xt ?_;intro idn σn hOn hKn eobj enobj ever entop)
 |((with_reducible refine aappn_go ?_);refine Xu ?_)
 |refine Xr ?_
 |exact True.intro
 |(apply hκ.out;clear hκ κ))
     refine ⟨l.length - (j + 1), by omega, j + 1, idx, L ++ [y], ys ++ [sc (.bool false), sc (.int .i64 (N.idxOf y.head.pred : Nat)), sl jh y.head.terms.length (tcells y.head.terms), sl jd y.body.length jb], ?_⟩
     ((repeat' with_reducible refine And.intro ?_ ?_)<;> first|exact Xq|exact (HN)|exact (by rw [List.length_append]; exact hOn)|exact Xs)
    ·have HN : Abs.Hid (L = (l.take (j + 1)).filter (inS l q) ∧ EL ERu (L.map (rulP N)) ys) := ⟨by rw [HST.out, if_neg (by simp [inS, hout, hsq]), List.append_nil]; exact hL.out.1, hL.out.2⟩
     have hne : ((stratumL l y.head.pred : Int) == (q : Int)) = false := by simp; omega
     generalize stratumL l y.head.pred = sy at hcv hne
     clear HST hER hsq
     repeat' (first
 |with_reducible first|apply Xa|apply Xb|(refine Xc ?_;intro κ hκ)|(apply hκ.out;clear hκ κ)|apply Xd|apply Xe|apply Xf
 |((with_reducible first|refine Xl ?_ ?_|refine Xk ?_ ?_)<;> intro h hari<;> try exact Xp)
 |((with_reducible refine aapp_go ?_);refine Xt ?_;intro idn σn hOn hKn eobj enobj ever entop)
 |((with_reducible refine aappn_go ?_);refine Xu ?_)
 |refine Xr ?_
 |exact True.intro
 |(apply hκ.out;clear hκ κ))
     refine ⟨l.length - (j + 1), by omega, j + 1, i6, L, ys, ?_⟩
     ((repeat' with_reducible refine And.intro ?_ ?_)<;> first|exact Xq|exact (HN)|exact ((hK.new _).put hK.nobj _)|exact (Own.put (Own.new hO _) _ _)|exact Xs)
  ·have hjl : j = l.length := by omega
   subst hjl
   obtain ⟨hLe, hLE⟩ := hL.out
   rw [List.take_length] at hLe
   obtain ⟨D, hF, hin, hng, hsh, hfin⟩ := fol_ex hR hB.out hl16 hI.out.1 hI.out.2 (hpm q)
   have hRl : L = RulS l q := hLe
   rw [← hRl] at hF hng hfin
   have hM1l : M1.length = np := by have := hI.out.1.1; rw [this]; exact hn
   have hrm : Room M1 d1 b := room_of (GroA.refl D M1 d1) (by have := hI.out.1.2.1; omega)
   have hFR := fun σ (h : MOb σ om ot M1 d1 b) => efollowRules_spec hF om ot b (by omega) (by omega) M1 d1 hM1l hin hng hrm (by omega) hd1 ys i6 hLE (by rw [List.length_map]; omega) σ h
   rw [List.length_map] at hFR
   have HFIN : Abs.Hid (∀ M' d', GroA D M1 M' d1 d' → (¬ b < d' → ClG (L.map (rulP N)) D (MD M')) → FolI N l M b (q + 1) M' d' ∧ MSh ar M') := fun M' d' g1 g2 => ⟨hfin M' d' g1 g2, fun k t g => hsh k t (g1.inD hin k t g)⟩
   clear hF hng hfin hRl hLe hLE hL hin hsh hrm hM1l
   repeat' (first
 |with_reducible first|apply Xa|apply Xb|(refine Xc ?_;intro κ hκ)|(apply hκ.out;clear hκ κ)|apply Xd|apply Xe|apply Xf
 |((with_reducible first|refine Xl ?_ ?_|refine Xk ?_ ?_)<;> intro h hari<;> try exact Xp)
 |((with_reducible refine aapp_go ?_);refine Xt ?_;intro idn σn hOn hKn eobj enobj ever entop)
 |((with_reducible refine aappn_go ?_);refine Xu ?_)
 |((with_reducible refine Xh ?_);refine Xi (hFR _ (hM1.keep (by exact Xs))) ?_;rintro _ _ ⟨M',d',hM7,hKM7,hG7,hd7,hd8,hc7⟩;(have HG7 : Abs.Hid _:=HFIN.out M' d' hG7 hc7;clear hG7 hc7;have kno7:=hKM7.nobj;have kob7:=hKM7.obj;have hKM8:=(hKM1.trans (KM.ofKeep hK)).trans hKM7))
 |refine Xr ?_
 |exact True.intro
 |(apply hκ.out;clear hκ κ))
   rename_i σ7
   refine ⟨l.length + 1 - (q + 1), by omega, q + 1, M', d', ?_⟩
   have e1 : σ7.obj σ.nobj = [sl idn N.length (N.map str), sl idi l.length cs] := by rw [kob7 _ (by omega) (by omega) (by omega), hK.obj _ (by omega), ob0]
   have e2 : σ7.obj o = cvec N.length cc := by rw [kob7 _ (by omega) (by omega) (by omega), hK.obj _ (by omega), oo]
   clear kob7
   ((repeat' with_reducible refine And.intro ?_ ?_)<;> first|exact Xq|exact (hM7)|exact (hKM8)|exact (HG7)|exact (e1)|exact (e2)|exact (by rw [hK.obj _ (by omega), ob0])|exact Xs)
 ·have hql : q = l.length + 1 := by omega
  subst hql
  repeat' (first
 |with_reducible first|apply Xa|apply Xb|(refine Xc ?_;intro κ hκ)|(apply hκ.out;clear hκ κ)|apply Xd|apply Xe|apply Xf
 |((with_reducible first|refine Xl ?_ ?_|refine Xk ?_ ?_)<;> intro h hari<;> try exact Xp)
 |((with_reducible refine aapp_go ?_);refine Xt ?_;intro idn σn hOn hKn eobj enobj ever entop)
 |((with_reducible refine aappn_go ?_);refine Xu ?_)
 |refine Xr ?_
 |exact True.intro
 |(apply hκ.out;clear hκ κ))
  exact ⟨_, rfl, M1, d1, hM1, hKM1, hI.out.1⟩
end Go.Proofs.YtmoeoppbmhfbpaaGreatDoorB
