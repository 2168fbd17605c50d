import Derived.Test.YtmoeoppbmhfbpaaGreatDoorProg
import Derived.Test.YtmoeoppbmhfbpaaGreatDoorBAbsWp
import Derived.KernelRfl
/- What the program's types are, as the abstract machine asks. By program. -/
namespace Go.Abs
open Go.Proofs
theorem tsz_3 : tsz Tryz.prog 3 = some (false, 1) := by kernel_rfl
theorem tsz_4 : tsz Tryz.prog 4 = some (false, 1) := by kernel_rfl
theorem tsz_9 : tsz Tryz.prog 9 = some (false, 1) := by kernel_rfl
theorem tsz_37 : tsz Tryz.prog 37 = some (false, 1) := by kernel_rfl
theorem tsz_64 : tsz Tryz.prog 64 = some (false, 1) := by kernel_rfl
theorem tsz_66 : tsz Tryz.prog 66 = some (true, 2) := by kernel_rfl
theorem tsz_69 : tsz Tryz.prog 69 = some (false, 1) := by kernel_rfl
theorem tsz_72 : tsz Tryz.prog 72 = some (false, 1) := by kernel_rfl
theorem tsz_74 : tsz Tryz.prog 74 = some (true, 3) := by kernel_rfl
theorem tsz_92 : tsz Tryz.prog 92 = some (false, 1) := by kernel_rfl
theorem tsz_94 : tsz Tryz.prog 94 = some (true, 2) := by kernel_rfl
theorem tsz_95 : tsz Tryz.prog 95 = some (false, 1) := by kernel_rfl
theorem tsz_97 : tsz Tryz.prog 97 = some (true, 4) := by kernel_rfl
theorem tsz_101 : tsz Tryz.prog 101 = some (true, 2) := by kernel_rfl
theorem tsz_109 : tsz Tryz.prog 109 = some (true, 3) := by kernel_rfl
theorem tsz_122 : tsz Tryz.prog 122 = some (false, 1) := by kernel_rfl
theorem tsz_125 : tsz Tryz.prog 125 = some (true, 3) := by kernel_rfl
theorem tsz_164 : tsz Tryz.prog 164 = some (true, 3) := by kernel_rfl
theorem tsz_180 : tsz Tryz.prog 180 = some (false, 1) := by kernel_rfl
theorem tsz_182 : tsz Tryz.prog 182 = some (true, 4) := by kernel_rfl
theorem tsz_208 : tsz Tryz.prog 208 = some (false, 1) := by kernel_rfl
theorem tsz_214 : tsz Tryz.prog 214 = some (true, 3) := by kernel_rfl
theorem tzero_66 : tzero Tryz.prog 66 = some [Value.slice none 0 0, Value.slice none 0 0] := by kernel_rfl
theorem tzero_74 : tzero Tryz.prog 74 = some [Value.slice none 0 0, Value.int IntKind.i64 (0), Value.int IntKind.i64 (0)] := by kernel_rfl
theorem tzero_94 : tzero Tryz.prog 94 = some [Value.int IntKind.i64 (0), Value.slice none 0 0] := by kernel_rfl
theorem tzero_97 : tzero Tryz.prog 97 = some [Value.bool false, Value.int IntKind.i64 (0), Value.slice none 0 0, Value.slice none 0 0] := by kernel_rfl
theorem tzero_101 : tzero Tryz.prog 101 = some [Value.bool false, Value.int IntKind.i64 (0)] := by kernel_rfl
theorem tzero_109 : tzero Tryz.prog 109 = some [Value.string ⟨#[]⟩, Value.int IntKind.i64 (0), Value.slice none 0 0] := by kernel_rfl
theorem tzero_125 : tzero Tryz.prog 125 = some [Value.int IntKind.i64 (0), Value.int IntKind.i64 (0), Value.int IntKind.i64 (0)] := by kernel_rfl
theorem tzero_164 : tzero Tryz.prog 164 = some [Value.bool false, Value.int IntKind.i64 (0), Value.slice none 0 0] := by kernel_rfl
theorem tzero_182 : tzero Tryz.prog 182 = some [Value.int IntKind.i64 (0), Value.slice none 0 0, Value.slice none 0 0, Value.slice none 0 0] := by kernel_rfl
theorem tzero_214 : tzero Tryz.prog 214 = some [Value.int IntKind.i64 (0), Value.slice none 0 0, Value.slice none 0 0] := by kernel_rfl
theorem tzero_262 : tzero Tryz.prog 262 = some (zrep 1026 (Value.bool false)) := by kernel_rfl
theorem tzero_301 : tzero Tryz.prog 301 = some (zrep 1026 (Value.int IntKind.i64 (0))) := by kernel_rfl
theorem telem_25 : telem Tryz.prog 25 = some (1, 8) := by kernel_rfl
theorem telem_37 : telem Tryz.prog 37 = some (1, 16) := by kernel_rfl
theorem telem_64 : telem Tryz.prog 64 = some (4, 64) := by kernel_rfl
theorem telem_69 : telem Tryz.prog 69 = some (2, 32) := by kernel_rfl
theorem telem_72 : telem Tryz.prog 72 = some (1, 24) := by kernel_rfl
theorem telem_92 : telem Tryz.prog 92 = some (2, 16) := by kernel_rfl
theorem telem_95 : telem Tryz.prog 95 = some (3, 40) := by kernel_rfl
theorem telem_122 : telem Tryz.prog 122 = some (3, 24) := by kernel_rfl
theorem telem_180 : telem Tryz.prog 180 = some (3, 56) := by kernel_rfl
theorem telem_206 : telem Tryz.prog 206 = some (1, 24) := by kernel_rfl
theorem telem_208 : telem Tryz.prog 208 = some (1, 1) := by kernel_rfl
theorem tarr_125 : tarr Tryz.prog 125 = some (3, 1) := by kernel_rfl
theorem tarr_262 : tarr Tryz.prog 262 = some (1026, 1) := by kernel_rfl
theorem tarr_301 : tarr Tryz.prog 301 = some (1026, 1) := by kernel_rfl
theorem tstr_66 : tstr Tryz.prog 66 = some ([Value.slice none 0 0, Value.slice none 0 0], [(0, 1), (1, 1)]) := by kernel_rfl
theorem tstr_74 : tstr Tryz.prog 74 = some ([Value.slice none 0 0, Value.int IntKind.i64 (0), Value.int IntKind.i64 (0)], [(0, 1), (1, 1), (2, 1)]) := by kernel_rfl
theorem tstr_94 : tstr Tryz.prog 94 = some ([Value.int IntKind.i64 (0), Value.slice none 0 0], [(0, 1), (1, 1)]) := by kernel_rfl
theorem tstr_97 : tstr Tryz.prog 97 = some ([Value.bool false, Value.int IntKind.i64 (0), Value.slice none 0 0, Value.slice none 0 0], [(0, 1), (1, 2), (3, 1)]) := by kernel_rfl
theorem tstr_101 : tstr Tryz.prog 101 = some ([Value.bool false, Value.int IntKind.i64 (0)], [(0, 1), (1, 1)]) := by kernel_rfl
theorem tstr_109 : tstr Tryz.prog 109 = some ([Value.string ⟨#[]⟩, Value.int IntKind.i64 (0), Value.slice none 0 0], [(0, 1), (1, 1), (2, 1)]) := by kernel_rfl
theorem tstr_125 : tstr Tryz.prog 125 = some ([Value.int IntKind.i64 (0), Value.int IntKind.i64 (0), Value.int IntKind.i64 (0)], [(0, 1), (1, 1), (2, 1)]) := by kernel_rfl
theorem tstr_164 : tstr Tryz.prog 164 = some ([Value.bool false, Value.int IntKind.i64 (0), Value.slice none 0 0], [(0, 1), (1, 2)]) := by kernel_rfl
theorem tstr_182 : tstr Tryz.prog 182 = some ([Value.int IntKind.i64 (0), Value.slice none 0 0, Value.slice none 0 0, Value.slice none 0 0], [(0, 2), (2, 1), (3, 1)]) := by kernel_rfl
theorem tstr_214 : tstr Tryz.prog 214 = some ([Value.int IntKind.i64 (0), Value.slice none 0 0, Value.slice none 0 0], [(0, 2), (2, 1)]) := by kernel_rfl
theorem tez_25 : tez Tryz.prog 25 = some (1, 8, [Value.int IntKind.i64 (0)]) := by kernel_rfl
theorem tez_37 : tez Tryz.prog 37 = some (1, 16, [Value.string ⟨#[]⟩]) := by kernel_rfl
theorem tez_64 : tez Tryz.prog 64 = some (4, 64, [Value.bool false, Value.int IntKind.i64 (0), Value.slice none 0 0, Value.slice none 0 0]) := by kernel_rfl
theorem tez_69 : tez Tryz.prog 69 = some (2, 32, [Value.int IntKind.i64 (0), Value.slice none 0 0]) := by kernel_rfl
theorem tez_72 : tez Tryz.prog 72 = some (1, 24, [Value.slice none 0 0]) := by kernel_rfl
theorem tez_92 : tez Tryz.prog 92 = some (2, 16, [Value.bool false, Value.int IntKind.i64 (0)]) := by kernel_rfl
theorem tez_95 : tez Tryz.prog 95 = some (3, 40, [Value.bool false, Value.int IntKind.i64 (0), Value.slice none 0 0]) := by kernel_rfl
theorem tez_122 : tez Tryz.prog 122 = some (3, 24, [Value.int IntKind.i64 (0), Value.int IntKind.i64 (0), Value.int IntKind.i64 (0)]) := by kernel_rfl
theorem tez_134 : tez Tryz.prog 134 = some (3, 48, [Value.bool false, Value.string ⟨#[]⟩, Value.slice none 0 0]) := by kernel_rfl
theorem tez_137 : tez Tryz.prog 137 = some (5, 80, [Value.bool false, Value.bool false, Value.string ⟨#[]⟩, Value.slice none 0 0, Value.slice none 0 0]) := by kernel_rfl
theorem tez_150 : tez Tryz.prog 150 = some (2, 32, [Value.string ⟨#[]⟩, Value.string ⟨#[]⟩]) := by kernel_rfl
theorem tez_180 : tez Tryz.prog 180 = some (3, 56, [Value.int IntKind.i64 (0), Value.slice none 0 0, Value.slice none 0 0]) := by kernel_rfl
theorem tez_204 : tez Tryz.prog 204 = some (1, 1, [Value.int IntKind.u8 (0)]) := by kernel_rfl
theorem tez_206 : tez Tryz.prog 206 = some (1, 24, [Value.slice none 0 0]) := by kernel_rfl
theorem tez_208 : tez Tryz.prog 208 = some (1, 1, [Value.bool false]) := by kernel_rfl
theorem tfld_66_0 : tfld Tryz.prog 66 0 = some (0, false, 1) := by kernel_rfl
theorem tfld_66_1 : tfld Tryz.prog 66 1 = some (1, false, 1) := by kernel_rfl
theorem tfld_74_0 : tfld Tryz.prog 74 0 = some (0, false, 1) := by kernel_rfl
theorem tfld_74_1 : tfld Tryz.prog 74 1 = some (1, false, 1) := by kernel_rfl
theorem tfld_74_2 : tfld Tryz.prog 74 2 = some (2, false, 1) := by kernel_rfl
theorem tfld_94_0 : tfld Tryz.prog 94 0 = some (0, false, 1) := by kernel_rfl
theorem tfld_94_1 : tfld Tryz.prog 94 1 = some (1, false, 1) := by kernel_rfl
theorem tfld_97_0 : tfld Tryz.prog 97 0 = some (0, false, 1) := by kernel_rfl
theorem tfld_97_1 : tfld Tryz.prog 97 1 = some (1, true, 2) := by kernel_rfl
theorem tfld_97_2 : tfld Tryz.prog 97 2 = some (3, false, 1) := by kernel_rfl
theorem tfld_101_0 : tfld Tryz.prog 101 0 = some (0, false, 1) := by kernel_rfl
theorem tfld_101_1 : tfld Tryz.prog 101 1 = some (1, false, 1) := by kernel_rfl
theorem tfld_109_0 : tfld Tryz.prog 109 0 = some (0, false, 1) := by kernel_rfl
theorem tfld_109_1 : tfld Tryz.prog 109 1 = some (1, false, 1) := by kernel_rfl
theorem tfld_109_2 : tfld Tryz.prog 109 2 = some (2, false, 1) := by kernel_rfl
theorem tfld_164_0 : tfld Tryz.prog 164 0 = some (0, false, 1) := by kernel_rfl
theorem tfld_164_1 : tfld Tryz.prog 164 1 = some (1, true, 2) := by kernel_rfl
theorem tfld_182_0 : tfld Tryz.prog 182 0 = some (0, true, 2) := by kernel_rfl
theorem tfld_182_1 : tfld Tryz.prog 182 1 = some (2, false, 1) := by kernel_rfl
theorem tfld_182_2 : tfld Tryz.prog 182 2 = some (3, false, 1) := by kernel_rfl
theorem tfld_214_0 : tfld Tryz.prog 214 0 = some (0, true, 2) := by kernel_rfl
theorem tfld_214_1 : tfld Tryz.prog 214 1 = some (2, false, 1) := by kernel_rfl
theorem ttrip_125 : ttrip Tryz.prog 125 = true := by kernel_rfl
theorem follows_mixed : Tryz.prog.follows .mixedOrders = true := by kernel_rfl
theorem u_3 : type_of% @Tryz.underlying3 := Tryz.underlying3
theorem u_5 : type_of% @Tryz.underlying5 := Tryz.underlying5
theorem u_9 : type_of% @Tryz.underlying9 := Tryz.underlying9
theorem u_37 : type_of% @Tryz.underlying37 := Tryz.underlying37
theorem u_125 : type_of% @Tryz.underlying125 := Tryz.underlying125
/- What some more of the program's types are, as the abstract machine asks. By program. -/
/- The walk's words, each written once. -/
set_option linter.unusedVariables false
set_option maxRecDepth 100000
theorem Xv {a b : Prop} (x : a) (y : b) : a ∧ b := ⟨x, y⟩
theorem BF : type_of% (Xv @tsz_3 <| Xv @tsz_4 <| Xv @tsz_9 <| Xv @tsz_37 <| Xv @tsz_64 <| Xv @tsz_66 <| Xv @tsz_69 <| Xv @tsz_72 <| Xv @tsz_74 <| Xv @tsz_92 <| Xv @tsz_94 <| Xv @tsz_95 <| Xv @tsz_97 <| Xv @tsz_101 <| Xv @tsz_109 <| Xv @tsz_122 <| Xv @tsz_125 <| Xv @tsz_164 <| Xv @tsz_180 <| Xv @tsz_182 <| Xv @tsz_208 <| Xv @tsz_214 <| Xv @tzero_66 <| Xv @tzero_74 <| Xv @tzero_94 <| Xv @tzero_97 <| Xv @tzero_101 <| Xv @tzero_109 <| Xv @tzero_125 <| Xv @tzero_164 <| Xv @tzero_182 <| Xv @tzero_214 <| Xv @tzero_262 <| Xv @tzero_301 <| Xv @telem_25 <| Xv @telem_37 <| Xv @telem_64 <| Xv @telem_69 <| Xv @telem_72 <| Xv @telem_92 <| Xv @telem_95 <| Xv @telem_122 <| Xv @telem_180 <| Xv @telem_206 <| Xv @telem_208 <| Xv @tarr_125 <| Xv @tarr_262 <| Xv @tarr_301 <| Xv @tstr_66 <| Xv @tstr_74 <| Xv @tstr_94 <| Xv @tstr_97 <| Xv @tstr_101 <| Xv @tstr_109 <| Xv @tstr_125 <| Xv @tstr_164 <| Xv @tstr_182 <| Xv @tstr_214 <| Xv @tez_25 <| Xv @tez_37 <| Xv @tez_64 <| Xv @tez_69 <| Xv @tez_72 <| Xv @tez_92 <| Xv @tez_95 <| Xv @tez_122 <| Xv @tez_180 <| Xv @tez_206 <| Xv @tez_208 <| Xv @tfld_66_0 <| Xv @tfld_66_1 <| Xv @tfld_74_0 <| Xv @tfld_74_1 <| Xv @tfld_74_2 <| Xv @tfld_94_0 <| Xv @tfld_94_1 <| Xv @tfld_97_0 <| Xv @tfld_97_1 <| Xv @tfld_97_2 <| Xv @tfld_101_0 <| Xv @tfld_101_1 <| Xv @tfld_109_0 <| Xv @tfld_109_1 <| Xv @tfld_109_2 <| Xv @tfld_164_0 <| Xv @tfld_164_1 <| Xv @tfld_182_0 <| Xv @tfld_182_1 <| Xv @tfld_182_2 <| Xv @tfld_214_0 <| Xv @tfld_214_1 <| Xv @ttrip_125 <| Xv @u_3 <| Xv @u_5 <| Xv @u_9 <| Xv @u_37 <| @u_125) := Xv @tsz_3 <| Xv @tsz_4 <| Xv @tsz_9 <| Xv @tsz_37 <| Xv @tsz_64 <| Xv @tsz_66 <| Xv @tsz_69 <| Xv @tsz_72 <| Xv @tsz_74 <| Xv @tsz_92 <| Xv @tsz_94 <| Xv @tsz_95 <| Xv @tsz_97 <| Xv @tsz_101 <| Xv @tsz_109 <| Xv @tsz_122 <| Xv @tsz_125 <| Xv @tsz_164 <| Xv @tsz_180 <| Xv @tsz_182 <| Xv @tsz_208 <| Xv @tsz_214 <| Xv @tzero_66 <| Xv @tzero_74 <| Xv @tzero_94 <| Xv @tzero_97 <| Xv @tzero_101 <| Xv @tzero_109 <| Xv @tzero_125 <| Xv @tzero_164 <| Xv @tzero_182 <| Xv @tzero_214 <| Xv @tzero_262 <| Xv @tzero_301 <| Xv @telem_25 <| Xv @telem_37 <| Xv @telem_64 <| Xv @telem_69 <| Xv @telem_72 <| Xv @telem_92 <| Xv @telem_95 <| Xv @telem_122 <| Xv @telem_180 <| Xv @telem_206 <| Xv @telem_208 <| Xv @tarr_125 <| Xv @tarr_262 <| Xv @tarr_301 <| Xv @tstr_66 <| Xv @tstr_74 <| Xv @tstr_94 <| Xv @tstr_97 <| Xv @tstr_101 <| Xv @tstr_109 <| Xv @tstr_125 <| Xv @tstr_164 <| Xv @tstr_182 <| Xv @tstr_214 <| Xv @tez_25 <| Xv @tez_37 <| Xv @tez_64 <| Xv @tez_69 <| Xv @tez_72 <| Xv @tez_92 <| Xv @tez_95 <| Xv @tez_122 <| Xv @tez_180 <| Xv @tez_206 <| Xv @tez_208 <| Xv @tfld_66_0 <| Xv @tfld_66_1 <| Xv @tfld_74_0 <| Xv @tfld_74_1 <| Xv @tfld_74_2 <| Xv @tfld_94_0 <| Xv @tfld_94_1 <| Xv @tfld_97_0 <| Xv @tfld_97_1 <| Xv @tfld_97_2 <| Xv @tfld_101_0 <| Xv @tfld_101_1 <| Xv @tfld_109_0 <| Xv @tfld_109_1 <| Xv @tfld_109_2 <| Xv @tfld_164_0 <| Xv @tfld_164_1 <| Xv @tfld_182_0 <| Xv @tfld_182_1 <| Xv @tfld_182_2 <| Xv @tfld_214_0 <| Xv @tfld_214_1 <| Xv @ttrip_125 <| Xv @u_3 <| Xv @u_5 <| Xv @u_9 <| Xv @u_37 <| @u_125
theorem Xa : type_of% @awp_seq := @awp_seq
theorem Xb : type_of% @awp_block := @awp_block
theorem Xc : type_of% @awp_region_k := @awp_region_k
theorem Xd : type_of% @awp_skip := @awp_skip
theorem Xe : type_of% @awp_exit := @awp_exit
theorem Xf : type_of% @awp_ret := @awp_ret
theorem Xg : type_of% @and_go := @and_go
theorem Xh : type_of% @acalls_go := @acalls_go
theorem Xi : type_of% @ACalls.mono := @ACalls.mono
theorem Xj {A : Nat → Bool} {F : Nat → Prop} {σ σ' : St} {i : Nat} {b : Prop} (h : b) (hk : Kept A F σ i σ' := by first | exact kept_refl | exact kept_last rfl | exact kept_keep (by assumption)) : Kept A F σ i σ' ∧ b := ⟨hk, h⟩
theorem Xn {p q : Prop} (e : p = q := by ((try simp only [upd, ↓reduceIte, Nat.reduceEqDiff, B2]) <;> (try simp only [*, reduceCtorEq, decide_true, decide_false])) <;> rfl) : p = q := e
theorem Xo {p q : Prop} (e : p = q := by (simp only [B3]) <;> rfl) : p → q := e.mp
theorem Xp {p : Prop} (e : False := by first | contradiction | omega | (simp at h <;> fail)) : p := e.elim
theorem Xk {P : Program} {n : Nat} {Q : Post} {s : Sl} {σ : St} {c : Operand} {x y : Code} {t : Bool} {q r u v : Prop} (h1 : q → u → AWp P n x Q s σ) (h2 : r → v → AWp P n y Q s σ) (hc : aev s c = sc (.bool t) := by with_unfolding_all rfl) (e1 : (t = true) = q := by exact Xn) (e2 : (t = false) = r := by exact Xn) (a1 : q → u := by first | exact Xo | exact fun _ => True.intro) (a2 : r → v := by first | exact Xo | exact fun _ => True.intro) : AWp P n (.cond c x y) Q s σ :=
 awp_cond_split hc (fun h => h1 (e1.mp h) (a1 (e1.mp h))) (fun h => h2 (e2.mp h) (a2 (e2.mp h)))
theorem Xl {P : Program} {o : Oper} {s : Sl} {σ : St} {k : Sl → St → Prop} {t : Bool} {q r u v : Prop} (h1 : q → u → aStep P o s σ (nxt k s o.dst)) (h2 : r → v → k (aput s o.dst (sc undef)) σ) (e1 : (t = true) = q := by exact Xn) (e2 : (t = false) = r := by exact Xn) (a1 : q → u := by first | exact Xo | exact fun _ => True.intro) (a2 : r → v := by first | exact Xo | exact fun _ => True.intro) : gd P o s σ k (some t) :=
 gd_split (fun h => gd_true.mpr (h1 (e1.mp h) (a1 (e1.mp h)))) (fun h => gd_false.mpr (h2 (e2.mp h) (a2 (e2.mp h))))
theorem Xm {P : Program} {o : Oper} {s : Sl} {F : Nat → Prop} {σ0 : St} {k : Sl → Prop} {t : Bool} {q r u v : Prop} (h1 : q → u → match aq P s σ0 o.op with
   | some x => (∀ p, rdo s o.op = some p → F p) ∧ k (aput s o.dst x)
   | none => False) (h2 : r → v → k (aput s o.dst (sc undef))) (e1 : (t = true) = q := by exact Xn) (e2 : (t = false) = r := by exact Xn) (a1 : q → u := by first | exact Xo | exact fun _ => True.intro) (a2 : r → v := by first | exact Xo | exact fun _ => True.intro) : gt P o s F σ0 k (some t) :=
 gt_split (fun h => gt_true.mpr (h1 (e1.mp h) (a1 (e1.mp h)))) (fun h => gt_false.mpr (h2 (e2.mp h) (a2 (e2.mp h))))
theorem Xq {p : Prop} (h : p := by first | rfl | assumption | omega | (simp only [new_nobj, put_nobj, lay_nobj]; omega) | (simp; omega) | (simp <;> fail)) : p := h
theorem Xr {p q : Prop} (h : q) (e : p = q := by (simp (maxSteps := 3000000) (disch := (first | omega | (simp only [B1, *]; omega))) only [↓mapA_nil, ↓mapA_cons, B0, B4, awant, undef, aq, al, cst, cst1, acells, flat, behind, abin, aconv, aint, thenQ, blkQ, retQ, rdo, objOf, Value.cells, Value.oneCell', Int.reduceToNat, ↓reduceIte, Nat.reduceLT, Nat.reduceEqDiff, reduceCtorEq, Nat.reduceAdd, Nat.reduceMul, Nat.reduceLeDiff, BF, *]) <;> rfl) : p := e.mpr h
theorem Xw {p q : Prop} (h : q) (e : p = q := by (simp (maxSteps := 3000000) (disch := (first | omega | (simp only [List.length_append, B1, *]; omega))) only [List.length_append, ↓mapA_nil, ↓mapA_cons, B0, B4, awant, undef, aq, al, cst, cst1, acells, flat, behind, abin, aconv, aint, thenQ, blkQ, retQ, rdo, objOf, Value.cells, Value.oneCell', Int.reduceToNat, ↓reduceIte, Nat.reduceLT, Nat.reduceEqDiff, reduceCtorEq, Nat.reduceAdd, Nat.reduceMul, Nat.reduceLeDiff, BF, *]) <;> rfl) : p := e.mpr h
theorem Xs {a b : St} (h : Keep a b := by repeat (first | exact Keep.refl _ | assumption | (refine Keep.put ?_ (by first | omega | (simp only [new_nobj, put_nobj, lay_nobj, *]; omega)) _) | (refine Keep.new ?_ _) | (refine Keep.lay ?_ _) | (refine Keep.trans ?_ (by assumption)))) : Keep a b := h
theorem Xt {t : TypeId} {z b : Nat} {zc : List Value} {σ0 σ : St} {id id2 n m m' : Nat} {xs ys : List AV} {K : AV → St → Prop}
  (h : ∀ id' σ', Own σ0 σ' id' (n + m) → Keep σ0 σ' → σ'.obj = σ.obj → σ'.nobj = σ.nobj → σ'.ver = σ.ver → σ.ntop < σ'.ntop → K (sl id' (n + m) (xs ++ ys)) σ')
  (ht : tez Tryz.prog t = some (z, b, zc) := by first | exact tez_25 | exact tez_37 | exact tez_64 | exact tez_69 | exact tez_72 | exact tez_92 | exact tez_95 | exact tez_122 | exact tez_134 | exact tez_137 | exact tez_150 | exact tez_180 | exact tez_204 | exact tez_206 | exact tez_208) (hK : Keep σ0 σ := by assumption) (hO : Own σ0 σ id n := by assumption)
  (hz : 0 < z := by decide) (hzc : zc.length = z := by rfl) (hx : xs.length = n * z := by first | assumption | (simp <;> fail) | (simp; omega) | omega) (hy : ys.length = m * z := by rfl) (hf : ys.all flat = true := by rfl) (hm : 0 < m := by decide) (hb : (n + m) * b ≤ 140737488355328 := by omega) (hl : n + m ≤ 1099511627776 := by omega) : aApp Tryz.prog t t (sl id n xs) (sl id2 m ys) (σ.lay m') K :=
 aApp_own ht hK hO hz hzc hx hy hf hm hb hl h
theorem Xu {t : TypeId} {z b : Nat} {zc : List Value} {σ : St} {id2 m : Nat} {ys : List AV} {K : AV → St → Prop} (h : K (sl (σ.ntop + 2) m ys) (σ.lay m)) (ht : tez Tryz.prog t = some (z, b, zc) := by first | exact tez_25 | exact tez_37 | exact tez_64 | exact tez_69 | exact tez_72 | exact tez_92 | exact tez_95 | exact tez_122 | exact tez_134 | exact tez_137 | exact tez_150 | exact tez_180 | exact tez_204 | exact tez_206 | exact tez_208) (hz0 : zc.length = z := by rfl)
  (hz : 0 < z := by decide) (hy : ys.length = m * z := by rfl) (hf : ys.all flat = true := by rfl) (hm : 0 < m := by decide) (hb : m * b ≤ 140737488355328 := by omega) (hl : m ≤ 1099511627776 := by omega) : aApp Tryz.prog t t nilS (sl id2 m ys) σ K :=
 aApp_nil ht hz0 hz hy hf hm hb hl h
end Go.Abs
