import Derived.Test.YtdaldlbhpdjmpaaGreatDoorProg
import Derived.Test.YtdaldlbhpdjmpaaGreatDoorYAbsWp
import Derived.KernelRfl
/- What the program's types are, as the abstract machine asks. By program. -/
namespace Go.Abs
open Go.Proofs
theorem tsz_3 : tsz Tryz.prog 3 = some (false, 1) := by kernel_rfl
theorem tsz_4 : tsz Tryz.prog 4 = some (false, 1) := by kernel_rfl
theorem tsz_9 : tsz Tryz.prog 9 = some (false, 1) := by kernel_rfl
theorem tsz_37 : tsz Tryz.prog 37 = some (false, 1) := by kernel_rfl
theorem tsz_43 : tsz Tryz.prog 43 = some (true, 6) := by kernel_rfl
theorem tsz_64 : tsz Tryz.prog 64 = some (false, 1) := by kernel_rfl
theorem tsz_66 : tsz Tryz.prog 66 = some (true, 2) := by kernel_rfl
theorem tsz_92 : tsz Tryz.prog 92 = some (false, 1) := by kernel_rfl
theorem tsz_94 : tsz Tryz.prog 94 = some (true, 2) := by kernel_rfl
theorem tsz_95 : tsz Tryz.prog 95 = some (false, 1) := by kernel_rfl
theorem tsz_97 : tsz Tryz.prog 97 = some (true, 4) := by kernel_rfl
theorem tsz_101 : tsz Tryz.prog 101 = some (true, 2) := by kernel_rfl
theorem tsz_102 : tsz Tryz.prog 102 = some (true, 52) := by kernel_rfl
theorem tsz_104 : tsz Tryz.prog 104 = some (true, 78) := by kernel_rfl
theorem tsz_109 : tsz Tryz.prog 109 = some (true, 3) := by kernel_rfl
theorem tsz_134 : tsz Tryz.prog 134 = some (false, 1) := by kernel_rfl
theorem tsz_143 : tsz Tryz.prog 143 = some (true, 3) := by kernel_rfl
theorem tsz_145 : tsz Tryz.prog 145 = some (true, 5) := by kernel_rfl
theorem tsz_163 : tsz Tryz.prog 163 = some (true, 3) := by kernel_rfl
theorem tsz_207 : tsz Tryz.prog 207 = some (false, 1) := by kernel_rfl
theorem tsz_227 : tsz Tryz.prog 227 = some (true, 256) := by kernel_rfl
theorem tsz_229 : tsz Tryz.prog 229 = some (true, 16) := by kernel_rfl
theorem tzero_43 : tzero Tryz.prog 43 = some [Value.int IntKind.i64 (0), Value.int IntKind.i64 (0), Value.int IntKind.i64 (0), Value.string ⟨#[]⟩, Value.string ⟨#[]⟩, Value.string ⟨#[]⟩] := by kernel_rfl
theorem tzero_66 : tzero Tryz.prog 66 = some [Value.slice none 0 0, Value.slice none 0 0] := by kernel_rfl
theorem tzero_94 : tzero Tryz.prog 94 = some [Value.int IntKind.i64 (0), Value.slice none 0 0] := by kernel_rfl
theorem tzero_97 : tzero Tryz.prog 97 = some [Value.bool false, Value.int IntKind.i64 (0), Value.slice none 0 0, Value.slice none 0 0] := by kernel_rfl
theorem tzero_101 : tzero Tryz.prog 101 = some [Value.bool false, Value.int IntKind.i64 (0)] := by kernel_rfl
/-- nothing put, of a rule's variables -/
def swZ : List Value := List.replicate 26 (.bool false) ++ (List.replicate 26 [Value.bool false, Value.int .i64 0]).flatten
theorem tzero_104 : tzero Tryz.prog 104 = some swZ := by kernel_rfl
theorem tzero_109 : tzero Tryz.prog 109 = some [Value.string ⟨#[]⟩, Value.int IntKind.i64 (0), Value.slice none 0 0] := by kernel_rfl
theorem tzero_143 : tzero Tryz.prog 143 = some [Value.bool false, Value.string ⟨#[]⟩, Value.slice none 0 0] := by kernel_rfl
theorem tzero_145 : tzero Tryz.prog 145 = some [Value.bool false, Value.bool false, Value.string ⟨#[]⟩, Value.slice none 0 0, Value.slice none 0 0] := by kernel_rfl
theorem tzero_163 : tzero Tryz.prog 163 = some [Value.bool false, Value.int IntKind.i64 (0), Value.slice none 0 0] := by kernel_rfl
theorem tzero_227 : tzero Tryz.prog 227 = some (zrep 256 (Value.bool false)) := by kernel_rfl
theorem tzero_229 : tzero Tryz.prog 229 = some [Value.bool false, Value.bool false, Value.bool false, Value.bool false, Value.bool false, Value.bool false, Value.bool false, Value.bool false, Value.bool false, Value.bool false, Value.bool false, Value.bool false, Value.bool false, Value.bool false, Value.bool false, Value.bool false] := by kernel_rfl
theorem telem_9 : telem Tryz.prog 9 = none := by kernel_rfl
theorem telem_22 : telem Tryz.prog 22 = some (6, 72) := by kernel_rfl
theorem telem_25 : telem Tryz.prog 25 = some (1, 8) := by kernel_rfl
theorem telem_37 : telem Tryz.prog 37 = some (1, 16) := by kernel_rfl
theorem telem_64 : telem Tryz.prog 64 = some (4, 64) := by kernel_rfl
theorem telem_69 : telem Tryz.prog 69 = some (2, 32) := by kernel_rfl
theorem telem_92 : telem Tryz.prog 92 = some (2, 16) := by kernel_rfl
theorem telem_95 : telem Tryz.prog 95 = some (3, 40) := by kernel_rfl
theorem telem_134 : telem Tryz.prog 134 = some (3, 48) := by kernel_rfl
theorem telem_137 : telem Tryz.prog 137 = some (5, 80) := by kernel_rfl
theorem telem_150 : telem Tryz.prog 150 = some (2, 32) := by kernel_rfl
theorem telem_205 : telem Tryz.prog 205 = some (1, 24) := by kernel_rfl
theorem telem_207 : telem Tryz.prog 207 = some (1, 1) := by kernel_rfl
theorem tarr_99 : tarr Tryz.prog 99 = some (26, 1) := by kernel_rfl
theorem tarr_102 : tarr Tryz.prog 102 = some (26, 2) := by kernel_rfl
theorem tarr_225 : tarr Tryz.prog 225 = some (16, 1) := by kernel_rfl
theorem tarr_227 : tarr Tryz.prog 227 = some (16, 16) := by kernel_rfl
theorem tarr_229 : tarr Tryz.prog 229 = some (16, 1) := by kernel_rfl
theorem tstr_66 : tstr Tryz.prog 66 = some ([Value.slice none 0 0, Value.slice none 0 0], [(0, 1), (1, 1)]) := by kernel_rfl
theorem tstr_94 : tstr Tryz.prog 94 = some ([Value.int IntKind.i64 (0), Value.slice none 0 0], [(0, 1), (1, 1)]) := by kernel_rfl
theorem tstr_97 : tstr Tryz.prog 97 = some ([Value.bool false, Value.int IntKind.i64 (0), Value.slice none 0 0, Value.slice none 0 0], [(0, 1), (1, 2), (3, 1)]) := by kernel_rfl
theorem tpair_101 : tpair Tryz.prog 101 = some .i64 := by kernel_rfl
theorem tstr_101 : tstr Tryz.prog 101 = some ([Value.bool false, Value.int IntKind.i64 (0)], [(0, 1), (1, 1)]) := by kernel_rfl
theorem tstr_104 : tstr Tryz.prog 104 = some (swZ, [(0, 26), (26, 52)]) := by kernel_rfl
theorem tstr_109 : tstr Tryz.prog 109 = some ([Value.string ⟨#[]⟩, Value.int IntKind.i64 (0), Value.slice none 0 0], [(0, 1), (1, 1), (2, 1)]) := by kernel_rfl
theorem tstr_143 : tstr Tryz.prog 143 = some ([Value.bool false, Value.string ⟨#[]⟩, Value.slice none 0 0], [(0, 1), (1, 1), (2, 1)]) := by kernel_rfl
theorem tstr_145 : tstr Tryz.prog 145 = some ([Value.bool false, Value.bool false, Value.string ⟨#[]⟩, Value.slice none 0 0, Value.slice none 0 0], [(0, 1), (1, 3), (4, 1)]) := by kernel_rfl
theorem tstr_152 : tstr Tryz.prog 152 = some ([Value.string ⟨#[]⟩, Value.string ⟨#[]⟩], [(0, 1), (1, 1)]) := by kernel_rfl
theorem tstr_163 : tstr Tryz.prog 163 = some ([Value.bool false, Value.int IntKind.i64 (0), Value.slice none 0 0], [(0, 1), (1, 2)]) := by kernel_rfl
theorem tstr_223 : tstr Tryz.prog 223 = some ([Value.int IntKind.i64 (0), Value.int IntKind.i64 (0), Value.int IntKind.i64 (0), Value.int IntKind.i64 (0), Value.int IntKind.i64 (0), Value.int IntKind.i64 (0), Value.bool false], [(0, 1), (1, 1), (2, 1), (3, 1), (4, 1), (5, 1), (6, 1)]) := by kernel_rfl
theorem tez_25 : tez Tryz.prog 25 = some (1, 8, [Value.int IntKind.i64 (0)]) := by kernel_rfl
theorem tez_37 : tez Tryz.prog 37 = some (1, 16, [Value.string ⟨#[]⟩]) := by kernel_rfl
theorem tez_64 : tez Tryz.prog 64 = some (4, 64, [Value.bool false, Value.int IntKind.i64 (0), Value.slice none 0 0, Value.slice none 0 0]) := by kernel_rfl
theorem tez_69 : tez Tryz.prog 69 = some (2, 32, [Value.int IntKind.i64 (0), Value.slice none 0 0]) := by kernel_rfl
theorem tez_92 : tez Tryz.prog 92 = some (2, 16, [Value.bool false, Value.int IntKind.i64 (0)]) := by kernel_rfl
theorem tez_95 : tez Tryz.prog 95 = some (3, 40, [Value.bool false, Value.int IntKind.i64 (0), Value.slice none 0 0]) := by kernel_rfl
theorem tez_134 : tez Tryz.prog 134 = some (3, 48, [Value.bool false, Value.string ⟨#[]⟩, Value.slice none 0 0]) := by kernel_rfl
theorem tez_137 : tez Tryz.prog 137 = some (5, 80, [Value.bool false, Value.bool false, Value.string ⟨#[]⟩, Value.slice none 0 0, Value.slice none 0 0]) := by kernel_rfl
theorem tez_150 : tez Tryz.prog 150 = some (2, 32, [Value.string ⟨#[]⟩, Value.string ⟨#[]⟩]) := by kernel_rfl
theorem tez_203 : tez Tryz.prog 203 = some (1, 1, [Value.int IntKind.u8 (0)]) := by kernel_rfl
theorem tez_205 : tez Tryz.prog 205 = some (1, 24, [Value.slice none 0 0]) := by kernel_rfl
theorem tez_207 : tez Tryz.prog 207 = some (1, 1, [Value.bool false]) := by kernel_rfl
theorem tfld_43_0 : tfld Tryz.prog 43 0 = some (0, false, 1) := by kernel_rfl
theorem tfld_43_1 : tfld Tryz.prog 43 1 = some (1, false, 1) := by kernel_rfl
theorem tfld_43_2 : tfld Tryz.prog 43 2 = some (2, false, 1) := by kernel_rfl
theorem tfld_43_3 : tfld Tryz.prog 43 3 = some (3, false, 1) := by kernel_rfl
theorem tfld_43_4 : tfld Tryz.prog 43 4 = some (4, false, 1) := by kernel_rfl
theorem tfld_66_0 : tfld Tryz.prog 66 0 = some (0, false, 1) := by kernel_rfl
theorem tfld_66_1 : tfld Tryz.prog 66 1 = some (1, false, 1) := by kernel_rfl
theorem tfld_94_0 : tfld Tryz.prog 94 0 = some (0, false, 1) := by kernel_rfl
theorem tfld_94_1 : tfld Tryz.prog 94 1 = some (1, false, 1) := by kernel_rfl
theorem tfld_97_0 : tfld Tryz.prog 97 0 = some (0, false, 1) := by kernel_rfl
theorem tfld_97_1 : tfld Tryz.prog 97 1 = some (1, true, 2) := by kernel_rfl
theorem tfld_97_2 : tfld Tryz.prog 97 2 = some (3, false, 1) := by kernel_rfl
theorem tfld_101_0 : tfld Tryz.prog 101 0 = some (0, false, 1) := by kernel_rfl
theorem tfld_101_1 : tfld Tryz.prog 101 1 = some (1, false, 1) := by kernel_rfl
theorem tfld_104_0 : tfld Tryz.prog 104 0 = some (0, true, 26) := by kernel_rfl
theorem tfld_104_1 : tfld Tryz.prog 104 1 = some (26, true, 52) := by kernel_rfl
theorem tfld_109_0 : tfld Tryz.prog 109 0 = some (0, false, 1) := by kernel_rfl
theorem tfld_109_1 : tfld Tryz.prog 109 1 = some (1, false, 1) := by kernel_rfl
theorem tfld_109_2 : tfld Tryz.prog 109 2 = some (2, false, 1) := by kernel_rfl
theorem tfld_143_0 : tfld Tryz.prog 143 0 = some (0, false, 1) := by kernel_rfl
theorem tfld_143_1 : tfld Tryz.prog 143 1 = some (1, false, 1) := by kernel_rfl
theorem tfld_143_2 : tfld Tryz.prog 143 2 = some (2, false, 1) := by kernel_rfl
theorem tfld_145_0 : tfld Tryz.prog 145 0 = some (0, false, 1) := by kernel_rfl
theorem tfld_145_1 : tfld Tryz.prog 145 1 = some (1, true, 3) := by kernel_rfl
theorem tfld_145_2 : tfld Tryz.prog 145 2 = some (4, false, 1) := by kernel_rfl
theorem tfld_152_0 : tfld Tryz.prog 152 0 = some (0, false, 1) := by kernel_rfl
theorem tfld_152_1 : tfld Tryz.prog 152 1 = some (1, false, 1) := by kernel_rfl
theorem tfld_163_0 : tfld Tryz.prog 163 0 = some (0, false, 1) := by kernel_rfl
theorem tfld_163_1 : tfld Tryz.prog 163 1 = some (1, true, 2) := by kernel_rfl
theorem tfld_223_0 : tfld Tryz.prog 223 0 = some (0, false, 1) := by kernel_rfl
theorem tfld_223_1 : tfld Tryz.prog 223 1 = some (1, false, 1) := by kernel_rfl
theorem tfld_223_2 : tfld Tryz.prog 223 2 = some (2, false, 1) := by kernel_rfl
theorem tfld_223_3 : tfld Tryz.prog 223 3 = some (3, false, 1) := by kernel_rfl
theorem tfld_223_4 : tfld Tryz.prog 223 4 = some (4, false, 1) := by kernel_rfl
theorem tfld_223_5 : tfld Tryz.prog 223 5 = some (5, false, 1) := by kernel_rfl
theorem tfld_223_6 : tfld Tryz.prog 223 6 = some (6, false, 1) := by kernel_rfl
theorem follows_mixed : Tryz.prog.follows .mixedOrders = true := by kernel_rfl
theorem u_3 : type_of% @Tryz.underlying3 := Tryz.underlying3
theorem u_4 : type_of% @Tryz.underlying4 := Tryz.underlying4
theorem u_5 : type_of% @Tryz.underlying5 := Tryz.underlying5
theorem u_9 : type_of% @Tryz.underlying9 := Tryz.underlying9
theorem u_22 : type_of% @Tryz.underlying22 := Tryz.underlying22
theorem u_25 : type_of% @Tryz.underlying25 := Tryz.underlying25
theorem u_30 : type_of% @Tryz.underlying30 := Tryz.underlying30
theorem u_37 : type_of% @Tryz.underlying37 := Tryz.underlying37
theorem u_64 : type_of% @Tryz.underlying64 := Tryz.underlying64
theorem u_69 : type_of% @Tryz.underlying69 := Tryz.underlying69
theorem u_92 : type_of% @Tryz.underlying92 := Tryz.underlying92
theorem u_95 : type_of% @Tryz.underlying95 := Tryz.underlying95
theorem u_102 : type_of% @Tryz.underlying102 := Tryz.underlying102
theorem u_134 : type_of% @Tryz.underlying134 := Tryz.underlying134
theorem u_137 : type_of% @Tryz.underlying137 := Tryz.underlying137
theorem u_150 : type_of% @Tryz.underlying150 := Tryz.underlying150
theorem u_203 : type_of% @Tryz.underlying203 := Tryz.underlying203
theorem u_205 : type_of% @Tryz.underlying205 := Tryz.underlying205
end Go.Abs
