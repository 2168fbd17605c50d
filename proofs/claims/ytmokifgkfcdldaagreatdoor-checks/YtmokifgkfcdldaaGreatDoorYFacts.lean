import Derived.Test.YtmokifgkfcdldaaGreatDoorProg
import Derived.Test.YtmokifgkfcdldaaGreatDoorYAbsWp
import Derived.KernelRfl
/- What the program's types are, as the abstract machine asks. By program. -/
namespace Go.Abs
open Go.Proofs
theorem tsz_3 : tsz Tryz.prog 3 = some (false, 1) := by kernel_rfl
theorem tsz_4 : tsz Tryz.prog 4 = some (false, 1) := by kernel_rfl
theorem tsz_9 : tsz Tryz.prog 9 = some (false, 1) := by kernel_rfl
theorem tsz_37 : tsz Tryz.prog 37 = some (false, 1) := by kernel_rfl
theorem tsz_43 : tsz Tryz.prog 43 = some (true, 6) := by kernel_rfl
theorem tsz_52 : tsz Tryz.prog 52 = some (false, 1) := by kernel_rfl
theorem tsz_54 : tsz Tryz.prog 54 = some (true, 2) := by kernel_rfl
theorem tsz_81 : tsz Tryz.prog 81 = some (true, 3) := by kernel_rfl
theorem tsz_90 : tsz Tryz.prog 90 = some (false, 1) := by kernel_rfl
theorem tsz_92 : tsz Tryz.prog 92 = some (true, 2) := by kernel_rfl
theorem tsz_97 : tsz Tryz.prog 97 = some (false, 1) := by kernel_rfl
theorem tsz_99 : tsz Tryz.prog 99 = some (true, 4) := by kernel_rfl
theorem tsz_116 : tsz Tryz.prog 116 = some (false, 1) := by kernel_rfl
theorem tsz_125 : tsz Tryz.prog 125 = some (true, 3) := by kernel_rfl
theorem tsz_127 : tsz Tryz.prog 127 = some (true, 5) := by kernel_rfl
theorem tsz_134 : tsz Tryz.prog 134 = some (true, 2) := by kernel_rfl
theorem tsz_181 : tsz Tryz.prog 181 = some (true, 3) := by kernel_rfl
theorem tsz_196 : tsz Tryz.prog 196 = some (false, 1) := by kernel_rfl
theorem tsz_216 : tsz Tryz.prog 216 = some (true, 256) := by kernel_rfl
theorem tsz_218 : tsz Tryz.prog 218 = some (true, 16) := by kernel_rfl
theorem tzero_43 : tzero Tryz.prog 43 = some [Value.int IntKind.i64 (0), Value.int IntKind.i64 (0), Value.int IntKind.i64 (0), Value.string ⟨#[]⟩, Value.string ⟨#[]⟩, Value.string ⟨#[]⟩] := by kernel_rfl
theorem tzero_54 : tzero Tryz.prog 54 = some [Value.slice none 0 0, Value.slice none 0 0] := by kernel_rfl
theorem tzero_81 : tzero Tryz.prog 81 = some [Value.string ⟨#[]⟩, Value.int IntKind.i64 (0), Value.slice none 0 0] := by kernel_rfl
theorem tzero_92 : tzero Tryz.prog 92 = some [Value.int IntKind.i64 (0), Value.slice none 0 0] := by kernel_rfl
theorem tzero_99 : tzero Tryz.prog 99 = some [Value.bool false, Value.int IntKind.i64 (0), Value.slice none 0 0, Value.slice none 0 0] := by kernel_rfl
theorem tzero_125 : tzero Tryz.prog 125 = some [Value.bool false, Value.string ⟨#[]⟩, Value.slice none 0 0] := by kernel_rfl
theorem tzero_127 : tzero Tryz.prog 127 = some [Value.bool false, Value.bool false, Value.string ⟨#[]⟩, Value.slice none 0 0, Value.slice none 0 0] := by kernel_rfl
theorem tzero_134 : tzero Tryz.prog 134 = some [Value.bool false, Value.int IntKind.i64 (0)] := by kernel_rfl
theorem tzero_181 : tzero Tryz.prog 181 = some [Value.bool false, Value.int IntKind.i64 (0), Value.slice none 0 0] := by kernel_rfl
theorem tzero_216 : tzero Tryz.prog 216 = some (zrep 256 (Value.bool false)) := by kernel_rfl
theorem tzero_218 : tzero Tryz.prog 218 = some [Value.bool false, Value.bool false, Value.bool false, Value.bool false, Value.bool false, Value.bool false, Value.bool false, Value.bool false, Value.bool false, Value.bool false, Value.bool false, Value.bool false, Value.bool false, Value.bool false, Value.bool false, Value.bool false] := by kernel_rfl
theorem telem_9 : telem Tryz.prog 9 = none := by kernel_rfl
theorem telem_22 : telem Tryz.prog 22 = some (6, 72) := by kernel_rfl
theorem telem_25 : telem Tryz.prog 25 = some (1, 8) := by kernel_rfl
theorem telem_37 : telem Tryz.prog 37 = some (1, 16) := by kernel_rfl
theorem telem_52 : telem Tryz.prog 52 = some (4, 64) := by kernel_rfl
theorem telem_57 : telem Tryz.prog 57 = some (2, 32) := by kernel_rfl
theorem telem_90 : telem Tryz.prog 90 = some (2, 16) := by kernel_rfl
theorem telem_97 : telem Tryz.prog 97 = some (3, 40) := by kernel_rfl
theorem telem_116 : telem Tryz.prog 116 = some (3, 48) := by kernel_rfl
theorem telem_119 : telem Tryz.prog 119 = some (5, 80) := by kernel_rfl
theorem telem_194 : telem Tryz.prog 194 = some (1, 24) := by kernel_rfl
theorem telem_196 : telem Tryz.prog 196 = some (1, 1) := by kernel_rfl
theorem telem_214 : telem Tryz.prog 214 = none := by kernel_rfl
theorem telem_216 : telem Tryz.prog 216 = none := by kernel_rfl
theorem telem_218 : telem Tryz.prog 218 = none := by kernel_rfl
theorem tarr_22 : tarr Tryz.prog 22 = none := by kernel_rfl
theorem tarr_25 : tarr Tryz.prog 25 = none := by kernel_rfl
theorem tarr_37 : tarr Tryz.prog 37 = none := by kernel_rfl
theorem tarr_52 : tarr Tryz.prog 52 = none := by kernel_rfl
theorem tarr_57 : tarr Tryz.prog 57 = none := by kernel_rfl
theorem tarr_90 : tarr Tryz.prog 90 = none := by kernel_rfl
theorem tarr_97 : tarr Tryz.prog 97 = none := by kernel_rfl
theorem tarr_116 : tarr Tryz.prog 116 = none := by kernel_rfl
theorem tarr_119 : tarr Tryz.prog 119 = none := by kernel_rfl
theorem tarr_194 : tarr Tryz.prog 194 = none := by kernel_rfl
theorem tarr_196 : tarr Tryz.prog 196 = none := by kernel_rfl
theorem tarr_214 : tarr Tryz.prog 214 = some (16, 1) := by kernel_rfl
theorem tarr_216 : tarr Tryz.prog 216 = some (16, 16) := by kernel_rfl
theorem tarr_218 : tarr Tryz.prog 218 = some (16, 1) := by kernel_rfl
theorem tstr_54 : tstr Tryz.prog 54 = some ([Value.slice none 0 0, Value.slice none 0 0], [(0, 1), (1, 1)]) := by kernel_rfl
theorem tstr_81 : tstr Tryz.prog 81 = some ([Value.string ⟨#[]⟩, Value.int IntKind.i64 (0), Value.slice none 0 0], [(0, 1), (1, 1), (2, 1)]) := by kernel_rfl
theorem tstr_92 : tstr Tryz.prog 92 = some ([Value.int IntKind.i64 (0), Value.slice none 0 0], [(0, 1), (1, 1)]) := by kernel_rfl
theorem tstr_99 : tstr Tryz.prog 99 = some ([Value.bool false, Value.int IntKind.i64 (0), Value.slice none 0 0, Value.slice none 0 0], [(0, 1), (1, 2), (3, 1)]) := by kernel_rfl
theorem tstr_125 : tstr Tryz.prog 125 = some ([Value.bool false, Value.string ⟨#[]⟩, Value.slice none 0 0], [(0, 1), (1, 1), (2, 1)]) := by kernel_rfl
theorem tstr_127 : tstr Tryz.prog 127 = some ([Value.bool false, Value.bool false, Value.string ⟨#[]⟩, Value.slice none 0 0, Value.slice none 0 0], [(0, 1), (1, 3), (4, 1)]) := by kernel_rfl
theorem tstr_134 : tstr Tryz.prog 134 = some ([Value.bool false, Value.int IntKind.i64 (0)], [(0, 1), (1, 1)]) := by kernel_rfl
theorem tstr_181 : tstr Tryz.prog 181 = some ([Value.bool false, Value.int IntKind.i64 (0), Value.slice none 0 0], [(0, 1), (1, 2)]) := by kernel_rfl
theorem tstr_212 : tstr Tryz.prog 212 = some ([Value.int IntKind.i64 (0), Value.int IntKind.i64 (0), Value.int IntKind.i64 (0), Value.int IntKind.i64 (0), Value.int IntKind.i64 (0), Value.int IntKind.i64 (0), Value.bool false], [(0, 1), (1, 1), (2, 1), (3, 1), (4, 1), (5, 1), (6, 1)]) := by kernel_rfl
theorem tez_25 : tez Tryz.prog 25 = some (1, 8, [Value.int IntKind.i64 (0)]) := by kernel_rfl
theorem tez_37 : tez Tryz.prog 37 = some (1, 16, [Value.string ⟨#[]⟩]) := by kernel_rfl
theorem tez_52 : tez Tryz.prog 52 = some (4, 64, [Value.bool false, Value.int IntKind.i64 (0), Value.slice none 0 0, Value.slice none 0 0]) := by kernel_rfl
theorem tez_57 : tez Tryz.prog 57 = some (2, 32, [Value.int IntKind.i64 (0), Value.slice none 0 0]) := by kernel_rfl
theorem tez_90 : tez Tryz.prog 90 = some (2, 16, [Value.bool false, Value.int IntKind.i64 (0)]) := by kernel_rfl
theorem tez_97 : tez Tryz.prog 97 = some (3, 40, [Value.bool false, Value.int IntKind.i64 (0), Value.slice none 0 0]) := by kernel_rfl
theorem tez_116 : tez Tryz.prog 116 = some (3, 48, [Value.bool false, Value.string ⟨#[]⟩, Value.slice none 0 0]) := by kernel_rfl
theorem tez_119 : tez Tryz.prog 119 = some (5, 80, [Value.bool false, Value.bool false, Value.string ⟨#[]⟩, Value.slice none 0 0, Value.slice none 0 0]) := by kernel_rfl
theorem tez_194 : tez Tryz.prog 194 = some (1, 24, [Value.slice none 0 0]) := by kernel_rfl
theorem tez_196 : tez Tryz.prog 196 = some (1, 1, [Value.bool false]) := by kernel_rfl
theorem tez_223 : tez Tryz.prog 223 = some (1, 1, [Value.int IntKind.u8 (0)]) := by kernel_rfl
theorem tfld_43_0 : tfld Tryz.prog 43 0 = some (0, false, 1) := by kernel_rfl
theorem tfld_43_1 : tfld Tryz.prog 43 1 = some (1, false, 1) := by kernel_rfl
theorem tfld_43_2 : tfld Tryz.prog 43 2 = some (2, false, 1) := by kernel_rfl
theorem tfld_43_3 : tfld Tryz.prog 43 3 = some (3, false, 1) := by kernel_rfl
theorem tfld_43_4 : tfld Tryz.prog 43 4 = some (4, false, 1) := by kernel_rfl
theorem tfld_54_0 : tfld Tryz.prog 54 0 = some (0, false, 1) := by kernel_rfl
theorem tfld_54_1 : tfld Tryz.prog 54 1 = some (1, false, 1) := by kernel_rfl
theorem tfld_81_0 : tfld Tryz.prog 81 0 = some (0, false, 1) := by kernel_rfl
theorem tfld_81_1 : tfld Tryz.prog 81 1 = some (1, false, 1) := by kernel_rfl
theorem tfld_81_2 : tfld Tryz.prog 81 2 = some (2, false, 1) := by kernel_rfl
theorem tfld_92_0 : tfld Tryz.prog 92 0 = some (0, false, 1) := by kernel_rfl
theorem tfld_92_1 : tfld Tryz.prog 92 1 = some (1, false, 1) := by kernel_rfl
theorem tfld_99_0 : tfld Tryz.prog 99 0 = some (0, false, 1) := by kernel_rfl
theorem tfld_99_1 : tfld Tryz.prog 99 1 = some (1, true, 2) := by kernel_rfl
theorem tfld_99_2 : tfld Tryz.prog 99 2 = some (3, false, 1) := by kernel_rfl
theorem tfld_125_0 : tfld Tryz.prog 125 0 = some (0, false, 1) := by kernel_rfl
theorem tfld_125_1 : tfld Tryz.prog 125 1 = some (1, false, 1) := by kernel_rfl
theorem tfld_125_2 : tfld Tryz.prog 125 2 = some (2, false, 1) := by kernel_rfl
theorem tfld_127_0 : tfld Tryz.prog 127 0 = some (0, false, 1) := by kernel_rfl
theorem tfld_127_1 : tfld Tryz.prog 127 1 = some (1, true, 3) := by kernel_rfl
theorem tfld_127_2 : tfld Tryz.prog 127 2 = some (4, false, 1) := by kernel_rfl
theorem tfld_134_0 : tfld Tryz.prog 134 0 = some (0, false, 1) := by kernel_rfl
theorem tfld_134_1 : tfld Tryz.prog 134 1 = some (1, false, 1) := by kernel_rfl
theorem tfld_181_0 : tfld Tryz.prog 181 0 = some (0, false, 1) := by kernel_rfl
theorem tfld_181_1 : tfld Tryz.prog 181 1 = some (1, true, 2) := by kernel_rfl
theorem tfld_212_0 : tfld Tryz.prog 212 0 = some (0, false, 1) := by kernel_rfl
theorem tfld_212_1 : tfld Tryz.prog 212 1 = some (1, false, 1) := by kernel_rfl
theorem tfld_212_2 : tfld Tryz.prog 212 2 = some (2, false, 1) := by kernel_rfl
theorem tfld_212_3 : tfld Tryz.prog 212 3 = some (3, false, 1) := by kernel_rfl
theorem tfld_212_4 : tfld Tryz.prog 212 4 = some (4, false, 1) := by kernel_rfl
theorem tfld_212_5 : tfld Tryz.prog 212 5 = some (5, false, 1) := by kernel_rfl
theorem tfld_212_6 : tfld Tryz.prog 212 6 = some (6, false, 1) := by kernel_rfl
theorem follows_mixed : Tryz.prog.follows .mixedOrders = true := by kernel_rfl
end Go.Abs
