import Derived.Test.YtmoeoppbmhfbpaaDoorProg
import Derived.Test.YtmoeoppbmhfbpaaDoorXAbsWp
import Derived.KernelRfl
/- What the program's types are, as the abstract machine asks. By program. -/
namespace Go.Abs
open Go.Proofs
theorem tsz_3 : tsz Tryd.prog 3 = some (false, 1) := by kernel_rfl
theorem tsz_4 : tsz Tryd.prog 4 = some (false, 1) := by kernel_rfl
theorem tsz_5 : tsz Tryd.prog 5 = some (false, 1) := by kernel_rfl
theorem tsz_9 : tsz Tryd.prog 9 = some (false, 1) := by kernel_rfl
theorem tsz_26 : tsz Tryd.prog 26 = some (false, 1) := by kernel_rfl
theorem tsz_30 : tsz Tryd.prog 30 = some (false, 1) := by kernel_rfl
theorem tsz_32 : tsz Tryd.prog 32 = some (true, 2) := by kernel_rfl
theorem tsz_36 : tsz Tryd.prog 36 = some (false, 1) := by kernel_rfl
theorem tsz_38 : tsz Tryd.prog 38 = some (true, 2) := by kernel_rfl
theorem tsz_39 : tsz Tryd.prog 39 = some (false, 1) := by kernel_rfl
theorem tsz_41 : tsz Tryd.prog 41 = some (true, 4) := by kernel_rfl
theorem tsz_45 : tsz Tryd.prog 45 = some (true, 2) := by kernel_rfl
theorem tsz_46 : tsz Tryd.prog 46 = some (true, 52) := by kernel_rfl
theorem tsz_48 : tsz Tryd.prog 48 = some (true, 78) := by kernel_rfl
theorem tsz_60 : tsz Tryd.prog 60 = some (true, 3) := by kernel_rfl
theorem tsz_67 : tsz Tryd.prog 67 = some (true, 3) := by kernel_rfl
theorem tsz_87 : tsz Tryd.prog 87 = some (false, 1) := by kernel_rfl
theorem tsz_101 : tsz Tryd.prog 101 = some (false, 1) := by kernel_rfl
theorem tzero_32 : tzero Tryd.prog 32 = some [Value.slice none 0 0, Value.slice none 0 0] := by kernel_rfl
theorem tzero_38 : tzero Tryd.prog 38 = some [Value.int IntKind.i64 (0), Value.slice none 0 0] := by kernel_rfl
theorem tzero_41 : tzero Tryd.prog 41 = some [Value.bool false, Value.int IntKind.i64 (0), Value.slice none 0 0, Value.slice none 0 0] := by kernel_rfl
theorem tzero_45 : tzero Tryd.prog 45 = some [Value.bool false, Value.int IntKind.i64 (0)] := by kernel_rfl
def swZ : List Value := List.replicate 26 (.bool false) ++ (List.replicate 26 [Value.bool false, Value.int .i64 0]).flatten
theorem tzero_48 : tzero Tryd.prog 48 = some swZ := by kernel_rfl
theorem tzero_60 : tzero Tryd.prog 60 = some [Value.string ⟨#[]⟩, Value.int IntKind.i64 (0), Value.slice none 0 0] := by kernel_rfl
theorem tzero_67 : tzero Tryd.prog 67 = some [Value.bool false, Value.int IntKind.i64 (0), Value.slice none 0 0] := by kernel_rfl
theorem tzero_100 : tzero Tryd.prog 100 = some (zrep 24 (Value.int IntKind.u8 (0))) := by kernel_rfl
theorem tzero_111 : tzero Tryd.prog 111 = some (zrep 65 (Value.int IntKind.u8 (0))) := by kernel_rfl
theorem telem_9 : telem Tryd.prog 9 = none := by kernel_rfl
theorem telem_26 : telem Tryd.prog 26 = some (1, 16) := by kernel_rfl
theorem telem_30 : telem Tryd.prog 30 = some (4, 64) := by kernel_rfl
theorem telem_36 : telem Tryd.prog 36 = some (2, 16) := by kernel_rfl
theorem telem_39 : telem Tryd.prog 39 = some (3, 40) := by kernel_rfl
theorem telem_43 : telem Tryd.prog 43 = none := by kernel_rfl
theorem telem_46 : telem Tryd.prog 46 = none := by kernel_rfl
theorem telem_52 : telem Tryd.prog 52 = some (1, 8) := by kernel_rfl
theorem telem_73 : telem Tryd.prog 73 = some (2, 32) := by kernel_rfl
theorem telem_83 : telem Tryd.prog 83 = some (1, 1) := by kernel_rfl
theorem telem_85 : telem Tryd.prog 85 = some (1, 24) := by kernel_rfl
theorem telem_87 : telem Tryd.prog 87 = some (1, 1) := by kernel_rfl
theorem telem_100 : telem Tryd.prog 100 = none := by kernel_rfl
theorem telem_109 : telem Tryd.prog 109 = none := by kernel_rfl
theorem telem_111 : telem Tryd.prog 111 = none := by kernel_rfl
theorem telem_115 : telem Tryd.prog 115 = none := by kernel_rfl
theorem telem_116 : telem Tryd.prog 116 = none := by kernel_rfl
theorem tarr_26 : tarr Tryd.prog 26 = none := by kernel_rfl
theorem tarr_30 : tarr Tryd.prog 30 = none := by kernel_rfl
theorem tarr_36 : tarr Tryd.prog 36 = none := by kernel_rfl
theorem tarr_39 : tarr Tryd.prog 39 = none := by kernel_rfl
theorem tarr_43 : tarr Tryd.prog 43 = some (26, 1) := by kernel_rfl
theorem tarr_46 : tarr Tryd.prog 46 = some (26, 2) := by kernel_rfl
theorem tarr_52 : tarr Tryd.prog 52 = none := by kernel_rfl
theorem tarr_73 : tarr Tryd.prog 73 = none := by kernel_rfl
theorem tarr_83 : tarr Tryd.prog 83 = none := by kernel_rfl
theorem tarr_85 : tarr Tryd.prog 85 = none := by kernel_rfl
theorem tarr_87 : tarr Tryd.prog 87 = none := by kernel_rfl
theorem tarr_100 : tarr Tryd.prog 100 = some (24, 1) := by kernel_rfl
theorem tarr_109 : tarr Tryd.prog 109 = some (20, 1) := by kernel_rfl
theorem tarr_111 : tarr Tryd.prog 111 = some (65, 1) := by kernel_rfl
theorem tarr_115 : tarr Tryd.prog 115 = some (32, 1) := by kernel_rfl
theorem tarr_116 : tarr Tryd.prog 116 = some (64, 1) := by kernel_rfl
theorem tstr_32 : tstr Tryd.prog 32 = some ([Value.slice none 0 0, Value.slice none 0 0], [(0, 1), (1, 1)]) := by kernel_rfl
theorem tstr_38 : tstr Tryd.prog 38 = some ([Value.int IntKind.i64 (0), Value.slice none 0 0], [(0, 1), (1, 1)]) := by kernel_rfl
theorem tstr_41 : tstr Tryd.prog 41 = some ([Value.bool false, Value.int IntKind.i64 (0), Value.slice none 0 0, Value.slice none 0 0], [(0, 1), (1, 2), (3, 1)]) := by kernel_rfl
theorem tstr_45 : tstr Tryd.prog 45 = some ([Value.bool false, Value.int IntKind.i64 (0)], [(0, 1), (1, 1)]) := by kernel_rfl
theorem tstr_48 : tstr Tryd.prog 48 = some (swZ, [(0, 26), (26, 52)]) := by kernel_rfl
theorem tstr_60 : tstr Tryd.prog 60 = some ([Value.string ⟨#[]⟩, Value.int IntKind.i64 (0), Value.slice none 0 0], [(0, 1), (1, 1), (2, 1)]) := by kernel_rfl
theorem tstr_67 : tstr Tryd.prog 67 = some ([Value.bool false, Value.int IntKind.i64 (0), Value.slice none 0 0], [(0, 1), (1, 2)]) := by kernel_rfl
theorem tez_26 : tez Tryd.prog 26 = some (1, 16, [Value.string ⟨#[]⟩]) := by kernel_rfl
theorem tez_30 : tez Tryd.prog 30 = some (4, 64, [Value.bool false, Value.int IntKind.i64 (0), Value.slice none 0 0, Value.slice none 0 0]) := by kernel_rfl
theorem tez_36 : tez Tryd.prog 36 = some (2, 16, [Value.bool false, Value.int IntKind.i64 (0)]) := by kernel_rfl
theorem tez_39 : tez Tryd.prog 39 = some (3, 40, [Value.bool false, Value.int IntKind.i64 (0), Value.slice none 0 0]) := by kernel_rfl
theorem tez_52 : tez Tryd.prog 52 = some (1, 8, [Value.int IntKind.i64 (0)]) := by kernel_rfl
theorem tez_73 : tez Tryd.prog 73 = some (2, 32, [Value.int IntKind.i64 (0), Value.slice none 0 0]) := by kernel_rfl
theorem tez_83 : tez Tryd.prog 83 = some (1, 1, [Value.int IntKind.u8 (0)]) := by kernel_rfl
theorem tez_85 : tez Tryd.prog 85 = some (1, 24, [Value.slice none 0 0]) := by kernel_rfl
theorem tez_87 : tez Tryd.prog 87 = some (1, 1, [Value.bool false]) := by kernel_rfl
theorem tfld_32_0 : tfld Tryd.prog 32 0 = some (0, false, 1) := by kernel_rfl
theorem tfld_32_1 : tfld Tryd.prog 32 1 = some (1, false, 1) := by kernel_rfl
theorem tfld_38_0 : tfld Tryd.prog 38 0 = some (0, false, 1) := by kernel_rfl
theorem tfld_38_1 : tfld Tryd.prog 38 1 = some (1, false, 1) := by kernel_rfl
theorem tfld_41_0 : tfld Tryd.prog 41 0 = some (0, false, 1) := by kernel_rfl
theorem tfld_41_1 : tfld Tryd.prog 41 1 = some (1, true, 2) := by kernel_rfl
theorem tfld_41_2 : tfld Tryd.prog 41 2 = some (3, false, 1) := by kernel_rfl
theorem tfld_45_0 : tfld Tryd.prog 45 0 = some (0, false, 1) := by kernel_rfl
theorem tfld_45_1 : tfld Tryd.prog 45 1 = some (1, false, 1) := by kernel_rfl
theorem tfld_48_0 : tfld Tryd.prog 48 0 = some (0, true, 26) := by kernel_rfl
theorem tfld_48_1 : tfld Tryd.prog 48 1 = some (26, true, 52) := by kernel_rfl
theorem tfld_60_0 : tfld Tryd.prog 60 0 = some (0, false, 1) := by kernel_rfl
theorem tfld_60_1 : tfld Tryd.prog 60 1 = some (1, false, 1) := by kernel_rfl
theorem tfld_60_2 : tfld Tryd.prog 60 2 = some (2, false, 1) := by kernel_rfl
theorem tfld_67_0 : tfld Tryd.prog 67 0 = some (0, false, 1) := by kernel_rfl
theorem tfld_67_1 : tfld Tryd.prog 67 1 = some (1, true, 2) := by kernel_rfl
theorem tpair_45 : tpair Tryd.prog 45 = some .i64 := by kernel_rfl
theorem follows_mixed : Tryd.prog.follows .mixedOrders = true := by kernel_rfl
theorem u_2 : type_of% @Tryd.underlying2 := Tryd.underlying2
theorem u_3 : type_of% @Tryd.underlying3 := Tryd.underlying3
theorem u_4 : type_of% @Tryd.underlying4 := Tryd.underlying4
theorem u_5 : type_of% @Tryd.underlying5 := Tryd.underlying5
theorem u_9 : type_of% @Tryd.underlying9 := Tryd.underlying9
theorem u_22 : type_of% @Tryd.underlying22 := Tryd.underlying22
theorem u_26 : type_of% @Tryd.underlying26 := Tryd.underlying26
theorem u_30 : type_of% @Tryd.underlying30 := Tryd.underlying30
theorem u_36 : type_of% @Tryd.underlying36 := Tryd.underlying36
theorem u_39 : type_of% @Tryd.underlying39 := Tryd.underlying39
theorem u_45 : type_of% @Tryd.underlying45 := Tryd.underlying45
theorem u_46 : type_of% @Tryd.underlying46 := Tryd.underlying46
theorem u_52 : type_of% @Tryd.underlying52 := Tryd.underlying52
theorem u_73 : type_of% @Tryd.underlying73 := Tryd.underlying73
theorem u_83 : type_of% @Tryd.underlying83 := Tryd.underlying83
theorem u_85 : type_of% @Tryd.underlying85 := Tryd.underlying85
theorem u_87 : type_of% @Tryd.underlying87 := Tryd.underlying87
theorem u_100 : type_of% @Tryd.underlying100 := Tryd.underlying100
theorem u_101 : type_of% @Tryd.underlying101 := Tryd.underlying101
theorem u_110 : type_of% @Tryd.underlying110 := Tryd.underlying110
theorem u_111 : type_of% @Tryd.underlying111 := Tryd.underlying111
theorem u_112 : type_of% @Tryd.underlying112 := Tryd.underlying112
end Go.Abs
