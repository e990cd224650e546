/- strings.Fields at ASCII bytes (the kit's shelf). -/
import Derived.Test.YtablincnlfbjnaaDoorPaU2
import Derived.Shelf.Strings.Fields
import Derived.Ground.NamesProg
import Derived.Shelf.Lay
namespace Go.Proofs.YtablincnlfbjnaaDoor
set_option maxRecDepth 100000
open Go.ChangeShapes Go.WideShapes Go.ChangeAt Go.RowKit Go.Maps
def fieldsLay_ren : Go.Shelf.Ren := ⟨fun | 157 => 26 | 229 => 38 | 199 => 39 | 261 => 56 | 311 => 70 | 312 => 71 | n => n, fun | 9 => 9 | 31 => 48 | 3 => 3 | 5 => 5 | 4 => 4 | 119 => 64 | 0 => 0 | 40 => 66 | 152 => 70 | 21 => 21 | 154 => 72 | 51 => 73 | 141 => 75 | 196 => 86 | 193 => 83 | 198 => 89 | 49 => 87 | 194 => 84 | 201 => 92 | 226 => 97 | 46 => 79 | 227 => 98 | n => n, fun | 0 => 0 | 6 => 1 | n => n⟩
theorem fieldsLay : Go.Proofs.Lays.n157 Tryd.prog fieldsLay_ren := {
  mixed := by kernel_rfl
  f157 := Tryd.func26.trans (congrArg some (by kernel_rfl))
  f199 := Tryd.func39.trans (congrArg some (by kernel_rfl))
  f229 := Tryd.func38.trans (congrArg some (by kernel_rfl))
  f261 := Tryd.func56.trans (congrArg some (by kernel_rfl))
  f311 := Tryd.func70.trans (congrArg some (by kernel_rfl))
  f312 := Tryd.func71.trans (congrArg some (by kernel_rfl))
  t0 := Tryd.underlying0
  a0 := Tryd.isAgg0
  z0 := Tryd.sizeOf0
  v0 := Tryd.zeroValue0
  t3 := Tryd.underlying3
  a3 := Tryd.isAgg3
  z3 := Tryd.sizeOf3
  v3 := Tryd.zeroValue3
  t4 := Tryd.underlying4
  a4 := Tryd.isAgg4
  z4 := Tryd.sizeOf4
  v4 := Tryd.zeroValue4
  t5 := Tryd.underlying5
  a5 := Tryd.isAgg5
  z5 := Tryd.sizeOf5
  v5 := Tryd.zeroValue5
  t9 := Tryd.underlying9
  a9 := Tryd.isAgg9
  z9 := Tryd.sizeOf9
  v9 := Tryd.zeroValue9
  t21 := Tryd.underlying21
  a21 := Tryd.isAgg21
  z21 := Tryd.sizeOf21
  v21 := Tryd.zeroValue21
  t31 := Tryd.underlying48
  a31 := Tryd.isAgg48
  z31 := Tryd.sizeOf48
  v31 := Tryd.zeroValue48
  t40 := Tryd.underlying66
  a40 := Tryd.isAgg66
  z40 := Tryd.sizeOf66
  v40 := Tryd.zeroValue66
  t46 := Tryd.underlying79
  a46 := Tryd.isAgg79
  z46 := Tryd.sizeOf79
  v46 := Tryd.zeroValue79
  t49 := Tryd.underlying87
  a49 := Tryd.isAgg87
  z49 := Tryd.sizeOf87
  v49 := Tryd.zeroValue87
  t51 := Tryd.underlying73
  a51 := Tryd.isAgg73
  z51 := Tryd.sizeOf73
  v51 := Tryd.zeroValue73
  t119 := Tryd.underlying64
  a119 := Tryd.isAgg64
  z119 := Tryd.sizeOf64
  t141 := Tryd.underlying75
  a141 := Tryd.isAgg75
  z141 := Tryd.sizeOf75
  v141 := Tryd.zeroValue75
  t152 := Tryd.underlying70
  a152 := Tryd.isAgg70
  z152 := Tryd.sizeOf70
  v152 := Tryd.zeroValue70
  t154 := Tryd.underlying72
  a154 := Tryd.isAgg72
  z154 := Tryd.sizeOf72
  v154 := Tryd.zeroValue72
  t193 := Tryd.underlying83
  a193 := Tryd.isAgg83
  z193 := Tryd.sizeOf83
  v193 := Tryd.zeroValue83
  t194 := Tryd.underlying84
  a194 := Tryd.isAgg84
  z194 := Tryd.sizeOf84
  v194 := Tryd.zeroValue84
  t196 := Tryd.underlying86
  a196 := Tryd.isAgg86
  z196 := Tryd.sizeOf86
  v196 := Tryd.zeroValue86
  t198 := Tryd.underlying89
  a198 := Tryd.isAgg89
  z198 := Tryd.sizeOf89
  v198 := Tryd.zeroValue89
  t201 := Tryd.underlying92
  a201 := Tryd.isAgg92
  z201 := Tryd.sizeOf92
  v201 := Tryd.zeroValue92
  t226 := Tryd.underlying97
  a226 := Tryd.isAgg97
  z226 := Tryd.sizeOf97
  v226 := Tryd.zeroValue97
  t227 := Tryd.underlying98
  a227 := Tryd.isAgg98
  z227 := Tryd.sizeOf98
  v227 := Tryd.zeroValue98
  g0 := by kernel_rfl
  g6 := by kernel_rfl }

theorem fields_any {w : World} (hT : ∀ c : Nat, c < 256 → w.cell? ⟨0, c, none⟩ = some (.int .u8 (if Lib.isSp (UInt8.ofNat c) then 1 else 0))) (s : ByteArray) (hs : s.size < 100000) (hascii : ∀ (j : Nat) b, s.data.toList[j]? = some b → b.toNat < 128) :
    Calls Tryd.prog 26 #[.string s] w fun e w' => e = .returned (.slice (some ⟨w.heap.size, 0, none⟩) (Lib.fields s.data.toList).length (Lib.fields s.data.toList).length) ∧ w' = w.alloc (.cells ((Lib.fields s.data.toList).map fun l => Value.string ⟨l.toArray⟩).toArray 9) :=
  Any.strings_Fields_core fieldsLay (by kernel_rfl) s w (by omega) hascii hT
end Go.Proofs.YtablincnlfbjnaaDoor
