/-
  slices.SortFunc at nodes of a tree: the library's functions lie in this program as the shelf has them.
  No condition.
-/
import Derived.Test.YthhboidjibdahaaTreeC
import Derived.Shelf.SlSortCmp.WholeK
namespace Go.Proofs.Ythhboidjibdahaa
set_option linter.unusedVariables false
set_option maxRecDepth 100000

def sortNode_ren : Go.Shelf.Ren := ⟨fun | 6 => 46 | 15 => 75 | 14 => 74 | 28 => 97 | 29 => 98 | 20 => 89 | 21 => 90 | 22 => 91 | 23 => 92 | 24 => 93 | 25 => 94 | 26 => 95 | 27 => 96 | 46 => 100 | 47 => 101 | 48 => 102 | 49 => 103 | 50 => 104 | 57 => 105 | n => n, fun | 22 => 63 | 24 => 69 | 25 => 104 | 3 => 3 | 39 => 135 | 0 => 0 | 53 => 153 | 55 => 35 | 4 => 4 | 46 => 146 | 45 => 145 | 50 => 150 | 5 => 5 | 9 => 9 | 66 => 156 | 70 => 159 | 76 => 161 | 77 => 162 | n => n, fun | n => n⟩
theorem sortNode : Go.Proofs.SlLaysF0.n6 Try.prog sortNode_ren where
  mixed := by kernel_rfl
  f6 := ⟨(Try.f46).name, by kernel_rfl, Try.func46.trans (congrArg some (by kernel_rfl))⟩
  f14 := ⟨(Try.f74).name, by kernel_rfl, Try.func74.trans (congrArg some (by kernel_rfl))⟩
  f15 := Try.func75.trans (congrArg some (by kernel_rfl))
  f20 := ⟨(Try.f89).name, by kernel_rfl, Try.func89.trans (congrArg some (by kernel_rfl))⟩
  f21 := ⟨(Try.f90).name, by kernel_rfl, Try.func90.trans (congrArg some (by kernel_rfl))⟩
  f22 := ⟨(Try.f91).name, by kernel_rfl, Try.func91.trans (congrArg some (by kernel_rfl))⟩
  f23 := ⟨(Try.f92).name, by kernel_rfl, Try.func92.trans (congrArg some (by kernel_rfl))⟩
  f24 := ⟨(Try.f93).name, by kernel_rfl, Try.func93.trans (congrArg some (by kernel_rfl))⟩
  f25 := ⟨(Try.f94).name, by kernel_rfl, Try.func94.trans (congrArg some (by kernel_rfl))⟩
  f26 := ⟨(Try.f95).name, by kernel_rfl, Try.func95.trans (congrArg some (by kernel_rfl))⟩
  f27 := ⟨(Try.f96).name, by kernel_rfl, Try.func96.trans (congrArg some (by kernel_rfl))⟩
  f28 := Try.func97.trans (congrArg some (by kernel_rfl))
  f29 := Try.func98.trans (congrArg some (by kernel_rfl))
  f46 := ⟨(Try.f100).name, by kernel_rfl, Try.func100.trans (congrArg some (by kernel_rfl))⟩
  f47 := Try.func101.trans (congrArg some (by kernel_rfl))
  f48 := Try.func102.trans (congrArg some (by kernel_rfl))
  f49 := ⟨(Try.f103).name, by kernel_rfl, Try.func103.trans (congrArg some (by kernel_rfl))⟩
  f50 := ⟨(Try.f104).name, by kernel_rfl, Try.func104.trans (congrArg some (by kernel_rfl))⟩
  f57 := ⟨(Try.f105).name, by kernel_rfl, Try.func105.trans (congrArg some (by kernel_rfl))⟩
  t0 := Try.underlying0
  a0 := Try.isAgg0
  z0 := Try.sizeOf0
  v0 := Try.zeroValue0
  t3 := Try.underlying3
  a3 := Try.isAgg3
  z3 := Try.sizeOf3
  v3 := Try.zeroValue3
  t4 := Try.underlying4
  a4 := Try.isAgg4
  z4 := Try.sizeOf4
  v4 := Try.zeroValue4
  t5 := Try.underlying5
  a5 := Try.isAgg5
  z5 := Try.sizeOf5
  v5 := Try.zeroValue5
  t9 := Try.underlying9
  a9 := Try.isAgg9
  z9 := Try.sizeOf9
  v9 := Try.zeroValue9
  t22 := Try.underlying63
  a22 := Try.isAgg63
  z22 := Try.sizeOf63
  v22 := Try.zeroValue63
  t25 := Try.underlying104
  a25 := Try.isAgg104
  z25 := Try.sizeOf104
  v25 := Try.zeroValue104
  t39 := Try.underlying135
  a39 := Try.isAgg135
  z39 := Try.sizeOf135
  v39 := Try.zeroValue135
  t45 := Try.underlying145
  a45 := Try.isAgg145
  z45 := Try.sizeOf145
  v45 := Try.zeroValue145
  t46 := Try.underlying146
  a46 := Try.isAgg146
  z46 := Try.sizeOf146
  v46 := Try.zeroValue146
  t50 := Try.underlying150
  a50 := Try.isAgg150
  z50 := Try.sizeOf150
  v50 := Try.zeroValue150
  t53 := Try.underlying153
  a53 := Try.isAgg153
  z53 := Try.sizeOf153
  v53 := Try.zeroValue153
  t55 := Try.underlying35
  a55 := Try.isAgg35
  z55 := Try.sizeOf35
  v55 := Try.zeroValue35
  t66 := Try.underlying156
  a66 := Try.isAgg156
  z66 := Try.sizeOf156
  v66 := Try.zeroValue156
  t70 := Try.underlying159
  a70 := Try.isAgg159
  z70 := Try.sizeOf159
  v70 := Try.zeroValue159
  t76 := Try.underlying161
  a76 := Try.isAgg161
  z76 := Try.sizeOf161
  v76 := Try.zeroValue161
  t77 := Try.underlying162
  a77 := Try.isAgg162
  z77 := Try.sizeOf162
  v77 := Try.zeroValue162
end Go.Proofs.Ythhboidjibdahaa
