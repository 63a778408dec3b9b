/-
  slices.SortFunc at nodes of a tree: the library's functions lie in this program as the shelf has them.
  No condition.
-/
import Derived.Test.YthhboidjibdahaaGreatTreeC
import Derived.Shelf.SlSortCmp.WholeK
namespace Go.Proofs.YthhboidjibdahaaGreat
set_option linter.unusedVariables false
set_option maxRecDepth 100000

def sortNode_ren : Go.Shelf.Ren := ⟨fun | 6 => 51 | 15 => 79 | 14 => 78 | 28 => 99 | 29 => 100 | 20 => 91 | 21 => 92 | 22 => 93 | 23 => 94 | 24 => 95 | 25 => 96 | 26 => 97 | 27 => 98 | 46 => 101 | 47 => 102 | 48 => 103 | 49 => 104 | 50 => 105 | 57 => 106 | n => n, fun | 22 => 68 | 24 => 72 | 25 => 106 | 3 => 3 | 39 => 136 | 0 => 0 | 53 => 155 | 55 => 33 | 4 => 4 | 46 => 148 | 45 => 147 | 50 => 152 | 5 => 5 | 9 => 9 | 66 => 157 | 70 => 160 | 76 => 162 | 77 => 163 | n => n, fun | n => n⟩
theorem sortNode : Go.Proofs.SlLaysF0.n6 Tryz.prog sortNode_ren where
  mixed := by kernel_rfl
  f6 := ⟨(Tryz.f51).name, by kernel_rfl, Tryz.func51.trans (congrArg some (by kernel_rfl))⟩
  f14 := ⟨(Tryz.f78).name, by kernel_rfl, Tryz.func78.trans (congrArg some (by kernel_rfl))⟩
  f15 := Tryz.func79.trans (congrArg some (by kernel_rfl))
  f20 := ⟨(Tryz.f91).name, by kernel_rfl, Tryz.func91.trans (congrArg some (by kernel_rfl))⟩
  f21 := ⟨(Tryz.f92).name, by kernel_rfl, Tryz.func92.trans (congrArg some (by kernel_rfl))⟩
  f22 := ⟨(Tryz.f93).name, by kernel_rfl, Tryz.func93.trans (congrArg some (by kernel_rfl))⟩
  f23 := ⟨(Tryz.f94).name, by kernel_rfl, Tryz.func94.trans (congrArg some (by kernel_rfl))⟩
  f24 := ⟨(Tryz.f95).name, by kernel_rfl, Tryz.func95.trans (congrArg some (by kernel_rfl))⟩
  f25 := ⟨(Tryz.f96).name, by kernel_rfl, Tryz.func96.trans (congrArg some (by kernel_rfl))⟩
  f26 := ⟨(Tryz.f97).name, by kernel_rfl, Tryz.func97.trans (congrArg some (by kernel_rfl))⟩
  f27 := ⟨(Tryz.f98).name, by kernel_rfl, Tryz.func98.trans (congrArg some (by kernel_rfl))⟩
  f28 := Tryz.func99.trans (congrArg some (by kernel_rfl))
  f29 := Tryz.func100.trans (congrArg some (by kernel_rfl))
  f46 := ⟨(Tryz.f101).name, by kernel_rfl, Tryz.func101.trans (congrArg some (by kernel_rfl))⟩
  f47 := Tryz.func102.trans (congrArg some (by kernel_rfl))
  f48 := Tryz.func103.trans (congrArg some (by kernel_rfl))
  f49 := ⟨(Tryz.f104).name, by kernel_rfl, Tryz.func104.trans (congrArg some (by kernel_rfl))⟩
  f50 := ⟨(Tryz.f105).name, by kernel_rfl, Tryz.func105.trans (congrArg some (by kernel_rfl))⟩
  f57 := ⟨(Tryz.f106).name, by kernel_rfl, Tryz.func106.trans (congrArg some (by kernel_rfl))⟩
  t0 := Tryz.underlying0
  a0 := Tryz.isAgg0
  z0 := Tryz.sizeOf0
  v0 := Tryz.zeroValue0
  t3 := Tryz.underlying3
  a3 := Tryz.isAgg3
  z3 := Tryz.sizeOf3
  v3 := Tryz.zeroValue3
  t4 := Tryz.underlying4
  a4 := Tryz.isAgg4
  z4 := Tryz.sizeOf4
  v4 := Tryz.zeroValue4
  t5 := Tryz.underlying5
  a5 := Tryz.isAgg5
  z5 := Tryz.sizeOf5
  v5 := Tryz.zeroValue5
  t9 := Tryz.underlying9
  a9 := Tryz.isAgg9
  z9 := Tryz.sizeOf9
  v9 := Tryz.zeroValue9
  t22 := Tryz.underlying68
  a22 := Tryz.isAgg68
  z22 := Tryz.sizeOf68
  v22 := Tryz.zeroValue68
  t25 := Tryz.underlying106
  a25 := Tryz.isAgg106
  z25 := Tryz.sizeOf106
  v25 := Tryz.zeroValue106
  t39 := Tryz.underlying136
  a39 := Tryz.isAgg136
  z39 := Tryz.sizeOf136
  v39 := Tryz.zeroValue136
  t45 := Tryz.underlying147
  a45 := Tryz.isAgg147
  z45 := Tryz.sizeOf147
  v45 := Tryz.zeroValue147
  t46 := Tryz.underlying148
  a46 := Tryz.isAgg148
  z46 := Tryz.sizeOf148
  v46 := Tryz.zeroValue148
  t50 := Tryz.underlying152
  a50 := Tryz.isAgg152
  z50 := Tryz.sizeOf152
  v50 := Tryz.zeroValue152
  t53 := Tryz.underlying155
  a53 := Tryz.isAgg155
  z53 := Tryz.sizeOf155
  v53 := Tryz.zeroValue155
  t55 := Tryz.underlying33
  a55 := Tryz.isAgg33
  z55 := Tryz.sizeOf33
  v55 := Tryz.zeroValue33
  t66 := Tryz.underlying157
  a66 := Tryz.isAgg157
  z66 := Tryz.sizeOf157
  v66 := Tryz.zeroValue157
  t70 := Tryz.underlying160
  a70 := Tryz.isAgg160
  z70 := Tryz.sizeOf160
  v70 := Tryz.zeroValue160
  t76 := Tryz.underlying162
  a76 := Tryz.isAgg162
  z76 := Tryz.sizeOf162
  v76 := Tryz.zeroValue162
  t77 := Tryz.underlying163
  a77 := Tryz.isAgg163
  z77 := Tryz.sizeOf163
  v77 := Tryz.zeroValue163
end Go.Proofs.YthhboidjibdahaaGreat
