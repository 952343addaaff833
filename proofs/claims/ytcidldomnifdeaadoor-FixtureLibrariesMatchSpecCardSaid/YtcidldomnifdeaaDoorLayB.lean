/- The library's contract of (*strings.Builder).copyCheck, laid at this program's numbers by hand (where the library's own laying falls, since a type is named by no body). -/
import Derived.Test.YtcidldomnifdeaaDoorProg
import Derived.Shelf.Strings.Builder1
namespace Go.Proofs.YtcidldomnifdeaaDoor
open Go.Shelf

def renB : Ren := ⟨fun | 240 => 59 | 276 => 85 | n => n, fun | 70 => 56 | 72 => 59 | 37 => 57 | 5 => 5 | 0 => 0 | 4 => 4 | 9 => 9 | 20 => 20 | 164 => 135 | n => n, fun | n => n⟩
theorem laysB : Lays.n240 Tryd.prog renB := {
  mixed := by kernel_rfl
  f240 := Tryd.func59.trans (congrArg some (by kernel_rfl))
  f276 := Tryd.func85.trans (congrArg some (by kernel_rfl))
  t0 := Tryd.underlying0
  a0 := Tryd.isAgg0
  z0 := Tryd.sizeOf0
  v0 := Tryd.zeroValue0
  t4 := Tryd.underlying4
  a4 := Tryd.isAgg4
  z4 := Tryd.sizeOf4
  v4 := Tryd.zeroValue4
  t9 := Tryd.underlying9
  a9 := Tryd.isAgg9
  z9 := Tryd.sizeOf9
  v9 := Tryd.zeroValue9
  t20 := Tryd.underlying20
  a20 := Tryd.isAgg20
  z20 := Tryd.sizeOf20
  v20 := Tryd.zeroValue20
  t70 := Tryd.underlying56
  a70 := Tryd.isAgg56
  z70 := Tryd.sizeOf56
  v70 := Tryd.zeroValue56
  t72 := Tryd.underlying59
  a72 := Tryd.isAgg59
  z72 := Tryd.sizeOf59
  v72 := Tryd.zeroValue59
  t164 := Tryd.underlying135
  a164 := Tryd.isAgg135
  z164 := Tryd.sizeOf135
  v164 := Tryd.zeroValue135 }
theorem extraB : Builder.X72 Tryd.prog renB := {
  sizeBuilder := by kernel_rfl
  liesBuilder := by kernel_rfl }
end Go.Proofs.YtcidldomnifdeaaDoor
