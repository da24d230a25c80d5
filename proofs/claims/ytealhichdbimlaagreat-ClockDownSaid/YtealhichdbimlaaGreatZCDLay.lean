/- The library's contract laid at this program: slices.Clone at events. -/
import Derived.Shelf.SlicesE.Clone
import Derived.Shelf.SlGeneric
import Derived.Ground.SlgnProg
import Derived.Test.YtealhichdbimlaaGreatRows
namespace Go.Proofs.YtealhichdbimlaaGreat
open Go.Proofs
open Go.Shelf
def Tryz.cloneEv_ren : Go.Shelf.Ren := ⟨fun | 41 => 131 | n => n, fun | 22 => 107 | 23 => 148 | 4 => 4 | n => n, fun | n => n⟩
theorem Tryz.cloneEv : Go.Proofs.SlLaysE0.n41 Tryz.prog Tryz.cloneEv_ren := {
  mixed := by kernel_rfl
  f41 := ⟨Tryz.f131.name, by decide, Tryz.func131.trans (congrArg some (by kernel_rfl))⟩
  t4 := Tryz.underlying4
  a4 := Tryz.isAgg4
  z4 := Tryz.sizeOf4
  v4 := Tryz.zeroValue4
  t22 := Tryz.underlying107
  a22 := Tryz.isAgg107
  z22 := Tryz.sizeOf107
  v22 := Tryz.zeroValue107 }
end Go.Proofs.YtealhichdbimlaaGreat
