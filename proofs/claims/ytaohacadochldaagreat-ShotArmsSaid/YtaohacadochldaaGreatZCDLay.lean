/- The library's contract laid at this program: slices.Clone at events. -/
import Derived.Shelf.SlicesE.Clone
import Derived.Shelf.SlGeneric
import Derived.Ground.SlgnProg
import Derived.Test.YtaohacadochldaaGreatRows
namespace Go.Proofs.YtaohacadochldaaGreat
open Go.Proofs
open Go.Shelf
def Tryz.cloneEv_ren : Go.Shelf.Ren := ⟨fun | 41 => 148 | n => n, fun | 22 => 119 | 23 => 156 | 4 => 4 | n => n, fun | n => n⟩
theorem Tryz.cloneEv : Go.Proofs.SlLaysE0.n41 Tryz.prog Tryz.cloneEv_ren := {
  mixed := by kernel_rfl
  f41 := ⟨Tryz.f148.name, by decide, Tryz.func148.trans (congrArg some (by kernel_rfl))⟩
  t4 := Tryz.underlying4
  a4 := Tryz.isAgg4
  z4 := Tryz.sizeOf4
  v4 := Tryz.zeroValue4
  t22 := Tryz.underlying119
  a22 := Tryz.isAgg119
  z22 := Tryz.sizeOf119
  v22 := Tryz.zeroValue119 }
end Go.Proofs.YtaohacadochldaaGreat
