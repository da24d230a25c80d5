/- The library's contract laid at this program: slices.Clone at events. -/
import Derived.Shelf.SlicesE.Clone
import Derived.Shelf.SlGeneric
import Derived.Ground.SlgnProg
import Derived.Test.YtpojmmgokgamgaaGreatRows
namespace Go.Proofs.YtpojmmgokgamgaaGreat
open Go.Proofs
open Go.Shelf
def Tryz.cloneEv_ren : Go.Shelf.Ren := ⟨fun | 41 => 135 | n => n, fun | 22 => 102 | 23 => 151 | 4 => 4 | n => n, fun | n => n⟩
theorem Tryz.cloneEv : Go.Proofs.SlLaysE0.n41 Tryz.prog Tryz.cloneEv_ren := {
  mixed := by kernel_rfl
  f41 := ⟨Tryz.f135.name, by decide, Tryz.func135.trans (congrArg some (by kernel_rfl))⟩
  t4 := Tryz.underlying4
  a4 := Tryz.isAgg4
  z4 := Tryz.sizeOf4
  v4 := Tryz.zeroValue4
  t22 := Tryz.underlying102
  a22 := Tryz.isAgg102
  z22 := Tryz.sizeOf102
  v22 := Tryz.zeroValue102 }
end Go.Proofs.YtpojmmgokgamgaaGreat
