/- The laws of layer 6: the chapter's example; CountNil. -/
import Derived.Test.YtijjapmdkalfaaaNTick
import Derived.Test.YtijjapmdkalfaaaFits
import Derived.OpenShut
namespace Go.Proofs.Ytijjapmdkalfaaa.B
set_option linter.unusedVariables false
set_option linter.unusedSimpArgs false
open Go.ChangeShapes Go.WideShapes Go.RowKit Go.Sort Go.MapKept
def k1 : Tm := ⟨3, 0, false, false, false, 0, 0, false⟩
def k2 : Tm := ⟨3, 3, true, true, false, 1, 0, false⟩
def k3 : Tm := ⟨3, 1, true, true, false, 1, 1, false⟩
def k4 : Tm := ⟨3, 3, true, true, false, 1, 0, true⟩
theorem k1_ok : k1.ok := ⟨by decide, by decide, by decide, by decide, by decide, by decide, by decide, by decide⟩
theorem k2_ok : k2.ok := ⟨by decide, by decide, by decide, by decide, by decide, by decide, by decide, by decide⟩
theorem k3_ok : k3.ok := ⟨by decide, by decide, by decide, by decide, by decide, by decide, by decide, by decide⟩
theorem k4_ok : k4.ok := ⟨by decide, by decide, by decide, by decide, by decide, by decide, by decide, by decide⟩
theorem k_a : (if nSErr 0 = 0 then tz.sto 0 3 else tz) = k1 := rfl
theorem k_b : (if nSErr 8 = 0 then k1.sto 8 259 else k1) = k2 := rfl
theorem k_c : k2.tick 5 = k3 := rfl
theorem k_d : k3.tick 1 = k4 := rfl
theorem k_e : k2.lef = 6 := rfl
end Go.Proofs.Ytijjapmdkalfaaa.B
