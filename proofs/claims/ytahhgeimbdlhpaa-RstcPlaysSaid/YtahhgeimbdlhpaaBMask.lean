/- What bits.Lo, Mask, inWord return, in the plain numbers of BPlain. -/
import Derived.Test.YtahhgeimbdlhpaaKit
import Derived.Test.YtahhgeimbdlhpaaBPlain
namespace Go.Proofs.Ytahhgeimbdlhpaa.B
set_option linter.unusedVariables false
set_option linter.unusedSimpArgs false
open Go.ChangeShapes Go.WideShapes Go.RowKit

end Go.Proofs.Ytahhgeimbdlhpaa.B
