/-
  Rows of one's own, all of them. No statement of the seat is proved here.
-/
import Derived.Test.YtbfgabldioknfaaDoorG3
namespace Go.Proofs.YtbfgabldioknfaaDoor
open Go.ChangeShapes Go.WideShapes Go.ChangeAt Go.RowKit
set_option linter.unusedVariables false
set_option linter.unusedSimpArgs false

end Go.Proofs.YtbfgabldioknfaaDoor
