/-
  The document's own Fixed, over this program.
-/
import Derived.Test.YtiakkfcjdmecdaaDoorMOct
namespace Go.Proofs.YtiakkfcjdmecdaaDoor.O
open Go.RowKit

end Go.Proofs.YtiakkfcjdmecdaaDoor.O
