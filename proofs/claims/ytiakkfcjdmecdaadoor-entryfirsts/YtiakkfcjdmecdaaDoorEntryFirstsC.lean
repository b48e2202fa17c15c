/-
  EntryFirsts's walk with what it asks of the program's functions.
-/
import Derived.Test.YtiakkfcjdmecdaaDoorEntryFirstsLaw
import Derived.Test.YtiakkfcjdmecdaaDoorEnAwake
import Derived.Test.YtiakkfcjdmecdaaDoorEnOfP
import Derived.Test.YtiakkfcjdmecdaaDoorEnTotalP
namespace Go.Proofs.YtiakkfcjdmecdaaDoor
set_option maxRecDepth 1000000
end Go.Proofs.YtiakkfcjdmecdaaDoor
