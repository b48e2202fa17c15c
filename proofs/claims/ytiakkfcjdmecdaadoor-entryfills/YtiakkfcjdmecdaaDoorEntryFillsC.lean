/-
  EntryFills's walk with what it asks of the program's functions.
-/
import Derived.Test.YtiakkfcjdmecdaaDoorEntryFillsLaw
import Derived.Test.YtiakkfcjdmecdaaDoorEnAwake
import Derived.Test.YtiakkfcjdmecdaaDoorEnFillP
import Derived.Test.YtiakkfcjdmecdaaDoorEnOfP
namespace Go.Proofs.YtiakkfcjdmecdaaDoor
set_option maxRecDepth 1000000
end Go.Proofs.YtiakkfcjdmecdaaDoor
