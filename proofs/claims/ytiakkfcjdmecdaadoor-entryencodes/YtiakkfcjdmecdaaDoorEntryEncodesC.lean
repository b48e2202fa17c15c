/-
  EntryEncodes's walk with what it asks of the program's functions.
-/
import Derived.Test.YtiakkfcjdmecdaaDoorEntryEncodesLaw
import Derived.Test.YtiakkfcjdmecdaaDoorEnAwake
import Derived.Test.YtiakkfcjdmecdaaDoorEnDecQ
import Derived.Test.YtiakkfcjdmecdaaDoorEnEnc
namespace Go.Proofs.YtiakkfcjdmecdaaDoor
set_option maxRecDepth 1000000
end Go.Proofs.YtiakkfcjdmecdaaDoor
