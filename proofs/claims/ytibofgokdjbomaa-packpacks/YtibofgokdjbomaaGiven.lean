/-
  The statements' given over this program: tokens as the document has them.
-/
import Derived.Test.YtibofgokdjbomaaParsePr
namespace Go.Proofs.Ytibofgokdjbomaa
set_option maxRecDepth 1000000
open Go.RowKit

end Go.Proofs.Ytibofgokdjbomaa
