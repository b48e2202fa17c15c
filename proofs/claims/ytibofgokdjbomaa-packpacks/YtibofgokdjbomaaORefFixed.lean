/-
  The document's own Fixed, over this program.
-/
import Derived.Test.YtibofgokdjbomaaMOct
namespace Go.Proofs.Ytibofgokdjbomaa.O
open Go.RowKit

end Go.Proofs.Ytibofgokdjbomaa.O
