/-
  Lists of atoms: the laws' copies, measures and comparisons.
-/
import Derived.Test.YtclhcnfgpkhplaaOp
import Derived.Test.YtclhcnfgpkhplaaPairs
namespace Go.Proofs.Ytclhcnfgpkhplaa
open Go.RowKit

end Go.Proofs.Ytclhcnfgpkhplaa
