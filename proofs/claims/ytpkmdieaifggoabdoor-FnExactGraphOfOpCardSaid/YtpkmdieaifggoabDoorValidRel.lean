/-
  ValidRel of the model and of the program.
-/
import Derived.Test.YtpkmdieaifggoabDoorRelOk
namespace Go.Proofs.YtpkmdieaifggoabDoor
open Go.RowKit

end Go.Proofs.YtpkmdieaifggoabDoor
