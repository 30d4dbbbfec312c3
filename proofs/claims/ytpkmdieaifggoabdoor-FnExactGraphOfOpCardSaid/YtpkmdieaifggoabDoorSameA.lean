/-
  Equal relations: SameRel of the model and of the program, with what they call.
-/
import Derived.Test.YtpkmdieaifggoabDoorRelOk
namespace Go.Proofs.YtpkmdieaifggoabDoor
open Go.RowKit

end Go.Proofs.YtpkmdieaifggoabDoor
