/-
  Valid instances: ValidInstance of the model and of the program.
-/
import Derived.Test.YtadpnckpgpamiabDoorInst
import Derived.Test.YtadpnckpgpamiabDoorFormOk2
namespace Go.Proofs.YtadpnckpgpamiabDoor
open Go.RowKit

def ConOk (rs : List (Int × List (List Int))) (va rel : Int) (args : List Int) : Prop := InP rel 0 ((rs.length : Int) - 1) ∧ (args.length : Int) = arN rs rel.toNat ∧ PlP args va
def InstOk (sz : Int) (rs : List (Int × List (List Int))) (va : Int) (cs : List (Int × List Int)) : Prop := TplOk sz rs ∧ InP va 1 10 ∧ cs.length ≤ 24 ∧ ∀ k, k < cs.length → ConOk rs va (arO cs k) (rowO cs k)
def ValidInstanceIs (sz : Int) (rs : List (Int × List (List Int))) (va : Int) (cs : List (Int × List Int)) (b : Bool) : Prop := Tells b (InstOk sz rs va cs)
theorem ValidInstanceIs.exists (sz : Int) (rs : List (Int × List (List Int))) (va : Int) (cs : List (Int × List Int)) : ∃ b, ValidInstanceIs sz rs va cs b := Tells.exists' _

end Go.Proofs.YtadpnckpgpamiabDoor
