/-
  DERIVED. GIVEN WITH THE SEED: THE CARDS: each row of YtpkmdieaifggoabDoorRows.lean that lists a variable, with what it lists TIED to the program's text (the seventh form; the later family's looks); each row that meets fmt, with fmt's text TOLD by the authors' own Lean function (tested against real Go, not proved from fmt's source: count such statements apart). THE CARD IS WHAT COUNTS. Prove the row's statement (the work); the ties are given (YtpkmdieaifggoabDoorTie.lean); close each card by the builder's one call (the guide's Derived/Test/ToyasCard.lean, 'card_holds'). Laid BY PROGRAM, IN A SANDBOX (cutbox-door.mjs). By AI agents, Wed Nov 11 2026. No macro, syntax, notation, axiom, sorry.
-/
import Derived.Test.YtpkmdieaifggoabDoorRows
import GoSem.ClaimSeven
namespace Go.Proofs.YtpkmdieaifggoabDoor
namespace Rows

/-- THE TIED CARD OF 'laws.FnExactClosureOf'. -/
def fnExactClosureOfCard : Claim7 := { stood := { row := fnExactClosureOfRow, standIns := [], harness := (true, "c70f06b38fa7b2886f78ce2776d1ad34b6143fe34cc038446740df9de079d6d8"), looks := false }, kinds := [], alts := [], laidByText := true, laidKinds := [.data], laidTests := true, laidLooks := .later }
def FnExactClosureOfCardSaid : Prop := Claim7.holds Tryd.pinned (.plain (OpenSpec.ofChange fnExactClosureOfSpec)) fnExactClosureOfCard

/-- THE TIED CARD OF 'laws.FnExactGraphOfOp'. -/
def fnExactGraphOfOpCard : Claim7 := { stood := { row := fnExactGraphOfOpRow, standIns := [], harness := (true, "c70f06b38fa7b2886f78ce2776d1ad34b6143fe34cc038446740df9de079d6d8"), looks := false }, kinds := [], alts := [], laidByText := true, laidKinds := [.data], laidTests := true, laidLooks := .later }
def FnExactGraphOfOpCardSaid : Prop := Claim7.holds Tryd.pinned (.plain (OpenSpec.ofChange fnExactGraphOfOpSpec)) fnExactGraphOfOpCard

/-- THE SECOND FORM's CARD OF 'laws.FnExactClosureOf'. -/
def fnExactClosureOfUptoCard : Claim7 := { stood := { row := fnExactClosureOfUptoRow, standIns := [], harness := (true, "c70f06b38fa7b2886f78ce2776d1ad34b6143fe34cc038446740df9de079d6d8"), looks := false }, kinds := [], alts := [], laidByText := true, laidKinds := [.data], laidTests := true, laidLooks := .later }
def FnExactClosureOfUptoCardSaid : Prop := Claim7.holds Tryd.pinned (.plain (OpenSpec.upto fnExactClosureOfSpec)) fnExactClosureOfUptoCard

/-- THE SECOND FORM's CARD OF 'laws.FnExactGraphOfOp'. -/
def fnExactGraphOfOpUptoCard : Claim7 := { stood := { row := fnExactGraphOfOpUptoRow, standIns := [], harness := (true, "c70f06b38fa7b2886f78ce2776d1ad34b6143fe34cc038446740df9de079d6d8"), looks := false }, kinds := [], alts := [], laidByText := true, laidKinds := [.data], laidTests := true, laidLooks := .later }
def FnExactGraphOfOpUptoCardSaid : Prop := Claim7.holds Tryd.pinned (.plain (OpenSpec.upto fnExactGraphOfOpSpec)) fnExactGraphOfOpUptoCard
end Rows
end Go.Proofs.YtpkmdieaifggoabDoor
