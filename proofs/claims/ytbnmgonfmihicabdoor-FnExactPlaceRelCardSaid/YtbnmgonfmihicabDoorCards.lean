/-
  DERIVED. GIVEN WITH THE SEED: THE CARDS: each row of YtbnmgonfmihicabDoorRows.lean that lists a variable, with what it lists TIED to the program's text (the seventh form; the later family's looks); each row that meets fmt, with fmt's text TOLD by the authors' own Lean function (tested against real Go, not proved from fmt's source: count such statements apart). THE CARD IS WHAT COUNTS. Prove the row's statement (the work); the ties are given (YtbnmgonfmihicabDoorTie.lean); close each card by the builder's one call (the guide's Derived/Test/ToyasCard.lean, 'card_holds'). Laid BY PROGRAM, IN A SANDBOX (cutbox-door.mjs). By AI agents, Wed Nov 11 2026. No macro, syntax, notation, axiom, sorry.
-/
import Derived.Test.YtbnmgonfmihicabDoorRows
import GoSem.ClaimSeven
namespace Go.Proofs.YtbnmgonfmihicabDoor
namespace Rows

/-- THE TIED CARD OF 'laws.FnExactPlaceRel'. -/
def fnExactPlaceRelCard : Claim7 := { stood := { row := fnExactPlaceRelRow, standIns := [], harness := (true, "2b7ae35484bae7bec9187f2f2611c8108319d6eabc2f7d31091a872c0d8643a1"), looks := false }, kinds := [], alts := [], laidByText := true, laidKinds := [.data], laidTests := true, laidLooks := .later }
def FnExactPlaceRelCardSaid : Prop := Claim7.holds Tryd.pinned (.plain (OpenSpec.ofChange fnExactPlaceRelSpec)) fnExactPlaceRelCard

/-- THE TIED CARD OF 'laws.FnExactProjectRel'. -/
def fnExactProjectRelCard : Claim7 := { stood := { row := fnExactProjectRelRow, standIns := [], harness := (true, "2b7ae35484bae7bec9187f2f2611c8108319d6eabc2f7d31091a872c0d8643a1"), looks := false }, kinds := [], alts := [], laidByText := true, laidKinds := [.data], laidTests := true, laidLooks := .later }
def FnExactProjectRelCardSaid : Prop := Claim7.holds Tryd.pinned (.plain (OpenSpec.ofChange fnExactProjectRelSpec)) fnExactProjectRelCard

/-- THE TIED CARD OF 'laws.FnExactFixPlace'. -/
def fnExactFixPlaceCard : Claim7 := { stood := { row := fnExactFixPlaceRow, standIns := [], harness := (true, "2b7ae35484bae7bec9187f2f2611c8108319d6eabc2f7d31091a872c0d8643a1"), looks := false }, kinds := [], alts := [], laidByText := true, laidKinds := [.data], laidTests := true, laidLooks := .later }
def FnExactFixPlaceCardSaid : Prop := Claim7.holds Tryd.pinned (.plain (OpenSpec.ofChange fnExactFixPlaceSpec)) fnExactFixPlaceCard

/-- THE TIED CARD OF 'laws.FnExactComposeRels'. -/
def fnExactComposeRelsCard : Claim7 := { stood := { row := fnExactComposeRelsRow, standIns := [], harness := (true, "2b7ae35484bae7bec9187f2f2611c8108319d6eabc2f7d31091a872c0d8643a1"), looks := false }, kinds := [], alts := [], laidByText := true, laidKinds := [.data], laidTests := true, laidLooks := .later }
def FnExactComposeRelsCardSaid : Prop := Claim7.holds Tryd.pinned (.plain (OpenSpec.ofChange fnExactComposeRelsSpec)) fnExactComposeRelsCard

/-- THE TIED CARD OF 'laws.FnExactMapRel'. -/
def fnExactMapRelCard : Claim7 := { stood := { row := fnExactMapRelRow, standIns := [], harness := (true, "2b7ae35484bae7bec9187f2f2611c8108319d6eabc2f7d31091a872c0d8643a1"), looks := false }, kinds := [], alts := [], laidByText := true, laidKinds := [.data], laidTests := true, laidLooks := .later }
def FnExactMapRelCardSaid : Prop := Claim7.holds Tryd.pinned (.plain (OpenSpec.ofChange fnExactMapRelSpec)) fnExactMapRelCard

/-- THE SECOND FORM's CARD OF 'laws.FnExactPlaceRel'. -/
def fnExactPlaceRelUptoCard : Claim7 := { stood := { row := fnExactPlaceRelUptoRow, standIns := [], harness := (true, "2b7ae35484bae7bec9187f2f2611c8108319d6eabc2f7d31091a872c0d8643a1"), looks := false }, kinds := [], alts := [], laidByText := true, laidKinds := [.data], laidTests := true, laidLooks := .later }
def FnExactPlaceRelUptoCardSaid : Prop := Claim7.holds Tryd.pinned (.plain (OpenSpec.upto fnExactPlaceRelSpec)) fnExactPlaceRelUptoCard

/-- THE SECOND FORM's CARD OF 'laws.FnExactProjectRel'. -/
def fnExactProjectRelUptoCard : Claim7 := { stood := { row := fnExactProjectRelUptoRow, standIns := [], harness := (true, "2b7ae35484bae7bec9187f2f2611c8108319d6eabc2f7d31091a872c0d8643a1"), looks := false }, kinds := [], alts := [], laidByText := true, laidKinds := [.data], laidTests := true, laidLooks := .later }
def FnExactProjectRelUptoCardSaid : Prop := Claim7.holds Tryd.pinned (.plain (OpenSpec.upto fnExactProjectRelSpec)) fnExactProjectRelUptoCard

/-- THE SECOND FORM's CARD OF 'laws.FnExactFixPlace'. -/
def fnExactFixPlaceUptoCard : Claim7 := { stood := { row := fnExactFixPlaceUptoRow, standIns := [], harness := (true, "2b7ae35484bae7bec9187f2f2611c8108319d6eabc2f7d31091a872c0d8643a1"), looks := false }, kinds := [], alts := [], laidByText := true, laidKinds := [.data], laidTests := true, laidLooks := .later }
def FnExactFixPlaceUptoCardSaid : Prop := Claim7.holds Tryd.pinned (.plain (OpenSpec.upto fnExactFixPlaceSpec)) fnExactFixPlaceUptoCard

/-- THE SECOND FORM's CARD OF 'laws.FnExactComposeRels'. -/
def fnExactComposeRelsUptoCard : Claim7 := { stood := { row := fnExactComposeRelsUptoRow, standIns := [], harness := (true, "2b7ae35484bae7bec9187f2f2611c8108319d6eabc2f7d31091a872c0d8643a1"), looks := false }, kinds := [], alts := [], laidByText := true, laidKinds := [.data], laidTests := true, laidLooks := .later }
def FnExactComposeRelsUptoCardSaid : Prop := Claim7.holds Tryd.pinned (.plain (OpenSpec.upto fnExactComposeRelsSpec)) fnExactComposeRelsUptoCard

/-- THE SECOND FORM's CARD OF 'laws.FnExactMapRel'. -/
def fnExactMapRelUptoCard : Claim7 := { stood := { row := fnExactMapRelUptoRow, standIns := [], harness := (true, "2b7ae35484bae7bec9187f2f2611c8108319d6eabc2f7d31091a872c0d8643a1"), looks := false }, kinds := [], alts := [], laidByText := true, laidKinds := [.data], laidTests := true, laidLooks := .later }
def FnExactMapRelUptoCardSaid : Prop := Claim7.holds Tryd.pinned (.plain (OpenSpec.upto fnExactMapRelSpec)) fnExactMapRelUptoCard
end Rows
end Go.Proofs.YtbnmgonfmihicabDoor
