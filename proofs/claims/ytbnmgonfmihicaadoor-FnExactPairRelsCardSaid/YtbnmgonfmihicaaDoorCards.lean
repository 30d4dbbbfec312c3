/-
  DERIVED. GIVEN WITH THE SEED: THE CARDS: each row of YtbnmgonfmihicaaDoorRows.lean that lists a variable, with what it lists TIED to the program's text (the seventh form; the later family's looks); each row that meets fmt, with fmt's text TOLD by the authors' own Lean function (tested against real Go, not proved from fmt's source: count such statements apart). THE CARD IS WHAT COUNTS. Prove the row's statement (the work); the ties are given (YtbnmgonfmihicaaDoorTie.lean); close each card by the builder's one call (the guide's Derived/Test/ToyasCard.lean, 'card_holds'). Laid BY PROGRAM, IN A SANDBOX (cutbox-door.mjs). By AI agents, Wed Nov 11 2026. No macro, syntax, notation, axiom, sorry.
-/
import Derived.Test.YtbnmgonfmihicaaDoorRows
import GoSem.ClaimSeven
namespace Go.Proofs.YtbnmgonfmihicaaDoor
namespace Rows

/-- THE TIED CARD OF 'laws.FnExactMakeRel'. -/
def fnExactMakeRelCard : Claim7 := { stood := { row := fnExactMakeRelRow, standIns := [], harness := (true, "0e43ab83eddda6af9cebd332b573e7f8869fcf73231b1067a41ef4d3c4e3d955"), looks := false }, kinds := [], alts := [], laidByText := true, laidKinds := [.data], laidTests := true, laidLooks := .later }
def FnExactMakeRelCardSaid : Prop := Claim7.holds Tryd.pinned (.plain (OpenSpec.ofChange fnExactMakeRelSpec)) fnExactMakeRelCard

/-- THE TIED CARD OF 'laws.FnExactFullRel'. -/
def fnExactFullRelCard : Claim7 := { stood := { row := fnExactFullRelRow, standIns := [], harness := (true, "0e43ab83eddda6af9cebd332b573e7f8869fcf73231b1067a41ef4d3c4e3d955"), looks := false }, kinds := [], alts := [], laidByText := true, laidKinds := [.data], laidTests := true, laidLooks := .later }
def FnExactFullRelCardSaid : Prop := Claim7.holds Tryd.pinned (.plain (OpenSpec.ofChange fnExactFullRelSpec)) fnExactFullRelCard

/-- THE TIED CARD OF 'laws.FnExactOppositeRel'. -/
def fnExactOppositeRelCard : Claim7 := { stood := { row := fnExactOppositeRelRow, standIns := [], harness := (true, "0e43ab83eddda6af9cebd332b573e7f8869fcf73231b1067a41ef4d3c4e3d955"), looks := false }, kinds := [], alts := [], laidByText := true, laidKinds := [.data], laidTests := true, laidLooks := .later }
def FnExactOppositeRelCardSaid : Prop := Claim7.holds Tryd.pinned (.plain (OpenSpec.ofChange fnExactOppositeRelSpec)) fnExactOppositeRelCard

/-- THE TIED CARD OF 'laws.FnExactMeetRels'. -/
def fnExactMeetRelsCard : Claim7 := { stood := { row := fnExactMeetRelsRow, standIns := [], harness := (true, "0e43ab83eddda6af9cebd332b573e7f8869fcf73231b1067a41ef4d3c4e3d955"), looks := false }, kinds := [], alts := [], laidByText := true, laidKinds := [.data], laidTests := true, laidLooks := .later }
def FnExactMeetRelsCardSaid : Prop := Claim7.holds Tryd.pinned (.plain (OpenSpec.ofChange fnExactMeetRelsSpec)) fnExactMeetRelsCard

/-- THE TIED CARD OF 'laws.FnExactJoinRels'. -/
def fnExactJoinRelsCard : Claim7 := { stood := { row := fnExactJoinRelsRow, standIns := [], harness := (true, "0e43ab83eddda6af9cebd332b573e7f8869fcf73231b1067a41ef4d3c4e3d955"), looks := false }, kinds := [], alts := [], laidByText := true, laidKinds := [.data], laidTests := true, laidLooks := .later }
def FnExactJoinRelsCardSaid : Prop := Claim7.holds Tryd.pinned (.plain (OpenSpec.ofChange fnExactJoinRelsSpec)) fnExactJoinRelsCard

/-- THE TIED CARD OF 'laws.FnExactPairRels'. -/
def fnExactPairRelsCard : Claim7 := { stood := { row := fnExactPairRelsRow, standIns := [], harness := (true, "0e43ab83eddda6af9cebd332b573e7f8869fcf73231b1067a41ef4d3c4e3d955"), looks := false }, kinds := [], alts := [], laidByText := true, laidKinds := [.data], laidTests := true, laidLooks := .later }
def FnExactPairRelsCardSaid : Prop := Claim7.holds Tryd.pinned (.plain (OpenSpec.ofChange fnExactPairRelsSpec)) fnExactPairRelsCard

/-- THE SECOND FORM's CARD OF 'laws.FnExactMakeRel'. -/
def fnExactMakeRelUptoCard : Claim7 := { stood := { row := fnExactMakeRelUptoRow, standIns := [], harness := (true, "0e43ab83eddda6af9cebd332b573e7f8869fcf73231b1067a41ef4d3c4e3d955"), looks := false }, kinds := [], alts := [], laidByText := true, laidKinds := [.data], laidTests := true, laidLooks := .later }
def FnExactMakeRelUptoCardSaid : Prop := Claim7.holds Tryd.pinned (.plain (OpenSpec.upto fnExactMakeRelSpec)) fnExactMakeRelUptoCard

/-- THE SECOND FORM's CARD OF 'laws.FnExactFullRel'. -/
def fnExactFullRelUptoCard : Claim7 := { stood := { row := fnExactFullRelUptoRow, standIns := [], harness := (true, "0e43ab83eddda6af9cebd332b573e7f8869fcf73231b1067a41ef4d3c4e3d955"), looks := false }, kinds := [], alts := [], laidByText := true, laidKinds := [.data], laidTests := true, laidLooks := .later }
def FnExactFullRelUptoCardSaid : Prop := Claim7.holds Tryd.pinned (.plain (OpenSpec.upto fnExactFullRelSpec)) fnExactFullRelUptoCard

/-- THE SECOND FORM's CARD OF 'laws.FnExactOppositeRel'. -/
def fnExactOppositeRelUptoCard : Claim7 := { stood := { row := fnExactOppositeRelUptoRow, standIns := [], harness := (true, "0e43ab83eddda6af9cebd332b573e7f8869fcf73231b1067a41ef4d3c4e3d955"), looks := false }, kinds := [], alts := [], laidByText := true, laidKinds := [.data], laidTests := true, laidLooks := .later }
def FnExactOppositeRelUptoCardSaid : Prop := Claim7.holds Tryd.pinned (.plain (OpenSpec.upto fnExactOppositeRelSpec)) fnExactOppositeRelUptoCard

/-- THE SECOND FORM's CARD OF 'laws.FnExactMeetRels'. -/
def fnExactMeetRelsUptoCard : Claim7 := { stood := { row := fnExactMeetRelsUptoRow, standIns := [], harness := (true, "0e43ab83eddda6af9cebd332b573e7f8869fcf73231b1067a41ef4d3c4e3d955"), looks := false }, kinds := [], alts := [], laidByText := true, laidKinds := [.data], laidTests := true, laidLooks := .later }
def FnExactMeetRelsUptoCardSaid : Prop := Claim7.holds Tryd.pinned (.plain (OpenSpec.upto fnExactMeetRelsSpec)) fnExactMeetRelsUptoCard

/-- THE SECOND FORM's CARD OF 'laws.FnExactJoinRels'. -/
def fnExactJoinRelsUptoCard : Claim7 := { stood := { row := fnExactJoinRelsUptoRow, standIns := [], harness := (true, "0e43ab83eddda6af9cebd332b573e7f8869fcf73231b1067a41ef4d3c4e3d955"), looks := false }, kinds := [], alts := [], laidByText := true, laidKinds := [.data], laidTests := true, laidLooks := .later }
def FnExactJoinRelsUptoCardSaid : Prop := Claim7.holds Tryd.pinned (.plain (OpenSpec.upto fnExactJoinRelsSpec)) fnExactJoinRelsUptoCard

/-- THE SECOND FORM's CARD OF 'laws.FnExactPairRels'. -/
def fnExactPairRelsUptoCard : Claim7 := { stood := { row := fnExactPairRelsUptoRow, standIns := [], harness := (true, "0e43ab83eddda6af9cebd332b573e7f8869fcf73231b1067a41ef4d3c4e3d955"), looks := false }, kinds := [], alts := [], laidByText := true, laidKinds := [.data], laidTests := true, laidLooks := .later }
def FnExactPairRelsUptoCardSaid : Prop := Claim7.holds Tryd.pinned (.plain (OpenSpec.upto fnExactPairRelsSpec)) fnExactPairRelsUptoCard
end Rows
end Go.Proofs.YtbnmgonfmihicaaDoor
