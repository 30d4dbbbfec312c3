/-
  DERIVED. GIVEN WITH THE SEED: THE CARDS: each row of YtadpnckpgpamiabDoorRows.lean that lists a variable, with what it lists TIED to the program's text (the seventh form; the later family's looks); each row that meets fmt, with fmt's text TOLD by the authors' own Lean function (tested against real Go, not proved from fmt's source: count such statements apart). THE CARD IS WHAT COUNTS. Prove the row's statement (the work); the ties are given (YtadpnckpgpamiabDoorTie.lean); close each card by the builder's one call (the guide's Derived/Test/ToyasCard.lean, 'card_holds'). Laid BY PROGRAM, IN A SANDBOX (cutbox-door.mjs). By AI agents, Wed Nov 11 2026. No macro, syntax, notation, axiom, sorry.
-/
import Derived.Test.YtadpnckpgpamiabDoorRows
import GoSem.ClaimSeven
namespace Go.Proofs.YtadpnckpgpamiabDoor
namespace Rows

/-- THE TIED CARD OF 'laws.FnExactRelText'. -/
def fnExactRelTextCard : Claim7 := { stood := { row := fnExactRelTextRow, standIns := [], harness := (true, "d37724211973341dddf098d9bd093323e2dc50d299cc75efc27a7e82ce5c0f13"), looks := true }, kinds := [], alts := [], laidByText := true, laidKinds := [.data, .data, .data], laidTests := true, laidLooks := .later }
def FnExactRelTextCardSaid : Prop := Claim7.holds Tryd.pinned (.plain (OpenSpec.ofChange fnExactRelTextSpec)) fnExactRelTextCard

/-- THE TIED CARD OF 'laws.FnExactOpText'. -/
def fnExactOpTextCard : Claim7 := { stood := { row := fnExactOpTextRow, standIns := [], harness := (true, "d37724211973341dddf098d9bd093323e2dc50d299cc75efc27a7e82ce5c0f13"), looks := true }, kinds := [], alts := [], laidByText := true, laidKinds := [.data, .data, .data], laidTests := true, laidLooks := .later }
def FnExactOpTextCardSaid : Prop := Claim7.holds Tryd.pinned (.plain (OpenSpec.ofChange fnExactOpTextSpec)) fnExactOpTextCard

/-- THE TIED CARD OF 'laws.FnExactSystemText'. -/
def fnExactSystemTextCard : Claim7 := { stood := { row := fnExactSystemTextRow, standIns := [], harness := (true, "d37724211973341dddf098d9bd093323e2dc50d299cc75efc27a7e82ce5c0f13"), looks := true }, kinds := [], alts := [], laidByText := true, laidKinds := [.data, .data, .data], laidTests := true, laidLooks := .later }
def FnExactSystemTextCardSaid : Prop := Claim7.holds Tryd.pinned (.plain (OpenSpec.ofChange fnExactSystemTextSpec)) fnExactSystemTextCard

/-- THE TIED CARD OF 'laws.FnExactTemplateText'. -/
def fnExactTemplateTextCard : Claim7 := { stood := { row := fnExactTemplateTextRow, standIns := [], harness := (true, "d37724211973341dddf098d9bd093323e2dc50d299cc75efc27a7e82ce5c0f13"), looks := true }, kinds := [], alts := [], laidByText := true, laidKinds := [.data, .data, .data], laidTests := true, laidLooks := .later }
def FnExactTemplateTextCardSaid : Prop := Claim7.holds Tryd.pinned (.plain (OpenSpec.ofChange fnExactTemplateTextSpec)) fnExactTemplateTextCard

/-- THE TIED CARD OF 'laws.FnExactFormulaText'. -/
def fnExactFormulaTextCard : Claim7 := { stood := { row := fnExactFormulaTextRow, standIns := [], harness := (true, "d37724211973341dddf098d9bd093323e2dc50d299cc75efc27a7e82ce5c0f13"), looks := true }, kinds := [], alts := [], laidByText := true, laidKinds := [.data, .data, .data], laidTests := true, laidLooks := .later }
def FnExactFormulaTextCardSaid : Prop := Claim7.holds Tryd.pinned (.plain (OpenSpec.ofChange fnExactFormulaTextSpec)) fnExactFormulaTextCard

/-- THE TIED CARD OF 'laws.FnExactInstanceText'. -/
def fnExactInstanceTextCard : Claim7 := { stood := { row := fnExactInstanceTextRow, standIns := [], harness := (true, "d37724211973341dddf098d9bd093323e2dc50d299cc75efc27a7e82ce5c0f13"), looks := true }, kinds := [], alts := [], laidByText := true, laidKinds := [.data, .data, .data], laidTests := true, laidLooks := .later }
def FnExactInstanceTextCardSaid : Prop := Claim7.holds Tryd.pinned (.plain (OpenSpec.ofChange fnExactInstanceTextSpec)) fnExactInstanceTextCard

/-- THE TIED CARD OF 'laws.FnExactReadRel'. -/
def fnExactReadRelCard : Claim7 := { stood := { row := fnExactReadRelRow, standIns := [], harness := (true, "d37724211973341dddf098d9bd093323e2dc50d299cc75efc27a7e82ce5c0f13"), looks := true }, kinds := [], alts := [], laidByText := true, laidKinds := [.data, .pinned], laidTests := true, laidLooks := .later }
def FnExactReadRelCardSaid : Prop := Claim7.holds Tryd.pinned (.plain (OpenSpec.ofChange fnExactReadRelSpec)) fnExactReadRelCard

/-- THE TIED CARD OF 'laws.FnExactReadOp'. -/
def fnExactReadOpCard : Claim7 := { stood := { row := fnExactReadOpRow, standIns := [], harness := (true, "d37724211973341dddf098d9bd093323e2dc50d299cc75efc27a7e82ce5c0f13"), looks := true }, kinds := [], alts := [], laidByText := true, laidKinds := [.data, .pinned], laidTests := true, laidLooks := .later }
def FnExactReadOpCardSaid : Prop := Claim7.holds Tryd.pinned (.plain (OpenSpec.ofChange fnExactReadOpSpec)) fnExactReadOpCard

/-- THE TIED CARD OF 'laws.FnExactReadSystem'. -/
def fnExactReadSystemCard : Claim7 := { stood := { row := fnExactReadSystemRow, standIns := [], harness := (true, "d37724211973341dddf098d9bd093323e2dc50d299cc75efc27a7e82ce5c0f13"), looks := true }, kinds := [], alts := [], laidByText := true, laidKinds := [.data, .data, .data, .data, .sentinel, .sentinel, .pinned], laidTests := true, laidLooks := .later }
def FnExactReadSystemCardSaid : Prop := Claim7.holds Tryd.pinned (.plain (OpenSpec.ofChange fnExactReadSystemSpec)) fnExactReadSystemCard

/-- THE TIED CARD OF 'laws.FnExactReadTemplate'. -/
def fnExactReadTemplateCard : Claim7 := { stood := { row := fnExactReadTemplateRow, standIns := [], harness := (true, "d37724211973341dddf098d9bd093323e2dc50d299cc75efc27a7e82ce5c0f13"), looks := true }, kinds := [], alts := [], laidByText := true, laidKinds := [.data, .pinned], laidTests := true, laidLooks := .later }
def FnExactReadTemplateCardSaid : Prop := Claim7.holds Tryd.pinned (.plain (OpenSpec.ofChange fnExactReadTemplateSpec)) fnExactReadTemplateCard

/-- THE TIED CARD OF 'laws.FnExactReadFormula'. -/
def fnExactReadFormulaCard : Claim7 := { stood := { row := fnExactReadFormulaRow, standIns := [], harness := (true, "d37724211973341dddf098d9bd093323e2dc50d299cc75efc27a7e82ce5c0f13"), looks := true }, kinds := [], alts := [], laidByText := true, laidKinds := [.data, .pinned], laidTests := true, laidLooks := .later }
def FnExactReadFormulaCardSaid : Prop := Claim7.holds Tryd.pinned (.plain (OpenSpec.ofChange fnExactReadFormulaSpec)) fnExactReadFormulaCard

/-- THE TIED CARD OF 'laws.FnExactReadInstance'. -/
def fnExactReadInstanceCard : Claim7 := { stood := { row := fnExactReadInstanceRow, standIns := [], harness := (true, "d37724211973341dddf098d9bd093323e2dc50d299cc75efc27a7e82ce5c0f13"), looks := true }, kinds := [], alts := [], laidByText := true, laidKinds := [.data, .data, .data, .data, .sentinel, .sentinel, .pinned], laidTests := true, laidLooks := .later }
def FnExactReadInstanceCardSaid : Prop := Claim7.holds Tryd.pinned (.plain (OpenSpec.ofChange fnExactReadInstanceSpec)) fnExactReadInstanceCard

/-- THE SECOND FORM's CARD OF 'laws.FnExactRelText'. -/
def fnExactRelTextUptoCard : Claim7 := { stood := { row := fnExactRelTextUptoRow, standIns := [], harness := (true, "d37724211973341dddf098d9bd093323e2dc50d299cc75efc27a7e82ce5c0f13"), looks := true }, kinds := [], alts := [], laidByText := true, laidKinds := [.data, .data, .data], laidTests := true, laidLooks := .later }
def FnExactRelTextUptoCardSaid : Prop := Claim7.holds Tryd.pinned (.plain (OpenSpec.upto fnExactRelTextSpec)) fnExactRelTextUptoCard

/-- THE SECOND FORM's CARD OF 'laws.FnExactOpText'. -/
def fnExactOpTextUptoCard : Claim7 := { stood := { row := fnExactOpTextUptoRow, standIns := [], harness := (true, "d37724211973341dddf098d9bd093323e2dc50d299cc75efc27a7e82ce5c0f13"), looks := true }, kinds := [], alts := [], laidByText := true, laidKinds := [.data, .data, .data], laidTests := true, laidLooks := .later }
def FnExactOpTextUptoCardSaid : Prop := Claim7.holds Tryd.pinned (.plain (OpenSpec.upto fnExactOpTextSpec)) fnExactOpTextUptoCard

/-- THE SECOND FORM's CARD OF 'laws.FnExactSystemText'. -/
def fnExactSystemTextUptoCard : Claim7 := { stood := { row := fnExactSystemTextUptoRow, standIns := [], harness := (true, "d37724211973341dddf098d9bd093323e2dc50d299cc75efc27a7e82ce5c0f13"), looks := true }, kinds := [], alts := [], laidByText := true, laidKinds := [.data, .data, .data], laidTests := true, laidLooks := .later }
def FnExactSystemTextUptoCardSaid : Prop := Claim7.holds Tryd.pinned (.plain (OpenSpec.upto fnExactSystemTextSpec)) fnExactSystemTextUptoCard

/-- THE SECOND FORM's CARD OF 'laws.FnExactTemplateText'. -/
def fnExactTemplateTextUptoCard : Claim7 := { stood := { row := fnExactTemplateTextUptoRow, standIns := [], harness := (true, "d37724211973341dddf098d9bd093323e2dc50d299cc75efc27a7e82ce5c0f13"), looks := true }, kinds := [], alts := [], laidByText := true, laidKinds := [.data, .data, .data], laidTests := true, laidLooks := .later }
def FnExactTemplateTextUptoCardSaid : Prop := Claim7.holds Tryd.pinned (.plain (OpenSpec.upto fnExactTemplateTextSpec)) fnExactTemplateTextUptoCard

/-- THE SECOND FORM's CARD OF 'laws.FnExactFormulaText'. -/
def fnExactFormulaTextUptoCard : Claim7 := { stood := { row := fnExactFormulaTextUptoRow, standIns := [], harness := (true, "d37724211973341dddf098d9bd093323e2dc50d299cc75efc27a7e82ce5c0f13"), looks := true }, kinds := [], alts := [], laidByText := true, laidKinds := [.data, .data, .data], laidTests := true, laidLooks := .later }
def FnExactFormulaTextUptoCardSaid : Prop := Claim7.holds Tryd.pinned (.plain (OpenSpec.upto fnExactFormulaTextSpec)) fnExactFormulaTextUptoCard

/-- THE SECOND FORM's CARD OF 'laws.FnExactInstanceText'. -/
def fnExactInstanceTextUptoCard : Claim7 := { stood := { row := fnExactInstanceTextUptoRow, standIns := [], harness := (true, "d37724211973341dddf098d9bd093323e2dc50d299cc75efc27a7e82ce5c0f13"), looks := true }, kinds := [], alts := [], laidByText := true, laidKinds := [.data, .data, .data], laidTests := true, laidLooks := .later }
def FnExactInstanceTextUptoCardSaid : Prop := Claim7.holds Tryd.pinned (.plain (OpenSpec.upto fnExactInstanceTextSpec)) fnExactInstanceTextUptoCard

/-- THE SECOND FORM's CARD OF 'laws.FnExactReadRel'. -/
def fnExactReadRelUptoCard : Claim7 := { stood := { row := fnExactReadRelUptoRow, standIns := [], harness := (true, "d37724211973341dddf098d9bd093323e2dc50d299cc75efc27a7e82ce5c0f13"), looks := true }, kinds := [], alts := [], laidByText := true, laidKinds := [.data, .pinned], laidTests := true, laidLooks := .later }
def FnExactReadRelUptoCardSaid : Prop := Claim7.holds Tryd.pinned (.plain (OpenSpec.upto fnExactReadRelSpec)) fnExactReadRelUptoCard

/-- THE SECOND FORM's CARD OF 'laws.FnExactReadOp'. -/
def fnExactReadOpUptoCard : Claim7 := { stood := { row := fnExactReadOpUptoRow, standIns := [], harness := (true, "d37724211973341dddf098d9bd093323e2dc50d299cc75efc27a7e82ce5c0f13"), looks := true }, kinds := [], alts := [], laidByText := true, laidKinds := [.data, .pinned], laidTests := true, laidLooks := .later }
def FnExactReadOpUptoCardSaid : Prop := Claim7.holds Tryd.pinned (.plain (OpenSpec.upto fnExactReadOpSpec)) fnExactReadOpUptoCard

/-- THE SECOND FORM's CARD OF 'laws.FnExactReadSystem'. -/
def fnExactReadSystemUptoCard : Claim7 := { stood := { row := fnExactReadSystemUptoRow, standIns := [], harness := (true, "d37724211973341dddf098d9bd093323e2dc50d299cc75efc27a7e82ce5c0f13"), looks := true }, kinds := [], alts := [], laidByText := true, laidKinds := [.data, .data, .data, .data, .sentinel, .sentinel, .pinned], laidTests := true, laidLooks := .later }
def FnExactReadSystemUptoCardSaid : Prop := Claim7.holds Tryd.pinned (.plain (OpenSpec.upto fnExactReadSystemSpec)) fnExactReadSystemUptoCard

/-- THE SECOND FORM's CARD OF 'laws.FnExactReadTemplate'. -/
def fnExactReadTemplateUptoCard : Claim7 := { stood := { row := fnExactReadTemplateUptoRow, standIns := [], harness := (true, "d37724211973341dddf098d9bd093323e2dc50d299cc75efc27a7e82ce5c0f13"), looks := true }, kinds := [], alts := [], laidByText := true, laidKinds := [.data, .pinned], laidTests := true, laidLooks := .later }
def FnExactReadTemplateUptoCardSaid : Prop := Claim7.holds Tryd.pinned (.plain (OpenSpec.upto fnExactReadTemplateSpec)) fnExactReadTemplateUptoCard

/-- THE SECOND FORM's CARD OF 'laws.FnExactReadFormula'. -/
def fnExactReadFormulaUptoCard : Claim7 := { stood := { row := fnExactReadFormulaUptoRow, standIns := [], harness := (true, "d37724211973341dddf098d9bd093323e2dc50d299cc75efc27a7e82ce5c0f13"), looks := true }, kinds := [], alts := [], laidByText := true, laidKinds := [.data, .pinned], laidTests := true, laidLooks := .later }
def FnExactReadFormulaUptoCardSaid : Prop := Claim7.holds Tryd.pinned (.plain (OpenSpec.upto fnExactReadFormulaSpec)) fnExactReadFormulaUptoCard

/-- THE SECOND FORM's CARD OF 'laws.FnExactReadInstance'. -/
def fnExactReadInstanceUptoCard : Claim7 := { stood := { row := fnExactReadInstanceUptoRow, standIns := [], harness := (true, "d37724211973341dddf098d9bd093323e2dc50d299cc75efc27a7e82ce5c0f13"), looks := true }, kinds := [], alts := [], laidByText := true, laidKinds := [.data, .data, .data, .data, .sentinel, .sentinel, .pinned], laidTests := true, laidLooks := .later }
def FnExactReadInstanceUptoCardSaid : Prop := Claim7.holds Tryd.pinned (.plain (OpenSpec.upto fnExactReadInstanceSpec)) fnExactReadInstanceUptoCard
end Rows
end Go.Proofs.YtadpnckpgpamiabDoor
