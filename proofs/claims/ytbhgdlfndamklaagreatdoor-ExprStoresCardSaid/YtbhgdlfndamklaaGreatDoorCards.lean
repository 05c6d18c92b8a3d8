/-
  DERIVED. GIVEN WITH THE SEED: THE CARDS: each row of YtbhgdlfndamklaaGreatDoorRows.lean that lists a variable, with what it lists TIED to the program's text (the seventh form; the later family's looks); each row that meets fmt, with fmt's text TOLD by the authors' own Lean function (tested against real Go, not proved from fmt's source: count such statements apart). THE CARD IS WHAT COUNTS. Prove the row's statement (the work); the ties are given (YtbhgdlfndamklaaGreatDoorTie.lean); close each card by the builder's one call (the guide's Derived/Test/ToyasCard.lean, 'card_holds'). Laid BY PROGRAM, IN A SANDBOX (cutbox-door.mjs). By AI agents, Wed Nov 11 2026. No macro, syntax, notation, axiom, sorry.
-/
import Derived.Test.YtbhgdlfndamklaaGreatDoorRows
import GoSem.ClaimSeven
namespace Go.Proofs.YtbhgdlfndamklaaGreatDoor
namespace Rows

/-- THE TIED CARD OF 'spinneretlaw14.ExprReckons'. -/
def exprReckonsCard : Claim7 := { stood := { row := exprReckonsRow, standIns := [], harness := (true, "bd5aa4585b2e6d22eae46f16f0f0885bf34397825d641ea23a91de119d62bb1f"), looks := false }, kinds := [], alts := [], laidByText := true, laidKinds := [.data, .data, .data], laidTests := true, laidLooks := .later }
def ExprReckonsCardSaid : Prop := Claim7.holds Tryz.pinned (.plain (OpenSpec.ofChange exprReckonsSpec)) exprReckonsCard

/-- THE TIED CARD OF 'spinneretlaw14.ExprStores'. -/
def exprStoresCard : Claim7 := { stood := { row := exprStoresRow, standIns := [], harness := (true, "bd5aa4585b2e6d22eae46f16f0f0885bf34397825d641ea23a91de119d62bb1f"), looks := false }, kinds := [], alts := [], laidByText := true, laidKinds := [.data, .data, .data], laidTests := true, laidLooks := .later }
def ExprStoresCardSaid : Prop := Claim7.holds Tryz.pinned (.plain (OpenSpec.ofChange exprStoresSpec)) exprStoresCard

/-- THE SECOND FORM's CARD OF 'spinneretlaw14.ExprReckons'. -/
def exprReckonsUptoCard : Claim7 := { stood := { row := exprReckonsUptoRow, standIns := [], harness := (true, "bd5aa4585b2e6d22eae46f16f0f0885bf34397825d641ea23a91de119d62bb1f"), looks := false }, kinds := [], alts := [], laidByText := true, laidKinds := [.data, .data, .data], laidTests := true, laidLooks := .later }
def ExprReckonsUptoCardSaid : Prop := Claim7.holds Tryz.pinned (.plain (OpenSpec.upto exprReckonsSpec)) exprReckonsUptoCard

/-- THE SECOND FORM's CARD OF 'spinneretlaw14.ExprStores'. -/
def exprStoresUptoCard : Claim7 := { stood := { row := exprStoresUptoRow, standIns := [], harness := (true, "bd5aa4585b2e6d22eae46f16f0f0885bf34397825d641ea23a91de119d62bb1f"), looks := false }, kinds := [], alts := [], laidByText := true, laidKinds := [.data, .data, .data], laidTests := true, laidLooks := .later }
def ExprStoresUptoCardSaid : Prop := Claim7.holds Tryz.pinned (.plain (OpenSpec.upto exprStoresSpec)) exprStoresUptoCard
end Rows
end Go.Proofs.YtbhgdlfndamklaaGreatDoor
