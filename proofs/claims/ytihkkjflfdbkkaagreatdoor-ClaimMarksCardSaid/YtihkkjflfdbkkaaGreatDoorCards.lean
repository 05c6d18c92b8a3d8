/-
  DERIVED. GIVEN WITH THE SEED: THE CARDS: each row of YtihkkjflfdbkkaaGreatDoorRows.lean that lists a variable, with what it lists TIED to the program's text (the seventh form; the later family's looks); each row that meets fmt, with fmt's text TOLD by the authors' own Lean function (tested against real Go, not proved from fmt's source: count such statements apart). THE CARD IS WHAT COUNTS. Prove the row's statement (the work); the ties are given (YtihkkjflfdbkkaaGreatDoorTie.lean); close each card by the builder's one call (the guide's Derived/Test/ToyasCard.lean, 'card_holds'). Laid BY PROGRAM, IN A SANDBOX (cutbox-door.mjs). By AI agents, Wed Nov 11 2026. No macro, syntax, notation, axiom, sorry.
-/
import Derived.Test.YtihkkjflfdbkkaaGreatDoorRows
import GoSem.ClaimSeven
namespace Go.Proofs.YtihkkjflfdbkkaaGreatDoor
namespace Rows

/-- THE TIED CARD OF 'spinneretlaw17.ClaimMarks'. -/
def claimMarksCard : Claim7 := { stood := { row := claimMarksRow, standIns := [], harness := (true, "49b35b47c7e66364152248b97b538d6a74ebc64b4faa60e15ba2f01cd2bd26bd"), looks := false }, kinds := [], alts := [], laidByText := true, laidKinds := [.data, .data, .data, .data], laidTests := true, laidLooks := .later }
def ClaimMarksCardSaid : Prop := Claim7.holds Tryz.pinned (.plain (OpenSpec.ofChange claimMarksSpec)) claimMarksCard

/-- THE TIED CARD OF 'spinneretlaw17.ClaimNp'. -/
def claimNpCard : Claim7 := { stood := { row := claimNpRow, standIns := [], harness := (true, "49b35b47c7e66364152248b97b538d6a74ebc64b4faa60e15ba2f01cd2bd26bd"), looks := false }, kinds := [], alts := [], laidByText := true, laidKinds := [.data, .data, .data, .data], laidTests := true, laidLooks := .later }
def ClaimNpCardSaid : Prop := Claim7.holds Tryz.pinned (.plain (OpenSpec.ofChange claimNpSpec)) claimNpCard

/-- THE SECOND FORM's CARD OF 'spinneretlaw17.ClaimMarks'. -/
def claimMarksUptoCard : Claim7 := { stood := { row := claimMarksUptoRow, standIns := [], harness := (true, "49b35b47c7e66364152248b97b538d6a74ebc64b4faa60e15ba2f01cd2bd26bd"), looks := false }, kinds := [], alts := [], laidByText := true, laidKinds := [.data, .data, .data, .data], laidTests := true, laidLooks := .later }
def ClaimMarksUptoCardSaid : Prop := Claim7.holds Tryz.pinned (.plain (OpenSpec.upto claimMarksSpec)) claimMarksUptoCard

/-- THE SECOND FORM's CARD OF 'spinneretlaw17.ClaimNp'. -/
def claimNpUptoCard : Claim7 := { stood := { row := claimNpUptoRow, standIns := [], harness := (true, "49b35b47c7e66364152248b97b538d6a74ebc64b4faa60e15ba2f01cd2bd26bd"), looks := false }, kinds := [], alts := [], laidByText := true, laidKinds := [.data, .data, .data, .data], laidTests := true, laidLooks := .later }
def ClaimNpUptoCardSaid : Prop := Claim7.holds Tryz.pinned (.plain (OpenSpec.upto claimNpSpec)) claimNpUptoCard
end Rows
end Go.Proofs.YtihkkjflfdbkkaaGreatDoor
