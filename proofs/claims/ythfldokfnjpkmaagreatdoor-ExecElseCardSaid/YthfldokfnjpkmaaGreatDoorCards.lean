/-
  DERIVED. GIVEN WITH THE SEED: THE CARDS: each row of YthfldokfnjpkmaaGreatDoorRows.lean that lists a variable, with what it lists TIED to the program's text (the seventh form; the later family's looks); each row that meets fmt, with fmt's text TOLD by the authors' own Lean function (tested against real Go, not proved from fmt's source: count such statements apart). THE CARD IS WHAT COUNTS. Prove the row's statement (the work); the ties are given (YthfldokfnjpkmaaGreatDoorTie.lean); close each card by the builder's one call (the guide's Derived/Test/ToyasCard.lean, 'card_holds'). Laid BY PROGRAM, IN A SANDBOX (cutbox-door.mjs). By AI agents, Wed Nov 11 2026. No macro, syntax, notation, axiom, sorry.
-/
import Derived.Test.YthfldokfnjpkmaaGreatDoorRows
import GoSem.ClaimSeven
namespace Go.Proofs.YthfldokfnjpkmaaGreatDoor
namespace Rows

/-- THE TIED CARD OF 'spinneretlaw15.ExecGoes'. -/
def execGoesCard : Claim7 := { stood := { row := execGoesRow, standIns := [], harness := (true, "e7373dc7e78762592a6125a4c2d3828a6f1982a6d63c0d151f7f56d778dee6a6"), looks := false }, kinds := [], alts := [], laidByText := true, laidKinds := [.data, .data, .data, .data], laidTests := true, laidLooks := .later }
def ExecGoesCardSaid : Prop := Claim7.holds Tryz.pinned (.plain (OpenSpec.ofChange execGoesSpec)) execGoesCard

/-- THE TIED CARD OF 'spinneretlaw15.ExecAble'. -/
def execAbleCard : Claim7 := { stood := { row := execAbleRow, standIns := [], harness := (true, "e7373dc7e78762592a6125a4c2d3828a6f1982a6d63c0d151f7f56d778dee6a6"), looks := false }, kinds := [], alts := [], laidByText := true, laidKinds := [.data, .data, .data, .data], laidTests := true, laidLooks := .later }
def ExecAbleCardSaid : Prop := Claim7.holds Tryz.pinned (.plain (OpenSpec.ofChange execAbleSpec)) execAbleCard

/-- THE TIED CARD OF 'spinneretlaw15.ExecWhole'. -/
def execWholeCard : Claim7 := { stood := { row := execWholeRow, standIns := [], harness := (true, "e7373dc7e78762592a6125a4c2d3828a6f1982a6d63c0d151f7f56d778dee6a6"), looks := false }, kinds := [], alts := [], laidByText := true, laidKinds := [.data, .data, .data, .data], laidTests := true, laidLooks := .later }
def ExecWholeCardSaid : Prop := Claim7.holds Tryz.pinned (.plain (OpenSpec.ofChange execWholeSpec)) execWholeCard

/-- THE TIED CARD OF 'spinneretlaw15.ExecElse'. -/
def execElseCard : Claim7 := { stood := { row := execElseRow, standIns := [], harness := (true, "e7373dc7e78762592a6125a4c2d3828a6f1982a6d63c0d151f7f56d778dee6a6"), looks := false }, kinds := [], alts := [], laidByText := true, laidKinds := [.data, .data, .data, .data], laidTests := true, laidLooks := .later }
def ExecElseCardSaid : Prop := Claim7.holds Tryz.pinned (.plain (OpenSpec.ofChange execElseSpec)) execElseCard

/-- THE TIED CARD OF 'spinneretlaw15.ExecMeets'. -/
def execMeetsCard : Claim7 := { stood := { row := execMeetsRow, standIns := [], harness := (true, "e7373dc7e78762592a6125a4c2d3828a6f1982a6d63c0d151f7f56d778dee6a6"), looks := false }, kinds := [], alts := [], laidByText := true, laidKinds := [.data, .data, .data, .data], laidTests := true, laidLooks := .later }
def ExecMeetsCardSaid : Prop := Claim7.holds Tryz.pinned (.plain (OpenSpec.ofChange execMeetsSpec)) execMeetsCard

/-- THE SECOND FORM's CARD OF 'spinneretlaw15.ExecGoes'. -/
def execGoesUptoCard : Claim7 := { stood := { row := execGoesUptoRow, standIns := [], harness := (true, "e7373dc7e78762592a6125a4c2d3828a6f1982a6d63c0d151f7f56d778dee6a6"), looks := false }, kinds := [], alts := [], laidByText := true, laidKinds := [.data, .data, .data, .data], laidTests := true, laidLooks := .later }
def ExecGoesUptoCardSaid : Prop := Claim7.holds Tryz.pinned (.plain (OpenSpec.upto execGoesSpec)) execGoesUptoCard

/-- THE SECOND FORM's CARD OF 'spinneretlaw15.ExecAble'. -/
def execAbleUptoCard : Claim7 := { stood := { row := execAbleUptoRow, standIns := [], harness := (true, "e7373dc7e78762592a6125a4c2d3828a6f1982a6d63c0d151f7f56d778dee6a6"), looks := false }, kinds := [], alts := [], laidByText := true, laidKinds := [.data, .data, .data, .data], laidTests := true, laidLooks := .later }
def ExecAbleUptoCardSaid : Prop := Claim7.holds Tryz.pinned (.plain (OpenSpec.upto execAbleSpec)) execAbleUptoCard

/-- THE SECOND FORM's CARD OF 'spinneretlaw15.ExecWhole'. -/
def execWholeUptoCard : Claim7 := { stood := { row := execWholeUptoRow, standIns := [], harness := (true, "e7373dc7e78762592a6125a4c2d3828a6f1982a6d63c0d151f7f56d778dee6a6"), looks := false }, kinds := [], alts := [], laidByText := true, laidKinds := [.data, .data, .data, .data], laidTests := true, laidLooks := .later }
def ExecWholeUptoCardSaid : Prop := Claim7.holds Tryz.pinned (.plain (OpenSpec.upto execWholeSpec)) execWholeUptoCard

/-- THE SECOND FORM's CARD OF 'spinneretlaw15.ExecElse'. -/
def execElseUptoCard : Claim7 := { stood := { row := execElseUptoRow, standIns := [], harness := (true, "e7373dc7e78762592a6125a4c2d3828a6f1982a6d63c0d151f7f56d778dee6a6"), looks := false }, kinds := [], alts := [], laidByText := true, laidKinds := [.data, .data, .data, .data], laidTests := true, laidLooks := .later }
def ExecElseUptoCardSaid : Prop := Claim7.holds Tryz.pinned (.plain (OpenSpec.upto execElseSpec)) execElseUptoCard

/-- THE SECOND FORM's CARD OF 'spinneretlaw15.ExecMeets'. -/
def execMeetsUptoCard : Claim7 := { stood := { row := execMeetsUptoRow, standIns := [], harness := (true, "e7373dc7e78762592a6125a4c2d3828a6f1982a6d63c0d151f7f56d778dee6a6"), looks := false }, kinds := [], alts := [], laidByText := true, laidKinds := [.data, .data, .data, .data], laidTests := true, laidLooks := .later }
def ExecMeetsUptoCardSaid : Prop := Claim7.holds Tryz.pinned (.plain (OpenSpec.upto execMeetsSpec)) execMeetsUptoCard
end Rows
end Go.Proofs.YthfldokfnjpkmaaGreatDoor
