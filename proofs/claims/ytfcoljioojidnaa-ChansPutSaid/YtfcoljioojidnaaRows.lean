/-
  No cell of these rows narrows 'for every input' (looked for: loops, veiled, ifaces, maps, wideKeys, modest, calm, conditions, laid).
  DERIVED. THE GIVEN ROWS OF THIS SEAT. 3 by the template 'for every input the law returns true; each argument reads behind the call as it read before'; 0 by the template 'total and deterministic' (their statements: YtfcoljioojidnaaTotals.lean).
  GIVEN WITH THE SEED: the statements are not yours to turn. If you find one false, say at which input.
  Laid BY PROGRAM, IN A SANDBOX (cutbox-rows.mjs): the forced cells as the released guide's own fill.sh prints them over the translation abf06eb120b5d126… (all of the seat's roots in one cut). By AI agents, Wed Nov 11 2026. No macro, syntax, notation, axiom, sorry.
-/
import Derived.Test.YtfcoljioojidnaaChecked
import GoSem.Claim
import GoSem.ClaimJoined
import GoSem.ClaimMapViews
import Derived.JoinedTies
import Derived.KernelRfl
namespace Go.Proofs.Ytfcoljioojidnaa
/- THE CELL 'sum', in the pinned program and in every row, IS THE sha256 OF THE DUMP (.gsa) THAT YtfcoljioojidnaaProg.lean LOADS. Nothing in Lean hashes anything: it is a label: what it is worth is what the hold of that sum in a sandbox is worth. -/
noncomputable def Try.pinned : Pinned := { name := "ytfcoljioojidnaa", sum := "abf06eb120b5d12658d9cca0f2278f54a5db33ec9ed9fd271b39ad2764594391", checked := Try.checked }
namespace Rows
def none {H : Type} : Left H := { results := [], args := [] }

/-- 'spinneretlaw13.ChansPut': WHATEVER THE INPUT: true; the input reads as it did. -/
def chansPutSpec : ChangeSpec := { name := "chansPut", fn := fun _ => fun
  | [d1, d2, d3] => { results := [.lit (.bool true)], args := [d1, d2, d3] }
  | _ => none }
def chansPutRow : OpenClaim := { program := "ytfcoljioojidnaa", sum := "abf06eb120b5d12658d9cca0f2278f54a5db33ec9ed9fd271b39ad2764594391", func := "spinneret/spinneretlaw13.ChansPut", spec := "chansPut", inPlace := ["slices.overlaps[spinneret/api.Message]"], unfollowed := true, recurses := true, apart := false }
def ChansPutSaid : Prop := chansPutRow.holds Try.pinned (OpenSpec.ofChange chansPutSpec)

/-- ITS FALSE NEIGHBOUR: 'it returns false'. Refute it at one input. -/
def chansPutWrong : ChangeSpec := { name := "chansPut", fn := fun _ => fun
  | [d1, d2, d3] => { results := [.lit (.bool false)], args := [d1, d2, d3] }
  | _ => none }
def ChansPutWrongFalsely : Prop := chansPutRow.holds Try.pinned (OpenSpec.ofChange chansPutWrong)

/-- 'spinneretlaw13.ChansQueue': WHATEVER THE INPUT: true; the input reads as it did. -/
def chansQueueSpec : ChangeSpec := { name := "chansQueue", fn := fun _ => fun
  | [d1, d2] => { results := [.lit (.bool true)], args := [d1, d2] }
  | _ => none }
def chansQueueRow : OpenClaim := { program := "ytfcoljioojidnaa", sum := "abf06eb120b5d12658d9cca0f2278f54a5db33ec9ed9fd271b39ad2764594391", func := "spinneret/spinneretlaw13.ChansQueue", spec := "chansQueue", inPlace := ["slices.overlaps[spinneret/api.Message]"], unfollowed := true, recurses := true, apart := false }
def ChansQueueSaid : Prop := chansQueueRow.holds Try.pinned (OpenSpec.ofChange chansQueueSpec)

/-- ITS FALSE NEIGHBOUR: 'it returns false'. Refute it at one input. -/
def chansQueueWrong : ChangeSpec := { name := "chansQueue", fn := fun _ => fun
  | [d1, d2] => { results := [.lit (.bool false)], args := [d1, d2] }
  | _ => none }
def ChansQueueWrongFalsely : Prop := chansQueueRow.holds Try.pinned (OpenSpec.ofChange chansQueueWrong)

/-- 'spinneretlaw13.ChansRise': WHATEVER THE INPUT: true; the input reads as it did. -/
def chansRiseSpec : ChangeSpec := { name := "chansRise", fn := fun _ => fun
  | [d1, d2] => { results := [.lit (.bool true)], args := [d1, d2] }
  | _ => none }
def chansRiseRow : OpenClaim := { program := "ytfcoljioojidnaa", sum := "abf06eb120b5d12658d9cca0f2278f54a5db33ec9ed9fd271b39ad2764594391", func := "spinneret/spinneretlaw13.ChansRise", spec := "chansRise", inPlace := ["slices.overlaps[spinneret/api.Message]"], unfollowed := true, recurses := true, apart := false }
def ChansRiseSaid : Prop := chansRiseRow.holds Try.pinned (OpenSpec.ofChange chansRiseSpec)

/-- ITS FALSE NEIGHBOUR: 'it returns false'. Refute it at one input. -/
def chansRiseWrong : ChangeSpec := { name := "chansRise", fn := fun _ => fun
  | [d1, d2] => { results := [.lit (.bool false)], args := [d1, d2] }
  | _ => none }
def ChansRiseWrongFalsely : Prop := chansRiseRow.holds Try.pinned (OpenSpec.ofChange chansRiseWrong)

/- THE SECOND FORM. 'bulk': how many values and letters a reading holds, each counted each time it is reached (what is shared counts as often as it is met; a slice's spare places count too). A statement '..UptoSaid' is the law's where the arguments, and the package variables that the reading takes, are together of bulk at most 1048576: NARROWER than '..Said'. Prove '..Said' where nothing that the law and all that it calls make is longer than what came in: it says more and counts as full. Else prove '..UptoSaid'. A law counts once. -/
mutual
def uptoBulk {H : Type} : DataW H → Nat
  | .lit (.string bytes) => bytes.length + 1
  | .lit _ => 1
  | .nil => 1
  | .ptr d => uptoBulk d + 1
  | .slice elems spare => uptoBulkAll elems + uptoBulkAll spare + 1
  | .agg parts => uptoBulkAll parts + 1
  | .iface _ d => uptoBulk d + 1
  | .map entries => uptoBulkEntries entries + 1
  | .held _ => 1
def uptoBulkAll {H : Type} : List (DataW H) → Nat
  | [] => 0
  | d :: r => uptoBulk d + uptoBulkAll r
def uptoBulkEntries {H : Type} : List (Lit × DataW H) → Nat
  | [] => 0
  | x :: r => uptoBulkEntry x + uptoBulkEntries r
def uptoBulkEntry {H : Type} : Lit × DataW H → Nat
  | (.string bytes, d) => bytes.length + uptoBulk d + 1
  | (_, d) => uptoBulk d + 1
 end
def uptoSmall : (H : Type) → List (DataW H) → Bool := fun _ ds => decide (uptoBulkAll ds ≤ 1048576)
def OpenSpec.upto (s : _root_.Go.ChangeSpec) : _root_.Go.OpenSpec := { _root_.Go.OpenSpec.ofChange s with cond := some uptoSmall }

/-- 'spinneretlaw13.ChansPut', WHERE WHAT IT READS IS OF BULK AT MOST 1048576: true; the input reads as it did. -/
def chansPutUptoRow : OpenClaim := { program := "ytfcoljioojidnaa", sum := "abf06eb120b5d12658d9cca0f2278f54a5db33ec9ed9fd271b39ad2764594391", func := "spinneret/spinneretlaw13.ChansPut", spec := "chansPut", inPlace := ["slices.overlaps[spinneret/api.Message]"], unfollowed := true, recurses := true, apart := false, narrowed := true }
def ChansPutUptoSaid : Prop := chansPutUptoRow.holds Try.pinned (OpenSpec.upto chansPutSpec)

/-- 'spinneretlaw13.ChansQueue', WHERE WHAT IT READS IS OF BULK AT MOST 1048576: true; the input reads as it did. -/
def chansQueueUptoRow : OpenClaim := { program := "ytfcoljioojidnaa", sum := "abf06eb120b5d12658d9cca0f2278f54a5db33ec9ed9fd271b39ad2764594391", func := "spinneret/spinneretlaw13.ChansQueue", spec := "chansQueue", inPlace := ["slices.overlaps[spinneret/api.Message]"], unfollowed := true, recurses := true, apart := false, narrowed := true }
def ChansQueueUptoSaid : Prop := chansQueueUptoRow.holds Try.pinned (OpenSpec.upto chansQueueSpec)

/-- 'spinneretlaw13.ChansRise', WHERE WHAT IT READS IS OF BULK AT MOST 1048576: true; the input reads as it did. -/
def chansRiseUptoRow : OpenClaim := { program := "ytfcoljioojidnaa", sum := "abf06eb120b5d12658d9cca0f2278f54a5db33ec9ed9fd271b39ad2764594391", func := "spinneret/spinneretlaw13.ChansRise", spec := "chansRise", inPlace := ["slices.overlaps[spinneret/api.Message]"], unfollowed := true, recurses := true, apart := false, narrowed := true }
def ChansRiseUptoSaid : Prop := chansRiseUptoRow.holds Try.pinned (OpenSpec.upto chansRiseSpec)

end Rows
end Go.Proofs.Ytfcoljioojidnaa
