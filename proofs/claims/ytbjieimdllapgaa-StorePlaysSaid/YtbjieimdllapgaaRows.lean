/-
  No cell of these rows narrows 'for every input' (looked for: loops, veiled, ifaces, maps, wideKeys, modest, calm, conditions, laid).
  DERIVED. THE GIVEN ROWS OF THIS SEAT. 6 by the template 'for every input the law returns true; each argument reads behind the call as it read before'; 0 by the template 'total and deterministic' (their statements: YtbjieimdllapgaaTotals.lean).
  GIVEN WITH THE SEED: the statements are not yours to turn. If you find one false, say at which input.
  Laid BY PROGRAM, IN A SANDBOX (cutbox-rows.mjs): the forced cells as the released guide's own fill.sh prints them over the translation 0884b1e87da78912… (all of the seat's roots in one cut). By AI agents, Wed Nov 11 2026. No macro, syntax, notation, axiom, sorry.
-/
import Derived.Test.YtbjieimdllapgaaChecked
import GoSem.Claim
import GoSem.ClaimJoined
import GoSem.ClaimMapViews
import Derived.JoinedTies
import Derived.KernelRfl
namespace Go.Proofs.Ytbjieimdllapgaa
/- THE CELL 'sum', in the pinned program and in every row, IS THE sha256 OF THE DUMP (.gsa) THAT YtbjieimdllapgaaProg.lean LOADS. Nothing in Lean hashes anything: it is a label: what it is worth is what the hold of that sum in a sandbox is worth. -/
noncomputable def Try.pinned : Pinned := { name := "ytbjieimdllapgaa", sum := "0884b1e87da7891248c62ff26bd20f04164693d6565a18be2c8366437be946fe", checked := Try.checked }
namespace Rows
def none {H : Type} : Left H := { results := [], args := [] }

/-- 'spinneretlaw13.ChansPut': WHATEVER THE INPUT: true; the input reads as it did. -/
def chansPutSpec : ChangeSpec := { name := "chansPut", fn := fun _ => fun
  | [d1, d2, d3] => { results := [.lit (.bool true)], args := [d1, d2, d3] }
  | _ => none }
def chansPutRow : OpenClaim := { program := "ytbjieimdllapgaa", sum := "0884b1e87da7891248c62ff26bd20f04164693d6565a18be2c8366437be946fe", func := "spinneret/spinneretlaw13.ChansPut", spec := "chansPut", inPlace := ["slices.overlaps[spinneret/api.Message]"], unfollowed := true, recurses := true, apart := false }
def ChansPutSaid : Prop := chansPutRow.holds Try.pinned (OpenSpec.ofChange chansPutSpec)

/-- ITS FALSE NEIGHBOUR: 'it returns false'. Refute it at one input. -/
def chansPutWrong : ChangeSpec := { name := "chansPut", fn := fun _ => fun
  | [d1, d2, d3] => { results := [.lit (.bool false)], args := [d1, d2, d3] }
  | _ => none }
def ChansPutWrongFalsely : Prop := chansPutRow.holds Try.pinned (OpenSpec.ofChange chansPutWrong)

/-- 'spinneretlaw13.ChansQueue': WHATEVER THE INPUT: true; the input reads as it did. -/
def chansQueueSpec : ChangeSpec := { name := "chansQueue", fn := fun _ => fun
  | [d1, d2] => { results := [.lit (.bool true)], args := [d1, d2] }
  | _ => none }
def chansQueueRow : OpenClaim := { program := "ytbjieimdllapgaa", sum := "0884b1e87da7891248c62ff26bd20f04164693d6565a18be2c8366437be946fe", func := "spinneret/spinneretlaw13.ChansQueue", spec := "chansQueue", inPlace := ["slices.overlaps[spinneret/api.Message]"], unfollowed := true, recurses := true, apart := false }
def ChansQueueSaid : Prop := chansQueueRow.holds Try.pinned (OpenSpec.ofChange chansQueueSpec)

/-- ITS FALSE NEIGHBOUR: 'it returns false'. Refute it at one input. -/
def chansQueueWrong : ChangeSpec := { name := "chansQueue", fn := fun _ => fun
  | [d1, d2] => { results := [.lit (.bool false)], args := [d1, d2] }
  | _ => none }
def ChansQueueWrongFalsely : Prop := chansQueueRow.holds Try.pinned (OpenSpec.ofChange chansQueueWrong)

/-- 'spinneretlaw13.ChansRise': WHATEVER THE INPUT: true; the input reads as it did. -/
def chansRiseSpec : ChangeSpec := { name := "chansRise", fn := fun _ => fun
  | [d1, d2] => { results := [.lit (.bool true)], args := [d1, d2] }
  | _ => none }
def chansRiseRow : OpenClaim := { program := "ytbjieimdllapgaa", sum := "0884b1e87da7891248c62ff26bd20f04164693d6565a18be2c8366437be946fe", func := "spinneret/spinneretlaw13.ChansRise", spec := "chansRise", inPlace := ["slices.overlaps[spinneret/api.Message]"], unfollowed := true, recurses := true, apart := false }
def ChansRiseSaid : Prop := chansRiseRow.holds Try.pinned (OpenSpec.ofChange chansRiseSpec)

/-- ITS FALSE NEIGHBOUR: 'it returns false'. Refute it at one input. -/
def chansRiseWrong : ChangeSpec := { name := "chansRise", fn := fun _ => fun
  | [d1, d2] => { results := [.lit (.bool false)], args := [d1, d2] }
  | _ => none }
def ChansRiseWrongFalsely : Prop := chansRiseRow.holds Try.pinned (OpenSpec.ofChange chansRiseWrong)

/-- 'spinneretlaw18.StorePlays': WHATEVER THE INPUT: true; the input reads as it did. -/
def storePlaysSpec : ChangeSpec := { name := "storePlays", fn := fun _ => fun
  | [d1, d2] => { results := [.lit (.bool true)], args := [d1, d2] }
  | _ => none }
def storePlaysRow : OpenClaim := { program := "ytbjieimdllapgaa", sum := "0884b1e87da7891248c62ff26bd20f04164693d6565a18be2c8366437be946fe", func := "spinneret/spinneretlaw18.StorePlays", spec := "storePlays", apart := false }
def StorePlaysSaid : Prop := storePlaysRow.holds Try.pinned (OpenSpec.ofChange storePlaysSpec)

/-- ITS FALSE NEIGHBOUR: 'it returns false'. Refute it at one input. -/
def storePlaysWrong : ChangeSpec := { name := "storePlays", fn := fun _ => fun
  | [d1, d2] => { results := [.lit (.bool false)], args := [d1, d2] }
  | _ => none }
def StorePlaysWrongFalsely : Prop := storePlaysRow.holds Try.pinned (OpenSpec.ofChange storePlaysWrong)

/-- 'spinneretlaw18.StoreApart': WHATEVER THE INPUT: true; the input reads as it did. -/
def storeApartSpec : ChangeSpec := { name := "storeApart", fn := fun _ => fun
  | [d] => { results := [.lit (.bool true)], args := [d] }
  | _ => none }
def storeApartRow : OpenClaim := { program := "ytbjieimdllapgaa", sum := "0884b1e87da7891248c62ff26bd20f04164693d6565a18be2c8366437be946fe", func := "spinneret/spinneretlaw18.StoreApart", spec := "storeApart", apart := false }
def StoreApartSaid : Prop := storeApartRow.holds Try.pinned (OpenSpec.ofChange storeApartSpec)

/-- ITS FALSE NEIGHBOUR: 'it returns false'. Refute it at one input. -/
def storeApartWrong : ChangeSpec := { name := "storeApart", fn := fun _ => fun
  | [d] => { results := [.lit (.bool false)], args := [d] }
  | _ => none }
def StoreApartWrongFalsely : Prop := storeApartRow.holds Try.pinned (OpenSpec.ofChange storeApartWrong)

/-- 'spinneretlaw18.StoreNil': WHATEVER THE INPUT: true; the input reads as it did. -/
def storeNilSpec : ChangeSpec := { name := "storeNil", fn := fun _ => fun
  | [d1, d2, d3] => { results := [.lit (.bool true)], args := [d1, d2, d3] }
  | _ => none }
def storeNilRow : OpenClaim := { program := "ytbjieimdllapgaa", sum := "0884b1e87da7891248c62ff26bd20f04164693d6565a18be2c8366437be946fe", func := "spinneret/spinneretlaw18.StoreNil", spec := "storeNil", apart := false }
def StoreNilSaid : Prop := storeNilRow.holds Try.pinned (OpenSpec.ofChange storeNilSpec)

/-- ITS FALSE NEIGHBOUR: 'it returns false'. Refute it at one input. -/
def storeNilWrong : ChangeSpec := { name := "storeNil", fn := fun _ => fun
  | [d1, d2, d3] => { results := [.lit (.bool false)], args := [d1, d2, d3] }
  | _ => none }
def StoreNilWrongFalsely : Prop := storeNilRow.holds Try.pinned (OpenSpec.ofChange storeNilWrong)

/- THE SECOND FORM. 'bulk': how many values and letters a reading holds, each counted each time it is reached (what is shared counts as often as it is met; a slice's spare places count too). A statement '..UptoSaid' is the law's where the arguments, and the package variables that the reading takes, are together of bulk at most 1048576: NARROWER than '..Said'. Prove '..Said' where nothing that the law and all that it calls make is longer than what came in: it says more and counts as full. Else prove '..UptoSaid'. A law counts once. -/
mutual
def uptoBulk {H : Type} : DataW H → Nat
  | .lit (.string bytes) => bytes.length + 1
  | .lit _ => 1
  | .nil => 1
  | .ptr d => uptoBulk d + 1
  | .slice elems spare => uptoBulkAll elems + uptoBulkAll spare + 1
  | .agg parts => uptoBulkAll parts + 1
  | .iface _ d => uptoBulk d + 1
  | .map entries => uptoBulkEntries entries + 1
  | .held _ => 1
def uptoBulkAll {H : Type} : List (DataW H) → Nat
  | [] => 0
  | d :: r => uptoBulk d + uptoBulkAll r
def uptoBulkEntries {H : Type} : List (Lit × DataW H) → Nat
  | [] => 0
  | x :: r => uptoBulkEntry x + uptoBulkEntries r
def uptoBulkEntry {H : Type} : Lit × DataW H → Nat
  | (.string bytes, d) => bytes.length + uptoBulk d + 1
  | (_, d) => uptoBulk d + 1
 end
def uptoSmall : (H : Type) → List (DataW H) → Bool := fun _ ds => decide (uptoBulkAll ds ≤ 1048576)
def OpenSpec.upto (s : _root_.Go.ChangeSpec) : _root_.Go.OpenSpec := { _root_.Go.OpenSpec.ofChange s with cond := some uptoSmall }

/-- 'spinneretlaw13.ChansPut', WHERE WHAT IT READS IS OF BULK AT MOST 1048576: true; the input reads as it did. -/
def chansPutUptoRow : OpenClaim := { program := "ytbjieimdllapgaa", sum := "0884b1e87da7891248c62ff26bd20f04164693d6565a18be2c8366437be946fe", func := "spinneret/spinneretlaw13.ChansPut", spec := "chansPut", inPlace := ["slices.overlaps[spinneret/api.Message]"], unfollowed := true, recurses := true, apart := false, narrowed := true }
def ChansPutUptoSaid : Prop := chansPutUptoRow.holds Try.pinned (OpenSpec.upto chansPutSpec)

/-- 'spinneretlaw13.ChansQueue', WHERE WHAT IT READS IS OF BULK AT MOST 1048576: true; the input reads as it did. -/
def chansQueueUptoRow : OpenClaim := { program := "ytbjieimdllapgaa", sum := "0884b1e87da7891248c62ff26bd20f04164693d6565a18be2c8366437be946fe", func := "spinneret/spinneretlaw13.ChansQueue", spec := "chansQueue", inPlace := ["slices.overlaps[spinneret/api.Message]"], unfollowed := true, recurses := true, apart := false, narrowed := true }
def ChansQueueUptoSaid : Prop := chansQueueUptoRow.holds Try.pinned (OpenSpec.upto chansQueueSpec)

/-- 'spinneretlaw13.ChansRise', WHERE WHAT IT READS IS OF BULK AT MOST 1048576: true; the input reads as it did. -/
def chansRiseUptoRow : OpenClaim := { program := "ytbjieimdllapgaa", sum := "0884b1e87da7891248c62ff26bd20f04164693d6565a18be2c8366437be946fe", func := "spinneret/spinneretlaw13.ChansRise", spec := "chansRise", inPlace := ["slices.overlaps[spinneret/api.Message]"], unfollowed := true, recurses := true, apart := false, narrowed := true }
def ChansRiseUptoSaid : Prop := chansRiseUptoRow.holds Try.pinned (OpenSpec.upto chansRiseSpec)

/-- 'spinneretlaw18.StorePlays', WHERE WHAT IT READS IS OF BULK AT MOST 1048576: true; the input reads as it did. -/
def storePlaysUptoRow : OpenClaim := { program := "ytbjieimdllapgaa", sum := "0884b1e87da7891248c62ff26bd20f04164693d6565a18be2c8366437be946fe", func := "spinneret/spinneretlaw18.StorePlays", spec := "storePlays", apart := false, narrowed := true }
def StorePlaysUptoSaid : Prop := storePlaysUptoRow.holds Try.pinned (OpenSpec.upto storePlaysSpec)

/-- 'spinneretlaw18.StoreApart', WHERE WHAT IT READS IS OF BULK AT MOST 1048576: true; the input reads as it did. -/
def storeApartUptoRow : OpenClaim := { program := "ytbjieimdllapgaa", sum := "0884b1e87da7891248c62ff26bd20f04164693d6565a18be2c8366437be946fe", func := "spinneret/spinneretlaw18.StoreApart", spec := "storeApart", apart := false, narrowed := true }
def StoreApartUptoSaid : Prop := storeApartUptoRow.holds Try.pinned (OpenSpec.upto storeApartSpec)

/-- 'spinneretlaw18.StoreNil', WHERE WHAT IT READS IS OF BULK AT MOST 1048576: true; the input reads as it did. -/
def storeNilUptoRow : OpenClaim := { program := "ytbjieimdllapgaa", sum := "0884b1e87da7891248c62ff26bd20f04164693d6565a18be2c8366437be946fe", func := "spinneret/spinneretlaw18.StoreNil", spec := "storeNil", apart := false, narrowed := true }
def StoreNilUptoSaid : Prop := storeNilUptoRow.holds Try.pinned (OpenSpec.upto storeNilSpec)

end Rows
end Go.Proofs.Ytbjieimdllapgaa
