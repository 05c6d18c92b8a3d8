/- A region that draws its order and whose callees may lay new blocks, but turn nothing that was there: one walk, in the order of the text. The class of worlds is 'nothing below has turned'; it is handed over as a family, so that the library's own steps see through it. -/
import Derived.WalkKit
import Derived.ProofKit
import Derived.Below
import Derived.Outline
import Derived.BigQuiet
import Derived.Deep.QuietTactic
namespace Go.Proofs.Ytojneaffoekpnaa
open Go.ChangeShapes Go.WideShapes Go.ChangeAt Go.RowKit

theorem wp_region_kept {P : Program} {id : Nat} {Q : Exit → Act → World → Prop} {a : Act} {w : World} {l : List Oper} (hm : P.follows .mixedOrders = true) (hB : Region.lexB .any l.toArray = true)
    (h : ∀ (ι : Type) (_ : Nonempty ι) (f : ι → World), (∀ n, Below w.heap.size w (f n)) → (∀ n w', Below (f n).heap.size (f n) w' → ∃ m, w' = f m) →
      wpQuiet P l.toArray (fun w' => ∃ n, w' = f n) (fun a' => ∀ w', Below w.heap.size w w' → Q .normal a' w') l a) : (Code.region id l.toArray true).wp P Q a w := by
  refine wp_region_quiet (C := fun w' => ∃ n : { x // Below w.heap.size w x }, w' = n.1) hm hB ⟨⟨_, (Below.refl _ _).drew⟩, rfl⟩ ?_
  have h1 := h { x // Below w.heap.size w x } ⟨⟨w, Below.refl _ _⟩⟩ (fun n => n.1) (fun n => n.2) (fun n w' hw => ⟨⟨w', n.2.trans (hw.mono n.2.size)⟩, rfl⟩)
  have e : (fun a' => ∀ w', Below w.heap.size w w' → Q .normal a' w') = (fun a' => ∀ w', (∃ n : { x // Below w.heap.size w x }, w' = n.1) → Q .normal a' w') := by
    funext a'
    apply propext
    constructor
    · rintro g w' ⟨n, rfl⟩
      exact g _ n.2
    · intro g w' hw
      exact g w' ⟨⟨w', hw⟩, rfl⟩
  rw [e] at h1
  simpa using h1

/-- A callee that lays new blocks alone, met in such a region. -/
theorem kept_of {P : Program} {F : FuncId} {args : Array Value} {v : Value} {ι : Type} {f : ι → World} (hcl : ∀ n w', Below (f n).heap.size (f n) w' → ∃ m, w' = f m) (n : ι)
    (h : Calls P F args (f n) fun e w' => e = .returned v ∧ Below (f n).heap.size (f n) w') : Calls P F args (f n) fun e w' => e = .returned v ∧ ∃ m, w' = f m :=
  h.mono fun _ _ ⟨he, hb⟩ => ⟨he, hcl n _ hb⟩
end Go.Proofs.Ytojneaffoekpnaa
