/- Laws of the walk, over any program: scopes with one label, with two; each way from a label is walked once. -/
import Derived.Test.YtmkfcoeefopmiaaScope2
import Derived.Tactics
namespace Go.Proofs.Ytmkfcoeefopmiaa
open Go
section
variable {P : Program} {a : Act} {w : World} {Q : Exit → Act → World → Prop}

/-- One label: what stands behind the label is walked once, from every frame that J tells. -/
theorem wp_scope_once {c rest : Code} (l : Nat) (J : Nat → Act → World → Prop) (hf : findLabel c l = some rest)
    (pass : ∀ m a w, J m a w → rest.wp P (Exit.jump l (fun a' w' => ∃ m', m' < m ∧ J m' a' w') Q) a w)
    (first : (∀ m a w, J m a w → rest.wp P (Exit.jump l (fun a w => ∃ m, J m a w) Q) a w) → c.wp P (Exit.jump l (fun a w => ∃ m, J m a w) Q) a w) : (Code.scope c).wp P Q a w := by
  refine wp_scope_ghost l J hf (first fun m a w h => ?_) pass
  refine Code.wp_mono ?_ (pass m a w h)
  intro e a w hq
  cases e with
  | goto l' => exact ⟨hq.1, hq.2.elim fun m' h => ⟨m', h.2⟩⟩
  | normal => exact hq
  | exit _ => exact hq
  | ret => exact hq
  | panic _ => exact hq
  | outgrown => exact hq

/-- Two labels, likewise. -/
theorem wp_scope_once2 {c r0 r1 : Code} (l0 l1 : Nat) (J0 J1 : Nat → Act → World → Prop) (hf0 : findLabel c l0 = some r0) (hf1 : findLabel c l1 = some r1)
    (pass0 : ∀ m a w, J0 m a w → r0.wp P (jump2 l0 l1 (fun a' w' => ∃ m', m' < m ∧ J0 m' a' w') (fun a' w' => ∃ m', m' < m ∧ J1 m' a' w') Q) a w)
    (pass1 : ∀ m a w, J1 m a w → r1.wp P (jump2 l0 l1 (fun a' w' => ∃ m', m' < m ∧ J0 m' a' w') (fun a' w' => ∃ m', m' < m ∧ J1 m' a' w') Q) a w)
    (first : (∀ m a w, J0 m a w → r0.wp P (jump2 l0 l1 (fun a w => ∃ m, J0 m a w) (fun a w => ∃ m, J1 m a w) Q) a w) → c.wp P (jump2 l0 l1 (fun a w => ∃ m, J0 m a w) (fun a w => ∃ m, J1 m a w) Q) a w) : (Code.scope c).wp P Q a w := by
  refine wp_scope_ghost2 l0 l1 J0 J1 hf0 hf1 (first fun m a w h => ?_) pass0 pass1
  refine Code.wp_mono ?_ (pass0 m a w h)
  intro e a w hq
  cases e with
  | goto l' =>
    rcases hq with ⟨h, m', _, hj⟩ | ⟨h, m', _, hj⟩
    · exact .inl ⟨h, m', hj⟩
    · exact .inr ⟨h, m', hj⟩
  | normal => exact hq
  | exit _ => exact hq
  | ret => exact hq
  | panic _ => exact hq
  | outgrown => exact hq
end
end Go.Proofs.Ytmkfcoeefopmiaa
