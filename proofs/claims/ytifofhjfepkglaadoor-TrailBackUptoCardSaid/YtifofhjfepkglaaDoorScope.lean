/- A law of the walk, over any program: a scope in which the run jumps to two labels, with a count that stands in no slot. -/
import Derived.ScopeJumps
import Derived.WalkMore
import Derived.Tactics
namespace Go.Proofs.YtifofhjfepkglaaDoor
open Go

/-- As Q; by a goto to label l0: J0; to label l1: J1; by any other goto: no way out. -/
def jump2 (l0 l1 : Nat) (J0 J1 : Act → World → Prop) (Q : Exit → Act → World → Prop) : Exit → Act → World → Prop
  | .goto l, a, w => (l = l0 ∧ J0 a w) ∨ (l = l1 ∧ J1 a w)
  | e, a, w => Q e a w

section
variable {P : Program} {a : Act} {w : World} {Q : Exit → Act → World → Prop}

/-- A scope in which the run jumps to two labels, with a count that stands in no slot. -/
theorem wp_scope_ghost2 {c r0 r1 : Code} (l0 l1 : Nat) (J0 J1 : Nat → Act → World → Prop) (hf0 : findLabel c l0 = some r0) (hf1 : findLabel c l1 = some r1)
    (first : c.wp P (jump2 l0 l1 (fun a w => ∃ m, J0 m a w) (fun a w => ∃ m, J1 m a w) Q) a w)
    (pass0 : ∀ m a w, J0 m a w → r0.wp P (jump2 l0 l1 (fun a' w' => ∃ m', m' < m ∧ J0 m' a' w') (fun a' w' => ∃ m', m' < m ∧ J1 m' a' w') Q) a w)
    (pass1 : ∀ m a w, J1 m a w → r1.wp P (jump2 l0 l1 (fun a' w' => ∃ m', m' < m ∧ J0 m' a' w') (fun a' w' => ∃ m', m' < m ∧ J1 m' a' w') Q) a w) : (Code.scope c).wp P Q a w := by
  intro b k cs
  have hg0 : gotoIn l0 (.inScope c :: k) = some (.code r0 :: .inScope c :: k) := by simp [gotoIn, hf0]
  have hg1 : gotoIn l1 (.inScope c :: k) = some (.code r1 :: .inScope c :: k) := by simp [gotoIn, hf1]
  have key : ∀ m a w, (J0 m a w → ∃ e a' w', Q e a' w' ∧ Arrives P (lone (b.at a (.code r0 :: .inScope c :: k)) cs w) b k cs e a' w') ∧ (J1 m a w → ∃ e a' w', Q e a' w' ∧ Arrives P (lone (b.at a (.code r1 :: .inScope c :: k)) cs w) b k cs e a' w') := by
    intro m
    induction m using Nat.strongRecOn with
    | _ m ih =>
      intro a w
      constructor
      · intro hJ
        obtain ⟨e, a₁, w₁, hq, harr⟩ := pass0 m a w hJ b (.inScope c :: k) cs
        cases e with
        | normal => exact ⟨.normal, a₁, w₁, hq, Steps.trans harr (.one step_inScope)⟩
        | exit id => exact ⟨.exit id, a₁, w₁, hq, fun k' hk => harr k' (by simp [exitTo, hk])⟩
        | goto l' =>
          rcases hq with ⟨rfl, m', hlt, hJ'⟩ | ⟨rfl, m', hlt, hJ'⟩
          · obtain ⟨e₂, a₂, w₂, hq₂, harr₂⟩ := (ih m' hlt a₁ w₁).1 hJ'
            exact ⟨e₂, a₂, w₂, hq₂, .of_steps (harr _ hg0) harr₂⟩
          · obtain ⟨e₂, a₂, w₂, hq₂, harr₂⟩ := (ih m' hlt a₁ w₁).2 hJ'
            exact ⟨e₂, a₂, w₂, hq₂, .of_steps (harr _ hg1) harr₂⟩
        | ret => exact ⟨_, a₁, w₁, hq, harr⟩
        | panic ch => exact ⟨_, a₁, w₁, hq, harr⟩
        | outgrown => exact ⟨_, a₁, w₁, hq, harr⟩
      · intro hJ
        obtain ⟨e, a₁, w₁, hq, harr⟩ := pass1 m a w hJ b (.inScope c :: k) cs
        cases e with
        | normal => exact ⟨.normal, a₁, w₁, hq, Steps.trans harr (.one step_inScope)⟩
        | exit id => exact ⟨.exit id, a₁, w₁, hq, fun k' hk => harr k' (by simp [exitTo, hk])⟩
        | goto l' =>
          rcases hq with ⟨rfl, m', hlt, hJ'⟩ | ⟨rfl, m', hlt, hJ'⟩
          · obtain ⟨e₂, a₂, w₂, hq₂, harr₂⟩ := (ih m' hlt a₁ w₁).1 hJ'
            exact ⟨e₂, a₂, w₂, hq₂, .of_steps (harr _ hg0) harr₂⟩
          · obtain ⟨e₂, a₂, w₂, hq₂, harr₂⟩ := (ih m' hlt a₁ w₁).2 hJ'
            exact ⟨e₂, a₂, w₂, hq₂, .of_steps (harr _ hg1) harr₂⟩
        | ret => exact ⟨_, a₁, w₁, hq, harr⟩
        | panic ch => exact ⟨_, a₁, w₁, hq, harr⟩
        | outgrown => exact ⟨_, a₁, w₁, hq, harr⟩
  obtain ⟨e, a₁, w₁, hq, harr⟩ := first b (.inScope c :: k) cs
  cases e with
  | normal => exact ⟨.normal, a₁, w₁, hq, .head step_scope (Steps.trans harr (.one step_inScope))⟩
  | exit id => exact ⟨.exit id, a₁, w₁, hq, fun k' hk => .head step_scope (harr k' (by simp [exitTo, hk]))⟩
  | goto l' =>
    rcases hq with ⟨rfl, m, hJ'⟩ | ⟨rfl, m, hJ'⟩
    · obtain ⟨e₂, a₂, w₂, hq₂, harr₂⟩ := (key m a₁ w₁).1 hJ'
      exact ⟨e₂, a₂, w₂, hq₂, .of_steps (.head step_scope (harr _ hg0)) harr₂⟩
    · obtain ⟨e₂, a₂, w₂, hq₂, harr₂⟩ := (key m a₁ w₁).2 hJ'
      exact ⟨e₂, a₂, w₂, hq₂, .of_steps (.head step_scope (harr _ hg1)) harr₂⟩
  | ret => exact ⟨_, a₁, w₁, hq, .of_steps (.one step_scope) harr⟩
  | panic ch => exact ⟨_, a₁, w₁, hq, .of_steps (.one step_scope) harr⟩
  | outgrown => exact ⟨_, a₁, w₁, hq, .of_steps (.one step_scope) harr⟩
end
end Go.Proofs.YtifofhjfepkglaaDoor
