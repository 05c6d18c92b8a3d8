/- Contracts of what a use of a macro without parameters does. -/
import Derived.Test.YtojneaffoekpnaaRow
import Derived.Test.YtojneaffoekpnaaKept
namespace Go.Proofs.Ytojneaffoekpnaa
open Go.ChangeShapes Go.WideShapes Go.ChangeAt Go.RowKit
set_option linter.unusedVariables false
set_option linter.unusedSimpArgs false

theorem args_any (u l : Value) (o : Option Addr) (k c : Nat) (w : World) : Calls Try.prog 32 #[u, plainV o k c, l] w fun e w' => e = .returned (.tuple #[.slice none 0 0, .int .i64 1]) ∧ Below w.heap.size w w' := by
  unfold plainV
  go_enter Try.func32, Try.ntmps32
  go_wp2_with fail
  go_ret2
  exact ⟨rfl, (Below.refl _ _).alloc (Nat.le_refl _) _⟩

theorem count_any (b : Nat) (n dp p : Int) (w : World) (h : w.cell? ⟨b, 2, none⟩ = some (.int .i64 n)) (hf : w.frozen? ⟨b, 2, none⟩ = false) (hn : 0 ≤ n) (hn2 : n < 4000) (hd : dp < 16) :
    Calls Try.prog 33 #[.pointer (some ⟨b, 0, none⟩), .int .i64 dp, .int .i64 p] w fun e w' => e = .returned (.tuple #[]) ∧ w' = w.setCell ⟨b, 2, none⟩ (.int .i64 (n + 1)) := by
  have h1 : (n == 4000) = false := by simp; omega
  have h2 : (dp == 16) = false := by simp; omega
  go_enter Try.func33, Try.ntmps33
  go_wp2_with fail
  first | go_end0 | skip
  exact ⟨rfl, rfl⟩

theorem none_any (o : Option Addr) (k c : Nat) (t : TK) (w : World) : Calls Try.prog 46 #[plainV o k c, tkV t] w fun e w' => e = .returned (.int .i64 (-1)) ∧ Below w.heap.size w w' := by
  unfold plainV tkV
  go_enter Try.func46, Try.ntmps46
  cases hk : (t.kind == 1) with
  | false =>
    go_wp2_with fail
    go_ret
    exact ⟨rfl, ((Below.refl _ _).alloc (Nat.le_refl _) _).alloc (by simp) _⟩
  | true =>
    go_wp2_with fail
    refine wp_loop_rounds 1 ?_
    rw [rounds_succ]
    go_wp2_with fail
    go_ret
    exact ⟨rfl, ((Below.refl _ _).alloc (Nat.le_refl _) _).alloc (by simp) _⟩
end Go.Proofs.Ytojneaffoekpnaa
