/- The deferred functions, where nothing is wrong: they find nothing. -/
import Derived.Test.YtojneaffoekpnaaDirect
import Derived.Tactics2
import Derived.Defers
import Derived.Recover
import Derived.Laws.Pointers
namespace Go.Proofs.Ytojneaffoekpnaa
open Go.ChangeShapes Go.WideShapes Go.ChangeAt Go.RowKit

/-- No fault. -/
def faultZ : Value := .agg #[.int .i64 0, .int .i64 0]
theorem info32 : (Try.prog.info? 34).map (fun i => (i.zero, i.size, i.bytes)) = some (some faultZ, 2, 16) := by kernel_rfl
theorem none_thrown (w : World) : (Instr.typeAssert .nilIface 20 34 true).run Try.prog w = .ok (.tuple #[faultZ, .bool false]) w := by
  obtain ⟨i0, hi, hz0, hz1, hz2⟩ := info_parts info32
  have hz : (zeroValue 34).run Try.prog w = .ok faultZ w := by simp [zeroValue, typeInfo, hi, hz0, go_sem]
  simp [Instr.typeAssert, run_underlying Try.underlying34, hz, go_sem]

theorem idle10 (p q r : Option Addr) (w : World) :
    CallsD Try.prog 11 #[.pointer p, .pointer q, .pointer r] .returning w fun e u' w' => e = .returned (.tuple #[]) ∧ u' = .returning ∧ Below w.heap.size w w' := by
  have hta : ∀ w : World, (Instr.typeAssert .nilIface 20 34 true).run Try.prog w = .ok (.tuple #[.agg #[.int .i64 0, .int .i64 0], .bool false]) w := none_thrown
  refine callsD_of_wpS Try.func11 rfl fun c₀ cs hu => ?_
  apply wpS_seq
  apply wpS_region
  simp [wpOpsS, go_sem, recoverD, hu, Try.ntmps11, Exit.thenS, hta]
  apply wpS_seq
  apply wpS_region
  simp [wpOpsS, go_sem, recoverD, hu, Try.ntmps11, Exit.thenS]
  refine wpS_cond (t := false) (by simp [Act.eval, Array.replicate]) ?_
  simp only [Bool.false_eq_true, if_false]
  refine wpS_of_wp (wp_skip ?_)
  cases c₀
  simp_all [bodyPostS, results, Try.results11]
  exact (Below.refl _ _).alloc (Nat.le_refl _) _

end Go.Proofs.Ytojneaffoekpnaa
