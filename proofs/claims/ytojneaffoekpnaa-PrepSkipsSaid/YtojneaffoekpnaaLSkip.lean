/- The contract of skip: all blanks passed. -/
import Derived.Test.YtojneaffoekpnaaLSkipA
namespace Go.Proofs.Ytojneaffoekpnaa.lx
set_option linter.unusedVariables false
set_option linter.unusedSimpArgs false
open Go.ChangeShapes Go.WideShapes Go.ChangeAt Go.RowKit

def skF (u : ByteArray) (k l : Int) (X : Nat → Value) : Act := { tmps := #[.string u, .int .i64 (k : Int), undef, undef, .int .i64 0, .int .i64 0, .bool false, .int .i64 (l : Int), X 8, X 9, X 10, X 11, X 12, X 13, X 14, X 15, X 16, X 17, X 18, X 19, X 20, X 21, X 22, X 23, X 24, X 25, X 26, X 27, X 28, X 29, X 30, X 31, X 32, X 33, X 34, X 35, X 36, X 37, X 38, X 39, X 40, X 41, X 42, X 43, X 44, X 45, X 46, X 47, X 48, X 49, X 50, X 51, X 52, X 53, X 54, X 55, X 56, X 57, X 58, X 59, X 60, X 61, X 62, X 63, X 64, X 65, X 66, X 67, X 68, X 69, X 70, X 71, X 72, X 73], defers := [] }
theorem skF_of {u : ByteArray} {k l : Int} (t : Array Value) (h : t = (skF u k l (fun i => t.getD i undef)).tmps) : ∃ X, ({ tmps := t, defers := [] } : Act) = skF u k l X :=
  ⟨fun i => t.getD i undef, by rw [show skF u k l (fun i => t.getD i undef) = { tmps := (skF u k l (fun i => t.getD i undef)).tmps, defers := [] } from rfl, ← h]⟩

end Go.Proofs.Ytojneaffoekpnaa.lx
