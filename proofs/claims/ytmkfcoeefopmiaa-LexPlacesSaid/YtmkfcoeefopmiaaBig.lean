/- Both lexers on a source that is too long. -/
import Derived.Test.YtmkfcoeefopmiaaTokA
namespace Go.Proofs.Ytmkfcoeefopmiaa
open Go.ChangeShapes Go.WideShapes Go.ChangeAt Go.RowKit

theorem bigR (u : ByteArray) (w : World) (h : 65535 < u.size) : Calls Try.prog 6 #[.string u] w fun e w' => e = .returned (.tuple #[.slice none 0 0, .int .i64 1, .int .i64 65535]) ∧ w' = w := by
  have hi : 65535 < (u.size : Int) := by omega
  go_enter Try.func6, Try.ntmps6
  go_wp2
  go_ret3
  exact ⟨rfl, rfl⟩
set_option maxRecDepth 100000 in
theorem bigD (u : ByteArray) (w : World) (h : 65535 < u.size) : Calls Try.prog 5 #[.string u] w fun e w' => e = .returned (.tuple #[.slice none 0 0, .int .i64 1, .int .i64 65535]) ∧ w' = w := by
  have hi : 65535 < (u.size : Int) := by omega
  go_enter Try.func5, Try.ntmps5
  go_wp2
  refine wp_scope_goes 1 ?_
  go_wp2
  refine goes_ret ?_
  go_ret3
  exact ⟨rfl, rfl⟩
end Go.Proofs.Ytmkfcoeefopmiaa
