/- Same of a row with itself, in two places. -/
import Derived.Test.YtojneaffoekpnaaOnce
namespace Go.Proofs.Ytojneaffoekpnaa
open Go.ChangeShapes Go.WideShapes Go.ChangeAt Go.RowKit

set_option maxRecDepth 100000 in
set_option maxHeartbeats 1600000 in
theorem same_any (g1 o1 c1 g2 o2 c2 : Nat) (ts : List TK) (w : World) (h1 : Toks w g1 o1 ts) (h2 : Toks w g2 o2 ts) (hn : ts.length ≤ maxLen) :
    Calls Try.prog 8 #[.slice (some ⟨g1, o1, none⟩) ts.length c1, .slice (some ⟨g2, o2, none⟩) ts.length c2, .bool false] w fun e w' => e = .returned (.bool true) ∧ Below w.heap.size w w' := by
  have H1 := Lib.hid h1
  have H2 := Lib.hid h2
  have hm2 : (ts.length : Int) ≤ 9223372036854775807 := by unfold maxLen at hn; omega
  clear h1 h2 hn
  go_enter Try.func8, Try.ntmps8
  go_wp2_with fail
  go_loopw [7] (fun i wr => ∃ k : Nat, i = .int .i64 k ∧ k ≤ ts.length ∧ Hid (Below w.heap.size w wr)) (fun i _ => ts.length - (intOf i).toNat)
  case atStart => exact ⟨0, rfl, by omega, Lib.hid (Below.refl _ _)⟩
  case round =>
    obtain ⟨k, rfl, hk, HB⟩ := hrel
    by_cases hlt : k < ts.length
    · obtain ⟨c0, c1, c2, c3, c4⟩ := (H1.out.below HB.out).2 k hlt
      obtain ⟨d0, d1, d2, d3, d4⟩ := (H2.out.below HB.out).2 k hlt
      have hlti : (k : Int) < ts.length := by omega
      have hk0 : (0 : Int) ≤ k := by omega
      go_wp2_with fail
      go_quiet (fail)
      go_wp2_with fail
      go_quiet (fail)
      go_wp2_with fail
      go_roundw
      case rel => exact ⟨k + 1, by go_num, by omega, Lib.hid (bdrew HB.out _)⟩
      case measure => simp [intOf]; omega
    · obtain rfl : k = ts.length := by omega
      go_wp2_with fail
      go_ret
      exact ⟨rfl, HB.out⟩
end Go.Proofs.Ytojneaffoekpnaa
