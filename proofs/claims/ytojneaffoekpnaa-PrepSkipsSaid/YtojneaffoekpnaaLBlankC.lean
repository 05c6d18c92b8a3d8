/- The contract of the document's Blank at comments. -/
import Derived.Test.YtojneaffoekpnaaLBlankW
namespace Go.Proofs.Ytojneaffoekpnaa.lx
set_option linter.unusedVariables false
set_option linter.unusedSimpArgs false
open Go.ChangeShapes Go.WideShapes Go.ChangeAt Go.RowKit

theorem byt_drop (u : ByteArray) (k i : Nat) (h : i < (u.data.toList.drop k).length) : (u.data.toList.drop k)[i].toNat = byt u (k + i) := by
  have h2 : k + i < u.data.toList.length := by simp at h ⊢; omega
  rw [List.getElem_drop]
  exact byt_get u (k + i) h2

set_option maxRecDepth 100000 in
set_option maxHeartbeats 1000000 in
theorem blank_line (u : ByteArray) (k : Nat) (w : World) (hs : u.size ≤ 65535) (hk : k < u.size) (hc : byt u k = 47) (h1k : k + 1 < u.size) (hc1 : byt u (k + 1) = 47) (R : Nat) (hR : Hid (run (fun c => c != 10) (u.data.toList.drop k) = R)) :
    Calls Try.prog 26 #[.string u, .int .i64 k] w fun e w' => e = .returned (.tuple #[.int .i64 R, .int .i64 0, .bool true]) ∧ w' = w := by
  have e0 := byt_at u k hk
  have h1 : Hid (two u k (92 : UInt8).toNat (10 : UInt8).toNat = false) := Lib.hid (by unfold two; rw [hc]; simp)
  have h2 : Hid (two u k (47 : UInt8).toNat (42 : UInt8).toNat = false) := Lib.hid (by unfold two; rw [hc, hc1]; simp)
  have h3 : Hid (two u k (47 : UInt8).toNat (47 : UInt8).toNat = true) := Lib.hid (by unfold two; rw [hc, hc1]; simp [h1k])
  rw [hc] at e0
  clear hc hc1
  have hki : (k : Int) < u.size := by omega
  have hkl : k ≤ u.size := by omega
  go_enter Try.func26, Try.ntmps26
  go_wp2_with fail
  refine (begins_as u k 92 10 _ h1 _ hs hkl).mono ?_
  rintro e w ⟨rfl, rfl⟩
  go_wp2_with fail
  refine (begins_as u k 47 42 _ h2 _ hs hkl).mono ?_
  rintro e w ⟨rfl, rfl⟩
  go_wp2_with fail
  refine (begins_as u k 47 47 _ h3 _ hs hkl).mono ?_
  rintro e w ⟨rfl, rfl⟩
  go_wp2_with fail
  go_loop [13] (fun n => ∃ j : Nat, n = .int .i64 j ∧ k + j ≤ u.size ∧ Hid (∀ i, i < j → byt u (k + i) ≠ 10)) (fun n => u.size - k - (intOf n).toNat)
  case atStart => exact ⟨0, rfl, by omega, Lib.hid fun i hi => by omega⟩
  case round =>
    obtain ⟨j, rfl, hj, HA⟩ := hrel
    have hend : Hid ((∀ h : k + j < u.size, byt u (k + j) = 10) → R = j) := Lib.hid fun h => by
      rw [← hR.out]
      refine run_eq _ _ j (by simp; omega) (fun i hi hij => ?_) (fun hj' => ?_)
      · rw [byt_drop u k i hi]; simpa using HA.out i hij
      · rw [byt_drop u k j hj']; simpa using h (by simp at hj'; omega)
    by_cases hlt : k + j < u.size
    · obtain ⟨c, hc⟩ : ∃ c, byt u (k + j) = c := ⟨_, rfl⟩
      have hcu := byt_at u (k + j) hlt
      rw [hc] at hcu
      have HC := Lib.hid hc
      clear hc
      have hi2 : (k : Int) + j < u.size := by omega
      by_cases h10 : c = 10
      · have HN := Lib.hid (hend.out fun _ => by rw [HC.out, h10])
        have m10 : ((c : Int) != 10) = false := by rw [h10]; rfl
        clear h10 hend
        go_wp2
        go_ret3
        exact ⟨by rw [HN.out]; rfl, rfl⟩
      · have hnx : Hid (∀ i, i < j + 1 → byt u (k + i) ≠ 10) := Lib.hid fun i hi => by
          by_cases hij : i < j
          · exact HA.out i hij
          · rw [show i = j by omega, HC.out]; exact h10
        have m10 : ((c : Int) != 10) = true := by rw [bne_iff_ne]; omega
        clear h10 hend
        go_wp2
        go_round
        case rel => exact ⟨j + 1, by go_num, by omega, hnx⟩
        case measure => simp [intOf]; omega
    · have HN := Lib.hid (hend.out fun h => absurd h hlt)
      have hi2 : ¬ (k : Int) + j < u.size := by omega
      clear hend
      go_wp2
      go_ret3
      exact ⟨by rw [HN.out]; rfl, rfl⟩
end Go.Proofs.Ytojneaffoekpnaa.lx
