/- Contracts of the document's answer to Two, of value.One and of the document's answer to One. -/
import Derived.Test.YtfcdbgaopjghlaaRef
namespace Go.Proofs.Ytfcdbgaopjghlaa
open Go.ChangeShapes Go.WideShapes Go.ChangeAt Go.RowKit

theorem rint_w (v : Int) (w0 w : World) (hb : Below w0.heap.size w0 w) :
    Calls Try.prog 16 #[.int .i64 v] w fun e w' => e = .returned (.int .i64 (wrap32 v)) ∧ Below w0.heap.size w0 w' := rint_as v _ (Lib.hid rfl) w0 w hb

set_option maxHeartbeats 1000000 in
theorem rtwo_6_any (a b : Int) (w : World) : Two 13 6 a b w := by
  have h := two_6 a b
  have r1 := wrap32_range a
  have r2 := wrap32_range b
  obtain ⟨A, hA⟩ : ∃ A, wrap32 a = A := ⟨_, rfl⟩
  obtain ⟨B, hB⟩ : ∃ A, wrap32 b = A := ⟨_, rfl⟩
  have HA := Lib.hid hA
  have HB := Lib.hid hB
  rw [hA, hB] at h
  rw [hA] at r1
  rw [hB] at r2
  have r := mul_range A B r1 r2
  clear hA hB
  unfold Two
  have HF := Lib.hid (pair h)
  have hb0 := Below.refl w.heap.size w
  clear h
  go_enter Try.func13, Try.ntmps13
  go_wp2_with (first | (go_at_call 16; refine (rint_as _ _ (by assumption) _ _ (by assumption)).mono ?_; rintro e w' ⟨rfl, hb1⟩) | (go_at_call 16; refine (rint_w _ _ _ (by assumption)).mono ?_; rintro e w' ⟨rfl, hb1⟩))
  go_ret2
  exact ⟨HF.out, by assumption⟩

set_option maxHeartbeats 1000000 in
theorem rtwo_7_any (a b : Int) (w : World) (h0 : ¬ wrap32 b = 0) : Two 13 7 a b w := by
  have h := two_7 a b h0
  have r1 := wrap32_range a
  have r2 := wrap32_range b
  obtain ⟨A, hA⟩ : ∃ A, wrap32 a = A := ⟨_, rfl⟩
  obtain ⟨B, hB⟩ : ∃ A, wrap32 b = A := ⟨_, rfl⟩
  have HA := Lib.hid hA
  have HB := Lib.hid hB
  rw [hA, hB] at h
  rw [hA] at r1
  rw [hB] at r2
  have hB0 : ¬ B = 0 := by rw [← hB]; exact h0
  have hbq : (B == 0) = false := by rw [beq_eq_false_iff_ne]; exact hB0
  have q := tdiv_range A B r1
  have hq := w64 (A.tdiv B) (by omega)
  have q2 := tmod_range A B r2 hB0
  have hq2 := w64 (A.tmod B) (by omega)
  clear h0
  clear hA hB
  unfold Two
  have HF := Lib.hid (pair h)
  have hb0 := Below.refl w.heap.size w
  clear h
  go_enter Try.func13, Try.ntmps13
  go_wp2_with (first | (go_at_call 16; refine (rint_as _ _ (by assumption) _ _ (by assumption)).mono ?_; rintro e w' ⟨rfl, hb1⟩) | (go_at_call 16; refine (rint_w _ _ _ (by assumption)).mono ?_; rintro e w' ⟨rfl, hb1⟩))
  go_ret2
  exact ⟨HF.out, by assumption⟩

set_option maxHeartbeats 1000000 in
theorem rtwo_8_any (a b : Int) (w : World) (h0 : ¬ wrap32 b = 0) : Two 13 8 a b w := by
  have h := two_8 a b h0
  have r1 := wrap32_range a
  have r2 := wrap32_range b
  obtain ⟨A, hA⟩ : ∃ A, wrap32 a = A := ⟨_, rfl⟩
  obtain ⟨B, hB⟩ : ∃ A, wrap32 b = A := ⟨_, rfl⟩
  have HA := Lib.hid hA
  have HB := Lib.hid hB
  rw [hA, hB] at h
  rw [hA] at r1
  rw [hB] at r2
  have hB0 : ¬ B = 0 := by rw [← hB]; exact h0
  have hbq : (B == 0) = false := by rw [beq_eq_false_iff_ne]; exact hB0
  have q := tdiv_range A B r1
  have hq := w64 (A.tdiv B) (by omega)
  have q2 := tmod_range A B r2 hB0
  have hq2 := w64 (A.tmod B) (by omega)
  clear h0
  clear hA hB
  unfold Two
  have HF := Lib.hid (pair h)
  have hb0 := Below.refl w.heap.size w
  clear h
  go_enter Try.func13, Try.ntmps13
  go_wp2_with (first | (go_at_call 16; refine (rint_as _ _ (by assumption) _ _ (by assumption)).mono ?_; rintro e w' ⟨rfl, hb1⟩) | (go_at_call 16; refine (rint_w _ _ _ (by assumption)).mono ?_; rintro e w' ⟨rfl, hb1⟩))
  go_ret2
  exact ⟨HF.out, by assumption⟩

set_option maxHeartbeats 1000000 in
theorem rtwo_9_any (a b : Int) (w : World) : Two 13 9 a b w := by
  have h := two_9 a b
  have r1 := wrap32_range a
  have r2 := wrap32_range b
  obtain ⟨A, hA⟩ : ∃ A, wrap32 a = A := ⟨_, rfl⟩
  obtain ⟨B, hB⟩ : ∃ A, wrap32 b = A := ⟨_, rfl⟩
  have HA := Lib.hid hA
  have HB := Lib.hid hB
  rw [hA, hB] at h
  rw [hA] at r1
  rw [hB] at r2
  clear hA hB
  unfold Two
  have HF := Lib.hid (pair h)
  have hb0 := Below.refl w.heap.size w
  clear h
  go_enter Try.func13, Try.ntmps13
  go_wp2_with (first | (go_at_call 16; refine (rint_as _ _ (by assumption) _ _ (by assumption)).mono ?_; rintro e w' ⟨rfl, hb1⟩) | (go_at_call 16; refine (rint_w _ _ _ (by assumption)).mono ?_; rintro e w' ⟨rfl, hb1⟩))
  go_ret2
  exact ⟨HF.out, by assumption⟩

set_option maxHeartbeats 1000000 in
theorem rtwo_10_any (a b : Int) (w : World) : Two 13 10 a b w := by
  have h := two_10 a b
  have r1 := wrap32_range a
  have r2 := wrap32_range b
  obtain ⟨A, hA⟩ : ∃ A, wrap32 a = A := ⟨_, rfl⟩
  obtain ⟨B, hB⟩ : ∃ A, wrap32 b = A := ⟨_, rfl⟩
  have HA := Lib.hid hA
  have HB := Lib.hid hB
  rw [hA, hB] at h
  rw [hA] at r1
  rw [hB] at r2
  clear hA hB
  unfold Two
  have HF := Lib.hid (pair h)
  have hb0 := Below.refl w.heap.size w
  clear h
  go_enter Try.func13, Try.ntmps13
  go_wp2_with (first | (go_at_call 16; refine (rint_as _ _ (by assumption) _ _ (by assumption)).mono ?_; rintro e w' ⟨rfl, hb1⟩) | (go_at_call 16; refine (rint_w _ _ _ (by assumption)).mono ?_; rintro e w' ⟨rfl, hb1⟩))
  go_ret2
  exact ⟨HF.out, by assumption⟩

set_option maxHeartbeats 1000000 in
theorem rtwo_11_any (a b : Int) (w : World) : Two 13 11 a b w := by
  have h := two_11 a b
  have r1 := wrap32_range a
  have r2 := wrap32_range b
  obtain ⟨A, hA⟩ : ∃ A, wrap32 a = A := ⟨_, rfl⟩
  obtain ⟨B, hB⟩ : ∃ A, wrap32 b = A := ⟨_, rfl⟩
  have HA := Lib.hid hA
  have HB := Lib.hid hB
  rw [hA, hB] at h
  rw [hA] at r1
  rw [hB] at r2
  clear hA hB
  unfold Two
  have HF := Lib.hid (pair h)
  have hb0 := Below.refl w.heap.size w
  clear h
  go_enter Try.func13, Try.ntmps13
  go_wp2_with (first | (go_at_call 16; refine (rint_as _ _ (by assumption) _ _ (by assumption)).mono ?_; rintro e w' ⟨rfl, hb1⟩) | (go_at_call 16; refine (rint_w _ _ _ (by assumption)).mono ?_; rintro e w' ⟨rfl, hb1⟩) | (go_at_call 22; refine (shift_as _ _ _ _ (by omega) (by omega) (by assumption)).mono ?_; rintro e w' ⟨rfl, hb1⟩))
  go_ret2
  exact ⟨HF.out, by assumption⟩

set_option maxHeartbeats 1000000 in
theorem rtwo_12_any (a b : Int) (w : World) : Two 13 12 a b w := by
  have h := two_12 a b
  have r1 := wrap32_range a
  have r2 := wrap32_range b
  obtain ⟨A, hA⟩ : ∃ A, wrap32 a = A := ⟨_, rfl⟩
  obtain ⟨B, hB⟩ : ∃ A, wrap32 b = A := ⟨_, rfl⟩
  have HA := Lib.hid hA
  have HB := Lib.hid hB
  rw [hA, hB] at h
  rw [hA] at r1
  rw [hB] at r2
  clear hA hB
  unfold Two
  have HF := Lib.hid (pair h)
  have hb0 := Below.refl w.heap.size w
  clear h
  go_enter Try.func13, Try.ntmps13
  go_wp2_with (first | (go_at_call 16; refine (rint_as _ _ (by assumption) _ _ (by assumption)).mono ?_; rintro e w' ⟨rfl, hb1⟩) | (go_at_call 16; refine (rint_w _ _ _ (by assumption)).mono ?_; rintro e w' ⟨rfl, hb1⟩) | (go_at_call 22; refine (shift_as _ _ _ _ (by omega) (by omega) (by assumption)).mono ?_; rintro e w' ⟨rfl, hb1⟩))
  go_ret2
  exact ⟨HF.out, by assumption⟩

set_option maxHeartbeats 1000000 in
theorem rtwo_19_any (a b : Int) (w : World) : Two 13 19 a b w := by
  have h := two_19 a b
  have r1 := wrap32_range a
  have r2 := wrap32_range b
  obtain ⟨A, hA⟩ : ∃ A, wrap32 a = A := ⟨_, rfl⟩
  obtain ⟨B, hB⟩ : ∃ A, wrap32 b = A := ⟨_, rfl⟩
  have HA := Lib.hid hA
  have HB := Lib.hid hB
  rw [hA, hB] at h
  rw [hA] at r1
  rw [hB] at r2
  clear hA hB
  unfold Two
  have HF := Lib.hid (pair h)
  have hb0 := Below.refl w.heap.size w
  clear h
  go_enter Try.func13, Try.ntmps13
  go_wp2_with (first | (go_at_call 16; refine (rint_as _ _ (by assumption) _ _ (by assumption)).mono ?_; rintro e w' ⟨rfl, hb1⟩) | (go_at_call 16; refine (rint_w _ _ _ (by assumption)).mono ?_; rintro e w' ⟨rfl, hb1⟩))
  go_ret2
  exact ⟨HF.out, by assumption⟩

set_option maxHeartbeats 1000000 in
theorem rtwo_20_any (a b : Int) (w : World) : Two 13 20 a b w := by
  have h := two_20 a b
  have r1 := wrap32_range a
  have r2 := wrap32_range b
  obtain ⟨A, hA⟩ : ∃ A, wrap32 a = A := ⟨_, rfl⟩
  obtain ⟨B, hB⟩ : ∃ A, wrap32 b = A := ⟨_, rfl⟩
  have HA := Lib.hid hA
  have HB := Lib.hid hB
  rw [hA, hB] at h
  rw [hA] at r1
  rw [hB] at r2
  clear hA hB
  unfold Two
  have HF := Lib.hid (pair h)
  have hb0 := Below.refl w.heap.size w
  clear h
  go_enter Try.func13, Try.ntmps13
  go_wp2_with (first | (go_at_call 16; refine (rint_as _ _ (by assumption) _ _ (by assumption)).mono ?_; rintro e w' ⟨rfl, hb1⟩) | (go_at_call 16; refine (rint_w _ _ _ (by assumption)).mono ?_; rintro e w' ⟨rfl, hb1⟩))
  go_ret2
  exact ⟨HF.out, by assumption⟩

set_option maxHeartbeats 1000000 in
theorem rtwo_21_any (a b : Int) (w : World) : Two 13 21 a b w := by
  have h := two_21 a b
  have r1 := wrap32_range a
  have r2 := wrap32_range b
  obtain ⟨A, hA⟩ : ∃ A, wrap32 a = A := ⟨_, rfl⟩
  obtain ⟨B, hB⟩ : ∃ A, wrap32 b = A := ⟨_, rfl⟩
  have HA := Lib.hid hA
  have HB := Lib.hid hB
  rw [hA, hB] at h
  rw [hA] at r1
  rw [hB] at r2
  clear hA hB
  unfold Two
  have HF := Lib.hid (pair h)
  have hb0 := Below.refl w.heap.size w
  clear h
  go_enter Try.func13, Try.ntmps13
  go_wp2_with (first | (go_at_call 16; refine (rint_as _ _ (by assumption) _ _ (by assumption)).mono ?_; rintro e w' ⟨rfl, hb1⟩) | (go_at_call 16; refine (rint_w _ _ _ (by assumption)).mono ?_; rintro e w' ⟨rfl, hb1⟩))
  go_ret2
  exact ⟨HF.out, by assumption⟩

set_option maxHeartbeats 1000000 in
theorem rtwo_7z_any (a b : Int) (w : World) (h0 : wrap32 b = 0) : Two 13 7 a b w := by
  have h := two_7z a b h0
  obtain ⟨A, hA⟩ : ∃ A, wrap32 a = A := ⟨_, rfl⟩
  have HA := Lib.hid hA
  have HB := Lib.hid h0
  clear hA h0
  unfold Two
  have HF := Lib.hid (pair h)
  have hb0 := Below.refl w.heap.size w
  clear h
  go_enter Try.func13, Try.ntmps13
  go_wp2_with (first | (go_at_call 16; refine (rint_as _ _ (by assumption) _ _ (by assumption)).mono ?_; rintro e w' ⟨rfl, hb1⟩) | (go_at_call 16; refine (rint_w _ _ _ (by assumption)).mono ?_; rintro e w' ⟨rfl, hb1⟩))
  go_ret2
  exact ⟨HF.out, by assumption⟩

set_option maxHeartbeats 1000000 in
theorem rtwo_8z_any (a b : Int) (w : World) (h0 : wrap32 b = 0) : Two 13 8 a b w := by
  have h := two_8z a b h0
  obtain ⟨A, hA⟩ : ∃ A, wrap32 a = A := ⟨_, rfl⟩
  have HA := Lib.hid hA
  have HB := Lib.hid h0
  clear hA h0
  unfold Two
  have HF := Lib.hid (pair h)
  have hb0 := Below.refl w.heap.size w
  clear h
  go_enter Try.func13, Try.ntmps13
  go_wp2_with (first | (go_at_call 16; refine (rint_as _ _ (by assumption) _ _ (by assumption)).mono ?_; rintro e w' ⟨rfl, hb1⟩) | (go_at_call 16; refine (rint_w _ _ _ (by assumption)).mono ?_; rintro e w' ⟨rfl, hb1⟩))
  go_ret2
  exact ⟨HF.out, by assumption⟩

set_option maxHeartbeats 1000000 in
theorem rtwo_13_any (a b : Int) (w : World) : Two 13 13 a b w := by
  have h := two_13 a b
  have r1 := wrap32_range a
  have r2 := wrap32_range b
  obtain ⟨A, hA⟩ : ∃ A, wrap32 a = A := ⟨_, rfl⟩
  obtain ⟨B, hB⟩ : ∃ A, wrap32 b = A := ⟨_, rfl⟩
  have HA := Lib.hid hA
  have HB := Lib.hid hB
  rw [hA, hB] at h
  rw [hA] at r1
  rw [hB] at r2
  clear hA hB r1 r2
  unfold Two
  have HF := Lib.hid (pair h)
  clear h
  have hb0 := Below.refl w.heap.size w
  by_cases hc : A < B
  all_goals
    first
      | (have hd : (decide (A < B)) = true := by simp [hc])
      | (have hd : (decide (A < B)) = false := by simp [Decidable.not_not.1 hc])
      | (have hd : (decide (A < B)) = false := by simp [hc])
    rw [hd] at HF
    clear hc
    go_enter Try.func13, Try.ntmps13
    go_wp2_with (first | (go_at_call 16; refine (rint_as _ _ (by assumption) _ _ (by assumption)).mono ?_; rintro e w' ⟨rfl, hb1⟩) | (go_at_call 16; refine (rint_w _ _ _ (by assumption)).mono ?_; rintro e w' ⟨rfl, hb1⟩) | go_in)
    go_ret2
    exact ⟨HF.out, by assumption⟩

set_option maxHeartbeats 1000000 in
theorem rtwo_14_any (a b : Int) (w : World) : Two 13 14 a b w := by
  have h := two_14 a b
  have r1 := wrap32_range a
  have r2 := wrap32_range b
  obtain ⟨A, hA⟩ : ∃ A, wrap32 a = A := ⟨_, rfl⟩
  obtain ⟨B, hB⟩ : ∃ A, wrap32 b = A := ⟨_, rfl⟩
  have HA := Lib.hid hA
  have HB := Lib.hid hB
  rw [hA, hB] at h
  rw [hA] at r1
  rw [hB] at r2
  clear hA hB r1 r2
  unfold Two
  have HF := Lib.hid (pair h)
  clear h
  have hb0 := Below.refl w.heap.size w
  by_cases hc : A ≤ B
  all_goals
    first
      | (have hd : (decide (A ≤ B)) = true := by simp [hc])
      | (have hd : (decide (A ≤ B)) = false := by simp [Decidable.not_not.1 hc])
      | (have hd : (decide (A ≤ B)) = false := by simp [hc])
    rw [hd] at HF
    clear hc
    go_enter Try.func13, Try.ntmps13
    go_wp2_with (first | (go_at_call 16; refine (rint_as _ _ (by assumption) _ _ (by assumption)).mono ?_; rintro e w' ⟨rfl, hb1⟩) | (go_at_call 16; refine (rint_w _ _ _ (by assumption)).mono ?_; rintro e w' ⟨rfl, hb1⟩) | go_in)
    go_ret2
    exact ⟨HF.out, by assumption⟩

set_option maxHeartbeats 1000000 in
theorem rtwo_15_any (a b : Int) (w : World) : Two 13 15 a b w := by
  have h := two_15 a b
  have r1 := wrap32_range a
  have r2 := wrap32_range b
  obtain ⟨A, hA⟩ : ∃ A, wrap32 a = A := ⟨_, rfl⟩
  obtain ⟨B, hB⟩ : ∃ A, wrap32 b = A := ⟨_, rfl⟩
  have HA := Lib.hid hA
  have HB := Lib.hid hB
  rw [hA, hB] at h
  rw [hA] at r1
  rw [hB] at r2
  clear hA hB r1 r2
  unfold Two
  have HF := Lib.hid (pair h)
  clear h
  have hb0 := Below.refl w.heap.size w
  by_cases hc : B < A
  all_goals
    first
      | (have hd : (decide (B < A)) = true := by simp [hc])
      | (have hd : (decide (B < A)) = false := by simp [Decidable.not_not.1 hc])
      | (have hd : (decide (B < A)) = false := by simp [hc])
    rw [hd] at HF
    clear hc
    go_enter Try.func13, Try.ntmps13
    go_wp2_with (first | (go_at_call 16; refine (rint_as _ _ (by assumption) _ _ (by assumption)).mono ?_; rintro e w' ⟨rfl, hb1⟩) | (go_at_call 16; refine (rint_w _ _ _ (by assumption)).mono ?_; rintro e w' ⟨rfl, hb1⟩) | go_in)
    go_ret2
    exact ⟨HF.out, by assumption⟩

set_option maxHeartbeats 1000000 in
theorem rtwo_16_any (a b : Int) (w : World) : Two 13 16 a b w := by
  have h := two_16 a b
  have r1 := wrap32_range a
  have r2 := wrap32_range b
  obtain ⟨A, hA⟩ : ∃ A, wrap32 a = A := ⟨_, rfl⟩
  obtain ⟨B, hB⟩ : ∃ A, wrap32 b = A := ⟨_, rfl⟩
  have HA := Lib.hid hA
  have HB := Lib.hid hB
  rw [hA, hB] at h
  rw [hA] at r1
  rw [hB] at r2
  clear hA hB r1 r2
  unfold Two
  have HF := Lib.hid (pair h)
  clear h
  have hb0 := Below.refl w.heap.size w
  by_cases hc : B ≤ A
  all_goals
    first
      | (have hd : (decide (B ≤ A)) = true := by simp [hc])
      | (have hd : (decide (B ≤ A)) = false := by simp [Decidable.not_not.1 hc])
      | (have hd : (decide (B ≤ A)) = false := by simp [hc])
    rw [hd] at HF
    clear hc
    go_enter Try.func13, Try.ntmps13
    go_wp2_with (first | (go_at_call 16; refine (rint_as _ _ (by assumption) _ _ (by assumption)).mono ?_; rintro e w' ⟨rfl, hb1⟩) | (go_at_call 16; refine (rint_w _ _ _ (by assumption)).mono ?_; rintro e w' ⟨rfl, hb1⟩) | go_in)
    go_ret2
    exact ⟨HF.out, by assumption⟩

set_option maxHeartbeats 1000000 in
theorem rtwo_17_any (a b : Int) (w : World) : Two 13 17 a b w := by
  have h := two_17 a b
  have r1 := wrap32_range a
  have r2 := wrap32_range b
  obtain ⟨A, hA⟩ : ∃ A, wrap32 a = A := ⟨_, rfl⟩
  obtain ⟨B, hB⟩ : ∃ A, wrap32 b = A := ⟨_, rfl⟩
  have HA := Lib.hid hA
  have HB := Lib.hid hB
  rw [hA, hB] at h
  rw [hA] at r1
  rw [hB] at r2
  clear hA hB r1 r2
  unfold Two
  have HF := Lib.hid (pair h)
  clear h
  have hb0 := Below.refl w.heap.size w
  by_cases hc : A = B
  all_goals
    first
      | (have hd : (A == B) = true := by simp [hc])
      | (have hd : (A == B) = false := by simp [Decidable.not_not.1 hc])
      | (have hd : (A == B) = false := by simp [hc])
    rw [hd] at HF
    clear hc
    go_enter Try.func13, Try.ntmps13
    go_wp2_with (first | (go_at_call 16; refine (rint_as _ _ (by assumption) _ _ (by assumption)).mono ?_; rintro e w' ⟨rfl, hb1⟩) | (go_at_call 16; refine (rint_w _ _ _ (by assumption)).mono ?_; rintro e w' ⟨rfl, hb1⟩) | go_in)
    go_ret2
    exact ⟨HF.out, by assumption⟩

set_option maxHeartbeats 1000000 in
theorem rtwo_18_any (a b : Int) (w : World) : Two 13 18 a b w := by
  have h := two_18 a b
  have r1 := wrap32_range a
  have r2 := wrap32_range b
  obtain ⟨A, hA⟩ : ∃ A, wrap32 a = A := ⟨_, rfl⟩
  obtain ⟨B, hB⟩ : ∃ A, wrap32 b = A := ⟨_, rfl⟩
  have HA := Lib.hid hA
  have HB := Lib.hid hB
  rw [hA, hB] at h
  rw [hA] at r1
  rw [hB] at r2
  clear hA hB r1 r2
  unfold Two
  have HF := Lib.hid (pair h)
  clear h
  have hb0 := Below.refl w.heap.size w
  by_cases hc : ¬ A = B
  all_goals
    first
      | (have hd : (A != B) = true := by simp [hc])
      | (have hd : (A != B) = false := by simp [Decidable.not_not.1 hc])
      | (have hd : (A != B) = false := by simp [hc])
    rw [hd] at HF
    clear hc
    go_enter Try.func13, Try.ntmps13
    go_wp2_with (first | (go_at_call 16; refine (rint_as _ _ (by assumption) _ _ (by assumption)).mono ?_; rintro e w' ⟨rfl, hb1⟩) | (go_at_call 16; refine (rint_w _ _ _ (by assumption)).mono ?_; rintro e w' ⟨rfl, hb1⟩) | go_in)
    go_ret2
    exact ⟨HF.out, by assumption⟩

set_option maxHeartbeats 1000000 in
theorem rtwo_else_any (op a b : Int) (w : World) (ho : op < 6 ∨ 21 < op) : Two 13 op a b w := by
  have h := two_else op a b ho
  unfold Two
  have HF := Lib.hid (pair h)
  obtain ⟨A, hA⟩ : ∃ A, wrap32 a = A := ⟨_, rfl⟩
  obtain ⟨B, hB⟩ : ∃ A, wrap32 b = A := ⟨_, rfl⟩
  have HA := Lib.hid hA
  have HB := Lib.hid hB
  have hb0 := Below.refl w.heap.size w
  clear h hA hB
  rcases ho with ho | ho
  all_goals
    go_enter Try.func13, Try.ntmps13
    go_wp2_with (first | (go_at_call 16; refine (rint_as _ _ (by assumption) _ _ (by assumption)).mono ?_; rintro e w' ⟨rfl, hb1⟩) | (go_at_call 16; refine (rint_w _ _ _ (by assumption)).mono ?_; rintro e w' ⟨rfl, hb1⟩) | go_in)
    go_ret2
    exact ⟨HF.out, by assumption⟩

theorem rtwo_any (op a b : Int) (w : World) : Two 13 op a b w := by
  by_cases h : op < 6 ∨ 21 < op
  · exact rtwo_else_any op a b w h
  · have h2 : op = 6 ∨ op = 7 ∨ op = 8 ∨ op = 9 ∨ op = 10 ∨ op = 11 ∨ op = 12 ∨ op = 13 ∨ op = 14 ∨ op = 15 ∨ op = 16 ∨ op = 17 ∨ op = 18 ∨ op = 19 ∨ op = 20 ∨ op = 21 := by omega
    rcases h2 with rfl | rfl | rfl | rfl | rfl | rfl | rfl | rfl | rfl | rfl | rfl | rfl | rfl | rfl | rfl | rfl
    · exact rtwo_6_any a b w
    · by_cases h0 : wrap32 b = 0
      · exact rtwo_7z_any a b w h0
      · exact rtwo_7_any a b w h0
    · by_cases h0 : wrap32 b = 0
      · exact rtwo_8z_any a b w h0
      · exact rtwo_8_any a b w h0
    · exact rtwo_9_any a b w
    · exact rtwo_10_any a b w
    · exact rtwo_11_any a b w
    · exact rtwo_12_any a b w
    · exact rtwo_13_any a b w
    · exact rtwo_14_any a b w
    · exact rtwo_15_any a b w
    · exact rtwo_16_any a b w
    · exact rtwo_17_any a b w
    · exact rtwo_18_any a b w
    · exact rtwo_19_any a b w
    · exact rtwo_20_any a b w
    · exact rtwo_21_any a b w

/-! ### One -/
theorem pair1 {op a x y : Int} (h : one op a = (x, y)) : Ending.returned (.tuple #[.int .i64 x, .int .i64 y]) = .returned (.tuple #[.int .i64 (one op a).1, .int .i64 (one op a).2]) := by
  rw [h]

def One (k : Nat) (op a : Int) (w : World) : Prop := Calls Try.prog k #[.int .i64 op, .int .i64 a] w fun e w' => e = .returned (.tuple #[.int .i64 (one op a).1, .int .i64 (one op a).2]) ∧ Below w.heap.size w w'

set_option maxHeartbeats 1000000 in
theorem one_3_any (a : Int) (w : World) : One 14 3 a w := by
  have h := one_3 a
  have r1 := wrap32_range a
  obtain ⟨A, hA⟩ : ∃ A, wrap32 a = A := ⟨_, rfl⟩
  have HA := Lib.hid hA
  rw [hA] at h
  rw [hA] at r1
  clear hA
  unfold One
  have HF := Lib.hid (pair1 h)
  have hb0 := Below.refl w.heap.size w
  clear h
  go_enter Try.func14, Try.ntmps14
  go_wp2
  refine wp_scope_goes 1 ?_
  go_wp2_with (first | (go_at_call 19; refine (asInt_as _ _ (by assumption) _).mono ?_; rintro e w' ⟨rfl, rfl⟩) | go_in)
  go_step3
  simp only [Exit.inBlock, Exit.then]
  refine goes_goto rfl ?_
  go_wp2_with (go_at_call 19; refine (asInt_any _ _).mono ?_; rintro e w' ⟨rfl, rfl⟩)
  refine goes_ret ?_
  go_ret2
  exact ⟨HF.out, Below.refl _ _⟩

set_option maxHeartbeats 1000000 in
theorem rone_3_any (a : Int) (w : World) : One 15 3 a w := by
  have h := one_3 a
  have r1 := wrap32_range a
  obtain ⟨A, hA⟩ : ∃ A, wrap32 a = A := ⟨_, rfl⟩
  have HA := Lib.hid hA
  rw [hA] at h
  rw [hA] at r1
  clear hA
  unfold One
  have HF := Lib.hid (pair1 h)
  have hb0 := Below.refl w.heap.size w
  clear h
  go_enter Try.func15, Try.ntmps15
  go_wp2_with (first | (go_at_call 16; refine (rint_as _ _ (by assumption) _ _ (by assumption)).mono ?_; rintro e w' ⟨rfl, hb1⟩) | (go_at_call 16; refine (rint_w _ _ _ (by assumption)).mono ?_; rintro e w' ⟨rfl, hb1⟩) | go_in)
  go_ret2
  exact ⟨HF.out, by assumption⟩

set_option maxHeartbeats 1000000 in
theorem one_5_any (a : Int) (w : World) : One 14 5 a w := by
  have h := one_5 a
  have r1 := wrap32_range a
  obtain ⟨A, hA⟩ : ∃ A, wrap32 a = A := ⟨_, rfl⟩
  have HA := Lib.hid hA
  rw [hA] at h
  rw [hA] at r1
  clear hA
  unfold One
  have HF := Lib.hid (pair1 h)
  have hb0 := Below.refl w.heap.size w
  clear h
  have hn := Lib.hid ((congrArg wrap32 (flip_is A r1)).trans (wrap32_in (-A - 1) (by omega)))
  go_enter Try.func14, Try.ntmps14
  go_wp2
  refine wp_scope_goes 1 ?_
  go_wp2_with (first | (go_at_call 19; refine (asInt_as _ _ (by assumption) _).mono ?_; rintro e w' ⟨rfl, rfl⟩) | go_in)
  go_step3
  simp only [Exit.inBlock, Exit.then]
  refine goes_goto rfl ?_
  go_wp2_with (go_at_call 19; refine (asInt_as _ _ (by assumption) _).mono ?_; rintro e w' ⟨rfl, rfl⟩)
  refine goes_ret ?_
  go_ret2
  exact ⟨HF.out, Below.refl _ _⟩

set_option maxHeartbeats 1000000 in
theorem rone_5_any (a : Int) (w : World) : One 15 5 a w := by
  have h := one_5 a
  have r1 := wrap32_range a
  obtain ⟨A, hA⟩ : ∃ A, wrap32 a = A := ⟨_, rfl⟩
  have HA := Lib.hid hA
  rw [hA] at h
  rw [hA] at r1
  clear hA
  unfold One
  have HF := Lib.hid (pair1 h)
  have hb0 := Below.refl w.heap.size w
  clear h
  have hn := Lib.hid ((congrArg wrap32 (flip_is A r1)).trans (wrap32_in (-A - 1) (by omega)))
  go_enter Try.func15, Try.ntmps15
  go_wp2_with (first | (go_at_call 16; refine (rint_as _ _ (by assumption) _ _ (by assumption)).mono ?_; rintro e w' ⟨rfl, hb1⟩) | (go_at_call 16; refine (rint_w _ _ _ (by assumption)).mono ?_; rintro e w' ⟨rfl, hb1⟩) | go_in)
  go_ret2
  exact ⟨HF.out, by assumption⟩

set_option maxHeartbeats 1000000 in
theorem one_4_any (a : Int) (w : World) : One 14 4 a w := by
  have h := one_4 a
  have r1 := wrap32_range a
  obtain ⟨A, hA⟩ : ∃ A, wrap32 a = A := ⟨_, rfl⟩
  have HA := Lib.hid hA
  rw [hA] at h
  rw [hA] at r1
  clear hA
  unfold One
  have HF := Lib.hid (pair1 h)
  have hb0 := Below.refl w.heap.size w
  clear h
  by_cases hc : A = 0
  all_goals
    first
      | (have hd : (A == 0) = true := by simp [hc])
      | (have hd : (A == 0) = false := by simp [hc])
    rw [hd] at HF
    clear hc
    have h1 := Lib.hid (wrap32_in 1 (by decide))
    have h2 := Lib.hid (wrap32_in 0 (by decide))
    go_enter Try.func14, Try.ntmps14
    go_wp2
    refine wp_scope_goes 1 ?_
    go_wp2_with (first | (go_at_call 19; refine (asInt_as _ _ (by assumption) _).mono ?_; rintro e w' ⟨rfl, rfl⟩) | go_in)
    go_step3
    simp only [Exit.inBlock, Exit.then]
    refine goes_goto rfl ?_
    go_wp2_with (go_at_call 19; refine (asInt_as _ _ (by assumption) _).mono ?_; rintro e w' ⟨rfl, rfl⟩)
    refine goes_ret ?_
    go_ret2
    exact ⟨HF.out, Below.refl _ _⟩

set_option maxHeartbeats 1000000 in
theorem rone_4_any (a : Int) (w : World) : One 15 4 a w := by
  have h := one_4 a
  have r1 := wrap32_range a
  obtain ⟨A, hA⟩ : ∃ A, wrap32 a = A := ⟨_, rfl⟩
  have HA := Lib.hid hA
  rw [hA] at h
  rw [hA] at r1
  clear hA
  unfold One
  have HF := Lib.hid (pair1 h)
  have hb0 := Below.refl w.heap.size w
  clear h
  by_cases hc : A = 0
  all_goals
    first
      | (have hd : (A == 0) = true := by simp [hc])
      | (have hd : (A == 0) = false := by simp [hc])
    rw [hd] at HF
    clear hc
    have h1 := Lib.hid (wrap32_in 1 (by decide))
    have h2 := Lib.hid (wrap32_in 0 (by decide))
    go_enter Try.func15, Try.ntmps15
    go_wp2_with (first | (go_at_call 16; refine (rint_as _ _ (by assumption) _ _ (by assumption)).mono ?_; rintro e w' ⟨rfl, hb1⟩) | (go_at_call 16; refine (rint_w _ _ _ (by assumption)).mono ?_; rintro e w' ⟨rfl, hb1⟩) | go_in)
    go_ret2
    exact ⟨HF.out, by assumption⟩

set_option maxHeartbeats 1000000 in
theorem one_else_any (op a : Int) (w : World) (ho : op < 3 ∨ 5 < op) : One 14 op a w := by
  have h := one_else op a ho
  unfold One
  have HF := Lib.hid (pair1 h)
  obtain ⟨A, hA⟩ : ∃ A, wrap32 a = A := ⟨_, rfl⟩
  have HA := Lib.hid hA
  clear h hA
  rcases ho with ho | ho
  all_goals
    go_enter Try.func14, Try.ntmps14
    go_wp2
    refine wp_scope_goes 1 ?_
    go_wp2_with (first | (go_at_call 19; refine (asInt_as _ _ (by assumption) _).mono ?_; rintro e w' ⟨rfl, rfl⟩) | go_in)
    refine goes_ret ?_
    go_ret2
    exact ⟨HF.out, Below.refl _ _⟩

set_option maxHeartbeats 1000000 in
theorem rone_else_any (op a : Int) (w : World) (ho : op < 3 ∨ 5 < op) : One 15 op a w := by
  have h := one_else op a ho
  unfold One
  have HF := Lib.hid (pair1 h)
  obtain ⟨A, hA⟩ : ∃ A, wrap32 a = A := ⟨_, rfl⟩
  have HA := Lib.hid hA
  have hb0 := Below.refl w.heap.size w
  clear h hA
  rcases ho with ho | ho
  all_goals
    go_enter Try.func15, Try.ntmps15
    go_wp2_with (first | (go_at_call 16; refine (rint_as _ _ (by assumption) _ _ (by assumption)).mono ?_; rintro e w' ⟨rfl, hb1⟩) | (go_at_call 16; refine (rint_w _ _ _ (by assumption)).mono ?_; rintro e w' ⟨rfl, hb1⟩) | go_in)
    go_ret2
    exact ⟨HF.out, by assumption⟩

theorem one_any (op a : Int) (w : World) : One 14 op a w := by
  by_cases h : op < 3 ∨ 5 < op
  · exact one_else_any op a w h
  · have h2 : op = 3 ∨ op = 4 ∨ op = 5 := by omega
    rcases h2 with rfl | rfl | rfl
    · exact one_3_any a w
    · exact one_4_any a w
    · exact one_5_any a w

theorem rone_any (op a : Int) (w : World) : One 15 op a w := by
  by_cases h : op < 3 ∨ 5 < op
  · exact rone_else_any op a w h
  · have h2 : op = 3 ∨ op = 4 ∨ op = 5 := by omega
    rcases h2 with rfl | rfl | rfl
    · exact rone_3_any a w
    · exact rone_4_any a w
    · exact rone_5_any a w

end Go.Proofs.Ytfcdbgaopjghlaa
