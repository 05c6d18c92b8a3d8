/- Contracts of value.Two and value.One: they reckon as the document says. -/
import Derived.Test.YtfcdbgaopjghlaaWalks
import Derived.Test.YtfcdbgaopjghlaaMath2
import Derived.Test.YtfcdbgaopjghlaaGoto
namespace Go.Proofs.Ytfcdbgaopjghlaa
open Go.ChangeShapes Go.WideShapes Go.ChangeAt Go.RowKit

theorem pair {op a b x y : Int} (h : two op a b = (x, y)) : Ending.returned (.tuple #[.int .i64 x, .int .i64 y]) = .returned (.tuple #[.int .i64 (two op a b).1, .int .i64 (two op a b).2]) := by
  rw [h]

def Two (k : Nat) (op a b : Int) (w : World) : Prop := Calls Try.prog k #[.int .i64 op, .int .i64 a, .int .i64 b] w fun e w' => e = .returned (.tuple #[.int .i64 (two op a b).1, .int .i64 (two op a b).2]) ∧ Below w.heap.size w w'

theorem asInt_as (a A : Int) (h : Hid (wrap32 a = A)) (w : World) :
    Calls Try.prog 19 #[.int .i64 a] w fun e w' => e = .returned (.int .i64 A) ∧ w = w' := by
  rw [← h.out]; exact asInt_any a w

set_option maxHeartbeats 1000000 in
theorem two_6_any (a b : Int) (w : World) : Two 12 6 a b w := by
  have h := two_6 a b
  have r1 := wrap32_range a
  have r2 := wrap32_range b
  obtain ⟨A, hA⟩ : ∃ A, wrap32 a = A := ⟨_, rfl⟩
  obtain ⟨B, hB⟩ : ∃ A, wrap32 b = A := ⟨_, rfl⟩
  have HA := Lib.hid hA
  have HB := Lib.hid hB
  rw [hA, hB] at h
  rw [hA] at r1
  rw [hB] at r2
  have r := mul_range A B r1 r2
  clear hA hB
  unfold Two
  have HF := Lib.hid (pair h)
  clear h
  go_enter Try.func12, Try.ntmps12
  go_wp2
  refine wp_scope_goes 1 ?_
  go_wp2_with (first | (go_at_call 19; refine (asInt_as _ _ (by assumption) _).mono ?_; rintro e w' ⟨rfl, rfl⟩))
  go_step3
  simp only [Exit.inBlock, Exit.then]
  refine goes_goto rfl ?_
  go_wp2_with (go_at_call 19; refine (asInt_any _ _).mono ?_; rintro e w' ⟨rfl, rfl⟩)
  refine goes_ret ?_
  go_ret2
  exact ⟨HF.out, Below.refl _ _⟩

set_option maxHeartbeats 1000000 in
theorem two_7_any (a b : Int) (w : World) (h0 : ¬ wrap32 b = 0) : Two 12 7 a b w := by
  have h := two_7 a b h0
  have r1 := wrap32_range a
  have r2 := wrap32_range b
  obtain ⟨A, hA⟩ : ∃ A, wrap32 a = A := ⟨_, rfl⟩
  obtain ⟨B, hB⟩ : ∃ A, wrap32 b = A := ⟨_, rfl⟩
  have HA := Lib.hid hA
  have HB := Lib.hid hB
  rw [hA, hB] at h
  rw [hA] at r1
  rw [hB] at r2
  have hB0 : ¬ B = 0 := by rw [← hB]; exact h0
  have hbq : (B == 0) = false := by rw [beq_eq_false_iff_ne]; exact hB0
  have q := tdiv_range A B r1
  have hq := w64 (A.tdiv B) (by omega)
  have q2 := tmod_range A B r2 hB0
  have hq2 := w64 (A.tmod B) (by omega)
  clear h0
  clear hA hB
  unfold Two
  have HF := Lib.hid (pair h)
  clear h
  go_enter Try.func12, Try.ntmps12
  go_wp2
  refine wp_scope_goes 1 ?_
  go_wp2_with (first | (go_at_call 19; refine (asInt_as _ _ (by assumption) _).mono ?_; rintro e w' ⟨rfl, rfl⟩))
  go_step3
  simp only [Exit.inBlock, Exit.then]
  refine goes_goto rfl ?_
  go_wp2_with (go_at_call 19; refine (asInt_any _ _).mono ?_; rintro e w' ⟨rfl, rfl⟩)
  refine goes_ret ?_
  go_ret2
  exact ⟨HF.out, Below.refl _ _⟩

set_option maxHeartbeats 1000000 in
theorem two_8_any (a b : Int) (w : World) (h0 : ¬ wrap32 b = 0) : Two 12 8 a b w := by
  have h := two_8 a b h0
  have r1 := wrap32_range a
  have r2 := wrap32_range b
  obtain ⟨A, hA⟩ : ∃ A, wrap32 a = A := ⟨_, rfl⟩
  obtain ⟨B, hB⟩ : ∃ A, wrap32 b = A := ⟨_, rfl⟩
  have HA := Lib.hid hA
  have HB := Lib.hid hB
  rw [hA, hB] at h
  rw [hA] at r1
  rw [hB] at r2
  have hB0 : ¬ B = 0 := by rw [← hB]; exact h0
  have hbq : (B == 0) = false := by rw [beq_eq_false_iff_ne]; exact hB0
  have q := tdiv_range A B r1
  have hq := w64 (A.tdiv B) (by omega)
  have q2 := tmod_range A B r2 hB0
  have hq2 := w64 (A.tmod B) (by omega)
  clear h0
  have hm := Lib.hid (wrap32_in _ q2)
  clear hA hB
  unfold Two
  have HF := Lib.hid (pair h)
  clear h
  go_enter Try.func12, Try.ntmps12
  go_wp2
  refine wp_scope_goes 1 ?_
  go_wp2_with (first | (go_at_call 19; refine (asInt_as _ _ (by assumption) _).mono ?_; rintro e w' ⟨rfl, rfl⟩))
  go_step3
  simp only [Exit.inBlock, Exit.then]
  refine goes_goto rfl ?_
  go_wp2_with (go_at_call 19; refine (asInt_as _ _ (by assumption) _).mono ?_; rintro e w' ⟨rfl, rfl⟩)
  refine goes_ret ?_
  go_ret2
  exact ⟨HF.out, Below.refl _ _⟩

set_option maxHeartbeats 1000000 in
theorem two_9_any (a b : Int) (w : World) : Two 12 9 a b w := by
  have h := two_9 a b
  have r1 := wrap32_range a
  have r2 := wrap32_range b
  obtain ⟨A, hA⟩ : ∃ A, wrap32 a = A := ⟨_, rfl⟩
  obtain ⟨B, hB⟩ : ∃ A, wrap32 b = A := ⟨_, rfl⟩
  have HA := Lib.hid hA
  have HB := Lib.hid hB
  rw [hA, hB] at h
  rw [hA] at r1
  rw [hB] at r2
  clear hA hB
  unfold Two
  have HF := Lib.hid (pair h)
  clear h
  go_enter Try.func12, Try.ntmps12
  go_wp2
  refine wp_scope_goes 1 ?_
  go_wp2_with (first | (go_at_call 19; refine (asInt_as _ _ (by assumption) _).mono ?_; rintro e w' ⟨rfl, rfl⟩))
  go_step3
  simp only [Exit.inBlock, Exit.then]
  refine goes_goto rfl ?_
  go_wp2_with (go_at_call 19; refine (asInt_any _ _).mono ?_; rintro e w' ⟨rfl, rfl⟩)
  refine goes_ret ?_
  go_ret2
  exact ⟨HF.out, Below.refl _ _⟩

set_option maxHeartbeats 1000000 in
theorem two_10_any (a b : Int) (w : World) : Two 12 10 a b w := by
  have h := two_10 a b
  have r1 := wrap32_range a
  have r2 := wrap32_range b
  obtain ⟨A, hA⟩ : ∃ A, wrap32 a = A := ⟨_, rfl⟩
  obtain ⟨B, hB⟩ : ∃ A, wrap32 b = A := ⟨_, rfl⟩
  have HA := Lib.hid hA
  have HB := Lib.hid hB
  rw [hA, hB] at h
  rw [hA] at r1
  rw [hB] at r2
  clear hA hB
  unfold Two
  have HF := Lib.hid (pair h)
  clear h
  go_enter Try.func12, Try.ntmps12
  go_wp2
  refine wp_scope_goes 1 ?_
  go_wp2_with (first | (go_at_call 19; refine (asInt_as _ _ (by assumption) _).mono ?_; rintro e w' ⟨rfl, rfl⟩))
  go_step3
  simp only [Exit.inBlock, Exit.then]
  refine goes_goto rfl ?_
  go_wp2_with (go_at_call 19; refine (asInt_any _ _).mono ?_; rintro e w' ⟨rfl, rfl⟩)
  refine goes_ret ?_
  go_ret2
  exact ⟨HF.out, Below.refl _ _⟩

set_option maxHeartbeats 1000000 in
theorem two_11_any (a b : Int) (w : World) : Two 12 11 a b w := by
  have h := two_11 a b
  have r1 := wrap32_range a
  have r2 := wrap32_range b
  obtain ⟨A, hA⟩ : ∃ A, wrap32 a = A := ⟨_, rfl⟩
  obtain ⟨B, hB⟩ : ∃ A, wrap32 b = A := ⟨_, rfl⟩
  have HA := Lib.hid hA
  have HB := Lib.hid hB
  rw [hA, hB] at h
  rw [hA] at r1
  rw [hB] at r2
  clear hA hB
  unfold Two
  have HF := Lib.hid (pair h)
  clear h
  go_enter Try.func12, Try.ntmps12
  go_wp2
  refine wp_scope_goes 1 ?_
  go_wp2_with (first | (go_at_call 19; refine (asInt_as _ _ (by assumption) _).mono ?_; rintro e w' ⟨rfl, rfl⟩) | (go_at_call 20; refine (shifted_any _ _ _ (by omega) (by omega) (by omega) (by omega)).mono ?_; rintro e w' ⟨rfl, rfl⟩))
  go_step3
  simp only [Exit.inBlock, Exit.then]
  refine goes_goto rfl ?_
  go_wp2_with (go_at_call 19; refine (asInt_any _ _).mono ?_; rintro e w' ⟨rfl, rfl⟩)
  refine goes_ret ?_
  go_ret2
  exact ⟨HF.out, Below.refl _ _⟩

set_option maxHeartbeats 1000000 in
theorem two_12_any (a b : Int) (w : World) : Two 12 12 a b w := by
  have h := two_12 a b
  have r1 := wrap32_range a
  have r2 := wrap32_range b
  obtain ⟨A, hA⟩ : ∃ A, wrap32 a = A := ⟨_, rfl⟩
  obtain ⟨B, hB⟩ : ∃ A, wrap32 b = A := ⟨_, rfl⟩
  have HA := Lib.hid hA
  have HB := Lib.hid hB
  rw [hA, hB] at h
  rw [hA] at r1
  rw [hB] at r2
  clear hA hB
  unfold Two
  have HF := Lib.hid (pair h)
  clear h
  go_enter Try.func12, Try.ntmps12
  go_wp2
  refine wp_scope_goes 1 ?_
  go_wp2_with (first | (go_at_call 19; refine (asInt_as _ _ (by assumption) _).mono ?_; rintro e w' ⟨rfl, rfl⟩) | (go_at_call 20; refine (shifted_any _ _ _ (by omega) (by omega) (by omega) (by omega)).mono ?_; rintro e w' ⟨rfl, rfl⟩))
  go_step3
  simp only [Exit.inBlock, Exit.then]
  refine goes_goto rfl ?_
  go_wp2_with (go_at_call 19; refine (asInt_any _ _).mono ?_; rintro e w' ⟨rfl, rfl⟩)
  refine goes_ret ?_
  go_ret2
  exact ⟨HF.out, Below.refl _ _⟩

set_option maxHeartbeats 1000000 in
theorem two_19_any (a b : Int) (w : World) : Two 12 19 a b w := by
  have h := two_19 a b
  have r1 := wrap32_range a
  have r2 := wrap32_range b
  obtain ⟨A, hA⟩ : ∃ A, wrap32 a = A := ⟨_, rfl⟩
  obtain ⟨B, hB⟩ : ∃ A, wrap32 b = A := ⟨_, rfl⟩
  have HA := Lib.hid hA
  have HB := Lib.hid hB
  rw [hA, hB] at h
  rw [hA] at r1
  rw [hB] at r2
  have hm := Lib.hid (wrap32_in _ (and_range A B r1 r2))
  clear hA hB
  unfold Two
  have HF := Lib.hid (pair h)
  clear h
  go_enter Try.func12, Try.ntmps12
  go_wp2
  refine wp_scope_goes 1 ?_
  go_wp2_with (first | (go_at_call 19; refine (asInt_as _ _ (by assumption) _).mono ?_; rintro e w' ⟨rfl, rfl⟩))
  go_step3
  simp only [Exit.inBlock, Exit.then]
  refine goes_goto rfl ?_
  go_wp2_with (go_at_call 19; refine (asInt_as _ _ (by assumption) _).mono ?_; rintro e w' ⟨rfl, rfl⟩)
  refine goes_ret ?_
  go_ret2
  exact ⟨HF.out, Below.refl _ _⟩

set_option maxHeartbeats 1000000 in
theorem two_20_any (a b : Int) (w : World) : Two 12 20 a b w := by
  have h := two_20 a b
  have r1 := wrap32_range a
  have r2 := wrap32_range b
  obtain ⟨A, hA⟩ : ∃ A, wrap32 a = A := ⟨_, rfl⟩
  obtain ⟨B, hB⟩ : ∃ A, wrap32 b = A := ⟨_, rfl⟩
  have HA := Lib.hid hA
  have HB := Lib.hid hB
  rw [hA, hB] at h
  rw [hA] at r1
  rw [hB] at r2
  have hm := Lib.hid (wrap32_in _ (xor_range A B r1 r2))
  clear hA hB
  unfold Two
  have HF := Lib.hid (pair h)
  clear h
  go_enter Try.func12, Try.ntmps12
  go_wp2
  refine wp_scope_goes 1 ?_
  go_wp2_with (first | (go_at_call 19; refine (asInt_as _ _ (by assumption) _).mono ?_; rintro e w' ⟨rfl, rfl⟩))
  go_step3
  simp only [Exit.inBlock, Exit.then]
  refine goes_goto rfl ?_
  go_wp2_with (go_at_call 19; refine (asInt_as _ _ (by assumption) _).mono ?_; rintro e w' ⟨rfl, rfl⟩)
  refine goes_ret ?_
  go_ret2
  exact ⟨HF.out, Below.refl _ _⟩

set_option maxHeartbeats 1000000 in
theorem two_21_any (a b : Int) (w : World) : Two 12 21 a b w := by
  have h := two_21 a b
  have r1 := wrap32_range a
  have r2 := wrap32_range b
  obtain ⟨A, hA⟩ : ∃ A, wrap32 a = A := ⟨_, rfl⟩
  obtain ⟨B, hB⟩ : ∃ A, wrap32 b = A := ⟨_, rfl⟩
  have HA := Lib.hid hA
  have HB := Lib.hid hB
  rw [hA, hB] at h
  rw [hA] at r1
  rw [hB] at r2
  have hm := Lib.hid (wrap32_in _ (or_range A B r1 r2))
  clear hA hB
  unfold Two
  have HF := Lib.hid (pair h)
  clear h
  go_enter Try.func12, Try.ntmps12
  go_wp2
  refine wp_scope_goes 1 ?_
  go_wp2_with (first | (go_at_call 19; refine (asInt_as _ _ (by assumption) _).mono ?_; rintro e w' ⟨rfl, rfl⟩))
  go_step3
  simp only [Exit.inBlock, Exit.then]
  refine goes_goto rfl ?_
  go_wp2_with (go_at_call 19; refine (asInt_as _ _ (by assumption) _).mono ?_; rintro e w' ⟨rfl, rfl⟩)
  refine goes_ret ?_
  go_ret2
  exact ⟨HF.out, Below.refl _ _⟩

set_option maxHeartbeats 1000000 in
theorem two_7z_any (a b : Int) (w : World) (h0 : wrap32 b = 0) : Two 12 7 a b w := by
  have h := two_7z a b h0
  obtain ⟨A, hA⟩ : ∃ A, wrap32 a = A := ⟨_, rfl⟩
  have HA := Lib.hid hA
  have HB := Lib.hid h0
  clear hA h0
  unfold Two
  have HF := Lib.hid (pair h)
  clear h
  go_enter Try.func12, Try.ntmps12
  go_wp2
  refine wp_scope_goes 1 ?_
  go_wp2_with (go_at_call 19; refine (asInt_as _ _ (by assumption) _).mono ?_; rintro e w' ⟨rfl, rfl⟩)
  go_step3
  simp only [Exit.inBlock, Exit.then]
  refine goes_goto rfl ?_
  go_wp2
  refine goes_ret ?_
  go_ret2
  exact ⟨HF.out, Below.refl _ _⟩

set_option maxHeartbeats 1000000 in
theorem two_8z_any (a b : Int) (w : World) (h0 : wrap32 b = 0) : Two 12 8 a b w := by
  have h := two_8z a b h0
  obtain ⟨A, hA⟩ : ∃ A, wrap32 a = A := ⟨_, rfl⟩
  have HA := Lib.hid hA
  have HB := Lib.hid h0
  clear hA h0
  unfold Two
  have HF := Lib.hid (pair h)
  clear h
  go_enter Try.func12, Try.ntmps12
  go_wp2
  refine wp_scope_goes 1 ?_
  go_wp2_with (go_at_call 19; refine (asInt_as _ _ (by assumption) _).mono ?_; rintro e w' ⟨rfl, rfl⟩)
  go_step3
  simp only [Exit.inBlock, Exit.then]
  refine goes_goto rfl ?_
  go_wp2
  refine goes_ret ?_
  go_ret2
  exact ⟨HF.out, Below.refl _ _⟩

set_option maxHeartbeats 1000000 in
theorem two_13_any (a b : Int) (w : World) : Two 12 13 a b w := by
  have h := two_13 a b
  have r1 := wrap32_range a
  have r2 := wrap32_range b
  obtain ⟨A, hA⟩ : ∃ A, wrap32 a = A := ⟨_, rfl⟩
  obtain ⟨B, hB⟩ : ∃ A, wrap32 b = A := ⟨_, rfl⟩
  have HA := Lib.hid hA
  have HB := Lib.hid hB
  rw [hA, hB] at h
  rw [hA] at r1
  rw [hB] at r2
  clear hA hB r1 r2
  unfold Two
  have HF := Lib.hid (pair h)
  clear h
  by_cases hc : A < B
  all_goals
    first
      | (have hd : (decide (A < B)) = true := by simp [hc])
      | (have hd : (decide (A < B)) = false := by simp [Decidable.not_not.1 hc])
      | (have hd : (decide (A < B)) = false := by simp [hc])
    rw [hd] at HF
    clear hc
    go_enter Try.func12, Try.ntmps12
    go_wp2
    refine wp_scope_goes 1 ?_
    go_wp2_with (first | (go_at_call 19; refine (asInt_as _ _ (by assumption) _).mono ?_; rintro e w' ⟨rfl, rfl⟩) | go_in)
    refine goes_ret ?_
    go_ret2
    exact ⟨HF.out, Below.refl _ _⟩

set_option maxHeartbeats 1000000 in
theorem two_14_any (a b : Int) (w : World) : Two 12 14 a b w := by
  have h := two_14 a b
  have r1 := wrap32_range a
  have r2 := wrap32_range b
  obtain ⟨A, hA⟩ : ∃ A, wrap32 a = A := ⟨_, rfl⟩
  obtain ⟨B, hB⟩ : ∃ A, wrap32 b = A := ⟨_, rfl⟩
  have HA := Lib.hid hA
  have HB := Lib.hid hB
  rw [hA, hB] at h
  rw [hA] at r1
  rw [hB] at r2
  clear hA hB r1 r2
  unfold Two
  have HF := Lib.hid (pair h)
  clear h
  by_cases hc : A ≤ B
  all_goals
    first
      | (have hd : (decide (A ≤ B)) = true := by simp [hc])
      | (have hd : (decide (A ≤ B)) = false := by simp [Decidable.not_not.1 hc])
      | (have hd : (decide (A ≤ B)) = false := by simp [hc])
    rw [hd] at HF
    clear hc
    go_enter Try.func12, Try.ntmps12
    go_wp2
    refine wp_scope_goes 1 ?_
    go_wp2_with (first | (go_at_call 19; refine (asInt_as _ _ (by assumption) _).mono ?_; rintro e w' ⟨rfl, rfl⟩) | go_in)
    refine goes_ret ?_
    go_ret2
    exact ⟨HF.out, Below.refl _ _⟩

set_option maxHeartbeats 1000000 in
theorem two_15_any (a b : Int) (w : World) : Two 12 15 a b w := by
  have h := two_15 a b
  have r1 := wrap32_range a
  have r2 := wrap32_range b
  obtain ⟨A, hA⟩ : ∃ A, wrap32 a = A := ⟨_, rfl⟩
  obtain ⟨B, hB⟩ : ∃ A, wrap32 b = A := ⟨_, rfl⟩
  have HA := Lib.hid hA
  have HB := Lib.hid hB
  rw [hA, hB] at h
  rw [hA] at r1
  rw [hB] at r2
  clear hA hB r1 r2
  unfold Two
  have HF := Lib.hid (pair h)
  clear h
  by_cases hc : B < A
  all_goals
    first
      | (have hd : (decide (B < A)) = true := by simp [hc])
      | (have hd : (decide (B < A)) = false := by simp [Decidable.not_not.1 hc])
      | (have hd : (decide (B < A)) = false := by simp [hc])
    rw [hd] at HF
    clear hc
    go_enter Try.func12, Try.ntmps12
    go_wp2
    refine wp_scope_goes 1 ?_
    go_wp2_with (first | (go_at_call 19; refine (asInt_as _ _ (by assumption) _).mono ?_; rintro e w' ⟨rfl, rfl⟩) | go_in)
    refine goes_ret ?_
    go_ret2
    exact ⟨HF.out, Below.refl _ _⟩

set_option maxHeartbeats 1000000 in
theorem two_16_any (a b : Int) (w : World) : Two 12 16 a b w := by
  have h := two_16 a b
  have r1 := wrap32_range a
  have r2 := wrap32_range b
  obtain ⟨A, hA⟩ : ∃ A, wrap32 a = A := ⟨_, rfl⟩
  obtain ⟨B, hB⟩ : ∃ A, wrap32 b = A := ⟨_, rfl⟩
  have HA := Lib.hid hA
  have HB := Lib.hid hB
  rw [hA, hB] at h
  rw [hA] at r1
  rw [hB] at r2
  clear hA hB r1 r2
  unfold Two
  have HF := Lib.hid (pair h)
  clear h
  by_cases hc : B ≤ A
  all_goals
    first
      | (have hd : (decide (B ≤ A)) = true := by simp [hc])
      | (have hd : (decide (B ≤ A)) = false := by simp [Decidable.not_not.1 hc])
      | (have hd : (decide (B ≤ A)) = false := by simp [hc])
    rw [hd] at HF
    clear hc
    go_enter Try.func12, Try.ntmps12
    go_wp2
    refine wp_scope_goes 1 ?_
    go_wp2_with (first | (go_at_call 19; refine (asInt_as _ _ (by assumption) _).mono ?_; rintro e w' ⟨rfl, rfl⟩) | go_in)
    refine goes_ret ?_
    go_ret2
    exact ⟨HF.out, Below.refl _ _⟩

set_option maxHeartbeats 1000000 in
theorem two_17_any (a b : Int) (w : World) : Two 12 17 a b w := by
  have h := two_17 a b
  have r1 := wrap32_range a
  have r2 := wrap32_range b
  obtain ⟨A, hA⟩ : ∃ A, wrap32 a = A := ⟨_, rfl⟩
  obtain ⟨B, hB⟩ : ∃ A, wrap32 b = A := ⟨_, rfl⟩
  have HA := Lib.hid hA
  have HB := Lib.hid hB
  rw [hA, hB] at h
  rw [hA] at r1
  rw [hB] at r2
  clear hA hB r1 r2
  unfold Two
  have HF := Lib.hid (pair h)
  clear h
  by_cases hc : A = B
  all_goals
    first
      | (have hd : (A == B) = true := by simp [hc])
      | (have hd : (A == B) = false := by simp [Decidable.not_not.1 hc])
      | (have hd : (A == B) = false := by simp [hc])
    rw [hd] at HF
    clear hc
    go_enter Try.func12, Try.ntmps12
    go_wp2
    refine wp_scope_goes 1 ?_
    go_wp2_with (first | (go_at_call 19; refine (asInt_as _ _ (by assumption) _).mono ?_; rintro e w' ⟨rfl, rfl⟩) | go_in)
    refine goes_ret ?_
    go_ret2
    exact ⟨HF.out, Below.refl _ _⟩

set_option maxHeartbeats 1000000 in
theorem two_18_any (a b : Int) (w : World) : Two 12 18 a b w := by
  have h := two_18 a b
  have r1 := wrap32_range a
  have r2 := wrap32_range b
  obtain ⟨A, hA⟩ : ∃ A, wrap32 a = A := ⟨_, rfl⟩
  obtain ⟨B, hB⟩ : ∃ A, wrap32 b = A := ⟨_, rfl⟩
  have HA := Lib.hid hA
  have HB := Lib.hid hB
  rw [hA, hB] at h
  rw [hA] at r1
  rw [hB] at r2
  clear hA hB r1 r2
  unfold Two
  have HF := Lib.hid (pair h)
  clear h
  by_cases hc : ¬ A = B
  all_goals
    first
      | (have hd : (A != B) = true := by simp [hc])
      | (have hd : (A != B) = false := by simp [Decidable.not_not.1 hc])
      | (have hd : (A != B) = false := by simp [hc])
    rw [hd] at HF
    clear hc
    go_enter Try.func12, Try.ntmps12
    go_wp2
    refine wp_scope_goes 1 ?_
    go_wp2_with (first | (go_at_call 19; refine (asInt_as _ _ (by assumption) _).mono ?_; rintro e w' ⟨rfl, rfl⟩) | go_in)
    refine goes_ret ?_
    go_ret2
    exact ⟨HF.out, Below.refl _ _⟩

set_option maxHeartbeats 1000000 in
theorem two_else_any (op a b : Int) (w : World) (ho : op < 6 ∨ 21 < op) : Two 12 op a b w := by
  have h := two_else op a b ho
  unfold Two
  have HF := Lib.hid (pair h)
  obtain ⟨A, hA⟩ : ∃ A, wrap32 a = A := ⟨_, rfl⟩
  obtain ⟨B, hB⟩ : ∃ A, wrap32 b = A := ⟨_, rfl⟩
  have HA := Lib.hid hA
  have HB := Lib.hid hB
  clear h hA hB
  rcases ho with ho | ho
  all_goals
    go_enter Try.func12, Try.ntmps12
    go_wp2
    refine wp_scope_goes 1 ?_
    go_wp2_with (first | (go_at_call 19; refine (asInt_as _ _ (by assumption) _).mono ?_; rintro e w' ⟨rfl, rfl⟩) | go_in)
    refine goes_ret ?_
    go_ret2
    exact ⟨HF.out, Below.refl _ _⟩

theorem two_any (op a b : Int) (w : World) : Two 12 op a b w := by
  by_cases h : op < 6 ∨ 21 < op
  · exact two_else_any op a b w h
  · have h2 : op = 6 ∨ op = 7 ∨ op = 8 ∨ op = 9 ∨ op = 10 ∨ op = 11 ∨ op = 12 ∨ op = 13 ∨ op = 14 ∨ op = 15 ∨ op = 16 ∨ op = 17 ∨ op = 18 ∨ op = 19 ∨ op = 20 ∨ op = 21 := by omega
    rcases h2 with rfl | rfl | rfl | rfl | rfl | rfl | rfl | rfl | rfl | rfl | rfl | rfl | rfl | rfl | rfl | rfl
    · exact two_6_any a b w
    · by_cases h0 : wrap32 b = 0
      · exact two_7z_any a b w h0
      · exact two_7_any a b w h0
    · by_cases h0 : wrap32 b = 0
      · exact two_8z_any a b w h0
      · exact two_8_any a b w h0
    · exact two_9_any a b w
    · exact two_10_any a b w
    · exact two_11_any a b w
    · exact two_12_any a b w
    · exact two_13_any a b w
    · exact two_14_any a b w
    · exact two_15_any a b w
    · exact two_16_any a b w
    · exact two_17_any a b w
    · exact two_18_any a b w
    · exact two_19_any a b w
    · exact two_20_any a b w
    · exact two_21_any a b w

end Go.Proofs.Ytfcdbgaopjghlaa
