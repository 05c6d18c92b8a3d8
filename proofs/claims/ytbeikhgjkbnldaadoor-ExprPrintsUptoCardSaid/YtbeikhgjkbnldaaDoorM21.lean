/- Contracts of value.Fit, value.Two, value.One. -/
import Derived.Test.YtbeikhgjkbnldaaDoorRows
import Derived.Test.YtbeikhgjkbnldaaDoorM20
import Derived.WalkKit
import Derived.ProofKit
import Derived.OpenShut
import Derived.Outline
import Derived.Below
import Derived.Lib.Hide
namespace Go.Proofs.YtbeikhgjkbnldaaDoor.val

open Go.ChangeShapes Go.WideShapes Go.ChangeAt Go.RowKit

theorem ret_int {k : IntKind} {a b : Int} (h : a = b) : Ending.returned (.int k a) = .returned (.int k b) := by rw [h]

theorem w64 (n : Int) (h : -9223372036854775808 ≤ n ∧ n ≤ 9223372036854775807) : wrap64 n = n := by unfold wrap64; omega

set_option maxHeartbeats 400000 in
theorem fit_x (b v : Int) (s : Bool) (w : World) :
    Calls Tryd.prog 42 #[.agg #[.int .i64 b, .bool s], .int .i64 v] w fun e w' => e = .returned (.int .i64 (fitI b s v)) ∧ w' = w.alloc (.cells #[.int .i64 b, .bool s] 56) := by
  by_cases h : b < 1 ∨ 32 < b
  · have hf : fitI b s v = 0 := by unfold fitI; rw [if_pos h]
    have HF := Lib.hid hf
    clear hf
    rcases h with h | h
    · go_enter Tryd.func42, Tryd.ntmps42
      go_wp2
      go_ret
      exact ⟨ret_int HF.out.symm, rfl⟩
    · have h' : ¬ b < 1 := by omega
      go_enter Tryd.func42, Tryd.ntmps42
      go_wp2
      go_ret
      exact ⟨ret_int HF.out.symm, rfl⟩
  · have h1 : 1 ≤ b := by omega
    have h2 : b ≤ 32 := by omega
    obtain ⟨H, p1, p2, p3, p4⟩ := pows b h1 h2
    have hf : fitI b s v = if s = true ∧ H ≤ v % (2 * H) then v % (2 * H) - 2 * H else v % (2 * H) := by unfold fitI; rw [if_neg h, p1, p2]
    have hl : bits .and .i64 v (2 * H - 1) = v % (2 * H) := by rw [← p2]; exact bits_low b.toNat (by omega) v
    have q1 := Int.emod_nonneg v (show (2 * H : Int) ≠ 0 by omega)
    have q2 := Int.emod_lt_of_pos v (show (0 : Int) < 2 * H by omega)
    generalize v % (2 * H) = L at *
    have hm : wrap64 (2 ^ b.toNat) = 2 * H := by rw [p2]; exact w64 _ (by omega)
    have HF := Lib.hid hf
    clear hf p2 h
    cases s
    · go_enter Tryd.func42, Tryd.ntmps42
      go_wp2
      go_ret
      exact ⟨ret_int (by rw [HF.out]; simp), rfl⟩
    · by_cases hh : H ≤ L
      · have hq : (L / H != 0) = true := by
          rw [bne_iff_ne]
          have : 1 ≤ L / H := (Int.le_ediv_iff_mul_le (by omega)).2 (by omega)
          omega
        go_enter Tryd.func42, Tryd.ntmps42
        go_wp2
        go_ret
        exact ⟨ret_int (by rw [HF.out]; simp [hh]), rfl⟩
      · have hq : (L / H != 0) = false := by
          have : L / H = 0 := Int.ediv_eq_zero_of_lt (by omega) (by omega)
          simp [this]
        go_enter Tryd.func42, Tryd.ntmps42
        go_wp2
        go_ret
        exact ⟨ret_int (by rw [HF.out]; rw [if_neg (by omega)]), rfl⟩

theorem fit_any (b v : Int) (s : Bool) (w : World) :
    Calls Tryd.prog 42 #[.agg #[.int .i64 b, .bool s], .int .i64 v] w fun e w' => e = .returned (.int .i64 (fitI b s v)) ∧ Below w.heap.size w w' :=
  (fit_x b v s w).mono fun _ _ ⟨he, hw⟩ => ⟨he, by rw [hw]; exact (Below.refl _ _).alloc (Nat.le_refl _) _⟩

theorem asInt_any (a : Int) (w : World) :
    Calls Tryd.prog 47 #[.int .i64 a] w fun e w' => e = .returned (.int .i64 (wrap32 a)) ∧ w = w' := by
  have h := w64 (wrap32 a) (by have := wrap32_range a; omega)
  have HF := Lib.hid h
  clear h
  go_enter Tryd.func47, Tryd.ntmps47
  go_wp2
  go_ret
  exact ⟨ret_int HF.out, rfl⟩

theorem shl_range (a p : Int) (ha : -2147483648 ≤ a) (ha' : a ≤ 2147483647) (hp : 0 ≤ p) (hp' : p < 32) :
    -4611686018427387904 ≤ a * 2 ^ p.toNat ∧ a * 2 ^ p.toNat ≤ 4611686018427387904 := by
  obtain ⟨H, h1, _, h3, h4⟩ := pows (p + 1) (by omega) (by omega)
  rw [show (p + 1).toNat - 1 = p.toNat from by omega] at h1
  rw [h1]
  have hn : 0 ≤ H := by omega
  constructor
  · have := Int.mul_le_mul_of_nonneg_right ha hn
    omega
  · have := Int.mul_le_mul_of_nonneg_right ha' hn
    omega

set_option maxHeartbeats 400000 in
theorem shifted_any (a p : Int) (w : World) (ha : -2147483648 ≤ a) (ha' : a ≤ 2147483647) (hp : -2147483648 ≤ p) (hp' : p ≤ 2147483648) :
    Calls Tryd.prog 52 #[.int .i64 a, .int .i64 p] w fun e w' => e = .returned (.int .i64 (shI a p)) ∧ w = w' := by
  by_cases h1 : 32 ≤ p
  · have HF := Lib.hid (show shI a p = 0 by unfold shI; rw [if_pos h1])
    go_enter Tryd.func52, Tryd.ntmps52
    go_wp2
    go_ret
    exact ⟨ret_int HF.out.symm, rfl⟩
  · by_cases h2 : 0 ≤ p
    · have HF := Lib.hid (show shI a p = a * 2 ^ p.toNat by unfold shI; rw [if_neg h1, if_pos h2])
      have hs := shl_range a p ha ha' h2 (by omega)
      have hw := w64 (a * 2 ^ p.toNat) (by omega)
      go_enter Tryd.func52, Tryd.ntmps52
      go_wp2
      go_ret
      exact ⟨ret_int HF.out.symm, rfl⟩
    · have HF := Lib.hid (show shI a p = a / 2 ^ (-p).toNat by unfold shI; rw [if_neg h1, if_neg h2])
      have hs : Op.shift .shr .i64 a .i64 (-p) = pure (.int .i64 (a / 2 ^ (-p).toNat)) := shr_any _ _ _ ha ha' (by omega)
      go_enter Tryd.func52, Tryd.ntmps52
      go_wp2
      go_ret
      exact ⟨ret_int HF.out.symm, rfl⟩



theorem pair {op a b x y : Int} (h : two op a b = (x, y)) : Ending.returned (.tuple #[.int .i64 x, .int .i64 y]) = .returned (.tuple #[.int .i64 (two op a b).1, .int .i64 (two op a b).2]) := by
  rw [h]

def Two (k : Nat) (op a b : Int) (w : World) : Prop := Calls Tryd.prog k #[.int .i64 op, .int .i64 a, .int .i64 b] w fun e w' => e = .returned (.tuple #[.int .i64 (two op a b).1, .int .i64 (two op a b).2]) ∧ Below w.heap.size w w'

theorem asInt_as (a A : Int) (h : Hid (wrap32 a = A)) (w : World) :
    Calls Tryd.prog 47 #[.int .i64 a] w fun e w' => e = .returned (.int .i64 A) ∧ w = w' := by
  rw [← h.out]; exact asInt_any a w

set_option maxHeartbeats 1000000 in
theorem two_6_any (a b : Int) (w : World) : Two 35 6 a b w := by
  have h := two_6 a b
  have r1 := wrap32_range a
  have r2 := wrap32_range b
  obtain ⟨A, hA⟩ : ∃ A, wrap32 a = A := ⟨_, rfl⟩
  obtain ⟨B, hB⟩ : ∃ A, wrap32 b = A := ⟨_, rfl⟩
  have HA := Lib.hid hA
  have HB := Lib.hid hB
  rw [hA, hB] at h
  rw [hA] at r1
  rw [hB] at r2
  have r := mul_range A B r1 r2
  clear hA hB
  unfold Two
  have HF := Lib.hid (pair h)
  clear h
  go_enter Tryd.func35, Tryd.ntmps35
  go_wp2
  refine wp_scope_goes 1 ?_
  go_wp2_with (first | (go_at_call 47; refine (asInt_as _ _ (by assumption) _).mono ?_; rintro e w' ⟨rfl, rfl⟩))
  go_step3
  simp only [Exit.inBlock, Exit.then]
  refine goes_goto rfl ?_
  go_wp2_with (go_at_call 47; refine (asInt_any _ _).mono ?_; rintro e w' ⟨rfl, rfl⟩)
  refine goes_ret ?_
  go_ret2
  exact ⟨HF.out, Below.refl _ _⟩

set_option maxHeartbeats 1000000 in
theorem two_7_any (a b : Int) (w : World) (h0 : ¬ wrap32 b = 0) : Two 35 7 a b w := by
  have h := two_7 a b h0
  have r1 := wrap32_range a
  have r2 := wrap32_range b
  obtain ⟨A, hA⟩ : ∃ A, wrap32 a = A := ⟨_, rfl⟩
  obtain ⟨B, hB⟩ : ∃ A, wrap32 b = A := ⟨_, rfl⟩
  have HA := Lib.hid hA
  have HB := Lib.hid hB
  rw [hA, hB] at h
  rw [hA] at r1
  rw [hB] at r2
  have hB0 : ¬ B = 0 := by rw [← hB]; exact h0
  have hbq : (B == 0) = false := by rw [beq_eq_false_iff_ne]; exact hB0
  have q := tdiv_range A B r1
  have hq := w64 (A.tdiv B) (by omega)
  have q2 := tmod_range A B r2 hB0
  have hq2 := w64 (A.tmod B) (by omega)
  clear h0
  clear hA hB
  unfold Two
  have HF := Lib.hid (pair h)
  clear h
  go_enter Tryd.func35, Tryd.ntmps35
  go_wp2
  refine wp_scope_goes 1 ?_
  go_wp2_with (first | (go_at_call 47; refine (asInt_as _ _ (by assumption) _).mono ?_; rintro e w' ⟨rfl, rfl⟩))
  go_step3
  simp only [Exit.inBlock, Exit.then]
  refine goes_goto rfl ?_
  go_wp2_with (go_at_call 47; refine (asInt_any _ _).mono ?_; rintro e w' ⟨rfl, rfl⟩)
  refine goes_ret ?_
  go_ret2
  exact ⟨HF.out, Below.refl _ _⟩

set_option maxHeartbeats 1000000 in
theorem two_8_any (a b : Int) (w : World) (h0 : ¬ wrap32 b = 0) : Two 35 8 a b w := by
  have h := two_8 a b h0
  have r1 := wrap32_range a
  have r2 := wrap32_range b
  obtain ⟨A, hA⟩ : ∃ A, wrap32 a = A := ⟨_, rfl⟩
  obtain ⟨B, hB⟩ : ∃ A, wrap32 b = A := ⟨_, rfl⟩
  have HA := Lib.hid hA
  have HB := Lib.hid hB
  rw [hA, hB] at h
  rw [hA] at r1
  rw [hB] at r2
  have hB0 : ¬ B = 0 := by rw [← hB]; exact h0
  have hbq : (B == 0) = false := by rw [beq_eq_false_iff_ne]; exact hB0
  have q := tdiv_range A B r1
  have hq := w64 (A.tdiv B) (by omega)
  have q2 := tmod_range A B r2 hB0
  have hq2 := w64 (A.tmod B) (by omega)
  clear h0
  have hm := Lib.hid (wrap32_in _ q2)
  clear hA hB
  unfold Two
  have HF := Lib.hid (pair h)
  clear h
  go_enter Tryd.func35, Tryd.ntmps35
  go_wp2
  refine wp_scope_goes 1 ?_
  go_wp2_with (first | (go_at_call 47; refine (asInt_as _ _ (by assumption) _).mono ?_; rintro e w' ⟨rfl, rfl⟩))
  go_step3
  simp only [Exit.inBlock, Exit.then]
  refine goes_goto rfl ?_
  go_wp2_with (go_at_call 47; refine (asInt_as _ _ (by assumption) _).mono ?_; rintro e w' ⟨rfl, rfl⟩)
  refine goes_ret ?_
  go_ret2
  exact ⟨HF.out, Below.refl _ _⟩

set_option maxHeartbeats 1000000 in
theorem two_9_any (a b : Int) (w : World) : Two 35 9 a b w := by
  have h := two_9 a b
  have r1 := wrap32_range a
  have r2 := wrap32_range b
  obtain ⟨A, hA⟩ : ∃ A, wrap32 a = A := ⟨_, rfl⟩
  obtain ⟨B, hB⟩ : ∃ A, wrap32 b = A := ⟨_, rfl⟩
  have HA := Lib.hid hA
  have HB := Lib.hid hB
  rw [hA, hB] at h
  rw [hA] at r1
  rw [hB] at r2
  clear hA hB
  unfold Two
  have HF := Lib.hid (pair h)
  clear h
  go_enter Tryd.func35, Tryd.ntmps35
  go_wp2
  refine wp_scope_goes 1 ?_
  go_wp2_with (first | (go_at_call 47; refine (asInt_as _ _ (by assumption) _).mono ?_; rintro e w' ⟨rfl, rfl⟩))
  go_step3
  simp only [Exit.inBlock, Exit.then]
  refine goes_goto rfl ?_
  go_wp2_with (go_at_call 47; refine (asInt_any _ _).mono ?_; rintro e w' ⟨rfl, rfl⟩)
  refine goes_ret ?_
  go_ret2
  exact ⟨HF.out, Below.refl _ _⟩

set_option maxHeartbeats 1000000 in
theorem two_10_any (a b : Int) (w : World) : Two 35 10 a b w := by
  have h := two_10 a b
  have r1 := wrap32_range a
  have r2 := wrap32_range b
  obtain ⟨A, hA⟩ : ∃ A, wrap32 a = A := ⟨_, rfl⟩
  obtain ⟨B, hB⟩ : ∃ A, wrap32 b = A := ⟨_, rfl⟩
  have HA := Lib.hid hA
  have HB := Lib.hid hB
  rw [hA, hB] at h
  rw [hA] at r1
  rw [hB] at r2
  clear hA hB
  unfold Two
  have HF := Lib.hid (pair h)
  clear h
  go_enter Tryd.func35, Tryd.ntmps35
  go_wp2
  refine wp_scope_goes 1 ?_
  go_wp2_with (first | (go_at_call 47; refine (asInt_as _ _ (by assumption) _).mono ?_; rintro e w' ⟨rfl, rfl⟩))
  go_step3
  simp only [Exit.inBlock, Exit.then]
  refine goes_goto rfl ?_
  go_wp2_with (go_at_call 47; refine (asInt_any _ _).mono ?_; rintro e w' ⟨rfl, rfl⟩)
  refine goes_ret ?_
  go_ret2
  exact ⟨HF.out, Below.refl _ _⟩

set_option maxHeartbeats 1000000 in
theorem two_11_any (a b : Int) (w : World) : Two 35 11 a b w := by
  have h := two_11 a b
  have r1 := wrap32_range a
  have r2 := wrap32_range b
  obtain ⟨A, hA⟩ : ∃ A, wrap32 a = A := ⟨_, rfl⟩
  obtain ⟨B, hB⟩ : ∃ A, wrap32 b = A := ⟨_, rfl⟩
  have HA := Lib.hid hA
  have HB := Lib.hid hB
  rw [hA, hB] at h
  rw [hA] at r1
  rw [hB] at r2
  clear hA hB
  unfold Two
  have HF := Lib.hid (pair h)
  clear h
  go_enter Tryd.func35, Tryd.ntmps35
  go_wp2
  refine wp_scope_goes 1 ?_
  go_wp2_with (first | (go_at_call 47; refine (asInt_as _ _ (by assumption) _).mono ?_; rintro e w' ⟨rfl, rfl⟩) | (go_at_call 52; refine (shifted_any _ _ _ (by omega) (by omega) (by omega) (by omega)).mono ?_; rintro e w' ⟨rfl, rfl⟩))
  go_step3
  simp only [Exit.inBlock, Exit.then]
  refine goes_goto rfl ?_
  go_wp2_with (go_at_call 47; refine (asInt_any _ _).mono ?_; rintro e w' ⟨rfl, rfl⟩)
  refine goes_ret ?_
  go_ret2
  exact ⟨HF.out, Below.refl _ _⟩

set_option maxHeartbeats 1000000 in
theorem two_12_any (a b : Int) (w : World) : Two 35 12 a b w := by
  have h := two_12 a b
  have r1 := wrap32_range a
  have r2 := wrap32_range b
  obtain ⟨A, hA⟩ : ∃ A, wrap32 a = A := ⟨_, rfl⟩
  obtain ⟨B, hB⟩ : ∃ A, wrap32 b = A := ⟨_, rfl⟩
  have HA := Lib.hid hA
  have HB := Lib.hid hB
  rw [hA, hB] at h
  rw [hA] at r1
  rw [hB] at r2
  clear hA hB
  unfold Two
  have HF := Lib.hid (pair h)
  clear h
  go_enter Tryd.func35, Tryd.ntmps35
  go_wp2
  refine wp_scope_goes 1 ?_
  go_wp2_with (first | (go_at_call 47; refine (asInt_as _ _ (by assumption) _).mono ?_; rintro e w' ⟨rfl, rfl⟩) | (go_at_call 52; refine (shifted_any _ _ _ (by omega) (by omega) (by omega) (by omega)).mono ?_; rintro e w' ⟨rfl, rfl⟩))
  go_step3
  simp only [Exit.inBlock, Exit.then]
  refine goes_goto rfl ?_
  go_wp2_with (go_at_call 47; refine (asInt_any _ _).mono ?_; rintro e w' ⟨rfl, rfl⟩)
  refine goes_ret ?_
  go_ret2
  exact ⟨HF.out, Below.refl _ _⟩

set_option maxHeartbeats 1000000 in
theorem two_19_any (a b : Int) (w : World) : Two 35 19 a b w := by
  have h := two_19 a b
  have r1 := wrap32_range a
  have r2 := wrap32_range b
  obtain ⟨A, hA⟩ : ∃ A, wrap32 a = A := ⟨_, rfl⟩
  obtain ⟨B, hB⟩ : ∃ A, wrap32 b = A := ⟨_, rfl⟩
  have HA := Lib.hid hA
  have HB := Lib.hid hB
  rw [hA, hB] at h
  rw [hA] at r1
  rw [hB] at r2
  have hm := Lib.hid (wrap32_in _ (and_range A B r1 r2))
  clear hA hB
  unfold Two
  have HF := Lib.hid (pair h)
  clear h
  go_enter Tryd.func35, Tryd.ntmps35
  go_wp2
  refine wp_scope_goes 1 ?_
  go_wp2_with (first | (go_at_call 47; refine (asInt_as _ _ (by assumption) _).mono ?_; rintro e w' ⟨rfl, rfl⟩))
  go_step3
  simp only [Exit.inBlock, Exit.then]
  refine goes_goto rfl ?_
  go_wp2_with (go_at_call 47; refine (asInt_as _ _ (by assumption) _).mono ?_; rintro e w' ⟨rfl, rfl⟩)
  refine goes_ret ?_
  go_ret2
  exact ⟨HF.out, Below.refl _ _⟩

set_option maxHeartbeats 1000000 in
theorem two_20_any (a b : Int) (w : World) : Two 35 20 a b w := by
  have h := two_20 a b
  have r1 := wrap32_range a
  have r2 := wrap32_range b
  obtain ⟨A, hA⟩ : ∃ A, wrap32 a = A := ⟨_, rfl⟩
  obtain ⟨B, hB⟩ : ∃ A, wrap32 b = A := ⟨_, rfl⟩
  have HA := Lib.hid hA
  have HB := Lib.hid hB
  rw [hA, hB] at h
  rw [hA] at r1
  rw [hB] at r2
  have hm := Lib.hid (wrap32_in _ (xor_range A B r1 r2))
  clear hA hB
  unfold Two
  have HF := Lib.hid (pair h)
  clear h
  go_enter Tryd.func35, Tryd.ntmps35
  go_wp2
  refine wp_scope_goes 1 ?_
  go_wp2_with (first | (go_at_call 47; refine (asInt_as _ _ (by assumption) _).mono ?_; rintro e w' ⟨rfl, rfl⟩))
  go_step3
  simp only [Exit.inBlock, Exit.then]
  refine goes_goto rfl ?_
  go_wp2_with (go_at_call 47; refine (asInt_as _ _ (by assumption) _).mono ?_; rintro e w' ⟨rfl, rfl⟩)
  refine goes_ret ?_
  go_ret2
  exact ⟨HF.out, Below.refl _ _⟩

set_option maxHeartbeats 1000000 in
theorem two_21_any (a b : Int) (w : World) : Two 35 21 a b w := by
  have h := two_21 a b
  have r1 := wrap32_range a
  have r2 := wrap32_range b
  obtain ⟨A, hA⟩ : ∃ A, wrap32 a = A := ⟨_, rfl⟩
  obtain ⟨B, hB⟩ : ∃ A, wrap32 b = A := ⟨_, rfl⟩
  have HA := Lib.hid hA
  have HB := Lib.hid hB
  rw [hA, hB] at h
  rw [hA] at r1
  rw [hB] at r2
  have hm := Lib.hid (wrap32_in _ (or_range A B r1 r2))
  clear hA hB
  unfold Two
  have HF := Lib.hid (pair h)
  clear h
  go_enter Tryd.func35, Tryd.ntmps35
  go_wp2
  refine wp_scope_goes 1 ?_
  go_wp2_with (first | (go_at_call 47; refine (asInt_as _ _ (by assumption) _).mono ?_; rintro e w' ⟨rfl, rfl⟩))
  go_step3
  simp only [Exit.inBlock, Exit.then]
  refine goes_goto rfl ?_
  go_wp2_with (go_at_call 47; refine (asInt_as _ _ (by assumption) _).mono ?_; rintro e w' ⟨rfl, rfl⟩)
  refine goes_ret ?_
  go_ret2
  exact ⟨HF.out, Below.refl _ _⟩

set_option maxHeartbeats 1000000 in
theorem two_7z_any (a b : Int) (w : World) (h0 : wrap32 b = 0) : Two 35 7 a b w := by
  have h := two_7z a b h0
  obtain ⟨A, hA⟩ : ∃ A, wrap32 a = A := ⟨_, rfl⟩
  have HA := Lib.hid hA
  have HB := Lib.hid h0
  clear hA h0
  unfold Two
  have HF := Lib.hid (pair h)
  clear h
  go_enter Tryd.func35, Tryd.ntmps35
  go_wp2
  refine wp_scope_goes 1 ?_
  go_wp2_with (go_at_call 47; refine (asInt_as _ _ (by assumption) _).mono ?_; rintro e w' ⟨rfl, rfl⟩)
  go_step3
  simp only [Exit.inBlock, Exit.then]
  refine goes_goto rfl ?_
  go_wp2
  refine goes_ret ?_
  go_ret2
  exact ⟨HF.out, Below.refl _ _⟩

set_option maxHeartbeats 1000000 in
theorem two_8z_any (a b : Int) (w : World) (h0 : wrap32 b = 0) : Two 35 8 a b w := by
  have h := two_8z a b h0
  obtain ⟨A, hA⟩ : ∃ A, wrap32 a = A := ⟨_, rfl⟩
  have HA := Lib.hid hA
  have HB := Lib.hid h0
  clear hA h0
  unfold Two
  have HF := Lib.hid (pair h)
  clear h
  go_enter Tryd.func35, Tryd.ntmps35
  go_wp2
  refine wp_scope_goes 1 ?_
  go_wp2_with (go_at_call 47; refine (asInt_as _ _ (by assumption) _).mono ?_; rintro e w' ⟨rfl, rfl⟩)
  go_step3
  simp only [Exit.inBlock, Exit.then]
  refine goes_goto rfl ?_
  go_wp2
  refine goes_ret ?_
  go_ret2
  exact ⟨HF.out, Below.refl _ _⟩

set_option maxHeartbeats 1000000 in
theorem two_13_any (a b : Int) (w : World) : Two 35 13 a b w := by
  have h := two_13 a b
  have r1 := wrap32_range a
  have r2 := wrap32_range b
  obtain ⟨A, hA⟩ : ∃ A, wrap32 a = A := ⟨_, rfl⟩
  obtain ⟨B, hB⟩ : ∃ A, wrap32 b = A := ⟨_, rfl⟩
  have HA := Lib.hid hA
  have HB := Lib.hid hB
  rw [hA, hB] at h
  rw [hA] at r1
  rw [hB] at r2
  clear hA hB r1 r2
  unfold Two
  have HF := Lib.hid (pair h)
  clear h
  by_cases hc : A < B
  all_goals
    first
      | (have hd : (decide (A < B)) = true := by simp [hc])
      | (have hd : (decide (A < B)) = false := by simp [Decidable.not_not.1 hc])
      | (have hd : (decide (A < B)) = false := by simp [hc])
    rw [hd] at HF
    clear hc
    go_enter Tryd.func35, Tryd.ntmps35
    go_wp2
    refine wp_scope_goes 1 ?_
    go_wp2_with (first | (go_at_call 47; refine (asInt_as _ _ (by assumption) _).mono ?_; rintro e w' ⟨rfl, rfl⟩) | go_in)
    refine goes_ret ?_
    go_ret2
    exact ⟨HF.out, Below.refl _ _⟩

set_option maxHeartbeats 1000000 in
theorem two_14_any (a b : Int) (w : World) : Two 35 14 a b w := by
  have h := two_14 a b
  have r1 := wrap32_range a
  have r2 := wrap32_range b
  obtain ⟨A, hA⟩ : ∃ A, wrap32 a = A := ⟨_, rfl⟩
  obtain ⟨B, hB⟩ : ∃ A, wrap32 b = A := ⟨_, rfl⟩
  have HA := Lib.hid hA
  have HB := Lib.hid hB
  rw [hA, hB] at h
  rw [hA] at r1
  rw [hB] at r2
  clear hA hB r1 r2
  unfold Two
  have HF := Lib.hid (pair h)
  clear h
  by_cases hc : A ≤ B
  all_goals
    first
      | (have hd : (decide (A ≤ B)) = true := by simp [hc])
      | (have hd : (decide (A ≤ B)) = false := by simp [Decidable.not_not.1 hc])
      | (have hd : (decide (A ≤ B)) = false := by simp [hc])
    rw [hd] at HF
    clear hc
    go_enter Tryd.func35, Tryd.ntmps35
    go_wp2
    refine wp_scope_goes 1 ?_
    go_wp2_with (first | (go_at_call 47; refine (asInt_as _ _ (by assumption) _).mono ?_; rintro e w' ⟨rfl, rfl⟩) | go_in)
    refine goes_ret ?_
    go_ret2
    exact ⟨HF.out, Below.refl _ _⟩

set_option maxHeartbeats 1000000 in
theorem two_15_any (a b : Int) (w : World) : Two 35 15 a b w := by
  have h := two_15 a b
  have r1 := wrap32_range a
  have r2 := wrap32_range b
  obtain ⟨A, hA⟩ : ∃ A, wrap32 a = A := ⟨_, rfl⟩
  obtain ⟨B, hB⟩ : ∃ A, wrap32 b = A := ⟨_, rfl⟩
  have HA := Lib.hid hA
  have HB := Lib.hid hB
  rw [hA, hB] at h
  rw [hA] at r1
  rw [hB] at r2
  clear hA hB r1 r2
  unfold Two
  have HF := Lib.hid (pair h)
  clear h
  by_cases hc : B < A
  all_goals
    first
      | (have hd : (decide (B < A)) = true := by simp [hc])
      | (have hd : (decide (B < A)) = false := by simp [Decidable.not_not.1 hc])
      | (have hd : (decide (B < A)) = false := by simp [hc])
    rw [hd] at HF
    clear hc
    go_enter Tryd.func35, Tryd.ntmps35
    go_wp2
    refine wp_scope_goes 1 ?_
    go_wp2_with (first | (go_at_call 47; refine (asInt_as _ _ (by assumption) _).mono ?_; rintro e w' ⟨rfl, rfl⟩) | go_in)
    refine goes_ret ?_
    go_ret2
    exact ⟨HF.out, Below.refl _ _⟩

set_option maxHeartbeats 1000000 in
theorem two_16_any (a b : Int) (w : World) : Two 35 16 a b w := by
  have h := two_16 a b
  have r1 := wrap32_range a
  have r2 := wrap32_range b
  obtain ⟨A, hA⟩ : ∃ A, wrap32 a = A := ⟨_, rfl⟩
  obtain ⟨B, hB⟩ : ∃ A, wrap32 b = A := ⟨_, rfl⟩
  have HA := Lib.hid hA
  have HB := Lib.hid hB
  rw [hA, hB] at h
  rw [hA] at r1
  rw [hB] at r2
  clear hA hB r1 r2
  unfold Two
  have HF := Lib.hid (pair h)
  clear h
  by_cases hc : B ≤ A
  all_goals
    first
      | (have hd : (decide (B ≤ A)) = true := by simp [hc])
      | (have hd : (decide (B ≤ A)) = false := by simp [Decidable.not_not.1 hc])
      | (have hd : (decide (B ≤ A)) = false := by simp [hc])
    rw [hd] at HF
    clear hc
    go_enter Tryd.func35, Tryd.ntmps35
    go_wp2
    refine wp_scope_goes 1 ?_
    go_wp2_with (first | (go_at_call 47; refine (asInt_as _ _ (by assumption) _).mono ?_; rintro e w' ⟨rfl, rfl⟩) | go_in)
    refine goes_ret ?_
    go_ret2
    exact ⟨HF.out, Below.refl _ _⟩

set_option maxHeartbeats 1000000 in
theorem two_17_any (a b : Int) (w : World) : Two 35 17 a b w := by
  have h := two_17 a b
  have r1 := wrap32_range a
  have r2 := wrap32_range b
  obtain ⟨A, hA⟩ : ∃ A, wrap32 a = A := ⟨_, rfl⟩
  obtain ⟨B, hB⟩ : ∃ A, wrap32 b = A := ⟨_, rfl⟩
  have HA := Lib.hid hA
  have HB := Lib.hid hB
  rw [hA, hB] at h
  rw [hA] at r1
  rw [hB] at r2
  clear hA hB r1 r2
  unfold Two
  have HF := Lib.hid (pair h)
  clear h
  by_cases hc : A = B
  all_goals
    first
      | (have hd : (A == B) = true := by simp [hc])
      | (have hd : (A == B) = false := by simp [Decidable.not_not.1 hc])
      | (have hd : (A == B) = false := by simp [hc])
    rw [hd] at HF
    clear hc
    go_enter Tryd.func35, Tryd.ntmps35
    go_wp2
    refine wp_scope_goes 1 ?_
    go_wp2_with (first | (go_at_call 47; refine (asInt_as _ _ (by assumption) _).mono ?_; rintro e w' ⟨rfl, rfl⟩) | go_in)
    refine goes_ret ?_
    go_ret2
    exact ⟨HF.out, Below.refl _ _⟩

set_option maxHeartbeats 1000000 in
theorem two_18_any (a b : Int) (w : World) : Two 35 18 a b w := by
  have h := two_18 a b
  have r1 := wrap32_range a
  have r2 := wrap32_range b
  obtain ⟨A, hA⟩ : ∃ A, wrap32 a = A := ⟨_, rfl⟩
  obtain ⟨B, hB⟩ : ∃ A, wrap32 b = A := ⟨_, rfl⟩
  have HA := Lib.hid hA
  have HB := Lib.hid hB
  rw [hA, hB] at h
  rw [hA] at r1
  rw [hB] at r2
  clear hA hB r1 r2
  unfold Two
  have HF := Lib.hid (pair h)
  clear h
  by_cases hc : ¬ A = B
  all_goals
    first
      | (have hd : (A != B) = true := by simp [hc])
      | (have hd : (A != B) = false := by simp [Decidable.not_not.1 hc])
      | (have hd : (A != B) = false := by simp [hc])
    rw [hd] at HF
    clear hc
    go_enter Tryd.func35, Tryd.ntmps35
    go_wp2
    refine wp_scope_goes 1 ?_
    go_wp2_with (first | (go_at_call 47; refine (asInt_as _ _ (by assumption) _).mono ?_; rintro e w' ⟨rfl, rfl⟩) | go_in)
    refine goes_ret ?_
    go_ret2
    exact ⟨HF.out, Below.refl _ _⟩

set_option maxHeartbeats 1000000 in
theorem two_else_any (op a b : Int) (w : World) (ho : op < 6 ∨ 21 < op) : Two 35 op a b w := by
  have h := two_else op a b ho
  unfold Two
  have HF := Lib.hid (pair h)
  obtain ⟨A, hA⟩ : ∃ A, wrap32 a = A := ⟨_, rfl⟩
  obtain ⟨B, hB⟩ : ∃ A, wrap32 b = A := ⟨_, rfl⟩
  have HA := Lib.hid hA
  have HB := Lib.hid hB
  clear h hA hB
  rcases ho with ho | ho
  all_goals
    go_enter Tryd.func35, Tryd.ntmps35
    go_wp2
    refine wp_scope_goes 1 ?_
    go_wp2_with (first | (go_at_call 47; refine (asInt_as _ _ (by assumption) _).mono ?_; rintro e w' ⟨rfl, rfl⟩) | go_in)
    refine goes_ret ?_
    go_ret2
    exact ⟨HF.out, Below.refl _ _⟩

theorem two_any (op a b : Int) (w : World) : Two 35 op a b w := by
  by_cases h : op < 6 ∨ 21 < op
  · exact two_else_any op a b w h
  · have h2 : op = 6 ∨ op = 7 ∨ op = 8 ∨ op = 9 ∨ op = 10 ∨ op = 11 ∨ op = 12 ∨ op = 13 ∨ op = 14 ∨ op = 15 ∨ op = 16 ∨ op = 17 ∨ op = 18 ∨ op = 19 ∨ op = 20 ∨ op = 21 := by omega
    rcases h2 with rfl | rfl | rfl | rfl | rfl | rfl | rfl | rfl | rfl | rfl | rfl | rfl | rfl | rfl | rfl | rfl
    · exact two_6_any a b w
    · by_cases h0 : wrap32 b = 0
      · exact two_7z_any a b w h0
      · exact two_7_any a b w h0
    · by_cases h0 : wrap32 b = 0
      · exact two_8z_any a b w h0
      · exact two_8_any a b w h0
    · exact two_9_any a b w
    · exact two_10_any a b w
    · exact two_11_any a b w
    · exact two_12_any a b w
    · exact two_13_any a b w
    · exact two_14_any a b w
    · exact two_15_any a b w
    · exact two_16_any a b w
    · exact two_17_any a b w
    · exact two_18_any a b w
    · exact two_19_any a b w
    · exact two_20_any a b w
    · exact two_21_any a b w


/-! ### One -/
theorem pair1 {op a x y : Int} (h : one op a = (x, y)) : Ending.returned (.tuple #[.int .i64 x, .int .i64 y]) = .returned (.tuple #[.int .i64 (one op a).1, .int .i64 (one op a).2]) := by
  rw [h]

def One (k : Nat) (op a : Int) (w : World) : Prop := Calls Tryd.prog k #[.int .i64 op, .int .i64 a] w fun e w' => e = .returned (.tuple #[.int .i64 (one op a).1, .int .i64 (one op a).2]) ∧ Below w.heap.size w w'

set_option maxHeartbeats 1000000 in
theorem one_3_any (a : Int) (w : World) : One 29 3 a w := by
  have h := one_3 a
  have r1 := wrap32_range a
  obtain ⟨A, hA⟩ : ∃ A, wrap32 a = A := ⟨_, rfl⟩
  have HA := Lib.hid hA
  rw [hA] at h
  rw [hA] at r1
  clear hA
  unfold One
  have HF := Lib.hid (pair1 h)
  have hb0 := Below.refl w.heap.size w
  clear h
  go_enter Tryd.func29, Tryd.ntmps29
  go_wp2
  refine wp_scope_goes 1 ?_
  go_wp2_with (first | (go_at_call 47; refine (asInt_as _ _ (by assumption) _).mono ?_; rintro e w' ⟨rfl, rfl⟩) | go_in)
  go_step3
  simp only [Exit.inBlock, Exit.then]
  refine goes_goto rfl ?_
  go_wp2_with (go_at_call 47; refine (asInt_any _ _).mono ?_; rintro e w' ⟨rfl, rfl⟩)
  refine goes_ret ?_
  go_ret2
  exact ⟨HF.out, Below.refl _ _⟩

set_option maxHeartbeats 1000000 in
theorem one_5_any (a : Int) (w : World) : One 29 5 a w := by
  have h := one_5 a
  have r1 := wrap32_range a
  obtain ⟨A, hA⟩ : ∃ A, wrap32 a = A := ⟨_, rfl⟩
  have HA := Lib.hid hA
  rw [hA] at h
  rw [hA] at r1
  clear hA
  unfold One
  have HF := Lib.hid (pair1 h)
  have hb0 := Below.refl w.heap.size w
  clear h
  have hn := Lib.hid ((congrArg wrap32 (flip_is A r1)).trans (wrap32_in (-A - 1) (by omega)))
  go_enter Tryd.func29, Tryd.ntmps29
  go_wp2
  refine wp_scope_goes 1 ?_
  go_wp2_with (first | (go_at_call 47; refine (asInt_as _ _ (by assumption) _).mono ?_; rintro e w' ⟨rfl, rfl⟩) | go_in)
  go_step3
  simp only [Exit.inBlock, Exit.then]
  refine goes_goto rfl ?_
  go_wp2_with (go_at_call 47; refine (asInt_as _ _ (by assumption) _).mono ?_; rintro e w' ⟨rfl, rfl⟩)
  refine goes_ret ?_
  go_ret2
  exact ⟨HF.out, Below.refl _ _⟩

set_option maxHeartbeats 1000000 in
theorem one_4_any (a : Int) (w : World) : One 29 4 a w := by
  have h := one_4 a
  have r1 := wrap32_range a
  obtain ⟨A, hA⟩ : ∃ A, wrap32 a = A := ⟨_, rfl⟩
  have HA := Lib.hid hA
  rw [hA] at h
  rw [hA] at r1
  clear hA
  unfold One
  have HF := Lib.hid (pair1 h)
  have hb0 := Below.refl w.heap.size w
  clear h
  by_cases hc : A = 0
  all_goals
    first
      | (have hd : (A == 0) = true := by simp [hc])
      | (have hd : (A == 0) = false := by simp [hc])
    rw [hd] at HF
    clear hc
    have h1 := Lib.hid (wrap32_in 1 (by decide))
    have h2 := Lib.hid (wrap32_in 0 (by decide))
    go_enter Tryd.func29, Tryd.ntmps29
    go_wp2
    refine wp_scope_goes 1 ?_
    go_wp2_with (first | (go_at_call 47; refine (asInt_as _ _ (by assumption) _).mono ?_; rintro e w' ⟨rfl, rfl⟩) | go_in)
    go_step3
    simp only [Exit.inBlock, Exit.then]
    refine goes_goto rfl ?_
    go_wp2_with (go_at_call 47; refine (asInt_as _ _ (by assumption) _).mono ?_; rintro e w' ⟨rfl, rfl⟩)
    refine goes_ret ?_
    go_ret2
    exact ⟨HF.out, Below.refl _ _⟩

set_option maxHeartbeats 1000000 in
theorem one_else_any (op a : Int) (w : World) (ho : op < 3 ∨ 5 < op) : One 29 op a w := by
  have h := one_else op a ho
  unfold One
  have HF := Lib.hid (pair1 h)
  obtain ⟨A, hA⟩ : ∃ A, wrap32 a = A := ⟨_, rfl⟩
  have HA := Lib.hid hA
  clear h hA
  rcases ho with ho | ho
  all_goals
    go_enter Tryd.func29, Tryd.ntmps29
    go_wp2
    refine wp_scope_goes 1 ?_
    go_wp2_with (first | (go_at_call 47; refine (asInt_as _ _ (by assumption) _).mono ?_; rintro e w' ⟨rfl, rfl⟩) | go_in)
    refine goes_ret ?_
    go_ret2
    exact ⟨HF.out, Below.refl _ _⟩

theorem one_any (op a : Int) (w : World) : One 29 op a w := by
  by_cases h : op < 3 ∨ 5 < op
  · exact one_else_any op a w h
  · have h2 : op = 3 ∨ op = 4 ∨ op = 5 := by omega
    rcases h2 with rfl | rfl | rfl
    · exact one_3_any a w
    · exact one_4_any a w
    · exact one_5_any a w

end Go.Proofs.YtbeikhgjkbnldaaDoor.val
