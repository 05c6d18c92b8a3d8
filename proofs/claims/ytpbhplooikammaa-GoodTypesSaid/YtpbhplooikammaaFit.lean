/- Type and Fits, the program's and the document's. -/
import Derived.Test.YtpbhplooikammaaRows
import Derived.WalkKit
import Derived.ProofKit
import Derived.Below
import Derived.Outline
import Derived.BigQuiet
import Derived.Deep.QuietTactic
import Derived.LoopN
import Derived.Lib.Hide
import Derived.Laws.Rows
import Derived.Deep.Cut
namespace Go.Proofs.Ytpbhplooikammaa
open Go.ChangeShapes Go.WideShapes Go.ChangeAt Go.RowKit

/-- The number in a value that is one. -/
def intOf : Value → Int
  | .int _ q => q
  | _ => 0

theorem retB {a b : Bool} (h : a = b) : Ending.returned (.bool a) = .returned (.bool b) := by rw [h]
/-- May a type be? -/
def tyB (b : Int) (s : Bool) : Bool := decide (1 ≤ b) && decide (b ≤ 32) && (!s || decide (b = 16) || decide (b = 32))

theorem type5 (b : Int) (s : Bool) (w : World) : Calls Try.prog 5 #[.agg #[.int .i64 b, .bool s]] w fun e w' => e = .returned (.bool (tyB b s)) ∧ Below w.heap.size w w' := by
  go_enter Try.func5, Try.ntmps5
  go_wp2
  all_goals (go_ret; refine ⟨retB ?_, Below.alloc (Below.refl _ _) (Nat.le_refl _) _⟩)
  all_goals (unfold tyB; rw [Bool.eq_iff_iff]; simp_all)
  all_goals omega
theorem type6 (b : Int) (s : Bool) (w : World) : Calls Try.prog 6 #[.agg #[.int .i64 b, .bool s]] w fun e w' => e = .returned (.bool (tyB b s)) ∧ Below w.heap.size w w' := by
  go_enter Try.func6, Try.ntmps6
  go_wp2
  all_goals (go_ret; refine ⟨retB ?_, Below.alloc (Below.refl _ _) (Nat.le_refl _) _⟩)
  all_goals (unfold tyB; rw [Bool.eq_iff_iff]; simp_all)
  all_goals omega

/-- Is a number one of a type? -/
def fitB (b : Int) (s : Bool) (v : Int) : Bool :=
  tyB b s && (if s then decide (-2 ^ (b.toNat - 1) ≤ v) && decide (v < 2 ^ (b.toNat - 1)) else decide (0 ≤ v) && decide (v < 2 ^ b.toNat))

theorem fits7 (b : Int) (s : Bool) (v : Int) (w : World) : Calls Try.prog 7 #[.agg #[.int .i64 b, .bool s], .int .i64 v] w fun e w' => e = .returned (.bool (fitB b s v)) ∧ Below w.heap.size w w' := by
  have HB := Lib.hid (Below.alloc (Below.refl w.heap.size w) (Nat.le_refl _) (.cells #[.int .i64 b, .bool s] 23))
  have HS : Hid (w.heap.size < (w.alloc (.cells #[.int .i64 b, .bool s] 23)).heap.size) := Lib.hid (by simp)
  have HC := Lib.hid (heap_alloc_new w (.cells #[.int .i64 b, .bool s] 23))
  go_enter Try.func7, Try.ntmps7
  go_wp2_with fail
  refine (type5 b s _).mono ?_
  rintro e w1 ⟨rfl, hb⟩
  have HB1 := Lib.hid (HB.out.trans (hb.mono (Nat.le_of_lt HS.out)))
  have c0 : w1.cell? ⟨w.heap.size, 0, none⟩ = some (.int .i64 b) := by
    rw [hb.cell HS.out, cell_of_row _ _ _ _ _ _ HC.out]; rfl
  have c1 : w1.cell? ⟨w.heap.size, 1, none⟩ = some (.bool s) := by
    rw [hb.cell HS.out, cell_of_row _ _ _ _ _ _ HC.out]; rfl
  clear hb HB HS HC
  cases hty : tyB b s
  · have hf : fitB b s v = false := by unfold fitB; rw [hty]; rfl
    go_wp2
    go_ret
    exact ⟨retB hf.symm, HB1.out⟩
  · have h1 : 1 ≤ b ∧ b ≤ 32 ∧ (s = true → b = 16 ∨ b = 32) := by
      unfold tyB at hty; simp at hty; cases s <;> simp_all
    obtain ⟨h1, h2, h3⟩ := h1
    cases s
    · have hf : fitB b false v = (decide (0 ≤ v) && decide (v < 2 ^ b.toNat)) := by unfold fitB; rw [hty]; rfl
      have hp : (2 : Int) ^ b.toNat ≤ 2 ^ 32 := by
        have := Nat.pow_le_pow_right (n := 2) (by decide) (show b.toNat ≤ 32 by omega)
        exact_mod_cast this
      have hq : (0 : Int) < 2 ^ b.toNat := Int.pow_pos (by decide)
      have HWR : Hid (wrap64 (2 ^ b.toNat) = 2 ^ b.toNat) := Lib.hid (IntWalk.wrap64_in _ (by omega))
      have HF := Lib.hid hf
      clear hf hp hq
      go_wp2
      all_goals (go_ret; refine ⟨retB (Eq.trans ?_ HF.out.symm), HB1.out⟩)
      all_goals (have hwr := HWR.out; rw [Bool.eq_iff_iff]; simp_all)
      all_goals omega
    · rcases h3 rfl with rfl | rfl
      · have hf : fitB 16 true v = (decide (-32768 ≤ v) && decide (v < 32768)) := by unfold fitB; rw [hty]; rfl
        skip
        go_wp2
        all_goals (go_ret; refine ⟨retB (Eq.trans ?_ hf.symm), HB1.out⟩)
        all_goals (rw [Bool.eq_iff_iff]; simp_all)
        all_goals omega
      · have hf : fitB 32 true v = (decide (-2147483648 ≤ v) && decide (v < 2147483648)) := by unfold fitB; rw [hty]; rfl
        skip
        go_wp2
        all_goals (go_ret; refine ⟨retB (Eq.trans ?_ hf.symm), HB1.out⟩)
        all_goals (rw [Bool.eq_iff_iff]; simp_all)
        all_goals omega

theorem two_step (k : Nat) : (2 : Int) * 2 ^ k = 2 ^ (k + 1) := by rw [Int.pow_succ]; omega
theorem pow_small (k : Nat) (h : k ≤ 32) : (2 : Int) ^ k ≤ 4294967296 ∧ 0 < (2 : Int) ^ k := by
  refine ⟨?_, Int.pow_pos (by decide)⟩
  have h1 := Nat.pow_le_pow_right (n := 2) (by decide) h
  have h2 : (2 : Int) ^ k ≤ 2 ^ 32 := by exact_mod_cast h1
  have h3 : (2 : Int) ^ 32 = 4294967296 := by decide
  omega

set_option maxRecDepth 100000 in
theorem fits8 (b : Int) (s : Bool) (v : Int) (w : World) : Calls Try.prog 8 #[.agg #[.int .i64 b, .bool s], .int .i64 v] w fun e w' => e = .returned (.bool (fitB b s v)) ∧ Below w.heap.size w w' := by
  have HB := Lib.hid (Below.alloc (Below.refl w.heap.size w) (Nat.le_refl _) (.cells #[.int .i64 b, .bool s] 23))
  have HS : Hid (w.heap.size < (w.alloc (.cells #[.int .i64 b, .bool s] 23)).heap.size) := Lib.hid (by simp)
  have HC := Lib.hid (heap_alloc_new w (.cells #[.int .i64 b, .bool s] 23))
  go_enter Try.func8, Try.ntmps8
  go_wp2_with fail
  refine (type6 b s _).mono ?_
  rintro e w1 ⟨rfl, hb⟩
  have HB1 := Lib.hid (HB.out.trans (hb.mono (Nat.le_of_lt HS.out)))
  have c0 : w1.cell? ⟨w.heap.size, 0, none⟩ = some (.int .i64 b) := by
    rw [hb.cell HS.out, cell_of_row _ _ _ _ _ _ HC.out]; rfl
  have c1 : w1.cell? ⟨w.heap.size, 1, none⟩ = some (.bool s) := by
    rw [hb.cell HS.out, cell_of_row _ _ _ _ _ _ HC.out]; rfl
  clear hb HB HS HC
  cases hty : tyB b s
  · have hf : fitB b s v = false := by unfold fitB; rw [hty]; rfl
    go_wp2
    go_ret
    exact ⟨retB hf.symm, HB1.out⟩
  · have h1 : 1 ≤ b ∧ b ≤ 32 ∧ (s = true → b = 16 ∨ b = 32) := by
      unfold tyB at hty; simp at hty; cases s <;> simp_all
    obtain ⟨h1, h2, h3⟩ := h1
    obtain ⟨n, rfl⟩ : ∃ n : Nat, b = n := ⟨b.toNat, by omega⟩
    cases s
    · have hf : fitB n false v = (decide (0 ≤ v) && decide (v < 2 ^ n)) := by unfold fitB; rw [hty]; rfl
      have HF := Lib.hid hf
      clear hf
      go_wp2
      go_loop [6, 8] (fun m i => ∃ k : Nat, i = .int .i64 k ∧ k ≤ n ∧ m = .int .i64 (2 ^ k)) (fun _ i => n - (intOf i).toNat)
      case atStart => exact ⟨0, rfl, by omega, rfl⟩
      case round =>
        obtain ⟨k, rfl, hk, rfl⟩ := hrel
        by_cases hlt : k < n
        · have HW := Lib.hid (two_step k)
          have hp := pow_small (k + 1) (by omega)
          have hi : IntKind.i64.wrap (2 * 2 ^ k) = 2 ^ (k + 1) := by rw [HW.out]; exact IntWalk.i64_in _ (by omega)
          clear hp
          go_wp2
          go_round
          case rel => exact ⟨k + 1, by go_num, by omega, by go_num⟩
          case measure => simp [intOf]; omega
        · obtain rfl : k = n := by omega
          go_wp2
          all_goals (go_ret; refine ⟨retB (Eq.trans ?_ HF.out.symm), HB1.out⟩)
          all_goals (rw [Bool.eq_iff_iff]; simp_all)
          all_goals omega
    · obtain ⟨m, rfl⟩ : ∃ m : Nat, n = m + 1 := ⟨n - 1, by omega⟩
      have hf : fitB (m + 1 : Nat) true v = (decide (-2 ^ m ≤ v) && decide (v < 2 ^ m)) := by unfold fitB; rw [hty]; rfl
      have HF := Lib.hid hf
      have hsub : IntKind.i64.wrap (((m + 1 : Nat) : Int) - 1) = m := by rw [IntWalk.i64_in _ (by omega)]; omega
      clear hf hty
      go_wp2
      go_loop [6, 8] (fun p i => ∃ k : Nat, i = .int .i64 k ∧ k ≤ m ∧ p = .int .i64 (2 ^ k)) (fun _ i => m - (intOf i).toNat)
      case atStart => exact ⟨0, rfl, by omega, rfl⟩
      case round =>
        obtain ⟨k, rfl, hk, rfl⟩ := hrel
        by_cases hlt : k < m
        · have HW := Lib.hid (two_step k)
          have hp := pow_small (k + 1) (by omega)
          have hi : IntKind.i64.wrap (2 * 2 ^ k) = 2 ^ (k + 1) := by rw [HW.out]; exact IntWalk.i64_in _ (by omega)
          clear hp
          go_wp2
          go_round
          case rel => exact ⟨k + 1, by go_num, by omega, by go_num⟩
          case measure => simp [intOf]; omega
        · obtain rfl : k = m := by omega
          have hp := pow_small k (by omega)
          have hn : IntKind.i64.wrap (-(2 ^ k)) = -2 ^ k := IntWalk.i64_in _ (by omega)
          clear hp
          go_wp2
          all_goals (go_ret; refine ⟨retB (Eq.trans ?_ HF.out.symm), HB1.out⟩)
          all_goals (rw [Bool.eq_iff_iff]; simp_all)
          all_goals omega
end Go.Proofs.Ytpbhplooikammaa
