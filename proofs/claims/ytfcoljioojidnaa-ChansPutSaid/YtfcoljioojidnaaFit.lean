/- The smallest contracts: types, fitted numbers; the program's and the document's. -/
import Derived.Test.YtfcoljioojidnaaBase
import Derived.Test.YtfcoljioojidnaaFitMath
import Derived.OpenShut
namespace Go.Proofs.Ytfcoljioojidnaa
open Go.ChangeShapes Go.WideShapes Go.ChangeAt Go.RowKit

theorem ret_int {k : IntKind} {a b : Int} (h : a = b) : Ending.returned (.int k a) = .returned (.int k b) := by rw [h]

theorem w64 (n : Int) (h : -9223372036854775808 ≤ n ∧ n ≤ 9223372036854775807) : wrap64 n = n := by unfold wrap64; omega

set_option maxHeartbeats 400000 in
theorem fit_x (b v : Int) (s : Bool) (w : World) :
    Calls Try.prog 20 #[.agg #[.int .i64 b, .bool s], .int .i64 v] w fun e w' => e = .returned (.int .i64 (fitI b s v)) ∧ w' = w.alloc (.cells #[.int .i64 b, .bool s] 47) := by
  by_cases h : b < 1 ∨ 32 < b
  · have hf : fitI b s v = 0 := by unfold fitI; rw [if_pos h]
    have HF := Lib.hid hf
    clear hf
    rcases h with h | h
    · go_enter Try.func20, Try.ntmps20
      go_wp2
      go_ret
      exact ⟨ret_int HF.out.symm, rfl⟩
    · have h' : ¬ b < 1 := by omega
      go_enter Try.func20, Try.ntmps20
      go_wp2
      go_ret
      exact ⟨ret_int HF.out.symm, rfl⟩
  · have h1 : 1 ≤ b := by omega
    have h2 : b ≤ 32 := by omega
    obtain ⟨H, p1, p2, p3, p4⟩ := pows b h1 h2
    have hf : fitI b s v = if s = true ∧ H ≤ v % (2 * H) then v % (2 * H) - 2 * H else v % (2 * H) := by unfold fitI; rw [if_neg h, p1, p2]
    have hl : bits .and .i64 v (2 * H - 1) = v % (2 * H) := by rw [← p2]; exact bits_low b.toNat (by omega) v
    have q1 := Int.emod_nonneg v (show (2 * H : Int) ≠ 0 by omega)
    have q2 := Int.emod_lt_of_pos v (show (0 : Int) < 2 * H by omega)
    generalize v % (2 * H) = L at *
    have hm : wrap64 (2 ^ b.toNat) = 2 * H := by rw [p2]; exact w64 _ (by omega)
    have HF := Lib.hid hf
    clear hf p2 h
    cases s
    · go_enter Try.func20, Try.ntmps20
      go_wp2
      go_ret
      exact ⟨ret_int (by rw [HF.out]; simp), rfl⟩
    · by_cases hh : H ≤ L
      · have hq : (L / H != 0) = true := by
          rw [bne_iff_ne]
          have : 1 ≤ L / H := (Int.le_ediv_iff_mul_le (by omega)).2 (by omega)
          omega
        go_enter Try.func20, Try.ntmps20
        go_wp2
        go_ret
        exact ⟨ret_int (by rw [HF.out]; simp [hh]), rfl⟩
      · have hq : (L / H != 0) = false := by
          have : L / H = 0 := Int.ediv_eq_zero_of_lt (by omega) (by omega)
          simp [this]
        go_enter Try.func20, Try.ntmps20
        go_wp2
        go_ret
        exact ⟨ret_int (by rw [HF.out]; rw [if_neg (by omega)]), rfl⟩

set_option maxHeartbeats 400000 in
theorem rfit_x (b v : Int) (s : Bool) (w : World) :
    Calls Try.prog 25 #[.agg #[.int .i64 b, .bool s], .int .i64 v] w fun e w' => e = .returned (.int .i64 (fitI b s v)) ∧ w' = (w.alloc (.cells #[.int .i64 b, .bool s] 47)).alloc (.cells #[.int .i64 b, .bool s] 47) := by
  by_cases h : b < 1 ∨ 32 < b
  · have hf : fitI b s v = 0 := by unfold fitI; rw [if_pos h]
    have HF := Lib.hid hf
    clear hf
    rcases h with h | h
    · go_enter Try.func25, Try.ntmps25
      go_wp2
      go_ret
      exact ⟨ret_int HF.out.symm, rfl⟩
    · have h' : 1 ≤ b := by omega
      have h3 : decide (b ≤ 32) = false := by simp; omega
      go_enter Try.func25, Try.ntmps25
      go_wp2
      go_ret
      exact ⟨ret_int HF.out.symm, rfl⟩
  · have h1 : 1 ≤ b := by omega
    have h2 : b ≤ 32 := by omega
    obtain ⟨H, p1, p2, p3, p4⟩ := pows b h1 h2
    have hf : fitI b s v = if s = true ∧ H ≤ v % (2 * H) then v % (2 * H) - 2 * H else v % (2 * H) := by unfold fitI; rw [if_neg h, p1, p2]
    have q1 := Int.emod_nonneg v (show (2 * H : Int) ≠ 0 by omega)
    have q2 := Int.emod_lt_of_pos v (show (0 : Int) < 2 * H by omega)
    have t1 : v.tmod (2 * H) = v % (2 * H) ∨ (v.tmod (2 * H) = v % (2 * H) - 2 * H ∧ v.tmod (2 * H) < 0) := by
      by_cases hs : 0 ≤ v
      · exact .inl (Int.tmod_eq_emod_of_nonneg hs)
      · by_cases hd : v % (2 * H) = 0
        · left; rw [hd]; exact Int.tmod_eq_zero_of_dvd (Int.dvd_of_emod_eq_zero hd)
        · right
          have : v.tmod (2 * H) = v % (2 * H) - 2 * H := by
            rw [Int.tmod_eq_emod, if_neg]
            · have : ((2 * H).natAbs : Int) = 2 * H := by omega
              omega
            · intro hc
              rcases hc with hc | hc
              · exact hs hc
              · exact hd (Int.emod_eq_zero_of_dvd hc)
          exact ⟨this, by omega⟩
    generalize v % (2 * H) = L at *
    have hm : wrap64 (2 ^ b.toNat) = 2 * H := by rw [p2]; exact w64 _ (by omega)
    have hne : ((2 * H : Int) == 0) = false := by simp; omega
    have HF := Lib.hid hf
    have hH : 0 < 2 * H := by omega
    clear hf p1 p2 h
    rcases t1 with t1 | ⟨t1, t2⟩ <;> cases s
    all_goals
      go_enter Try.func25, Try.ntmps25
      go_wp2
    all_goals
      go_ret
      exact ⟨ret_int (by rw [HF.out]; split <;> first | rfl | omega | simp_all), rfl⟩

theorem fit_any (b v : Int) (s : Bool) (w : World) :
    Calls Try.prog 20 #[.agg #[.int .i64 b, .bool s], .int .i64 v] w fun e w' => e = .returned (.int .i64 (fitI b s v)) ∧ Below w.heap.size w w' :=
  (fit_x b v s w).mono fun _ _ ⟨he, hw⟩ => ⟨he, by rw [hw]; exact (Below.refl _ _).alloc (Nat.le_refl _) _⟩

theorem rfit_any (b v : Int) (s : Bool) (w : World) :
    Calls Try.prog 25 #[.agg #[.int .i64 b, .bool s], .int .i64 v] w fun e w' => e = .returned (.int .i64 (fitI b s v)) ∧ Below w.heap.size w w' :=
  (rfit_x b v s w).mono fun _ _ ⟨he, hw⟩ => ⟨he, by rw [hw]; exact ((Below.refl _ _).alloc (Nat.le_refl _) _).alloc (by simp) _⟩

theorem retB {a b : Bool} (h : a = b) : Ending.returned (.bool a) = .returned (.bool b) := by rw [h]
theorem type19 (b : Int) (s : Bool) (w : World) : Calls Try.prog 19 #[.agg #[.int .i64 b, .bool s]] w fun e w' => e = .returned (.bool (tyB b s)) ∧ Below w.heap.size w w' := by
  go_enter Try.func19, Try.ntmps19
  go_wp2
  all_goals (go_ret; refine ⟨retB ?_, Below.alloc (Below.refl _ _) (Nat.le_refl _) _⟩)
  all_goals (unfold tyB; rw [Bool.eq_iff_iff]; simp_all)
  all_goals omega
theorem type16 (b : Int) (s : Bool) (w : World) : Calls Try.prog 16 #[.agg #[.int .i64 b, .bool s]] w fun e w' => e = .returned (.bool (tyB b s)) ∧ Below w.heap.size w w' := by
  go_enter Try.func16, Try.ntmps16
  go_wp2
  all_goals (go_ret; refine ⟨retB ?_, Below.alloc (Below.refl _ _) (Nat.le_refl _) _⟩)
  all_goals (unfold tyB; rw [Bool.eq_iff_iff]; simp_all)
  all_goals omega
end Go.Proofs.Ytfcoljioojidnaa
