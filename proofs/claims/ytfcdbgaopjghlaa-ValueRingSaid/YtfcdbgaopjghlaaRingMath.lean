/- The ring of 32 bits, in plain numbers. -/
import Derived.Test.YtfcdbgaopjghlaaMath2
namespace Go.Proofs.Ytfcdbgaopjghlaa
open Go.RowKit

theorem wrap32_eq (a b : Int) (h : (4294967296 : Int) ∣ a - b) : wrap32 a = wrap32 b := by
  obtain ⟨k, hk⟩ := h
  exact wrap32_congr a b k (by omega)
theorem wrap32_dvd (a : Int) : (4294967296 : Int) ∣ wrap32 a - a := ⟨-((a + 2147483648) / 4294967296), by unfold wrap32; omega⟩
theorem wrap32_wrap32 (a : Int) : wrap32 (wrap32 a) = wrap32 a := wrap32_in _ (wrap32_range a)

theorem ring_back (a b : Int) : two 10 (wrap32 (wrap32 a + wrap32 b)) b = (wrap32 a, 0) := by
  rw [two_10, wrap32_wrap32]
  have r1 := wrap32_range a
  have r2 := wrap32_range b
  generalize wrap32 a = A at *
  generalize wrap32 b = B at *
  rw [show wrap32 (wrap32 (A + B) - B) = A by unfold wrap32; omega]

theorem ring_dist (a b : Int) : two 9 (wrap32 (wrap32 a * wrap32 a)) (wrap32 (wrap32 a * wrap32 b)) = (wrap32 (wrap32 a * wrap32 (wrap32 (wrap32 a + wrap32 b))), 0) := by
  rw [two_9, wrap32_wrap32, wrap32_wrap32, wrap32_wrap32]
  generalize wrap32 a = A at *
  generalize wrap32 b = B at *
  congr 1
  apply wrap32_eq
  obtain ⟨k1, h1⟩ := wrap32_dvd (A * A)
  obtain ⟨k2, h2⟩ := wrap32_dvd (A * B)
  obtain ⟨k3, h3⟩ := wrap32_dvd (A + B)
  refine ⟨k1 + k2 - A * k3, ?_⟩
  have e : A * wrap32 (A + B) = A * A + A * B + 4294967296 * (A * k3) := by
    rw [show wrap32 (A + B) = A + B + 4294967296 * k3 by omega, Int.mul_add, Int.mul_add, Int.mul_left_comm]
  rw [e]
  omega

theorem ring_zero (a : Int) : two 9 a (wrap32 (- wrap32 a)) = (0, 0) := by
  rw [two_9, wrap32_wrap32]
  generalize wrap32 a = A
  rw [show wrap32 (A + wrap32 (-A)) = 0 by unfold wrap32; omega]

theorem ring_div (a b : Int) (h : ¬ wrap32 b = 0) : two 9 (wrap32 (wrap32 (wrap32 ((wrap32 a).tdiv (wrap32 b))) * wrap32 b)) ((wrap32 a).tmod (wrap32 b)) = (wrap32 a, 0) := by
  have r1 := wrap32_range a
  have r2 := wrap32_range b
  rw [two_9, wrap32_wrap32]
  generalize wrap32 a = A at *
  generalize wrap32 b = B at *
  have r3 := tmod_range A B r2 h
  rw [wrap32_in _ r3, wrap32_wrap32]
  have e := Int.tmod_add_mul_tdiv A B
  obtain ⟨k1, h1⟩ := wrap32_dvd (A.tdiv B)
  obtain ⟨k2, h2⟩ := wrap32_dvd (wrap32 (A.tdiv B) * B)
  have e2 : wrap32 (A.tdiv B) * B = B * A.tdiv B + 4294967296 * (k1 * B) := by
    rw [show wrap32 (A.tdiv B) = A.tdiv B + 4294967296 * k1 by omega, Int.add_mul, Int.mul_comm (A.tdiv B), Int.mul_assoc]
  have e3 : wrap32 (wrap32 (wrap32 (A.tdiv B) * B) + A.tmod B) = wrap32 A := by
    apply wrap32_eq
    refine ⟨k2 + k1 * B, ?_⟩
    omega
  rw [e3, wrap32_in A r1]

theorem ring_sh (a c : Int) (h : ¬ wrap32 c = -2147483648) : two 12 a (- wrap32 c) = (wrap32 (shI (wrap32 a) (wrap32 c)), 0) := by
  have r := wrap32_range c
  rw [two_12, wrap32_in (- wrap32 c) (by omega), Int.neg_neg]
end Go.Proofs.Ytfcdbgaopjghlaa
