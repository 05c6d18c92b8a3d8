/- Plain mathematics of numbers of 1 to 32 bits: what a number becomes in a variable of a type, shifts, and how one reckons with ints. No program is spoken of here. -/
import Derived.Laws.BitsLemmas
import Derived.RowKit
import Derived.WalkKit
namespace Go.Proofs.Ytfcoljioojidnaa
open Go.RowKit

/-- What becomes of v in a type of b bits, signed or not. -/
def fitI (b : Int) (s : Bool) (v : Int) : Int :=
  if b < 1 ∨ 32 < b then 0 else
  if s = true ∧ 2 ^ (b.toNat - 1) ≤ v % 2 ^ b.toNat then v % 2 ^ b.toNat - 2 ^ b.toNat else v % 2 ^ b.toNat

theorem pows (b : Int) (h1 : 1 ≤ b) (h2 : b ≤ 32) : ∃ H : Int, (2 : Int) ^ (b.toNat - 1) = H ∧ (2 : Int) ^ b.toNat = 2 * H ∧ 1 ≤ H ∧ H ≤ 2147483648 := by
  have h : b = 1 ∨ b = 2 ∨ b = 3 ∨ b = 4 ∨ b = 5 ∨ b = 6 ∨ b = 7 ∨ b = 8 ∨ b = 9 ∨ b = 10 ∨ b = 11 ∨ b = 12 ∨ b = 13 ∨ b = 14 ∨ b = 15 ∨ b = 16 ∨ b = 17 ∨ b = 18 ∨ b = 19 ∨ b = 20 ∨ b = 21 ∨ b = 22 ∨ b = 23 ∨ b = 24 ∨ b = 25 ∨ b = 26 ∨ b = 27 ∨ b = 28 ∨ b = 29 ∨ b = 30 ∨ b = 31 ∨ b = 32 := by omega
  refine ⟨_, rfl, ?_⟩
  rcases h with h | h | h | h | h | h | h | h | h | h | h | h | h | h | h | h | h | h | h | h | h | h | h | h | h | h | h | h | h | h | h | h <;> subst h <;> decide

/-- 'v & (2^n - 1)' on an int64 is v modulo 2^n, of whatever sign v is. -/
theorem bits_low (n : Nat) (hn : n ≤ 32) (v : Int) : bits .and .i64 v (2 ^ n - 1) = v % 2 ^ n := by
  have hpos : 0 < 2 ^ n := Nat.two_pow_pos n
  have hle : 2 ^ n ≤ 2 ^ 32 := Nat.pow_le_pow_right (by decide) hn
  have hc : ((2 : Int) ^ n - 1) = ((2 ^ n - 1 : Nat) : Int) := by
    rw [Int.natCast_sub hpos]; simp
  have hd : ((2 ^ n : Nat) : Int) ∣ ((18446744073709551616 : Nat) : Int) := by
    refine Int.natCast_dvd_natCast.2 ?_
    exact ⟨2 ^ (64 - n), by rw [← Nat.pow_add]; rw [show n + (64 - n) = 64 from by omega]⟩
  have e1 : (BitVec.ofInt 64 v).toNat = (v % 18446744073709551616).toNat := BitVec.toNat_ofInt v
  have e2 : (2 ^ n - 1) % 18446744073709551616 = 2 ^ n - 1 := Nat.mod_eq_of_lt (by omega)
  have e3 : (((v % 18446744073709551616).toNat % 2 ^ n : Nat) : Int) = v % 2 ^ n := by
    rw [Int.natCast_emod, Int.toNat_of_nonneg (Int.emod_nonneg _ (by decide))]
    have := Int.emod_emod_of_dvd v hd
    simpa using this
  have hb : (0 : Int) ≤ v % 2 ^ n := Int.emod_nonneg _ (by have : (0 : Int) < 2 ^ n := by exact_mod_cast hpos
                                                           omega)
  have hb2 : v % 2 ^ n < 4294967296 := by
    have h3 : (0 : Int) < 2 ^ n := by exact_mod_cast hpos
    have h4 := Int.emod_lt_of_pos v h3
    have h5 : (2 : Int) ^ n ≤ 4294967296 := by (have h := Int.ofNat_le.2 hle; rw [Int.natCast_pow] at h; exact h)
    omega
  have e4 : (BitVec.ofInt 64 ((2 ^ n - 1 : Nat) : Int)).toNat = 2 ^ n - 1 := by rw [BitVec.ofInt_natCast, BitVec.toNat_ofNat]; exact e2
  rw [hc]
  show IntKind.i64.wrap ((BitVec.ofInt 64 v &&& BitVec.ofInt 64 ((2 ^ n - 1 : Nat) : Int)).toNat : Int) = _
  rw [BitVec.toNat_and, e1, e4, Nat.and_two_pow_sub_one_eq_mod, e3, IntKind.wrap_i64]
  omega

theorem fit_32 (v : Int) : fitI 32 true v = wrap32 v := by
  unfold fitI wrap32
  simp
  split <;> omega

/-- Fitted once, it stays. -/
theorem fit_fit (b : Int) (s : Bool) (v : Int) : fitI b s (fitI b s v) = fitI b s v := by
  unfold fitI
  by_cases h : b < 1 ∨ 32 < b
  · simp [h]
  · obtain ⟨H, h1, h2, h3, h4⟩ := pows b (by omega) (by omega)
    rw [if_neg h, if_neg h]
    simp only [h1, h2]
    have p1 := Int.emod_nonneg v (show (2 * H : Int) ≠ 0 by omega)
    have p2 := Int.emod_lt_of_pos v (show (0 : Int) < 2 * H by omega)
    have e1 : v % (2 * H) % (2 * H) = v % (2 * H) := Int.emod_emod_of_dvd v (Int.dvd_refl _)
    have e2 : (v % (2 * H) - 2 * H) % (2 * H) = v % (2 * H) := by rw [Int.sub_emod_right, e1]
    split
    · rename_i hh
      rw [e2, if_pos hh]
    · rename_i hh
      rw [e1, if_neg hh]

theorem fit_range (b : Int) (s : Bool) (v : Int) : -2147483648 ≤ fitI b s v ∧ fitI b s v ≤ 4294967295 := by
  unfold fitI
  by_cases h : b < 1 ∨ 32 < b
  · simp [h]
  · obtain ⟨H, h1, h2, h3, h4⟩ := pows b (by omega) (by omega)
    rw [if_neg h]
    simp only [h1, h2]
    have p1 := Int.emod_nonneg v (show (2 * H : Int) ≠ 0 by omega)
    have p2 := Int.emod_lt_of_pos v (show (0 : Int) < 2 * H by omega)
    split <;> omega

theorem wrap32_range (v : Int) : -2147483648 ≤ wrap32 v ∧ wrap32 v ≤ 2147483647 := by
  unfold wrap32; omega

/-- An int, shifted to the left by p places, or, below 0, to the right. -/
def shI (a p : Int) : Int := if 32 ≤ p then 0 else if 0 ≤ p then a * 2 ^ p.toNat else a / 2 ^ (-p).toNat

/-- 'x >> y' on an int64, whatever y is, from 0 on. -/
theorem shr_any (yk : IntKind) (x y : Int) (hx : -2147483648 ≤ x) (hx' : x ≤ 2147483647) (hy : 0 ≤ y) :
    Op.shift .shr .i64 x yk y = pure (.int .i64 (x / 2 ^ y.toNat)) := by
  by_cases h : y ≤ 64
  · exact shift_shr .i64 yk x y hy (by simp [IntKind.bits]; omega)
  · have hm : min y.toNat 64 = 64 := by omega
    have hk : (IntKind.bits .i64) = 64 := rfl
    have big : (18446744073709551616 : Int) ≤ 2 ^ y.toNat := by
      have h1 : 2 ^ 64 ≤ 2 ^ y.toNat := Nat.pow_le_pow_right (by decide) (by omega)
      have h2 := Int.ofNat_le.2 h1
      rw [Int.natCast_pow] at h2
      exact h2
    have e : x / 2 ^ y.toNat = x / 18446744073709551616 := by
      by_cases hs : 0 ≤ x
      · rw [Int.ediv_eq_zero_of_lt hs (by omega), Int.ediv_eq_zero_of_lt hs (by omega)]
      · rw [Int.ediv_eq_neg_one_of_neg_of_le (by omega) (by omega), Int.ediv_eq_neg_one_of_neg_of_le (by omega) (by omega)]
    have hf : Int.fdiv x (2 ^ 64) = x / 18446744073709551616 := Int.fdiv_eq_ediv_of_nonneg _ (by decide)
    have hn : ¬ y < 0 := by omega
    simp only [Op.shift, hk, hm, e, hf, if_neg hn]

end Go.Proofs.Ytfcoljioojidnaa
