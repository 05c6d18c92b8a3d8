/- Plain mathematics of numbers of 1 to 32 bits: what a number becomes in a variable of a type, shifts, and how one reckons with ints. No program is spoken of here. -/
import Derived.Laws.BitsLemmas
import Derived.RowKit
import Derived.WalkKit
import Derived.Scope
import Derived.WalkMore
namespace Go.Proofs.YtbhgdlfndamklaaGreatDoor.val
open Go.RowKit

/-- What becomes of v in a type of b bits, signed or not. -/
def fitI (b : Int) (s : Bool) (v : Int) : Int :=
  if b < 1 ∨ 32 < b then 0 else
  if s = true ∧ 2 ^ (b.toNat - 1) ≤ v % 2 ^ b.toNat then v % 2 ^ b.toNat - 2 ^ b.toNat else v % 2 ^ b.toNat

theorem pows (b : Int) (h1 : 1 ≤ b) (h2 : b ≤ 32) : ∃ H : Int, (2 : Int) ^ (b.toNat - 1) = H ∧ (2 : Int) ^ b.toNat = 2 * H ∧ 1 ≤ H ∧ H ≤ 2147483648 := by
  have h : b = 1 ∨ b = 2 ∨ b = 3 ∨ b = 4 ∨ b = 5 ∨ b = 6 ∨ b = 7 ∨ b = 8 ∨ b = 9 ∨ b = 10 ∨ b = 11 ∨ b = 12 ∨ b = 13 ∨ b = 14 ∨ b = 15 ∨ b = 16 ∨ b = 17 ∨ b = 18 ∨ b = 19 ∨ b = 20 ∨ b = 21 ∨ b = 22 ∨ b = 23 ∨ b = 24 ∨ b = 25 ∨ b = 26 ∨ b = 27 ∨ b = 28 ∨ b = 29 ∨ b = 30 ∨ b = 31 ∨ b = 32 := by omega
  refine ⟨_, rfl, ?_⟩
  rcases h with h | h | h | h | h | h | h | h | h | h | h | h | h | h | h | h | h | h | h | h | h | h | h | h | h | h | h | h | h | h | h | h <;> subst h <;> decide

theorem fit_32 (v : Int) : fitI 32 true v = wrap32 v := by
  unfold fitI wrap32
  simp
  split <;> omega

theorem wrap32_range (v : Int) : -2147483648 ≤ wrap32 v ∧ wrap32 v ≤ 2147483647 := by
  unfold wrap32; omega

/-- An int, shifted to the left by p places, or, below 0, to the right. -/
def shI (a p : Int) : Int := if 32 ≤ p then 0 else if 0 ≤ p then a * 2 ^ p.toNat else a / 2 ^ (-p).toNat

/-- 'x >> y' on an int64, whatever y is, from 0 on. -/
theorem shr_any (yk : IntKind) (x y : Int) (hx : -2147483648 ≤ x) (hx' : x ≤ 2147483647) (hy : 0 ≤ y) :
    Op.shift .shr .i64 x yk y = pure (.int .i64 (x / 2 ^ y.toNat)) := by
  by_cases h : y ≤ 64
  · exact shift_shr .i64 yk x y hy (by simp [IntKind.bits]; omega)
  · have hm : min y.toNat 64 = 64 := by omega
    have hk : (IntKind.bits .i64) = 64 := rfl
    have big : (18446744073709551616 : Int) ≤ 2 ^ y.toNat := by
      have h1 : 2 ^ 64 ≤ 2 ^ y.toNat := Nat.pow_le_pow_right (by decide) (by omega)
      have h2 := Int.ofNat_le.2 h1
      rw [Int.natCast_pow] at h2
      exact h2
    have e : x / 2 ^ y.toNat = x / 18446744073709551616 := by
      by_cases hs : 0 ≤ x
      · rw [Int.ediv_eq_zero_of_lt hs (by omega), Int.ediv_eq_zero_of_lt hs (by omega)]
      · rw [Int.ediv_eq_neg_one_of_neg_of_le (by omega) (by omega), Int.ediv_eq_neg_one_of_neg_of_le (by omega) (by omega)]
    have hf : Int.fdiv x (2 ^ 64) = x / 18446744073709551616 := Int.fdiv_eq_ediv_of_nonneg _ (by decide)
    have hn : ¬ y < 0 := by omega
    simp only [Op.shift, hk, hm, e, hf, if_neg hn]

end Go.Proofs.YtbhgdlfndamklaaGreatDoor.val
/- Plain mathematics: how one reckons with two numbers, and with one, as the document says. -/
namespace Go.Proofs.YtbhgdlfndamklaaGreatDoor.val
open Go.RowKit

def b2i (c : Bool) : Int := if c then 1 else 0

def two (op a b : Int) : Int × Int :=
  if op = 6 then (wrap32 (wrap32 a * wrap32 b), 0) else
  if op = 7 then (if wrap32 b = 0 then (0, 48) else (wrap32 ((wrap32 a).tdiv (wrap32 b)), 0)) else
  if op = 8 then (if wrap32 b = 0 then (0, 48) else ((wrap32 a).tmod (wrap32 b), 0)) else
  if op = 9 then (wrap32 (wrap32 a + wrap32 b), 0) else
  if op = 10 then (wrap32 (wrap32 a - wrap32 b), 0) else
  if op = 11 then (wrap32 (shI (wrap32 a) (wrap32 b)), 0) else
  if op = 12 then (wrap32 (shI (wrap32 a) (- wrap32 b)), 0) else
  if op = 13 then (b2i (decide (wrap32 a < wrap32 b)), 0) else
  if op = 14 then (b2i (decide (wrap32 a ≤ wrap32 b)), 0) else
  if op = 15 then (b2i (decide (wrap32 b < wrap32 a)), 0) else
  if op = 16 then (b2i (decide (wrap32 b ≤ wrap32 a)), 0) else
  if op = 17 then (b2i (wrap32 a == wrap32 b), 0) else
  if op = 18 then (b2i (wrap32 a != wrap32 b), 0) else
  if op = 19 then (bits .and .i64 (wrap32 a) (wrap32 b), 0) else
  if op = 20 then (bits .xor .i64 (wrap32 a) (wrap32 b), 0) else
  if op = 21 then (bits .or .i64 (wrap32 a) (wrap32 b), 0) else (0, 42)

theorem two_6 (a b : Int) : two 6 a b = (wrap32 (wrap32 a * wrap32 b), 0) := rfl
theorem two_7z (a b : Int) (h : wrap32 b = 0) : two 7 a b = (0, 48) := by show (if wrap32 b = 0 then _ else _) = _; rw [if_pos h]
theorem two_7 (a b : Int) (h : ¬ wrap32 b = 0) : two 7 a b = (wrap32 ((wrap32 a).tdiv (wrap32 b)), 0) := by show (if wrap32 b = 0 then _ else _) = _; rw [if_neg h]
theorem two_8z (a b : Int) (h : wrap32 b = 0) : two 8 a b = (0, 48) := by show (if wrap32 b = 0 then _ else _) = _; rw [if_pos h]
theorem two_8 (a b : Int) (h : ¬ wrap32 b = 0) : two 8 a b = ((wrap32 a).tmod (wrap32 b), 0) := by show (if wrap32 b = 0 then _ else _) = _; rw [if_neg h]
theorem two_9 (a b : Int) : two 9 a b = (wrap32 (wrap32 a + wrap32 b), 0) := rfl
theorem two_10 (a b : Int) : two 10 a b = (wrap32 (wrap32 a - wrap32 b), 0) := rfl
theorem two_11 (a b : Int) : two 11 a b = (wrap32 (shI (wrap32 a) (wrap32 b)), 0) := rfl
theorem two_12 (a b : Int) : two 12 a b = (wrap32 (shI (wrap32 a) (- wrap32 b)), 0) := rfl
theorem two_13 (a b : Int) : two 13 a b = (b2i (decide (wrap32 a < wrap32 b)), 0) := rfl
theorem two_14 (a b : Int) : two 14 a b = (b2i (decide (wrap32 a ≤ wrap32 b)), 0) := rfl
theorem two_15 (a b : Int) : two 15 a b = (b2i (decide (wrap32 b < wrap32 a)), 0) := rfl
theorem two_16 (a b : Int) : two 16 a b = (b2i (decide (wrap32 b ≤ wrap32 a)), 0) := rfl
theorem two_17 (a b : Int) : two 17 a b = (b2i (wrap32 a == wrap32 b), 0) := rfl
theorem two_18 (a b : Int) : two 18 a b = (b2i (wrap32 a != wrap32 b), 0) := rfl
theorem two_19 (a b : Int) : two 19 a b = (bits .and .i64 (wrap32 a) (wrap32 b), 0) := rfl
theorem two_20 (a b : Int) : two 20 a b = (bits .xor .i64 (wrap32 a) (wrap32 b), 0) := rfl
theorem two_21 (a b : Int) : two 21 a b = (bits .or .i64 (wrap32 a) (wrap32 b), 0) := rfl
theorem two_else (op a b : Int) (h : op < 6 ∨ 21 < op) : two op a b = (0, 42) := by
  unfold two
  repeat (rw [if_neg (by omega)])

/-! Bits of ints, in 64 places, are ints. -/
theorem ofInt_sign (a : Int) (h : -2147483648 ≤ a ∧ a ≤ 2147483647) : BitVec.ofInt 64 a = (BitVec.ofInt 32 a).signExtend 64 := by
  have h1 : (BitVec.ofInt 32 a).toInt = a := by
    rw [BitVec.toInt_ofInt]
    exact Int.bmod_eq_of_le (by omega) (by omega)
  unfold BitVec.signExtend
  rw [h1]

theorem wrap_toInt (x : BitVec 64) : IntKind.i64.wrap (x.toNat : Int) = x.toInt := by
  rw [IntKind.wrap_i64, BitVec.toInt_eq_toNat_cond]
  have := x.isLt
  split <;> omega

theorem toInt_range (x : BitVec 32) : -2147483648 ≤ (x.signExtend 64).toInt ∧ (x.signExtend 64).toInt ≤ 2147483647 := by
  rw [BitVec.toInt_signExtend_of_le (by decide)]
  have h1 := BitVec.le_toInt x
  have h2 := BitVec.toInt_lt (x := x)
  simp at h1 h2
  omega

theorem and_range (a b : Int) (ha : -2147483648 ≤ a ∧ a ≤ 2147483647) (hb : -2147483648 ≤ b ∧ b ≤ 2147483647) :
    -2147483648 ≤ bits .and .i64 a b ∧ bits .and .i64 a b ≤ 2147483647 := by
  have : bits .and .i64 a b = ((BitVec.ofInt 32 a &&& BitVec.ofInt 32 b).signExtend 64).toInt := by
    rw [BitVec.signExtend_and, ← ofInt_sign a ha, ← ofInt_sign b hb]
    exact wrap_toInt _
  rw [this]; exact toInt_range _

theorem or_range (a b : Int) (ha : -2147483648 ≤ a ∧ a ≤ 2147483647) (hb : -2147483648 ≤ b ∧ b ≤ 2147483647) :
    -2147483648 ≤ bits .or .i64 a b ∧ bits .or .i64 a b ≤ 2147483647 := by
  have : bits .or .i64 a b = ((BitVec.ofInt 32 a ||| BitVec.ofInt 32 b).signExtend 64).toInt := by
    rw [BitVec.signExtend_or, ← ofInt_sign a ha, ← ofInt_sign b hb]
    exact wrap_toInt _
  rw [this]; exact toInt_range _

theorem xor_range (a b : Int) (ha : -2147483648 ≤ a ∧ a ≤ 2147483647) (hb : -2147483648 ≤ b ∧ b ≤ 2147483647) :
    -2147483648 ≤ bits .xor .i64 a b ∧ bits .xor .i64 a b ≤ 2147483647 := by
  have : bits .xor .i64 a b = ((BitVec.ofInt 32 a ^^^ BitVec.ofInt 32 b).signExtend 64).toInt := by
    rw [BitVec.signExtend_xor, ← ofInt_sign a ha, ← ofInt_sign b hb]
    exact wrap_toInt _
  rw [this]; exact toInt_range _

theorem wrap32_in (v : Int) (h : -2147483648 ≤ v ∧ v ≤ 2147483647) : wrap32 v = v := by unfold wrap32; omega

theorem tmod_range (a b : Int) (hb : -2147483648 ≤ b ∧ b ≤ 2147483647) (h0 : ¬ b = 0) :
    -2147483648 ≤ a.tmod b ∧ a.tmod b ≤ 2147483647 := by
  have h1 := Int.natAbs_tmod a b
  have h2 : a.natAbs % b.natAbs < b.natAbs := Nat.mod_lt _ (by omega)
  omega

theorem tdiv_range (a b : Int) (ha : -2147483648 ≤ a ∧ a ≤ 2147483647) :
    -2147483648 ≤ a.tdiv b ∧ a.tdiv b ≤ 2147483648 := by
  have h1 : (a.tdiv b).natAbs = a.natAbs / b.natAbs := Int.natAbs_tdiv a b
  have h2 := Nat.div_le_self a.natAbs b.natAbs
  omega

theorem mul_range (a b : Int) (ha : -2147483648 ≤ a ∧ a ≤ 2147483647) (hb : -2147483648 ≤ b ∧ b ≤ 2147483647) :
    -4611686018427387904 ≤ a * b ∧ a * b ≤ 4611686018427387904 := by
  have h1 := Int.natAbs_mul a b
  have h2 : a.natAbs * b.natAbs ≤ 2147483648 * 2147483648 := Nat.mul_le_mul (by omega) (by omega)
  omega

theorem flip_is (a : Int) (ha : -2147483648 ≤ a ∧ a ≤ 2147483647) : bits .xor .i64 (-1) a = - a - 1 := by
  have h1 : (BitVec.ofInt 64 (-1) ^^^ BitVec.ofInt 64 a) = ~~~ (BitVec.ofInt 64 a) := by
    rw [show BitVec.ofInt 64 (-1) = BitVec.allOnes 64 from by decide, BitVec.allOnes_xor]
  have h2 : bits .xor .i64 (-1) a = (~~~ (BitVec.ofInt 64 a)).toInt := by rw [← h1]; exact wrap_toInt _
  have h3 : (BitVec.ofInt 64 a).toInt = a := by
    rw [BitVec.toInt_ofInt]
    exact Int.bmod_eq_of_le (by omega) (by omega)
  have h4 := BitVec.toInt_eq_toNat_cond (BitVec.ofInt 64 a)
  have h5 := BitVec.toInt_eq_toNat_cond (~~~ (BitVec.ofInt 64 a))
  have h6 : (~~~ (BitVec.ofInt 64 a)).toNat = 18446744073709551616 - 1 - (BitVec.ofInt 64 a).toNat := BitVec.toNat_not
  have h7 := (BitVec.ofInt 64 a).isLt
  rw [h2, h5, h6]
  rw [h3] at h4
  generalize (BitVec.ofInt 64 a).toNat = n at *
  split <;> split at h4 <;> omega

/-- Reckoning with one number. -/
def one (op a : Int) : Int × Int :=
  if op = 3 then (wrap32 (- wrap32 a), 0) else if op = 4 then (b2i (wrap32 a == 0), 0) else if op = 5 then (- wrap32 a - 1, 0) else (0, 42)
theorem one_3 (a : Int) : one 3 a = (wrap32 (- wrap32 a), 0) := rfl
theorem one_4 (a : Int) : one 4 a = (b2i (wrap32 a == 0), 0) := rfl
theorem one_5 (a : Int) : one 5 a = (- wrap32 a - 1, 0) := rfl
theorem one_else (op a : Int) (h : op < 3 ∨ 5 < op) : one op a = (0, 42) := by
  unfold one
  rw [if_neg (by omega), if_neg (by omega), if_neg (by omega)]

/-! Shifts by one place, again and again. -/
theorem wrap32_congr (a b k : Int) (h : a = b + k * 4294967296) : wrap32 a = wrap32 b := by unfold wrap32; omega

theorem shl_step (a : Int) (k : Nat) : wrap32 (2 * wrap32 (a * 2 ^ k)) = wrap32 (a * 2 ^ (k + 1)) := by
  have e : a * 2 ^ (k + 1) = 2 * (a * 2 ^ k) := by rw [Int.pow_succ]; rw [← Int.mul_assoc, Int.mul_comm]
  rw [e]
  generalize a * 2 ^ k = x
  unfold wrap32; omega

theorem shl_zero (a : Int) (k j : Nat) (h : wrap32 (a * 2 ^ k) = 0) (hj : k ≤ j) : wrap32 (a * 2 ^ j) = 0 := by
  obtain ⟨d, rfl⟩ : ∃ d, j = k + d := ⟨j - k, by omega⟩
  rw [Int.pow_add, ← Int.mul_assoc]
  generalize a * 2 ^ k = x at *
  obtain ⟨m, rfl⟩ : ∃ m, x = m * 4294967296 := ⟨x / 4294967296, by unfold wrap32 at h; omega⟩
  rw [Int.mul_right_comm]
  rw [wrap32_congr (m * 2 ^ d * 4294967296) 0 (m * 2 ^ d) (by omega)]
  exact wrap32_in 0 (by decide)

theorem shl_great (a : Int) (j : Nat) (hj : 32 ≤ j) : wrap32 (a * 2 ^ j) = 0 :=
  shl_zero a 32 j (by rw [wrap32_congr (a * 2 ^ 32) 0 a (by simp)]; exact wrap32_in 0 (by decide)) hj

theorem sh_left (a p : Int) (h : 0 ≤ p) : wrap32 (shI a p) = wrap32 (a * 2 ^ p.toNat) := by
  unfold shI
  split
  · rw [shl_great a _ (by omega)]; exact wrap32_in 0 (by decide)
  · rfl

theorem shr_step (a : Int) (k : Nat) : a / 2 ^ (k + 1) = a / 2 ^ k / 2 := by
  rw [Int.pow_succ, Int.ediv_ediv_of_nonneg]
  exact Int.pow_nonneg (by decide)

theorem shr_stays (a : Int) (k j : Nat) (hk : a / 2 ^ k = 0 ∨ a / 2 ^ k = -1) (hj : k ≤ j) : a / 2 ^ j = a / 2 ^ k := by
  obtain ⟨d, rfl⟩ : ∃ d, j = k + d := ⟨j - k, by omega⟩
  clear hj
  induction d with
  | zero => rfl
  | succ d ih =>
    rw [← Nat.add_assoc, shr_step, ih]
    omega

theorem half (x : Int) : (x < 0 → (x - 1).tdiv 2 = x / 2) ∧ (0 ≤ x → x.tdiv 2 = x / 2) := by
  constructor
  · intro h
    have h1 := Int.tdiv_eq_ediv (a := x - 1) (b := 2)
    have hs : Int.sign 2 = 1 := rfl
    rw [h1, hs]
    split <;> omega
  · intro h; exact Int.tdiv_eq_ediv_of_nonneg h

theorem shr_range (a : Int) (k : Nat) (ha : -2147483648 ≤ a ∧ a ≤ 2147483647) : -2147483648 ≤ a / 2 ^ k ∧ a / 2 ^ k ≤ 2147483647 := by
  have hp : (0 : Int) < 2 ^ k := Int.pow_pos (by decide)
  generalize (2 : Int) ^ k = M at *
  constructor
  · exact Int.le_ediv_of_mul_le hp (by
      have := Int.mul_le_mul_of_nonneg_left (show (1 : Int) ≤ M by omega) (show (0 : Int) ≤ 2147483648 by decide)
      omega)
  · exact Int.ediv_le_of_le_mul hp (by
      have := Int.mul_le_mul_of_nonneg_left (show (1 : Int) ≤ M by omega) (show (0 : Int) ≤ 2147483647 by decide)
      omega)

theorem sh_right (a p : Int) (h : p < 0) (ha : -2147483648 ≤ a ∧ a ≤ 2147483647) : wrap32 (shI a p) = a / 2 ^ (-p).toNat := by
  have hr := shr_range a (-p).toNat ha
  unfold shI
  rw [if_neg (by omega), if_neg (by omega)]
  exact wrap32_in _ hr

end Go.Proofs.YtbhgdlfndamklaaGreatDoor.val
/- A law of the walk, over any program: a scope out of which the run jumps to labels of the same scope, at most n times. -/
namespace Go.Proofs.YtbhgdlfndamklaaGreatDoor.val
open Go

/-- As Q; by a goto to a label of the scope c: what stands behind the label comes to Q, by at most n further jumps. -/
def Goes (P : Program) (c : Code) (Q : Exit → Act → World → Prop) : Nat → Exit → Act → World → Prop
  | 0, e, a, w => Exit.noGoto Q e a w
  | n + 1, .goto l, a, w => ∃ rest, findLabel c l = some rest ∧ rest.wp P (Goes P c Q n) a w
  | _ + 1, e, a, w => Q e a w

section
variable {P : Program} {a : Act} {w : World} {Q : Exit → Act → World → Prop}

theorem goes_goto {c rest : Code} {n l : Nat} (hf : findLabel c l = some rest) (h : rest.wp P (Goes P c Q n) a w) : Goes P c Q (n + 1) (.goto l) a w := ⟨rest, hf, h⟩
theorem goes_ret {c : Code} {n : Nat} (h : Q .ret a w) : Goes P c Q n .ret a w := by cases n <;> exact h
theorem scope_core {c : Code} : ∀ (n : Nat) (d : Code) (a : Act) (w : World), d.wp P (Goes P c Q n) a w → ∀ (b : Frame) (k : List Item) (cs : List Frame),
    ∃ e a' w', Q e a' w' ∧ Arrives P (lone (b.at a (.code d :: .inScope c :: k)) cs w) b k cs e a' w' := by
  intro n
  induction n with
  | zero =>
    intro d a w h b k cs
    obtain ⟨e, a₁, w₁, hq, harr⟩ := h b (.inScope c :: k) cs
    cases e with
    | normal => exact ⟨.normal, a₁, w₁, hq, Steps.trans harr (.one step_inScope)⟩
    | exit id => exact ⟨.exit id, a₁, w₁, hq, fun k' hk => harr k' (by simp [exitTo, hk])⟩
    | goto l => exact hq.elim
    | ret => exact ⟨_, a₁, w₁, hq, harr⟩
    | panic ch => exact ⟨_, a₁, w₁, hq, harr⟩
    | outgrown => exact ⟨_, a₁, w₁, hq, harr⟩
  | succ n ih =>
    intro d a w h b k cs
    obtain ⟨e, a₁, w₁, hq, harr⟩ := h b (.inScope c :: k) cs
    cases e with
    | normal => exact ⟨.normal, a₁, w₁, hq, Steps.trans harr (.one step_inScope)⟩
    | exit id => exact ⟨.exit id, a₁, w₁, hq, fun k' hk => harr k' (by simp [exitTo, hk])⟩
    | goto l =>
      obtain ⟨rest, hf, hr⟩ := hq
      obtain ⟨e₂, a₂, w₂, hq₂, harr₂⟩ := ih rest a₁ w₁ hr b k cs
      have hg : gotoIn l (.inScope c :: k) = some (.code rest :: .inScope c :: k) := by simp [gotoIn, hf]
      exact ⟨e₂, a₂, w₂, hq₂, .of_steps (harr _ hg) harr₂⟩
    | ret => exact ⟨_, a₁, w₁, hq, harr⟩
    | panic ch => exact ⟨_, a₁, w₁, hq, harr⟩
    | outgrown => exact ⟨_, a₁, w₁, hq, harr⟩

theorem wp_scope_goes (n : Nat) {c : Code} (h : c.wp P (Goes P c Q n) a w) : (Code.scope c).wp P Q a w := by
  intro b k cs
  obtain ⟨e, a₁, w₁, hq, harr⟩ := scope_core n c a w h b k cs
  cases e with
  | normal => exact ⟨.normal, a₁, w₁, hq, .head step_scope harr⟩
  | exit id => exact ⟨.exit id, a₁, w₁, hq, fun k' hk => .head step_scope (harr k' hk)⟩
  | goto l => exact ⟨.goto l, a₁, w₁, hq, fun k' hk => .head step_scope (harr k' hk)⟩
  | ret => exact ⟨_, a₁, w₁, hq, .of_steps (.one step_scope) harr⟩
  | panic ch => exact ⟨_, a₁, w₁, hq, .of_steps (.one step_scope) harr⟩
  | outgrown => exact ⟨_, a₁, w₁, hq, .of_steps (.one step_scope) harr⟩
end
end Go.Proofs.YtbhgdlfndamklaaGreatDoor.val
