/- The contract of the document's Blank. -/
import Derived.Test.YtojneaffoekpnaaLTwo
namespace Go.Proofs.Ytojneaffoekpnaa.lx
set_option linter.unusedVariables false
set_option linter.unusedSimpArgs false
open Go.ChangeShapes Go.WideShapes Go.ChangeAt Go.RowKit

def blankV (o : Option (Nat × Nat)) : Value := match o with
  | none => .tuple #[.int .i64 0, .int .i64 0, .bool false]
  | some (n, j) => .tuple #[.int .i64 n, .int .i64 j, .bool true]

theorem begins_as (u : ByteArray) (k : Nat) (a b : UInt8) (x : Bool) (h : Hid (two u k a.toNat b.toNat = x)) (w : World) (hs : u.size ≤ 65535) (hk : k ≤ u.size) :
    Calls Try.prog 35 #[.string u, .int .i64 k, .string ⟨#[a, b]⟩] w fun e w' => e = .returned (.bool x) ∧ w' = w := by
  rw [← h.out]; exact begins_two u k a b w hs hk

theorem blank_10 (u : ByteArray) (k : Nat) (w : World) (hs : u.size ≤ 65535) (hk : k < u.size) (hc : byt u k = 10) :
    Calls Try.prog 26 #[.string u, .int .i64 k] w fun e w' => e = .returned (.tuple #[.int .i64 1, .int .i64 1, .bool true]) ∧ w' = w := by
  have e0 := byt_at u k hk
  have h1 : Hid (two u k (92 : UInt8).toNat (10 : UInt8).toNat = false) := Lib.hid (by unfold two; rw [hc]; simp)
  have h2 : Hid (two u k (47 : UInt8).toNat (42 : UInt8).toNat = false) := Lib.hid (by unfold two; rw [hc]; simp)
  have h3 : Hid (two u k (47 : UInt8).toNat (47 : UInt8).toNat = false) := Lib.hid (by unfold two; rw [hc]; simp)
  rw [hc] at e0
  clear hc
  have hki : (k : Int) < u.size := by omega
  have hkl : k ≤ u.size := by omega
  go_enter Try.func26, Try.ntmps26
  go_wp2_with fail
  refine (begins_as u k 92 10 _ h1 _ hs hkl).mono ?_
  rintro e w ⟨rfl, rfl⟩
  go_wp2_with fail
  refine (begins_as u k 47 42 _ h2 _ hs hkl).mono ?_
  rintro e w ⟨rfl, rfl⟩
  go_wp2_with fail
  refine (begins_as u k 47 47 _ h3 _ hs hkl).mono ?_
  rintro e w ⟨rfl, rfl⟩
  go_wp2
  go_ret3
  exact ⟨rfl, rfl⟩

theorem blank_32 (u : ByteArray) (k : Nat) (w : World) (hs : u.size ≤ 65535) (hk : k < u.size) (hc : byt u k = 32) :
    Calls Try.prog 26 #[.string u, .int .i64 k] w fun e w' => e = .returned (.tuple #[.int .i64 1, .int .i64 0, .bool true]) ∧ w' = w := by
  have e0 := byt_at u k hk
  have h1 : Hid (two u k (92 : UInt8).toNat (10 : UInt8).toNat = false) := Lib.hid (by unfold two; rw [hc]; simp)
  have h2 : Hid (two u k (47 : UInt8).toNat (42 : UInt8).toNat = false) := Lib.hid (by unfold two; rw [hc]; simp)
  have h3 : Hid (two u k (47 : UInt8).toNat (47 : UInt8).toNat = false) := Lib.hid (by unfold two; rw [hc]; simp)
  rw [hc] at e0
  clear hc
  have hki : (k : Int) < u.size := by omega
  have hkl : k ≤ u.size := by omega
  go_enter Try.func26, Try.ntmps26
  go_wp2_with fail
  refine (begins_as u k 92 10 _ h1 _ hs hkl).mono ?_
  rintro e w ⟨rfl, rfl⟩
  go_wp2_with fail
  refine (begins_as u k 47 42 _ h2 _ hs hkl).mono ?_
  rintro e w ⟨rfl, rfl⟩
  go_wp2_with fail
  refine (begins_as u k 47 47 _ h3 _ hs hkl).mono ?_
  rintro e w ⟨rfl, rfl⟩
  go_wp2
  go_ret3
  exact ⟨rfl, rfl⟩

theorem blank_9 (u : ByteArray) (k : Nat) (w : World) (hs : u.size ≤ 65535) (hk : k < u.size) (hc : byt u k = 9) :
    Calls Try.prog 26 #[.string u, .int .i64 k] w fun e w' => e = .returned (.tuple #[.int .i64 1, .int .i64 0, .bool true]) ∧ w' = w := by
  have e0 := byt_at u k hk
  have h1 : Hid (two u k (92 : UInt8).toNat (10 : UInt8).toNat = false) := Lib.hid (by unfold two; rw [hc]; simp)
  have h2 : Hid (two u k (47 : UInt8).toNat (42 : UInt8).toNat = false) := Lib.hid (by unfold two; rw [hc]; simp)
  have h3 : Hid (two u k (47 : UInt8).toNat (47 : UInt8).toNat = false) := Lib.hid (by unfold two; rw [hc]; simp)
  rw [hc] at e0
  clear hc
  have hki : (k : Int) < u.size := by omega
  have hkl : k ≤ u.size := by omega
  go_enter Try.func26, Try.ntmps26
  go_wp2_with fail
  refine (begins_as u k 92 10 _ h1 _ hs hkl).mono ?_
  rintro e w ⟨rfl, rfl⟩
  go_wp2_with fail
  refine (begins_as u k 47 42 _ h2 _ hs hkl).mono ?_
  rintro e w ⟨rfl, rfl⟩
  go_wp2_with fail
  refine (begins_as u k 47 47 _ h3 _ hs hkl).mono ?_
  rintro e w ⟨rfl, rfl⟩
  go_wp2
  go_ret3
  exact ⟨rfl, rfl⟩

theorem blank_12 (u : ByteArray) (k : Nat) (w : World) (hs : u.size ≤ 65535) (hk : k < u.size) (hc : byt u k = 12) :
    Calls Try.prog 26 #[.string u, .int .i64 k] w fun e w' => e = .returned (.tuple #[.int .i64 1, .int .i64 0, .bool true]) ∧ w' = w := by
  have e0 := byt_at u k hk
  have h1 : Hid (two u k (92 : UInt8).toNat (10 : UInt8).toNat = false) := Lib.hid (by unfold two; rw [hc]; simp)
  have h2 : Hid (two u k (47 : UInt8).toNat (42 : UInt8).toNat = false) := Lib.hid (by unfold two; rw [hc]; simp)
  have h3 : Hid (two u k (47 : UInt8).toNat (47 : UInt8).toNat = false) := Lib.hid (by unfold two; rw [hc]; simp)
  rw [hc] at e0
  clear hc
  have hki : (k : Int) < u.size := by omega
  have hkl : k ≤ u.size := by omega
  go_enter Try.func26, Try.ntmps26
  go_wp2_with fail
  refine (begins_as u k 92 10 _ h1 _ hs hkl).mono ?_
  rintro e w ⟨rfl, rfl⟩
  go_wp2_with fail
  refine (begins_as u k 47 42 _ h2 _ hs hkl).mono ?_
  rintro e w ⟨rfl, rfl⟩
  go_wp2_with fail
  refine (begins_as u k 47 47 _ h3 _ hs hkl).mono ?_
  rintro e w ⟨rfl, rfl⟩
  go_wp2
  go_ret3
  exact ⟨rfl, rfl⟩

theorem blank_13 (u : ByteArray) (k : Nat) (w : World) (hs : u.size ≤ 65535) (hk : k < u.size) (hc : byt u k = 13) :
    Calls Try.prog 26 #[.string u, .int .i64 k] w fun e w' => e = .returned (.tuple #[.int .i64 1, .int .i64 0, .bool true]) ∧ w' = w := by
  have e0 := byt_at u k hk
  have h1 : Hid (two u k (92 : UInt8).toNat (10 : UInt8).toNat = false) := Lib.hid (by unfold two; rw [hc]; simp)
  have h2 : Hid (two u k (47 : UInt8).toNat (42 : UInt8).toNat = false) := Lib.hid (by unfold two; rw [hc]; simp)
  have h3 : Hid (two u k (47 : UInt8).toNat (47 : UInt8).toNat = false) := Lib.hid (by unfold two; rw [hc]; simp)
  rw [hc] at e0
  clear hc
  have hki : (k : Int) < u.size := by omega
  have hkl : k ≤ u.size := by omega
  go_enter Try.func26, Try.ntmps26
  go_wp2_with fail
  refine (begins_as u k 92 10 _ h1 _ hs hkl).mono ?_
  rintro e w ⟨rfl, rfl⟩
  go_wp2_with fail
  refine (begins_as u k 47 42 _ h2 _ hs hkl).mono ?_
  rintro e w ⟨rfl, rfl⟩
  go_wp2_with fail
  refine (begins_as u k 47 47 _ h3 _ hs hkl).mono ?_
  rintro e w ⟨rfl, rfl⟩
  go_wp2
  go_ret3
  exact ⟨rfl, rfl⟩

theorem blank_fold (u : ByteArray) (k : Nat) (w : World) (hs : u.size ≤ 65535) (hk : k < u.size) (hc : byt u k = 92) (h1k : k + 1 < u.size) (hc1 : byt u (k + 1) = 10) :
    Calls Try.prog 26 #[.string u, .int .i64 k] w fun e w' => e = .returned (.tuple #[.int .i64 2, .int .i64 0, .bool true]) ∧ w' = w := by
  have e0 := byt_at u k hk
  have h1 : Hid (two u k (92 : UInt8).toNat (10 : UInt8).toNat = true) := Lib.hid (by unfold two; rw [hc, hc1]; simp [h1k])
  have h2 : Hid (two u k (47 : UInt8).toNat (42 : UInt8).toNat = false) := Lib.hid (by unfold two; rw [hc]; simp)
  have h3 : Hid (two u k (47 : UInt8).toNat (47 : UInt8).toNat = false) := Lib.hid (by unfold two; rw [hc]; simp)
  rw [hc] at e0
  clear hc hc1
  have hki : (k : Int) < u.size := by omega
  have hkl : k ≤ u.size := by omega
  go_enter Try.func26, Try.ntmps26
  go_wp2_with fail
  refine (begins_as u k 92 10 _ h1 _ hs hkl).mono ?_
  rintro e w ⟨rfl, rfl⟩
  go_wp2_with fail
  refine (begins_as u k 47 42 _ h2 _ hs hkl).mono ?_
  rintro e w ⟨rfl, rfl⟩
  go_wp2_with fail
  refine (begins_as u k 47 47 _ h3 _ hs hkl).mono ?_
  rintro e w ⟨rfl, rfl⟩
  go_wp2
  go_ret3
  exact ⟨rfl, rfl⟩

theorem blank_else (u : ByteArray) (k : Nat) (w : World) (hs : u.size ≤ 65535) (hk : k < u.size) (c : Nat) (hc : byt u k = c) (n1 : ¬ c = 10) (n2 : ¬ c = 32) (n3 : ¬ c = 9) (n4 : ¬ c = 12) (n5 : ¬ c = 13) (t1 : two u k 92 10 = false) (t2 : two u k 47 42 = false) (t3 : two u k 47 47 = false) :
    Calls Try.prog 26 #[.string u, .int .i64 k] w fun e w' => e = .returned (.tuple #[.int .i64 0, .int .i64 0, .bool true]) ∧ w' = w := by
  have e0 := byt_at u k hk
  have h1 : Hid (two u k (92 : UInt8).toNat (10 : UInt8).toNat = false) := Lib.hid (t1)
  have h2 : Hid (two u k (47 : UInt8).toNat (42 : UInt8).toNat = false) := Lib.hid (t2)
  have h3 : Hid (two u k (47 : UInt8).toNat (47 : UInt8).toNat = false) := Lib.hid (t3)
  rw [hc] at e0
  have m10 : ((c : Int) == 10) = false := by rw [beq_eq_false_iff_ne]; omega
  have m32 : ((c : Int) == 32) = false := by rw [beq_eq_false_iff_ne]; omega
  have m9 : ((c : Int) == 9) = false := by rw [beq_eq_false_iff_ne]; omega
  have m12 : ((c : Int) == 12) = false := by rw [beq_eq_false_iff_ne]; omega
  have m13 : ((c : Int) == 13) = false := by rw [beq_eq_false_iff_ne]; omega
  clear hc t1 t2 t3 n1 n2 n3 n4 n5
  have hki : (k : Int) < u.size := by omega
  have hkl : k ≤ u.size := by omega
  go_enter Try.func26, Try.ntmps26
  go_wp2_with fail
  refine (begins_as u k 92 10 _ h1 _ hs hkl).mono ?_
  rintro e w ⟨rfl, rfl⟩
  go_wp2_with fail
  refine (begins_as u k 47 42 _ h2 _ hs hkl).mono ?_
  rintro e w ⟨rfl, rfl⟩
  go_wp2_with fail
  refine (begins_as u k 47 47 _ h3 _ hs hkl).mono ?_
  rintro e w ⟨rfl, rfl⟩
  go_wp2
  go_ret3
  exact ⟨rfl, rfl⟩

end Go.Proofs.Ytojneaffoekpnaa.lx
