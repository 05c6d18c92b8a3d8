/- The contract of the document's Blank at a long comment; and all of it. -/
import Derived.Test.YtojneaffoekpnaaLBlankC
namespace Go.Proofs.Ytojneaffoekpnaa.lx
set_option linter.unusedVariables false
set_option linter.unusedSimpArgs false
open Go.ChangeShapes Go.WideShapes Go.ChangeAt Go.RowKit

/-- Where a comment's end begins, from place i on. -/
def endAt (u : ByteArray) (i : Nat) : Option Nat := find2 42 47 (u.data.toList.drop i)

theorem heads_two (u : ByteArray) (i a b : Nat) : heads a b (u.data.toList.drop i) = two u i a b := by
  unfold two
  by_cases h : i + 1 < u.size
  · obtain ⟨c, e, hd⟩ := drop_at u i (by omega)
    obtain ⟨d, e2, hd'⟩ := drop_at u (i + 1) h
    rw [hd, hd', heads, e, e2]
    simp [h]
  · have : (u.data.toList.drop i).length < 2 := by simp; omega
    simp only [h, decide_false, Bool.false_and]
    match hh : u.data.toList.drop i with
    | [] => rfl
    | [c] => rfl
    | c :: d :: l => rw [hh] at this; simp at this; exact absurd this (by omega)

theorem endAt_yes (u : ByteArray) (i : Nat) (h : two u i 42 47 = true) : endAt u i = some 0 := by
  have hi : i + 1 < u.size := by unfold two at h; simp at h; exact h.1.1
  unfold endAt
  obtain ⟨c, e, hd⟩ := drop_at u i (by omega)
  have hh := heads_two u i 42 47
  rw [h] at hh
  rw [hd] at hh ⊢
  rw [find2, if_pos hh]
theorem endAt_no (u : ByteArray) (i : Nat) (hi : i < u.size) (h : two u i 42 47 = false) : endAt u i = (endAt u (i + 1)).map (· + 1) := by
  unfold endAt
  obtain ⟨c, e, hd⟩ := drop_at u i hi
  have hh := heads_two u i 42 47
  rw [h] at hh
  rw [hd] at hh
  rw [hd, find2, if_neg (by rw [hh]; simp)]
theorem endAt_end (u : ByteArray) (i : Nat) (hi : u.size ≤ i) : endAt u i = none := by
  unfold endAt; rw [List.drop_eq_nil_of_le (by simpa using hi)]; rfl

def longV (o : Option Nat) : Value := match o with
  | none => .tuple #[.int .i64 0, .int .i64 0, .bool false]
  | some n => .tuple #[.int .i64 ((n : Int) + 4), .int .i64 0, .bool true]

set_option maxRecDepth 100000 in
set_option maxHeartbeats 1000000 in
theorem blank_long (u : ByteArray) (k : Nat) (w : World) (hs : u.size ≤ 65535) (hk : k < u.size) (hc : byt u k = 47) (h1k : k + 1 < u.size) (hc1 : byt u (k + 1) = 42) :
    Calls Try.prog 26 #[.string u, .int .i64 k] w fun e w' => e = .returned (longV (endAt u (k + 2))) ∧ w' = w := by
  have e0 := byt_at u k hk
  have h1 : Hid (two u k (92 : UInt8).toNat (10 : UInt8).toNat = false) := Lib.hid (by unfold two; rw [hc]; simp)
  have h2 : Hid (two u k (47 : UInt8).toNat (42 : UInt8).toNat = true) := Lib.hid (by unfold two; rw [hc, hc1]; simp [h1k])
  have h3 : Hid (two u k (47 : UInt8).toNat (47 : UInt8).toNat = false) := Lib.hid (by unfold two; rw [hc, hc1]; simp)
  rw [hc] at e0
  clear hc hc1
  have hki : (k : Int) < u.size := by omega
  have hkl : k ≤ u.size := by omega
  go_enter Try.func26, Try.ntmps26
  go_wp2_with fail
  refine (begins_as u k 92 10 _ h1 _ hs hkl).mono ?_
  rintro e w ⟨rfl, rfl⟩
  go_wp2_with fail
  refine (begins_as u k 47 42 _ h2 _ hs hkl).mono ?_
  rintro e w ⟨rfl, rfl⟩
  go_wp2_with fail
  refine (begins_as u k 47 47 _ h3 _ hs hkl).mono ?_
  rintro e w ⟨rfl, rfl⟩
  go_wp2_with fail
  go_loop [11] (fun n => ∃ i : Nat, n = .int .i64 i ∧ k + 2 ≤ i ∧ i ≤ u.size ∧ Hid (endAt u (k + 2) = (endAt u i).map (· + (i - (k + 2))))) (fun n => u.size - (intOf n).toNat)
  case atStart => exact ⟨k + 2, by go_num, by omega, by omega, Lib.hid (by simp)⟩
  case round =>
    obtain ⟨i, rfl, hi0, hi, HA⟩ := hrel
    by_cases hlt : i < u.size
    · have hi2 : (i : Int) < u.size := by omega
      go_wp2_with fail
      cases ht : two u i 42 47 with
      | true =>
        have HN := Lib.hid (show endAt u (k + 2) = some (i - (k + 2)) by rw [HA.out, endAt_yes u i ht]; simp)
        refine (begins_as u i 42 47 true (Lib.hid ht) _ hs (by omega)).mono ?_
        clear ht
        rintro e w ⟨rfl, rfl⟩
        go_wp2
        go_ret3
        exact ⟨by rw [HN.out]; unfold longV; go_num, rfl⟩
      | false =>
        have HN := Lib.hid (show endAt u (k + 2) = (endAt u (i + 1)).map (· + (i + 1 - (k + 2))) by
          rw [HA.out, endAt_no u i hlt ht]
          cases endAt u (i + 1) with
          | none => rfl
          | some j => simp; omega)
        refine (begins_as u i 42 47 false (Lib.hid ht) _ hs (by omega)).mono ?_
        clear ht
        rintro e w ⟨rfl, rfl⟩
        go_wp2
        go_round
        case rel => exact ⟨i + 1, by go_num, by omega, by omega, HN⟩
        case measure => simp [intOf]; omega
    · have HN := Lib.hid (show endAt u (k + 2) = none by rw [HA.out, endAt_end u i (by omega)]; rfl)
      have hi2 : ¬ (i : Int) < u.size := by omega
      go_wp2
      go_ret3
      exact ⟨by rw [HN.out]; rfl, rfl⟩

theorem two_ne (u : ByteArray) (k a b : Nat) (h : ¬ byt u k = a) : two u k a b = false := by
  unfold two; simp [h]

/-- The document's Blank answers blankAt. -/
theorem blank_any (u : ByteArray) (k : Nat) (w : World) (hs : u.size ≤ 65535) (hk : k < u.size) :
    Calls Try.prog 26 #[.string u, .int .i64 k] w fun e w' => e = .returned (blankV (blankAt u k)) ∧ w' = w := by
  unfold blankAt
  by_cases c10 : byt u k = 10
  · rw [if_pos c10]; exact blank_10 u k w hs hk c10
  rw [if_neg c10]
  by_cases c32 : byt u k = 32
  · rw [if_pos (.inl c32)]; exact blank_32 u k w hs hk c32
  by_cases c9 : byt u k = 9
  · rw [if_pos (.inr (.inl c9))]; exact blank_9 u k w hs hk c9
  by_cases c12 : byt u k = 12
  · rw [if_pos (.inr (.inr (.inl c12)))]; exact blank_12 u k w hs hk c12
  by_cases c13 : byt u k = 13
  · rw [if_pos (.inr (.inr (.inr c13)))]; exact blank_13 u k w hs hk c13
  rw [if_neg (by omega)]
  by_cases f : byt u k = 92 ∧ k + 1 < u.size ∧ byt u (k + 1) = 10
  · rw [if_pos f]; exact blank_fold u k w hs hk f.1 f.2.1 f.2.2
  rw [if_neg f]
  by_cases g : byt u k = 47 ∧ k + 1 < u.size ∧ byt u (k + 1) = 42
  · rw [if_pos g]
    refine (blank_long u k w hs hk g.1 g.2.1 g.2.2).mono fun e w' ⟨he, hw⟩ => ⟨?_, hw⟩
    rw [he]
    unfold endAt
    cases find2 42 47 (u.data.toList.drop (k + 2)) with
    | none => rfl
    | some j => rfl
  rw [if_neg g]
  by_cases r : byt u k = 47 ∧ k + 1 < u.size ∧ byt u (k + 1) = 47
  · rw [if_pos r]; exact blank_line u k w hs hk r.1 r.2.1 r.2.2 _ (Lib.hid rfl)
  rw [if_neg r]
  refine blank_else u k w hs hk _ rfl c10 c32 c9 c12 c13 ?_ ?_ ?_
  · unfold two; rw [Bool.eq_false_iff]; intro h; simp at h; exact f ⟨h.1.2, h.1.1, h.2⟩
  · unfold two; rw [Bool.eq_false_iff]; intro h; simp at h; exact g ⟨h.1.2, h.1.1, h.2⟩
  · unfold two; rw [Bool.eq_false_iff]; intro h; simp at h; exact r ⟨h.1.2, h.1.1, h.2⟩
end Go.Proofs.Ytojneaffoekpnaa.lx
