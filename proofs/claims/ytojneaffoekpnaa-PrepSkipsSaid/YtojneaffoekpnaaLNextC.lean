/- The contract of the document's Next at a byte in quotes, and at a text. -/
import Derived.Test.YtojneaffoekpnaaLNextA
import Derived.RegionTactic
import Derived.ChangeAlike
namespace Go.Proofs.Ytojneaffoekpnaa.lx
set_option linter.unusedVariables false
set_option linter.unusedSimpArgs false
open Go.ChangeShapes Go.WideShapes Go.ChangeAt Go.RowKit

def byteNV (u : ByteArray) (k : Nat) (x : Option (Nat × Nat)) : Value := match x with
  | none => .tuple #[.agg #[.int .i64 0, .int .i64 0, .int .i64 0, .string ⟨#[]⟩, .int .i64 0], .int .i64 0, .int .i64 3]
  | some (v, n) => .tuple #[.agg #[.int .i64 2, .int .i64 k, .int .i64 0, .string (u.extract k (k + n)), .int .i64 v], .int .i64 n, .int .i64 0]
def textNV (u : ByteArray) (k : Nat) (x : Option Nat) : Value := match x with
  | none => .tuple #[.agg #[.int .i64 0, .int .i64 0, .int .i64 0, .string ⟨#[]⟩, .int .i64 0], .int .i64 0, .int .i64 3]
  | some q => if 201 < q then .tuple #[.agg #[.int .i64 0, .int .i64 0, .int .i64 0, .string ⟨#[]⟩, .int .i64 0], .int .i64 0, .int .i64 5] else .tuple #[.agg #[.int .i64 3, .int .i64 k, .int .i64 0, .string (u.extract (k + 1) (k + q)), .int .i64 0], .int .i64 ((q : Int) + 1), .int .i64 0]
theorem char_as (u : ByteArray) (k : Nat) (w : World) (hs : u.size ≤ 65535) (hk : k < u.size) (v n : Int) (h : Hid (charV (byteAt u k) = .tuple #[.int .i64 v, .int .i64 n])) :
    Calls Try.prog 38 #[.string u, .int .i64 k] w fun e w' => e = .returned (.tuple #[.int .i64 v, .int .i64 n]) ∧ w' = w := by
  rw [← h.out]; exact char_any u k w hs hk
theorem quoted_as (u : ByteArray) (k : Nat) (w : World) (hs : u.size ≤ 65535) (hk : k < u.size) (n : Int) (h : Hid (quotV (quotAt u (k + 1)) = .int .i64 n)) :
    Calls Try.prog 39 #[.string u, .int .i64 k] w fun e w' => e = .returned (.int .i64 n) ∧ w' = w := by
  rw [← h.out]; exact quoted_any u k w hs hk
theorem byteAt_le (u : ByteArray) (k v n : Nat) (h : byteAt u k = some (v, n)) : k + n ≤ u.size ∧ 3 ≤ n := by
  unfold byteAt at h
  split at h
  · cases h
  split at h
  · cases h
  split at h
  · split at h
    · cases h
    split at h
    · cases he : esc (byt u (k + 2)) with
      | none => rw [he] at h; cases h
      | some e => rw [he] at h; cases h; omega
    · cases h
  · split at h
    · cases h; omega
    · cases h
theorem quotAt_le (u : ByteArray) : ∀ (m k q : Nat), u.size - k ≤ m → quotAt u k = some q → k + q ≤ u.size ∧ 1 ≤ q := by
  intro m
  induction m using Nat.strongRecOn with
  | _ m ih =>
    intro k q hm h
    by_cases hk : u.size ≤ k
    · rw [quotAt_end u k hk] at h; cases h
    have hk : k < u.size := by omega
    by_cases c1 : byt u k = 34
    · rw [quotAt_34 u k hk c1] at h; cases h; omega
    by_cases c2 : byt u k = 10
    · rw [quotAt_10 u k hk c2] at h; cases h
    by_cases c3 : byt u k = 92
    · by_cases h2 : u.size ≤ k + 1
      · rw [quotAt_92_end u k hk c3 h2] at h; cases h
      by_cases d : byt u (k + 1) = 10
      · rw [quotAt_92_10 u k hk c3 (by omega) d] at h; cases h
      rw [quotAt_92 u k hk c3 (by omega) d] at h
      cases hq : quotAt u (k + 2) with
      | none => rw [hq] at h; cases h
      | some x =>
        rw [hq] at h
        simp only [Option.map_some, Option.some.injEq] at h
        have := ih (u.size - (k + 2)) (by omega) (k + 2) x (Nat.le_refl _) hq
        omega
    · rw [quotAt_else u k hk c1 c2 c3] at h
      cases hq : quotAt u (k + 1) with
      | none => rw [hq] at h; cases h
      | some x =>
        rw [hq] at h
        simp only [Option.map_some, Option.some.injEq] at h
        have := ih (u.size - (k + 1)) (by omega) (k + 1) x (Nat.le_refl _) hq
        omega

set_option maxRecDepth 100000 in
set_option maxHeartbeats 1000000 in
theorem next_byte (u : ByteArray) (k : Nat) (w : World) (hs : u.size ≤ 65535) (hk : k < u.size) (hc0 : byt u k = 39) :
    Calls Try.prog 27 #[.string u, .int .i64 k] w fun e w' => e = .returned (byteNV u k (byteAt u k)) ∧ Below w.heap.size w w' := by
  have e0 := byt_at u k hk
  rw [hc0] at e0
  have hl : isL 39 = false := rfl
  have hd : isD 39 = false := rfl
  clear hc0
  have hki : (k : Int) < u.size := by omega
  cases hb : byteAt u k with
  | none =>
    have HB : Hid (charV (byteAt u k) = .tuple #[.int .i64 0, .int .i64 0]) := Lib.hid (by rw [hb]; rfl)
    clear hb
    go_enter Try.func27, Try.ntmps27
    go_wp2_with fail
    refine (letter_any 39 _).mono ?_
    rintro e w ⟨rfl, rfl⟩
    go_wp2_with fail
    refine (digit_any 39 _).mono ?_
    rintro e w ⟨rfl, rfl⟩
    go_wp2_with (go_at_call 38; refine (char_as u k _ hs hk _ _ HB).mono ?_; rintro e w ⟨rfl, rfl⟩)
    exact bodyPost_ret (v := .tuple #[.agg #[.int .i64 0, .int .i64 0, .int .i64 0, .string ⟨#[]⟩, .int .i64 0], .int .i64 0, .int .i64 3]) (by simp [results, Try.results27, go_sem]) rfl ⟨rfl, (by repeat (first | exact Below.refl _ _ | (refine Below.setCell ?_ (by simp) _) | (refine Below.alloc ?_ (by simp) _)))⟩
  | some p =>
    obtain ⟨v, j⟩ := p
    obtain ⟨hj, hj3⟩ := byteAt_le u k v j hb
    have HB : Hid (charV (byteAt u k) = .tuple #[.int .i64 v, .int .i64 j]) := Lib.hid (by rw [hb]; rfl)
    have hj0 : ((j : Int) == 0) = false := by rw [beq_eq_false_iff_ne]; omega
    clear hb
    have hsl : ∀ wx : World, (Instr.slice 9 (.string u) (some (.int .i64 (k : Int))) (some (.int .i64 ((k : Int) + (j : Int)))) none).run Try.prog wx = .ok (.string (u.extract k (k + j))) wx := fun wx => slice_kj u k j hj wx
    go_enter Try.func27, Try.ntmps27
    go_wp2_with fail
    refine (letter_any 39 _).mono ?_
    rintro e w ⟨rfl, rfl⟩
    go_wp2_with fail
    refine (digit_any 39 _).mono ?_
    rintro e w ⟨rfl, rfl⟩
    go_wp2_with (go_at_call 38; refine (char_as u k _ hs hk _ _ HB).mono ?_; rintro e w ⟨rfl, rfl⟩)
    exact bodyPost_ret (v := .tuple #[.agg #[.int .i64 2, .int .i64 k, .int .i64 0, .string (u.extract k (k + j)), .int .i64 v], .int .i64 j, .int .i64 0]) (by simp [results, Try.results27, go_sem]) rfl ⟨rfl, (by repeat (first | exact Below.refl _ _ | (refine Below.setCell ?_ (by simp) _) | (refine Below.alloc ?_ (by simp) _)))⟩

set_option maxRecDepth 100000 in
set_option maxHeartbeats 1000000 in
theorem next_text (u : ByteArray) (k : Nat) (w : World) (hs : u.size ≤ 65535) (hk : k < u.size) (hc0 : byt u k = 34) :
    Calls Try.prog 27 #[.string u, .int .i64 k] w fun e w' => e = .returned (textNV u k (quotAt u (k + 1))) ∧ Below w.heap.size w w' := by
  have e0 := byt_at u k hk
  rw [hc0] at e0
  have hl : isL 34 = false := rfl
  have hd : isD 34 = false := rfl
  clear hc0
  have hki : (k : Int) < u.size := by omega
  cases hb : quotAt u (k + 1) with
  | none =>
    have HB : Hid (quotV (quotAt u (k + 1)) = .int .i64 0) := Lib.hid (by rw [hb]; rfl)
    clear hb
    go_enter Try.func27, Try.ntmps27
    go_wp2_with fail
    refine (letter_any 34 _).mono ?_
    rintro e w ⟨rfl, rfl⟩
    go_wp2_with fail
    refine (digit_any 34 _).mono ?_
    rintro e w ⟨rfl, rfl⟩
    go_wp2_with (go_at_call 39; refine (quoted_as u k _ hs hk _ HB).mono ?_; rintro e w ⟨rfl, rfl⟩)
    exact bodyPost_ret (v := .tuple #[.agg #[.int .i64 0, .int .i64 0, .int .i64 0, .string ⟨#[]⟩, .int .i64 0], .int .i64 0, .int .i64 3]) (by simp [results, Try.results27, go_sem]) rfl ⟨rfl, (by repeat (first | exact Below.refl _ _ | (refine Below.setCell ?_ (by simp) _) | (refine Below.alloc ?_ (by simp) _)))⟩
  | some q =>
    obtain ⟨hj, hq1⟩ := quotAt_le u _ (k + 1) q (Nat.le_refl _) hb
    have HB : Hid (quotV (quotAt u (k + 1)) = .int .i64 ((q : Int) + 1)) := Lib.hid (by rw [hb]; rfl)
    have hj0 : ((q : Int) + 1 == 0) = false := by rw [beq_eq_false_iff_ne]; omega
    clear hb
    have hsl : ∀ wx : World, (Instr.slice 9 (.string u) (some (.int .i64 ((k : Int) + 1))) (some (.int .i64 ((k : Int) + ((q : Int) + 1) - 1))) none).run Try.prog wx = .ok (.string (u.extract (k + 1) (k + q))) wx := fun wx => by
      have := run_slice_string (P := Try.prog) (w := wx) 9 u .i64 .i64 ((k : Int) + 1) ((k : Int) + ((q : Int) + 1) - 1) Try.underlying9 (by omega) (by omega) (by omega)
      rw [this]
      congr 3 <;> omega
    have b1 : (k : Int) ≤ 65535 := by omega
    have b2 : (q : Int) ≤ 65535 := by omega
    by_cases hq2 : 200 < (q : Int) + 1 - 2
    · have HV := Lib.hid (show textNV u k (some q) = .tuple #[.agg #[.int .i64 0, .int .i64 0, .int .i64 0, .string ⟨#[]⟩, .int .i64 0], .int .i64 0, .int .i64 5] by unfold textNV; simp only; rw [if_pos (by omega)])
      go_enter Try.func27, Try.ntmps27
      go_wp2_with fail
      refine (letter_any 34 _).mono ?_
      rintro e w ⟨rfl, rfl⟩
      go_wp2_with fail
      refine (digit_any 34 _).mono ?_
      rintro e w ⟨rfl, rfl⟩
      go_wp2_with (go_at_call 39; refine (quoted_as u k _ hs hk _ HB).mono ?_; rintro e w ⟨rfl, rfl⟩)
      exact bodyPost_ret (v := .tuple #[.agg #[.int .i64 0, .int .i64 0, .int .i64 0, .string ⟨#[]⟩, .int .i64 0], .int .i64 0, .int .i64 5]) (by simp [results, Try.results27, go_sem]) rfl ⟨by rw [HV.out], (by repeat (first | exact Below.refl _ _ | (refine Below.setCell ?_ (by simp) _) | (refine Below.alloc ?_ (by simp) _)))⟩
    · have HV := Lib.hid (show textNV u k (some q) = .tuple #[.agg #[.int .i64 3, .int .i64 k, .int .i64 0, .string (u.extract (k + 1) (k + q)), .int .i64 0], .int .i64 ((q : Int) + 1), .int .i64 0] by unfold textNV; simp only; rw [if_neg (by omega)])
      go_enter Try.func27, Try.ntmps27
      go_wp2_with fail
      refine (letter_any 34 _).mono ?_
      rintro e w ⟨rfl, rfl⟩
      go_wp2_with fail
      refine (digit_any 34 _).mono ?_
      rintro e w ⟨rfl, rfl⟩
      go_wp2_with (go_at_call 39; refine (quoted_as u k _ hs hk _ HB).mono ?_; rintro e w ⟨rfl, rfl⟩)
      exact bodyPost_ret (v := .tuple #[.agg #[.int .i64 3, .int .i64 k, .int .i64 0, .string (u.extract (k + 1) (k + q)), .int .i64 0], .int .i64 ((q : Int) + 1), .int .i64 0]) (by simp [results, Try.results27, go_sem]) rfl ⟨by rw [HV.out], (by repeat (first | exact Below.refl _ _ | (refine Below.setCell ?_ (by simp) _) | (refine Below.alloc ?_ (by simp) _)))⟩
end Go.Proofs.Ytojneaffoekpnaa.lx
