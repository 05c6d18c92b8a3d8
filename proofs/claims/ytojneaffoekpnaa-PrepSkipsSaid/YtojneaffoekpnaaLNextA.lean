/- The contract of the document's Next at a name. -/
import Derived.Test.YtojneaffoekpnaaLRefB
import Derived.RegionTactic
import Derived.ChangeAlike
namespace Go.Proofs.Ytojneaffoekpnaa.lx
set_option linter.unusedVariables false
set_option linter.unusedSimpArgs false
open Go.ChangeShapes Go.WideShapes Go.ChangeAt Go.RowKit

theorem slice_kj (u : ByteArray) (k j : Nat) (h : k + j ≤ u.size) (w : World) : (Instr.slice 9 (.string u) (some (.int .i64 (k : Int))) (some (.int .i64 ((k : Int) + (j : Int)))) none).run Try.prog w = .ok (.string (u.extract k (k + j))) w := by
  have := run_slice_string (P := Try.prog) (w := w) 9 u .i64 .i64 (k : Int) ((k : Int) + (j : Int)) Try.underlying9 (by omega) (by omega) (by omega)
  rw [this]
  congr 3

def nameV (u : ByteArray) (k n : Nat) : Value := if n ≤ 32 then .tuple #[.agg #[.int .i64 1, .int .i64 k, .int .i64 0, .string (u.extract k (k + n)), .int .i64 0], .int .i64 n, .int .i64 0] else .tuple #[.agg #[.int .i64 0, .int .i64 0, .int .i64 0, .string ⟨#[]⟩, .int .i64 0], .int .i64 0, .int .i64 5]
def numV (u : ByteArray) (k n c : Nat) : Value := if c ≤ 2147483647 then .tuple #[.agg #[.int .i64 2, .int .i64 k, .int .i64 0, .string (u.extract k (k + n)), .int .i64 c], .int .i64 n, .int .i64 0] else .tuple #[.agg #[.int .i64 0, .int .i64 0, .int .i64 0, .string ⟨#[]⟩, .int .i64 0], .int .i64 0, .int .i64 4]

set_option maxRecDepth 100000 in
set_option maxHeartbeats 1000000 in
theorem next_name (u : ByteArray) (k : Nat) (w : World) (hs : u.size ≤ 65535) (hk : k < u.size) (hl : isL (byt u k) = true) (n : Nat) (hn : Hid (run isLD (u.data.toList.drop k) = n)) :
    Calls Try.prog 27 #[.string u, .int .i64 k] w fun e w' => e = .returned (nameV u k n) ∧ Below w.heap.size w w' := by
  have e0 := byt_at u k hk
  obtain ⟨c0, hc0⟩ : ∃ c, byt u k = c := ⟨_, rfl⟩
  rw [hc0] at e0 hl
  clear hc0
  have hki : (k : Int) < u.size := by omega
  go_enter Try.func27, Try.ntmps27
  go_wp2_with (first | (go_at_call 36; refine (letter_any _ _).mono ?_; rintro e w ⟨rfl, rfl⟩) | (go_at_call 37; refine (digit_any _ _).mono ?_; rintro e w ⟨rfl, rfl⟩))
  go_loop [8] (fun n => ∃ j : Nat, n = .int .i64 j ∧ k + j ≤ u.size ∧ Hid (∀ i, i < j → isLD (byt u (k + i)) = true)) (fun n => u.size - k - (intOf n).toNat)
  case atStart => exact ⟨0, rfl, by omega, Lib.hid fun i hi => by omega⟩
  case round =>
    obtain ⟨j, rfl, hj, HA⟩ := hrel
    have hend : Hid ((∀ h : k + j < u.size, isLD (byt u (k + j)) = false) → n = j) := Lib.hid fun h => by
      rw [← hn.out]
      refine run_eq _ _ j (by simp; omega) (fun i hi hij => ?_) (fun hj' => ?_)
      · rw [byt_drop u k i hi]; exact HA.out i hij
      · rw [byt_drop u k j hj']; exact h (by simp at hj'; omega)
    by_cases hlt : k + j < u.size
    · obtain ⟨c, hc⟩ : ∃ c, byt u (k + j) = c := ⟨_, rfl⟩
      have hcu := byt_at u (k + j) hlt
      rw [hc] at hcu
      have HC := Lib.hid hc
      clear hc
      have hi2 : (k : Int) + j < u.size := by omega
      by_cases hld : isLD c = true
      · have hnx : Hid (∀ i, i < j + 1 → isLD (byt u (k + i)) = true) := Lib.hid fun i hi => by
          by_cases hij : i < j
          · exact HA.out i hij
          · rw [show i = j by omega, HC.out]; exact hld
        by_cases hl : isL c = true
        · clear hld hend
          go_wp2_with (first | (go_at_call 36; refine (letter_any _ _).mono ?_; rintro e w ⟨rfl, rfl⟩) | (go_at_call 37; refine (digit_any _ _).mono ?_; rintro e w ⟨rfl, rfl⟩))
          go_round
          case rel => exact ⟨j + 1, by go_num, by omega, hnx⟩
          case measure => simp [intOf]; omega
        · have hl2 : isL c = false := by simpa using hl
          have hd : isD c = true := by unfold isLD at hld; rw [hl2] at hld; simpa using hld
          clear hld hl hend
          go_wp2_with (first | (go_at_call 36; refine (letter_any _ _).mono ?_; rintro e w ⟨rfl, rfl⟩) | (go_at_call 37; refine (digit_any _ _).mono ?_; rintro e w ⟨rfl, rfl⟩))
          go_round
          case rel => exact ⟨j + 1, by go_num, by omega, hnx⟩
          case measure => simp [intOf]; omega
      · have hl2 : isL c = false := by unfold isLD at hld; simp at hld; exact hld.1
        have hd : isD c = false := by unfold isLD at hld; simp at hld; exact hld.2
        have HN := Lib.hid (hend.out fun _ => by rw [HC.out]; simpa using hld)
        clear hld hend
        by_cases h32 : 32 < (j : Int)
        · go_wp2_with (first | (go_at_call 36; refine (letter_any _ _).mono ?_; rintro e w ⟨rfl, rfl⟩) | (go_at_call 37; refine (digit_any _ _).mono ?_; rintro e w ⟨rfl, rfl⟩))
          exact bodyPost_ret (v := .tuple #[.agg #[.int .i64 0, .int .i64 0, .int .i64 0, .string ⟨#[]⟩, .int .i64 0], .int .i64 0, .int .i64 5]) (by simp [results, Try.results27, go_sem]) rfl ⟨by rw [HN.out]; unfold nameV; rw [if_neg (by omega)], (by repeat (first | exact Below.refl _ _ | (refine Below.setCell ?_ (by simp) _) | (refine Below.alloc ?_ (by simp) _)))⟩
        · have hsl : ∀ wx : World, (Instr.slice 9 (.string u) (some (.int .i64 (k : Int))) (some (.int .i64 ((k : Int) + (j : Int)))) none).run Try.prog wx = .ok (.string (u.extract k (k + j))) wx := fun wx => slice_kj u k j hj wx
          go_wp2_with (first | (go_at_call 36; refine (letter_any _ _).mono ?_; rintro e w ⟨rfl, rfl⟩) | (go_at_call 37; refine (digit_any _ _).mono ?_; rintro e w ⟨rfl, rfl⟩))
          exact bodyPost_ret (v := .tuple #[.agg #[.int .i64 1, .int .i64 k, .int .i64 0, .string (u.extract k (k + j)), .int .i64 0], .int .i64 j, .int .i64 0]) (by simp [results, Try.results27, go_sem]) rfl ⟨by rw [HN.out]; unfold nameV; rw [if_pos (by omega)], (by repeat (first | exact Below.refl _ _ | (refine Below.setCell ?_ (by simp) _) | (refine Below.alloc ?_ (by simp) _)))⟩
    · have HN := Lib.hid (hend.out fun h => absurd h hlt)
      have hi2 : decide ((k : Int) + j < u.size) = false := by simp; omega
      clear hend
      by_cases h32 : 32 < (j : Int)
      · go_wp2_with (first | (go_at_call 36; refine (letter_any _ _).mono ?_; rintro e w ⟨rfl, rfl⟩) | (go_at_call 37; refine (digit_any _ _).mono ?_; rintro e w ⟨rfl, rfl⟩))
        exact bodyPost_ret (v := .tuple #[.agg #[.int .i64 0, .int .i64 0, .int .i64 0, .string ⟨#[]⟩, .int .i64 0], .int .i64 0, .int .i64 5]) (by simp [results, Try.results27, go_sem]) rfl ⟨by rw [HN.out]; unfold nameV; rw [if_neg (by omega)], (by repeat (first | exact Below.refl _ _ | (refine Below.setCell ?_ (by simp) _) | (refine Below.alloc ?_ (by simp) _)))⟩
      · have hsl : ∀ wx : World, (Instr.slice 9 (.string u) (some (.int .i64 (k : Int))) (some (.int .i64 ((k : Int) + (j : Int)))) none).run Try.prog wx = .ok (.string (u.extract k (k + j))) wx := fun wx => slice_kj u k j hj wx
        go_wp2_with (first | (go_at_call 36; refine (letter_any _ _).mono ?_; rintro e w ⟨rfl, rfl⟩) | (go_at_call 37; refine (digit_any _ _).mono ?_; rintro e w ⟨rfl, rfl⟩))
        exact bodyPost_ret (v := .tuple #[.agg #[.int .i64 1, .int .i64 k, .int .i64 0, .string (u.extract k (k + j)), .int .i64 0], .int .i64 j, .int .i64 0]) (by simp [results, Try.results27, go_sem]) rfl ⟨by rw [HN.out]; unfold nameV; rw [if_pos (by omega)], (by repeat (first | exact Below.refl _ _ | (refine Below.setCell ?_ (by simp) _) | (refine Below.alloc ?_ (by simp) _)))⟩
end Go.Proofs.Ytojneaffoekpnaa.lx
