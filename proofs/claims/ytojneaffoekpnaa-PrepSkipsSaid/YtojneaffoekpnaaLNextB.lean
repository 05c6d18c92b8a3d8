/- The contract of the document's Next at a number. -/
import Derived.Test.YtojneaffoekpnaaLNextA
import Derived.Test.YtojneaffoekpnaaLSkipA
import Derived.RegionTactic
import Derived.ChangeAlike
namespace Go.Proofs.Ytojneaffoekpnaa.lx
set_option linter.unusedVariables false
set_option linter.unusedSimpArgs false
open Go.ChangeShapes Go.WideShapes Go.ChangeAt Go.RowKit

theorem run_split (p : Nat → Bool) (u : ByteArray) (k j : Nat) (hj : k + j ≤ u.size) (h : ∀ i, i < j → p (byt u (k + i)) = true) : run p (u.data.toList.drop k) = j + run p (u.data.toList.drop (k + j)) := by
  induction j with
  | zero => simp
  | succ i ih =>
    have h1 := ih (by omega) fun x hx => h x (by omega)
    rw [h1, run_cons p u (k + i) (by omega), if_pos (h i (by omega))]
    rw [show k + i + 1 = k + (i + 1) by omega]
    omega
theorem num_step (c cj : Nat) (h1 : 48 ≤ c) (h2 : c ≤ 57) (x : Nat) (h : x = min (10 * cj + (c - 48)) 1099511627776) : Value.int IntKind.i64 (min (10 * (cj : Int) + ((c : Int) - 48)) 1099511627776) = Value.int IntKind.i64 (x : Int) := by
  congr 1
  omega

set_option maxRecDepth 100000 in
set_option maxHeartbeats 1000000 in
theorem next_num (u : ByteArray) (k : Nat) (w : World) (hs : u.size ≤ 65535) (hk : k < u.size) (hl : isL (byt u k) = false) (hd0 : isD (byt u k) = true) (n : Nat) (hn : Hid (run isD (u.data.toList.drop k) = n)) (C : Nat → Nat) (hC0 : C 0 = 0) (hC : Hid (∀ j, j < n → C (j + 1) = min (10 * C j + (byt u (k + j) - 48)) 1099511627776)) :
    Calls Try.prog 27 #[.string u, .int .i64 k] w fun e w' => e = .returned (numV u k n (C n)) ∧ Below w.heap.size w w' := by
  have e0 := byt_at u k hk
  obtain ⟨c0, hc0⟩ : ∃ c, byt u k = c := ⟨_, rfl⟩
  rw [hc0] at e0 hl hd0
  clear hc0
  have hki : (k : Int) < u.size := by omega
  have HC0 := Lib.hid hC0
  clear hC0
  have HB : Hid (∀ j, j ≤ n → C j ≤ 1099511627776) := Lib.hid fun j hj => by
    cases j with
    | zero => rw [HC0.out]; omega
    | succ j => rw [hC.out j (by omega)]; omega
  go_enter Try.func27, Try.ntmps27
  go_wp2_with (first | (go_at_call 36; refine (letter_any _ _).mono ?_; rintro e w ⟨rfl, rfl⟩) | (go_at_call 37; refine (digit_any _ _).mono ?_; rintro e w ⟨rfl, rfl⟩))
  go_loop [8, 11] (fun n' v => ∃ j : Nat, n' = .int .i64 j ∧ v = .int .i64 (C j : Nat) ∧ k + j ≤ u.size ∧ j ≤ n ∧ Hid (∀ i, i < j → isD (byt u (k + i)) = true)) (fun n _ => u.size - k - (intOf n).toNat)
  case atStart => exact ⟨0, rfl, by rw [HC0.out]; rfl, by omega, by omega, Lib.hid fun i hi => by omega⟩
  case round =>
    obtain ⟨j, rfl, rfl, hj, hjn, HA⟩ := hrel
    have hend : Hid ((∀ h : k + j < u.size, isD (byt u (k + j)) = false) → n = j) := Lib.hid fun h => by
      rw [← hn.out]
      refine run_eq _ _ j (by simp; omega) (fun i hi hij => ?_) (fun hj' => ?_)
      · rw [byt_drop u k i hi]; exact HA.out i hij
      · rw [byt_drop u k j hj']; exact h (by simp at hj'; omega)
    have hin : Hid (∀ h : k + j < u.size, isD (byt u (k + j)) = true → j < n) := Lib.hid fun h hd => by
      rcases Nat.lt_or_ge j n with h1 | h1
      · exact h1
      · exfalso
        have : j = n := by omega
        subst this
        have h2 := run_cons isD u (k + j) h
        rw [if_pos hd] at h2
        have h3 := run_split isD u k j hj HA.out
        have h4 := hn.out
        omega
    by_cases hlt : k + j < u.size
    · obtain ⟨c, hc⟩ : ∃ c, byt u (k + j) = c := ⟨_, rfl⟩
      have hcu := byt_at u (k + j) hlt
      rw [hc] at hcu
      have HC := Lib.hid hc
      clear hc
      have hi2 : (k : Int) + j < u.size := by omega
      by_cases hd : isD c = true
      · have hnx : Hid (∀ i, i < j + 1 → isD (byt u (k + i)) = true) := Lib.hid fun i hi => by
          by_cases hij : i < j
          · exact HA.out i hij
          · rw [show i = j by omega, HC.out]; exact hd
        have hjn2 := hin.out hlt (by rw [HC.out]; exact hd)
        have hcc : 48 ≤ c ∧ c ≤ 57 := by unfold isD at hd; simp at hd; exact hd
        have hCj := HB.out j (by omega)
        have HX := Lib.hid (hC.out j hjn2)
        rw [HC.out] at HX
        obtain ⟨hcc1, hcc2⟩ := hcc
        clear hend hin
        generalize C j = cj at *
        go_wp2_with (first | (go_at_call 36; refine (letter_any _ _).mono ?_; rintro e w ⟨rfl, rfl⟩) | (go_at_call 37; refine (digit_any _ _).mono ?_; rintro e w ⟨rfl, rfl⟩))
        go_round
        case rel => exact ⟨j + 1, by go_num, num_step c cj hcc1 hcc2 _ HX.out, by omega, by omega, hnx⟩
        case measure => simp [intOf]; omega
      · have hd2 : isD c = false := by simpa using hd
        have HN := Lib.hid (hend.out fun _ => by rw [HC.out]; exact hd2)
        have hCj := HB.out j (by omega)
        clear hd hend hin
        generalize hcj : C j = cj at *
        have HCJ := Lib.hid hcj
        clear hcj
        by_cases h32 : 2147483647 < (cj : Int)
        · go_wp2_with (first | (go_at_call 36; refine (letter_any _ _).mono ?_; rintro e w ⟨rfl, rfl⟩) | (go_at_call 37; refine (digit_any _ _).mono ?_; rintro e w ⟨rfl, rfl⟩))
          exact bodyPost_ret (v := .tuple #[.agg #[.int .i64 0, .int .i64 0, .int .i64 0, .string ⟨#[]⟩, .int .i64 0], .int .i64 0, .int .i64 4]) (by simp [results, Try.results27, go_sem]) rfl ⟨by rw [HN.out, HCJ.out]; unfold numV; rw [if_neg (by omega)], (by repeat (first | exact Below.refl _ _ | (refine Below.setCell ?_ (by simp) _) | (refine Below.alloc ?_ (by simp) _)))⟩
        · have hsl : ∀ wx : World, (Instr.slice 9 (.string u) (some (.int .i64 (k : Int))) (some (.int .i64 ((k : Int) + (j : Int)))) none).run Try.prog wx = .ok (.string (u.extract k (k + j))) wx := fun wx => slice_kj u k j hj wx
          go_wp2_with (first | (go_at_call 36; refine (letter_any _ _).mono ?_; rintro e w ⟨rfl, rfl⟩) | (go_at_call 37; refine (digit_any _ _).mono ?_; rintro e w ⟨rfl, rfl⟩))
          exact bodyPost_ret (v := .tuple #[.agg #[.int .i64 2, .int .i64 k, .int .i64 0, .string (u.extract k (k + j)), .int .i64 cj], .int .i64 j, .int .i64 0]) (by simp [results, Try.results27, go_sem]) rfl ⟨by rw [HN.out, HCJ.out]; unfold numV; rw [if_pos (by omega)], (by repeat (first | exact Below.refl _ _ | (refine Below.setCell ?_ (by simp) _) | (refine Below.alloc ?_ (by simp) _)))⟩
    · have HN := Lib.hid (hend.out fun h => absurd h hlt)
      have hi2 : decide ((k : Int) + j < u.size) = false := by simp; omega
      have hCj := HB.out j (by omega)
      clear hend hin
      generalize hcj : C j = cj at *
      have HCJ := Lib.hid hcj
      clear hcj
      by_cases h32 : 2147483647 < (cj : Int)
      · go_wp2_with (first | (go_at_call 36; refine (letter_any _ _).mono ?_; rintro e w ⟨rfl, rfl⟩) | (go_at_call 37; refine (digit_any _ _).mono ?_; rintro e w ⟨rfl, rfl⟩))
        exact bodyPost_ret (v := .tuple #[.agg #[.int .i64 0, .int .i64 0, .int .i64 0, .string ⟨#[]⟩, .int .i64 0], .int .i64 0, .int .i64 4]) (by simp [results, Try.results27, go_sem]) rfl ⟨by rw [HN.out, HCJ.out]; unfold numV; rw [if_neg (by omega)], (by repeat (first | exact Below.refl _ _ | (refine Below.setCell ?_ (by simp) _) | (refine Below.alloc ?_ (by simp) _)))⟩
      · have hsl : ∀ wx : World, (Instr.slice 9 (.string u) (some (.int .i64 (k : Int))) (some (.int .i64 ((k : Int) + (j : Int)))) none).run Try.prog wx = .ok (.string (u.extract k (k + j))) wx := fun wx => slice_kj u k j hj wx
        go_wp2_with (first | (go_at_call 36; refine (letter_any _ _).mono ?_; rintro e w ⟨rfl, rfl⟩) | (go_at_call 37; refine (digit_any _ _).mono ?_; rintro e w ⟨rfl, rfl⟩))
        exact bodyPost_ret (v := .tuple #[.agg #[.int .i64 2, .int .i64 k, .int .i64 0, .string (u.extract k (k + j)), .int .i64 cj], .int .i64 j, .int .i64 0]) (by simp [results, Try.results27, go_sem]) rfl ⟨by rw [HN.out, HCJ.out]; unfold numV; rw [if_pos (by omega)], (by repeat (first | exact Below.refl _ _ | (refine Below.setCell ?_ (by simp) _) | (refine Below.alloc ?_ (by simp) _)))⟩
end Go.Proofs.Ytojneaffoekpnaa.lx
