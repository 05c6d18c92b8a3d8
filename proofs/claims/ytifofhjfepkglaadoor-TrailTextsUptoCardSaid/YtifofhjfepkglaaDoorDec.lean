/- The decimal of a number, as the document writes it. -/
import Derived.Test.YtifofhjfepkglaaDoorBase
namespace Go.Proofs.YtifofhjfepkglaaDoor
open Go.ChangeShapes Go.WideShapes Go.ChangeAt Go.RowKit
set_option linter.unusedVariables false
set_option linter.unusedSimpArgs false

theorem dec_step {u : Nat} (h : ¬ u < 10) : Lib.decDigits u = Lib.decDigits (u / 10) ++ [UInt8.ofNat (48 + u % 10)] := by
  rw [Lib.decDigits, dif_neg h]
theorem dec_last {u : Nat} (h : u < 10) : Lib.decDigits u = [UInt8.ofNat (48 + u % 10)] := by
  rw [Lib.decDigits, dif_pos h, Nat.mod_eq_of_lt h]

theorem run_byte (x : Nat) (hx : x < 256) (W : World) : (convert 38 9 (.slice (some ⟨W.heap.size, 0, none⟩) 1 1)).run Tryd.prog (W.alloc (.cells #[.int .u8 (x : Int)] 5)) = .ok (.string ⟨#[UInt8.ofNat x]⟩) (W.alloc (.cells #[.int .u8 (x : Int)] 5)) := by
  refine run_convert_bytes_back _ 38 9 5 ⟨W.heap.size, 0, none⟩ 1 [UInt8.ofNat x] Tryd.underlying38 Tryd.underlying5 Tryd.underlying9 fun j hj => ?_
  obtain rfl : j = 0 := by simpa using hj
  refine (cell_of_row _ _ _ _ _ _ (heap_alloc_new W _)).trans ?_
  have : (UInt8.ofNat x).toNat = x := by simp; omega
  simp [this]
theorem tmod_pos {m : Int} (h : 0 ≤ m) : m.tmod 10 = ((m.natAbs % 10 : Nat) : Int) := by
  rw [Int.tmod_eq_emod_of_nonneg h]
  omega
theorem tmod_neg {m : Int} (h : m < 0) : m.tmod 10 = -((m.natAbs % 10 : Nat) : Int) := by
  obtain ⟨k, rfl⟩ : ∃ k : Int, m = -k := ⟨-m, by omega⟩
  rw [Int.neg_tmod, Int.tmod_eq_emod_of_nonneg (by omega)]
  omega
theorem tdiv_abs (m : Int) : (m.tdiv 10).natAbs = m.natAbs / 10 := by
  rw [Int.natAbs_tdiv]
  rfl
theorem tdiv_pos {m : Int} (h : 0 ≤ m) : 0 ≤ m.tdiv 10 := Int.tdiv_nonneg h (by decide)
theorem tdiv_neg {m : Int} (h : m ≤ 0) : m.tdiv 10 ≤ 0 := by
  obtain ⟨k, rfl⟩ : ∃ k : Int, m = -k := ⟨-m, by omega⟩
  rw [Int.neg_tdiv]
  have := tdiv_pos (m := k) (by omega)
  omega

set_option maxRecDepth 100000 in
set_option maxHeartbeats 1600000 in
theorem dec_any (n : Int) (w : World) (hn : inI n) : Calls Tryd.prog 21 #[.int .i64 n] w fun e w' => e = .returned (strV (Lib.itoa n)) ∧ Below w.heap.size w w' := by
  obtain ⟨h0, h1⟩ := hn
  unfold strV
  go_enter Tryd.func21, Tryd.ntmps21
  go_wp2_with fail
  go_loopw [0, 3] (fun v s wr => ∃ (m : Int) (sl : List UInt8), v = .int .i64 m ∧ s = .string ⟨sl.toArray⟩ ∧ Hid (Lib.decDigits m.natAbs ++ sl = Lib.decDigits n.natAbs) ∧ Hid ((n < 0 → m ≤ 0) ∧ (0 ≤ n → 0 ≤ m)) ∧ Hid (m.natAbs ≤ n.natAbs) ∧ Hid (Below w.heap.size w wr)) (fun v _ _ => (intOf v).natAbs)
  case atStart => exact ⟨n, [], rfl, rfl, Lib.hid (by simp), Lib.hid ⟨fun h => by omega, fun h => h⟩, Lib.hid (Nat.le_refl _), Lib.hid (Below.refl _ _)⟩
  case round =>
    obtain ⟨m, sl, rfl, rfl, HD, HS, HM, HB⟩ := hrel
    obtain ⟨d, hd⟩ : ∃ d, m.natAbs % 10 = d := ⟨_, rfl⟩
    have hd10 : d < 10 := by omega
    have HDD := Lib.hid hd
    obtain ⟨bt, hbt⟩ : ∃ bt, UInt8.ofNat (48 + d) = bt := ⟨_, rfl⟩
    have hcv : ∀ W : World, (convert 38 9 (.slice (some ⟨W.heap.size, 0, none⟩) 1 1)).run Tryd.prog (W.alloc (.cells #[.int .u8 (48 + (d : Int))] 5)) = .ok (.string ⟨#[bt]⟩) (W.alloc (.cells #[.int .u8 (48 + (d : Int))] 5)) := fun W => by
      have := run_byte (48 + d) (by omega) W
      rw [hbt] at this
      simpa using this
    have hw1 : wrap64 (48 + (d : Int)) = 48 + (d : Int) := by unfold wrap64; omega
    have hw2 : (48 + (d : Int)) % 256 = 48 + (d : Int) := by omega
    have HBT := Lib.hid hbt
    have hbx : ∀ W : World, Below w.heap.size w W → Below w.heap.size w (W.alloc (.cells #[.int .u8 (48 + (d : Int))] 5)) := fun W h => h.alloc h.size _
    have HBX := Lib.hid hbx
    have hq : wrap64 (m.tdiv 10) = m.tdiv 10 := by
      have h1 := tdiv_abs m
      have h2 := HM.out
      unfold wrap64
      omega
    have hln : sl.length ≤ 21 := by
      have h2 := congrArg List.length HD.out
      rw [List.length_append] at h2
      have h3 := Lib.itoa_length_le n h0 h1
      unfold Lib.itoa at h3
      split at h3
      · simp at h3
        omega
      · rw [show n.toNat = n.natAbs by omega] at h3
        omega
    have HLN := Lib.hid hln
    clear hd hbt hbx hln
    by_cases hneg : m < 0 ∧ 0 < d
    · have htm : m.tmod 10 = -(d : Int) := by rw [tmod_neg hneg.1, HDD.out]
      have hlt : -(d : Int) < 0 := by omega
      have hng : wrap64 (- -(d : Int)) = (d : Int) := by unfold wrap64; omega
      clear hneg
      have hsl : ¬ 9223372036854775807 < 1 + sl.length := by have := HLN.out; omega
      have hsl2 : ¬ 9223372036854775807 < 1 + (1 + sl.length) := by have := HLN.out; omega
      by_cases hz : m.tdiv 10 = 0
      · by_cases hn0 : n < 0
        · go_wp2_with fail
          go_ret
          refine ⟨?_, HBX.out wr HB.out⟩
          have h2 := HD.out
          rw [dec_last (by have := tdiv_abs m; rw [hz] at this; simp at this; omega), HDD.out, HBT.out] at h2
          unfold Lib.itoa
          rw [if_pos hn0, ← h2]
          congr 1
        · go_wp2_with fail
          go_ret
          refine ⟨?_, HBX.out wr HB.out⟩
          have h2 := HD.out
          rw [dec_last (by have := tdiv_abs m; rw [hz] at this; simp at this; omega), HDD.out, HBT.out] at h2
          unfold Lib.itoa
          rw [if_neg (by omega), show n.toNat = n.natAbs by omega, ← h2]
          congr 1
      · go_wp2_with fail
        go_roundw
        case rel =>
          refine ⟨m.tdiv 10, bt :: sl, by rw [hq], by congr 1, Lib.hid ?_, Lib.hid ⟨fun h => tdiv_neg (HS.out.1 h), fun h => tdiv_pos (HS.out.2 h)⟩, Lib.hid (by have := HM.out; have := tdiv_abs m; omega), Lib.hid (HBX.out wr HB.out)⟩
          have h2 := HD.out
          have h3 := tdiv_abs m
          rw [dec_step (by omega), HDD.out, HBT.out] at h2
          rw [h3, ← h2]
          simp
        case measure => simp only [intOf]; rw [hq]; have := tdiv_abs m; omega
    · have htm : m.tmod 10 = (d : Int) := by
        by_cases hm0 : 0 ≤ m
        · rw [tmod_pos hm0, HDD.out]
        · rw [tmod_neg (by omega), HDD.out]
          omega
      have hge : ¬ (d : Int) < 0 := by omega
      clear hneg
      have hsl : ¬ 9223372036854775807 < 1 + sl.length := by have := HLN.out; omega
      have hsl2 : ¬ 9223372036854775807 < 1 + (1 + sl.length) := by have := HLN.out; omega
      by_cases hz : m.tdiv 10 = 0
      · by_cases hn0 : n < 0
        · go_wp2_with fail
          go_ret
          refine ⟨?_, HBX.out wr HB.out⟩
          have h2 := HD.out
          rw [dec_last (by have := tdiv_abs m; rw [hz] at this; simp at this; omega), HDD.out, HBT.out] at h2
          unfold Lib.itoa
          rw [if_pos hn0, ← h2]
          congr 1
        · go_wp2_with fail
          go_ret
          refine ⟨?_, HBX.out wr HB.out⟩
          have h2 := HD.out
          rw [dec_last (by have := tdiv_abs m; rw [hz] at this; simp at this; omega), HDD.out, HBT.out] at h2
          unfold Lib.itoa
          rw [if_neg (by omega), show n.toNat = n.natAbs by omega, ← h2]
          congr 1
      · go_wp2_with fail
        go_roundw
        case rel =>
          refine ⟨m.tdiv 10, bt :: sl, by rw [hq], by congr 1, Lib.hid ?_, Lib.hid ⟨fun h => tdiv_neg (HS.out.1 h), fun h => tdiv_pos (HS.out.2 h)⟩, Lib.hid (by have := HM.out; have := tdiv_abs m; omega), Lib.hid (HBX.out wr HB.out)⟩
          have h2 := HD.out
          have h3 := tdiv_abs m
          rw [dec_step (by omega), HDD.out, HBT.out] at h2
          rw [h3, ← h2]
          simp
        case measure => simp only [intOf]; rw [hq]; have := tdiv_abs m; omega
end Go.Proofs.YtifofhjfepkglaaDoor
