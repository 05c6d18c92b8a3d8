/- The decimal of a number, as the document writes it. -/
import Derived.Test.YtbeikhgjkbnldaaDoorM37
import Derived.Laws.IdiomStrings
import Derived.Lib.ItoaLen
import Derived.Laws.DeepStrings4
namespace Go.Proofs.YtbeikhgjkbnldaaDoor
open Go.ChangeShapes Go.WideShapes Go.ChangeAt Go.RowKit
set_option linter.unusedVariables false
set_option linter.unusedSimpArgs false

/-- A text. -/
def strV (l : List UInt8) : Value := .string ⟨l.toArray⟩
theorem str_add (a b : List UInt8) : (⟨a.toArray⟩ : ByteArray) ++ ⟨b.toArray⟩ = ⟨(a ++ b).toArray⟩ := by
  apply ByteArray.ext
  simp

theorem dec_step {u : Nat} (h : ¬ u < 10) : Lib.decDigits u = Lib.decDigits (u / 10) ++ [UInt8.ofNat (48 + u % 10)] := by
  rw [Lib.decDigits, dif_neg h]
theorem dec_last {u : Nat} (h : u < 10) : Lib.decDigits u = [UInt8.ofNat (48 + u % 10)] := by
  rw [Lib.decDigits, dif_pos h, Nat.mod_eq_of_lt h]

theorem run_byte (x : Nat) (hx : x < 256) (W : World) : (convert 69 9 (.slice (some ⟨W.heap.size, 0, none⟩) 1 1)).run Tryd.prog (W.alloc (.cells #[.int .u8 (x : Int)] 5)) = .ok (.string ⟨#[UInt8.ofNat x]⟩) (W.alloc (.cells #[.int .u8 (x : Int)] 5)) := by
  refine run_convert_bytes_back _ 69 9 5 ⟨W.heap.size, 0, none⟩ 1 [UInt8.ofNat x] Tryd.underlying69 Tryd.underlying5 Tryd.underlying9 fun j hj => ?_
  obtain rfl : j = 0 := by simpa using hj
  refine (cell_of_row _ _ _ _ _ _ (heap_alloc_new W _)).trans ?_
  have : (UInt8.ofNat x).toNat = x := by simp; omega
  simp [this]
theorem tmod_pos {m : Int} (h : 0 ≤ m) : m.tmod 10 = ((m.natAbs % 10 : Nat) : Int) := by
  rw [Int.tmod_eq_emod_of_nonneg h]
  omega
theorem tmod_neg {m : Int} (h : m < 0) : m.tmod 10 = -((m.natAbs % 10 : Nat) : Int) := by
  obtain ⟨k, rfl⟩ : ∃ k : Int, m = -k := ⟨-m, by omega⟩
  rw [Int.neg_tmod, Int.tmod_eq_emod_of_nonneg (by omega)]
  omega
theorem tdiv_abs (m : Int) : (m.tdiv 10).natAbs = m.natAbs / 10 := by
  rw [Int.natAbs_tdiv]
  rfl
theorem tdiv_pos {m : Int} (h : 0 ≤ m) : 0 ≤ m.tdiv 10 := Int.tdiv_nonneg h (by decide)
theorem tdiv_neg {m : Int} (h : m ≤ 0) : m.tdiv 10 ≤ 0 := by
  obtain ⟨k, rfl⟩ : ∃ k : Int, m = -k := ⟨-m, by omega⟩
  rw [Int.neg_tdiv]
  have := tdiv_pos (m := k) (by omega)
  omega

set_option maxRecDepth 100000 in
set_option maxHeartbeats 1600000 in
theorem decimalC (n : Int) (w : World) (hn : -9223372036854775808 ≤ n ∧ n ≤ 9223372036854775807) : Calls Tryd.prog 25 #[.int .i64 n] w fun e w' => e = .returned (strV (Lib.itoa n)) ∧ Below w.heap.size w w' := by
  obtain ⟨h0, h1⟩ := hn
  unfold strV
  go_enter Tryd.func25, Tryd.ntmps25
  go_wp2_with fail
  go_loopw [0, 3] (fun v s wr => ∃ (m : Int) (sl : List UInt8), v = .int .i64 m ∧ s = .string ⟨sl.toArray⟩ ∧ Hid (Lib.decDigits m.natAbs ++ sl = Lib.decDigits n.natAbs) ∧ Hid ((n < 0 → m ≤ 0) ∧ (0 ≤ n → 0 ≤ m)) ∧ Hid (m.natAbs ≤ n.natAbs) ∧ Hid (Below w.heap.size w wr)) (fun v _ _ => (intOf v).natAbs)
  case atStart => exact ⟨n, [], rfl, rfl, Lib.hid (by simp), Lib.hid ⟨fun h => by omega, fun h => h⟩, Lib.hid (Nat.le_refl _), Lib.hid (Below.refl _ _)⟩
  case round =>
    obtain ⟨m, sl, rfl, rfl, HD, HS, HM, HB⟩ := hrel
    obtain ⟨d, hd⟩ : ∃ d, m.natAbs % 10 = d := ⟨_, rfl⟩
    have hd10 : d < 10 := by omega
    have HDD := Lib.hid hd
    obtain ⟨bt, hbt⟩ : ∃ bt, UInt8.ofNat (48 + d) = bt := ⟨_, rfl⟩
    have hcv : ∀ W : World, (convert 69 9 (.slice (some ⟨W.heap.size, 0, none⟩) 1 1)).run Tryd.prog (W.alloc (.cells #[.int .u8 (48 + (d : Int))] 5)) = .ok (.string ⟨#[bt]⟩) (W.alloc (.cells #[.int .u8 (48 + (d : Int))] 5)) := fun W => by
      have := run_byte (48 + d) (by omega) W
      rw [hbt] at this
      simpa using this
    have hw1 : wrap64 (48 + (d : Int)) = 48 + (d : Int) := by unfold wrap64; omega
    have hw2 : (48 + (d : Int)) % 256 = 48 + (d : Int) := by omega
    have HBT := Lib.hid hbt
    have hbx : ∀ W : World, Below w.heap.size w W → Below w.heap.size w (W.alloc (.cells #[.int .u8 (48 + (d : Int))] 5)) := fun W h => h.alloc h.size _
    have HBX := Lib.hid hbx
    have hq : wrap64 (m.tdiv 10) = m.tdiv 10 := by
      have h1 := tdiv_abs m
      have h2 := HM.out
      unfold wrap64
      omega
    have hln : sl.length ≤ 21 := by
      have h2 := congrArg List.length HD.out
      rw [List.length_append] at h2
      have h3 := Lib.itoa_length_le n h0 h1
      unfold Lib.itoa at h3
      split at h3
      · simp at h3
        omega
      · rw [show n.toNat = n.natAbs by omega] at h3
        omega
    have HLN := Lib.hid hln
    clear hd hbt hbx hln
    by_cases hneg : m < 0 ∧ 0 < d
    · have htm : m.tmod 10 = -(d : Int) := by rw [tmod_neg hneg.1, HDD.out]
      have hlt : -(d : Int) < 0 := by omega
      have hng : wrap64 (- -(d : Int)) = (d : Int) := by unfold wrap64; omega
      clear hneg
      have hsl : ¬ 9223372036854775807 < 1 + sl.length := by have := HLN.out; omega
      have hsl2 : ¬ 9223372036854775807 < 1 + (1 + sl.length) := by have := HLN.out; omega
      by_cases hz : m.tdiv 10 = 0
      · by_cases hn0 : n < 0
        · go_wp2_with fail
          go_ret
          refine ⟨?_, HBX.out wr HB.out⟩
          have h2 := HD.out
          rw [dec_last (by have := tdiv_abs m; rw [hz] at this; simp at this; omega), HDD.out, HBT.out] at h2
          unfold Lib.itoa
          rw [if_pos hn0, ← h2]
          congr 1
        · go_wp2_with fail
          go_ret
          refine ⟨?_, HBX.out wr HB.out⟩
          have h2 := HD.out
          rw [dec_last (by have := tdiv_abs m; rw [hz] at this; simp at this; omega), HDD.out, HBT.out] at h2
          unfold Lib.itoa
          rw [if_neg (by omega), show n.toNat = n.natAbs by omega, ← h2]
          congr 1
      · go_wp2_with fail
        go_roundw
        case rel =>
          refine ⟨m.tdiv 10, bt :: sl, by rw [hq], by congr 1, Lib.hid ?_, Lib.hid ⟨fun h => tdiv_neg (HS.out.1 h), fun h => tdiv_pos (HS.out.2 h)⟩, Lib.hid (by have := HM.out; have := tdiv_abs m; omega), Lib.hid (HBX.out wr HB.out)⟩
          have h2 := HD.out
          have h3 := tdiv_abs m
          rw [dec_step (by omega), HDD.out, HBT.out] at h2
          rw [h3, ← h2]
          simp
        case measure => simp only [intOf]; rw [hq]; have := tdiv_abs m; omega
    · have htm : m.tmod 10 = (d : Int) := by
        by_cases hm0 : 0 ≤ m
        · rw [tmod_pos hm0, HDD.out]
        · rw [tmod_neg (by omega), HDD.out]
          omega
      have hge : ¬ (d : Int) < 0 := by omega
      clear hneg
      have hsl : ¬ 9223372036854775807 < 1 + sl.length := by have := HLN.out; omega
      have hsl2 : ¬ 9223372036854775807 < 1 + (1 + sl.length) := by have := HLN.out; omega
      by_cases hz : m.tdiv 10 = 0
      · by_cases hn0 : n < 0
        · go_wp2_with fail
          go_ret
          refine ⟨?_, HBX.out wr HB.out⟩
          have h2 := HD.out
          rw [dec_last (by have := tdiv_abs m; rw [hz] at this; simp at this; omega), HDD.out, HBT.out] at h2
          unfold Lib.itoa
          rw [if_pos hn0, ← h2]
          congr 1
        · go_wp2_with fail
          go_ret
          refine ⟨?_, HBX.out wr HB.out⟩
          have h2 := HD.out
          rw [dec_last (by have := tdiv_abs m; rw [hz] at this; simp at this; omega), HDD.out, HBT.out] at h2
          unfold Lib.itoa
          rw [if_neg (by omega), show n.toNat = n.natAbs by omega, ← h2]
          congr 1
      · go_wp2_with fail
        go_roundw
        case rel =>
          refine ⟨m.tdiv 10, bt :: sl, by rw [hq], by congr 1, Lib.hid ?_, Lib.hid ⟨fun h => tdiv_neg (HS.out.1 h), fun h => tdiv_pos (HS.out.2 h)⟩, Lib.hid (by have := HM.out; have := tdiv_abs m; omega), Lib.hid (HBX.out wr HB.out)⟩
          have h2 := HD.out
          have h3 := tdiv_abs m
          rw [dec_step (by omega), HDD.out, HBT.out] at h2
          rw [h3, ← h2]
          simp
        case measure => simp only [intOf]; rw [hq]; have := tdiv_abs m; omega
end Go.Proofs.YtbeikhgjkbnldaaDoor
/- A number to a base, and one of Print's numbers, as the document writes them. -/
namespace Go.Proofs.YtbeikhgjkbnldaaDoor
open Go.ChangeShapes Go.WideShapes Go.ChangeAt Go.RowKit
set_option linter.unusedVariables false
set_option linter.unusedSimpArgs false

theorem hex_fin : ∀ m : Fin 16, (⟨#[48, 49, 50, 51, 52, 53, 54, 55, 56, 57, 97, 98, 99, 100, 101, 102]⟩ : ByteArray).extract m.val (m.val + 1) = ⟨#[digB m.val]⟩ := by decide +kernel
theorem hex_at (m : Nat) (h : m < 16) : (⟨#[48, 49, 50, 51, 52, 53, 54, 55, 56, 57, 97, 98, 99, 100, 101, 102]⟩ : ByteArray).extract m (m + 1) = ⟨#[digB m]⟩ := hex_fin ⟨m, h⟩
theorem hex_slice (m : Nat) (h : m < 16) (W : World) : (Instr.slice 9 (.string (⟨#[48, 49, 50, 51, 52, 53, 54, 55, 56, 57, 97, 98, 99, 100, 101, 102]⟩ : ByteArray)) (some (.int .i64 (m : Int))) (some (.int .i64 ((m : Int) + 1))) none).run Tryd.prog W = .ok (.string ⟨#[digB m]⟩) W := by
  have hs : (⟨#[48, 49, 50, 51, 52, 53, 54, 55, 56, 57, 97, 98, 99, 100, 101, 102]⟩ : ByteArray).size = 16 := by decide
  rw [run_slice_string_if _ _ _ _ _ _ _ Tryd.underlying9]
  rw [if_pos (by rw [hs]; omega), if_pos (by omega), Int.toNat_natCast, show ((m : Int) + 1).toNat = m + 1 by omega, hex_at m h]
set_option maxRecDepth 100000 in
set_option maxHeartbeats 1600000 in
theorem base_8 (u : Nat) (hu : u < 4294967296) (w : World) : Calls Tryd.prog 24 #[.int .u64 u, .int .u64 8] w fun e w' => e = .returned (strV (baseL 8 u)) ∧ w = w' := by
  unfold strV
  have HU := Lib.hid hu
  clear hu
  go_enter Tryd.func24, Tryd.ntmps24
  go_wp2_with fail
  go_loop [0, 6] (fun v s => ∃ (m : Nat) (sl : List UInt8), v = .int .u64 m ∧ s = .string ⟨sl.toArray⟩ ∧ Hid (baseL 8 m ++ sl = baseL 8 u) ∧ Hid (m ≤ u)) (fun v _ => (intOf v).toNat)
  case atStart => exact ⟨u, [], rfl, rfl, Lib.hid (by simp), Lib.hid (Nat.le_refl _)⟩
  case round =>
    obtain ⟨m, sl, rfl, rfl, HD, HM⟩ := hrel
    obtain ⟨d, hd⟩ : ∃ d, m % 8 = d := ⟨_, rfl⟩
    obtain ⟨x, hx⟩ : ∃ x, m / 8 = x := ⟨_, rfl⟩
    have hm4 : m < 4294967296 := Nat.lt_of_le_of_lt HM.out HU.out
    have HF : Hid ((x = 0 → digB d :: sl = baseL 8 u) ∧ (x ≠ 0 → baseL 8 x ++ (digB d :: sl) = baseL 8 u) ∧ (x ≠ 0 → x < m) ∧ x ≤ u) := Lib.hid ⟨fun h => by
      have h1 := HD.out
      rw [base_small (by omega)] at h1
      rw [← h1, ← hd, Nat.mod_eq_of_lt (by omega)]
      rfl, fun h => by
      rw [← HD.out, base_step (b := 8) (u := m) (by omega) (by omega) (by omega), hd, hx]
      simp, fun h => by omega, by have := HM.out; omega⟩
    have hdb : d < 8 := by rw [← hd]; exact Nat.mod_lt _ (by decide)
    have hln : sl.length ≤ 64 := by
      have h1 := congrArg List.length HD.out
      have h2 := base_len 8 u
      rw [List.length_append] at h1
      omega
    have r2 : (m : Int).tmod 8 = d := by rw [Int.tmod_eq_emod_of_nonneg (by omega)]; omega
    have q3 : IntKind.u64.wrap ((m : Int).tdiv 8) = (x : Int) := by rw [Int.tdiv_eq_ediv_of_nonneg (by omega), IntKind.wrap_u64]; omega
    have q4 : IntKind.u64.wrap ((m : Int) / 8) = (x : Int) := by rw [IntKind.wrap_u64]; omega
    have d1 : IntKind.i64.wrap (d : Int) = d := IntWalk.i64_in _ (by omega)
    have d2 : IntKind.i64.wrap ((d : Int) + 1) = (d : Int) + 1 := IntWalk.i64_in _ (by omega)
    have hsl := hex_slice d (by omega)
    have hsz1 : ¬ 9223372036854775807 < 1 + sl.length := by omega
    clear hd hx hm4 hdb HD HM hln
    by_cases hz : x = 0
    · have hz1 : ((x : Int) == 0) = true := by rw [beq_iff_eq]; omega
      have HG := Lib.hid (HF.out.1 hz)
      clear hz HF
      go_wp2_with fail
      go_ret
      exact ⟨by rw [← HG.out]; congr 1, rfl⟩
    · have hz1 : ((x : Int) == 0) = false := by rw [beq_eq_false_iff_ne]; omega
      have HG := Lib.hid (And.intro (HF.out.2.1 hz) (And.intro (HF.out.2.2.1 hz) HF.out.2.2.2))
      clear hz HF
      go_wp2_with fail
      go_round
      case rel => exact ⟨x, digB d :: sl, by first | rfl | go_num, by congr 1, Lib.hid HG.out.1, Lib.hid HG.out.2.2⟩
      case measure => have := HG.out.2.1; simp [intOf]; omega
set_option maxRecDepth 100000 in
set_option maxHeartbeats 1600000 in
theorem base_10 (u : Nat) (hu : u < 4294967296) (w : World) : Calls Tryd.prog 24 #[.int .u64 u, .int .u64 10] w fun e w' => e = .returned (strV (baseL 10 u)) ∧ w = w' := by
  unfold strV
  have HU := Lib.hid hu
  clear hu
  go_enter Tryd.func24, Tryd.ntmps24
  go_wp2_with fail
  go_loop [0, 6] (fun v s => ∃ (m : Nat) (sl : List UInt8), v = .int .u64 m ∧ s = .string ⟨sl.toArray⟩ ∧ Hid (baseL 10 m ++ sl = baseL 10 u) ∧ Hid (m ≤ u)) (fun v _ => (intOf v).toNat)
  case atStart => exact ⟨u, [], rfl, rfl, Lib.hid (by simp), Lib.hid (Nat.le_refl _)⟩
  case round =>
    obtain ⟨m, sl, rfl, rfl, HD, HM⟩ := hrel
    obtain ⟨d, hd⟩ : ∃ d, m % 10 = d := ⟨_, rfl⟩
    obtain ⟨x, hx⟩ : ∃ x, m / 10 = x := ⟨_, rfl⟩
    have hm4 : m < 4294967296 := Nat.lt_of_le_of_lt HM.out HU.out
    have HF : Hid ((x = 0 → digB d :: sl = baseL 10 u) ∧ (x ≠ 0 → baseL 10 x ++ (digB d :: sl) = baseL 10 u) ∧ (x ≠ 0 → x < m) ∧ x ≤ u) := Lib.hid ⟨fun h => by
      have h1 := HD.out
      rw [base_small (by omega)] at h1
      rw [← h1, ← hd, Nat.mod_eq_of_lt (by omega)]
      rfl, fun h => by
      rw [← HD.out, base_step (b := 10) (u := m) (by omega) (by omega) (by omega), hd, hx]
      simp, fun h => by omega, by have := HM.out; omega⟩
    have hdb : d < 10 := by rw [← hd]; exact Nat.mod_lt _ (by decide)
    have hln : sl.length ≤ 64 := by
      have h1 := congrArg List.length HD.out
      have h2 := base_len 10 u
      rw [List.length_append] at h1
      omega
    have r2 : (m : Int).tmod 10 = d := by rw [Int.tmod_eq_emod_of_nonneg (by omega)]; omega
    have q3 : IntKind.u64.wrap ((m : Int).tdiv 10) = (x : Int) := by rw [Int.tdiv_eq_ediv_of_nonneg (by omega), IntKind.wrap_u64]; omega
    have q4 : IntKind.u64.wrap ((m : Int) / 10) = (x : Int) := by rw [IntKind.wrap_u64]; omega
    have d1 : IntKind.i64.wrap (d : Int) = d := IntWalk.i64_in _ (by omega)
    have d2 : IntKind.i64.wrap ((d : Int) + 1) = (d : Int) + 1 := IntWalk.i64_in _ (by omega)
    have hsl := hex_slice d (by omega)
    have hsz1 : ¬ 9223372036854775807 < 1 + sl.length := by omega
    clear hd hx hm4 hdb HD HM hln
    by_cases hz : x = 0
    · have hz1 : ((x : Int) == 0) = true := by rw [beq_iff_eq]; omega
      have HG := Lib.hid (HF.out.1 hz)
      clear hz HF
      go_wp2_with fail
      go_ret
      exact ⟨by rw [← HG.out]; congr 1, rfl⟩
    · have hz1 : ((x : Int) == 0) = false := by rw [beq_eq_false_iff_ne]; omega
      have HG := Lib.hid (And.intro (HF.out.2.1 hz) (And.intro (HF.out.2.2.1 hz) HF.out.2.2.2))
      clear hz HF
      go_wp2_with fail
      go_round
      case rel => exact ⟨x, digB d :: sl, by first | rfl | go_num, by congr 1, Lib.hid HG.out.1, Lib.hid HG.out.2.2⟩
      case measure => have := HG.out.2.1; simp [intOf]; omega
set_option maxRecDepth 100000 in
set_option maxHeartbeats 1600000 in
theorem base_16 (u : Nat) (hu : u < 4294967296) (w : World) : Calls Tryd.prog 24 #[.int .u64 u, .int .u64 16] w fun e w' => e = .returned (strV (baseL 16 u)) ∧ w = w' := by
  unfold strV
  have HU := Lib.hid hu
  clear hu
  go_enter Tryd.func24, Tryd.ntmps24
  go_wp2_with fail
  go_loop [0, 6] (fun v s => ∃ (m : Nat) (sl : List UInt8), v = .int .u64 m ∧ s = .string ⟨sl.toArray⟩ ∧ Hid (baseL 16 m ++ sl = baseL 16 u) ∧ Hid (m ≤ u)) (fun v _ => (intOf v).toNat)
  case atStart => exact ⟨u, [], rfl, rfl, Lib.hid (by simp), Lib.hid (Nat.le_refl _)⟩
  case round =>
    obtain ⟨m, sl, rfl, rfl, HD, HM⟩ := hrel
    obtain ⟨d, hd⟩ : ∃ d, m % 16 = d := ⟨_, rfl⟩
    obtain ⟨x, hx⟩ : ∃ x, m / 16 = x := ⟨_, rfl⟩
    have hm4 : m < 4294967296 := Nat.lt_of_le_of_lt HM.out HU.out
    have HF : Hid ((x = 0 → digB d :: sl = baseL 16 u) ∧ (x ≠ 0 → baseL 16 x ++ (digB d :: sl) = baseL 16 u) ∧ (x ≠ 0 → x < m) ∧ x ≤ u) := Lib.hid ⟨fun h => by
      have h1 := HD.out
      rw [base_small (by omega)] at h1
      rw [← h1, ← hd, Nat.mod_eq_of_lt (by omega)]
      rfl, fun h => by
      rw [← HD.out, base_step (b := 16) (u := m) (by omega) (by omega) (by omega), hd, hx]
      simp, fun h => by omega, by have := HM.out; omega⟩
    have hdb : d < 16 := by rw [← hd]; exact Nat.mod_lt _ (by decide)
    have hln : sl.length ≤ 64 := by
      have h1 := congrArg List.length HD.out
      have h2 := base_len 16 u
      rw [List.length_append] at h1
      omega
    have r2 : (m : Int).tmod 16 = d := by rw [Int.tmod_eq_emod_of_nonneg (by omega)]; omega
    have q3 : IntKind.u64.wrap ((m : Int).tdiv 16) = (x : Int) := by rw [Int.tdiv_eq_ediv_of_nonneg (by omega), IntKind.wrap_u64]; omega
    have q4 : IntKind.u64.wrap ((m : Int) / 16) = (x : Int) := by rw [IntKind.wrap_u64]; omega
    have d1 : IntKind.i64.wrap (d : Int) = d := IntWalk.i64_in _ (by omega)
    have d2 : IntKind.i64.wrap ((d : Int) + 1) = (d : Int) + 1 := IntWalk.i64_in _ (by omega)
    have hsl := hex_slice d (by omega)
    have hsz1 : ¬ 9223372036854775807 < 1 + sl.length := by omega
    clear hd hx hm4 hdb HD HM hln
    by_cases hz : x = 0
    · have hz1 : ((x : Int) == 0) = true := by rw [beq_iff_eq]; omega
      have HG := Lib.hid (HF.out.1 hz)
      clear hz HF
      go_wp2_with fail
      go_ret
      exact ⟨by rw [← HG.out]; congr 1, rfl⟩
    · have hz1 : ((x : Int) == 0) = false := by rw [beq_eq_false_iff_ne]; omega
      have HG := Lib.hid (And.intro (HF.out.2.1 hz) (And.intro (HF.out.2.2.1 hz) HF.out.2.2.2))
      clear hz HF
      go_wp2_with fail
      go_round
      case rel => exact ⟨x, digB d :: sl, by first | rfl | go_num, by congr 1, Lib.hid HG.out.1, Lib.hid HG.out.2.2⟩
      case measure => have := HG.out.2.1; simp [intOf]; omega
end Go.Proofs.YtbeikhgjkbnldaaDoor
/- One of Print's numbers, as the document writes it. -/
namespace Go.Proofs.YtbeikhgjkbnldaaDoor
open Go.ChangeShapes Go.WideShapes Go.ChangeAt Go.RowKit
set_option linter.unusedVariables false
set_option linter.unusedSimpArgs false

theorem low_of (v : Int) : (IntKind.u64.wrap v).tmod 4294967296 = ((low32 v : Nat) : Int) ∧ IntKind.u64.wrap v % 4294967296 = ((low32 v : Nat) : Int) := by
  rw [IntKind.wrap_u64, Int.tmod_eq_emod_of_nonneg (by omega)]
  unfold low32
  omega
set_option maxRecDepth 100000 in
set_option maxHeartbeats 1600000 in
theorem shown_100 (v : Int) (hv : -9223372036854775808 ≤ v ∧ v ≤ 9223372036854775807) (w : World) : Calls Tryd.prog 15 #[.int .u8 100, .int .i64 v] w fun e w' => e = .returned (strV (Lib.itoa v)) ∧ Below w.heap.size w w' := by
  have HV := Lib.hid hv
  obtain ⟨e1, e2⟩ := low_of v
  have HL := Lib.hid (low32_lt v)
  obtain ⟨L, hL⟩ : ∃ L, low32 v = L := ⟨_, rfl⟩
  rw [hL] at e1 e2 HL
  have HLL := Lib.hid hL
  clear hv hL
  go_enter Tryd.func15, Tryd.ntmps15
  go_wp2_with fail
  refine (decimalC v w HV.out).mono ?_
  rintro e w' ⟨rfl, hb⟩
  have HB := Lib.hid hb
  clear hb
  unfold strV
  go_wp2_with fail
  go_ret
  exact ⟨rfl, HB.out⟩
set_option maxRecDepth 100000 in
set_option maxHeartbeats 1600000 in
theorem shown_105 (v : Int) (hv : -9223372036854775808 ≤ v ∧ v ≤ 9223372036854775807) (w : World) : Calls Tryd.prog 15 #[.int .u8 105, .int .i64 v] w fun e w' => e = .returned (strV (Lib.itoa v)) ∧ Below w.heap.size w w' := by
  have HV := Lib.hid hv
  obtain ⟨e1, e2⟩ := low_of v
  have HL := Lib.hid (low32_lt v)
  obtain ⟨L, hL⟩ : ∃ L, low32 v = L := ⟨_, rfl⟩
  rw [hL] at e1 e2 HL
  have HLL := Lib.hid hL
  clear hv hL
  go_enter Tryd.func15, Tryd.ntmps15
  go_wp2_with fail
  refine (decimalC v w HV.out).mono ?_
  rintro e w' ⟨rfl, hb⟩
  have HB := Lib.hid hb
  clear hb
  unfold strV
  go_wp2_with fail
  go_ret
  exact ⟨rfl, HB.out⟩
set_option maxRecDepth 100000 in
set_option maxHeartbeats 1600000 in
theorem shown_101 (v : Int) (hv : -9223372036854775808 ≤ v ∧ v ≤ 9223372036854775807) (w : World) : Calls Tryd.prog 15 #[.int .u8 101, .int .i64 v] w fun e w' => e = .returned (strV (Lib.itoa v)) ∧ Below w.heap.size w w' := by
  have HV := Lib.hid hv
  obtain ⟨e1, e2⟩ := low_of v
  have HL := Lib.hid (low32_lt v)
  obtain ⟨L, hL⟩ : ∃ L, low32 v = L := ⟨_, rfl⟩
  rw [hL] at e1 e2 HL
  have HLL := Lib.hid hL
  clear hv hL
  go_enter Tryd.func15, Tryd.ntmps15
  go_wp2_with fail
  refine (decimalC v w HV.out).mono ?_
  rintro e w' ⟨rfl, hb⟩
  have HB := Lib.hid hb
  clear hb
  unfold strV
  go_wp2_with fail
  go_ret
  exact ⟨rfl, HB.out⟩
set_option maxRecDepth 100000 in
set_option maxHeartbeats 1600000 in
theorem shown_117 (v : Int) (hv : -9223372036854775808 ≤ v ∧ v ≤ 9223372036854775807) (w : World) : Calls Tryd.prog 15 #[.int .u8 117, .int .i64 v] w fun e w' => e = .returned (strV (baseL 10 (low32 v))) ∧ Below w.heap.size w w' := by
  have HV := Lib.hid hv
  obtain ⟨e1, e2⟩ := low_of v
  have HL := Lib.hid (low32_lt v)
  obtain ⟨L, hL⟩ : ∃ L, low32 v = L := ⟨_, rfl⟩
  rw [hL] at e1 e2 HL
  have HLL := Lib.hid hL
  clear hv hL
  go_enter Tryd.func15, Tryd.ntmps15
  go_wp2_with fail
  refine (base_10 L HL.out w).mono ?_
  rintro e w' ⟨rfl, rfl⟩
  unfold strV
  go_wp2_with fail
  go_ret
  exact ⟨by rw [HLL.out]; rfl, Below.refl _ _⟩
set_option maxRecDepth 100000 in
set_option maxHeartbeats 1600000 in
theorem shown_120 (v : Int) (hv : -9223372036854775808 ≤ v ∧ v ≤ 9223372036854775807) (w : World) : Calls Tryd.prog 15 #[.int .u8 120, .int .i64 v] w fun e w' => e = .returned (strV (baseL 16 (low32 v))) ∧ Below w.heap.size w w' := by
  have HV := Lib.hid hv
  obtain ⟨e1, e2⟩ := low_of v
  have HL := Lib.hid (low32_lt v)
  obtain ⟨L, hL⟩ : ∃ L, low32 v = L := ⟨_, rfl⟩
  rw [hL] at e1 e2 HL
  have HLL := Lib.hid hL
  clear hv hL
  go_enter Tryd.func15, Tryd.ntmps15
  go_wp2_with fail
  refine (base_16 L HL.out w).mono ?_
  rintro e w' ⟨rfl, rfl⟩
  unfold strV
  go_wp2_with fail
  go_ret
  exact ⟨by rw [HLL.out]; rfl, Below.refl _ _⟩
set_option maxRecDepth 100000 in
set_option maxHeartbeats 1600000 in
theorem shown_111 (v : Int) (hv : -9223372036854775808 ≤ v ∧ v ≤ 9223372036854775807) (w : World) : Calls Tryd.prog 15 #[.int .u8 111, .int .i64 v] w fun e w' => e = .returned (strV (baseL 8 (low32 v))) ∧ Below w.heap.size w w' := by
  have HV := Lib.hid hv
  obtain ⟨e1, e2⟩ := low_of v
  have HL := Lib.hid (low32_lt v)
  obtain ⟨L, hL⟩ : ∃ L, low32 v = L := ⟨_, rfl⟩
  rw [hL] at e1 e2 HL
  have HLL := Lib.hid hL
  clear hv hL
  go_enter Tryd.func15, Tryd.ntmps15
  go_wp2_with fail
  refine (base_8 L HL.out w).mono ?_
  rintro e w' ⟨rfl, rfl⟩
  unfold strV
  go_wp2_with fail
  go_ret
  exact ⟨by rw [HLL.out]; rfl, Below.refl _ _⟩
set_option maxRecDepth 100000 in
set_option maxHeartbeats 1600000 in
theorem shown_99 (v : Int) (hv : -9223372036854775808 ≤ v ∧ v ≤ 9223372036854775807) (w : World) : Calls Tryd.prog 15 #[.int .u8 99, .int .i64 v] w fun e w' => e = .returned (strV (convF 99 v)) ∧ Below w.heap.size w w' := by
  have HV := Lib.hid hv
  obtain ⟨e1, e2⟩ := low_of v
  have HL := Lib.hid (low32_lt v)
  obtain ⟨L, hL⟩ : ∃ L, low32 v = L := ⟨_, rfl⟩
  rw [hL] at e1 e2 HL
  have HLL := Lib.hid hL
  clear hv hL
  go_enter Tryd.func15, Tryd.ntmps15
  obtain ⟨z, hz⟩ : ∃ z, UInt8.ofNat (v % 256).toNat = z := ⟨_, rfl⟩
  have hzn : (z.toNat : Int) = v % 256 := by rw [← hz, UInt8.toNat_ofNat']; omega
  have hLv : (L : Int) = v % 4294967296 := by rw [← HLL.out]; unfold low32; omega
  have f1 : (L : Int).tmod 256 = (z.toNat : Int) := by rw [Int.tmod_eq_emod_of_nonneg (by omega)]; omega
  have f2 : (L : Int) % 256 = (z.toNat : Int) := by omega
  have f3 : IntKind.u8.wrap (z.toNat : Int) = (z.toNat : Int) := by
    have h1 : IntKind.u8.wrap (z.toNat : Int) = (z.toNat : Int) % 256 := by simp [IntKind.wrap, IntKind.signed, IntKind.bits]
    rw [h1]; omega
  have hcv : ∀ W : World, (convert 69 9 (.slice (some ⟨W.heap.size, 0, none⟩) 1 1)).run Tryd.prog (W.alloc (.cells #[.int .u8 (z.toNat : Int)] 5)) = .ok (.string ⟨#[z]⟩) (W.alloc (.cells #[.int .u8 (z.toNat : Int)] 5)) := fun W => by
    have := run_byte z.toNat z.toNat_lt W
    rw [UInt8.ofNat_toNat] at this
    exact this
  have HV99 : Hid (convF 99 v = [z]) := Lib.hid (by unfold convF; rw [if_pos rfl, hz])
  have HBX := Lib.hid (ball (w := w) (.cells #[.int .u8 (z.toNat : Int)] 5))
  clear hz hzn hLv
  go_wp2_with fail
  go_ret
  exact ⟨by rw [HV99.out]; rfl, HBX.out⟩
theorem conv_cases' {c : UInt8} (h : isConv c = true) : c = 100 ∨ c = 105 ∨ c = 101 ∨ c = 117 ∨ c = 120 ∨ c = 111 ∨ c = 99 := by
  unfold isConv at h
  simp only [Bool.or_eq_true, decide_eq_true_eq] at h
  rcases h with (((((h | h) | h) | h) | h) | h) | h <;> simp [h]
theorem shownR (c : UInt8) (hc : isConv c = true) (v : Int) (hv : -9223372036854775808 ≤ v ∧ v ≤ 9223372036854775807) (w : World) : Calls Tryd.prog 15 #[.int .u8 c.toNat, .int .i64 v] w fun e w' => e = .returned (strV (convF c v)) ∧ Below w.heap.size w w' := by
  rcases conv_cases' hc with rfl | rfl | rfl | rfl | rfl | rfl | rfl
  · exact shown_100 v hv w
  · exact shown_105 v hv w
  · exact shown_101 v hv w
  · exact shown_117 v hv w
  · exact shown_120 v hv w
  · exact shown_111 v hv w
  · exact shown_99 v hv w
end Go.Proofs.YtbeikhgjkbnldaaDoor
