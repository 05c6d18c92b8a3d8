/- A line: a word, and numbers. -/
import Derived.Test.YtifofhjfepkglaaDoorDec
import Derived.Lib.AppendIntMem
namespace Go.Proofs.YtifofhjfepkglaaDoor
open Go.ChangeShapes Go.WideShapes Go.ChangeAt Go.RowKit
set_option linter.unusedVariables false
set_option linter.unusedSimpArgs false

/-- The library's table. -/
def Tab (w : World) : Prop := Lib.TabIs Tryd.prog w "internal/strconv.uint64pow10" .u64 Lib.pow10Tab

theorem flat_len : ∀ l : List Int, (∀ n ∈ l, inI n) → (l.flatMap fun n => 32 :: Lib.itoa n).length ≤ 22 * l.length
  | [], _ => by simp
  | n :: r, h => by
    have h1 := flat_len r fun k hk => h k (by simp [hk])
    have h2 := h n (by simp)
    have h3 := Lib.itoa_length_le n h2.1 h2.2
    simp only [List.flatMap_cons, List.length_append, List.length_cons]
    omega
theorem wordsB_len (wd : List UInt8) (l : List Int) (h : ∀ n ∈ l, inI n) : (wordsB wd l).length ≤ wd.length + 22 * l.length := by
  unfold wordsB
  have := flat_len l h
  rw [List.length_append]
  omega

set_option maxRecDepth 100000 in
set_option maxHeartbeats 1600000 in
theorem rline_any (wd : List UInt8) (g off c : Nat) (l : List Int) (w : World) (hl : Ints w g off l) (hin : ∀ n ∈ l, inI n) (hw : wd.length ≤ 10) (h10 : l.length ≤ 10) :
    Calls Tryd.prog 14 #[.string ⟨wd.toArray⟩, .slice (some ⟨g, off, none⟩) l.length c] w fun e w' => e = .returned (strV (lineB wd l)) ∧ Below w.heap.size w w' := by
  have HL := Lib.hid hl
  have HIN := Lib.hid hin
  unfold strV lineB
  clear hl hin
  go_enter Tryd.func14, Tryd.ntmps14
  go_wp2_with fail
  go_loopw [0, 5] (fun s i wr => ∃ (k : Nat) (sl : List UInt8), i = .int .i64 k ∧ s = .string ⟨sl.toArray⟩ ∧ k ≤ l.length ∧ Hid (sl = wordsB wd (l.take k)) ∧ Hid (Below w.heap.size w wr)) (fun _ i _ => l.length - (intOf i).toNat)
  case atStart => exact ⟨0, wd, rfl, rfl, by omega, Lib.hid (by simp [wordsB]), Lib.hid (Below.refl _ _)⟩
  case round =>
    obtain ⟨k, sl, rfl, rfl, hk, HS, HB⟩ := hrel
    have hsl : sl.length ≤ 230 := by
      have h := wordsB_len wd (l.take k) fun n hn => HIN.out n (List.mem_of_mem_take hn)
      rw [← HS.out] at h
      simp at h
      omega
    by_cases hlt : k < l.length
    · obtain ⟨n, hn⟩ : ∃ n, l[k] = n := ⟨_, rfl⟩
      have HN := Lib.hid hn
      have c0 := (HL.out.below HB.out).2 k hlt
      rw [hn] at c0
      have hni : inI n := HIN.out n (by rw [← hn]; exact List.getElem_mem _)
      have HD := Lib.hid fun w' => dec_any n w' hni
      have hil := Lib.itoa_length_le n hni.1 hni.2
      obtain ⟨it, hit⟩ : ∃ it, Lib.itoa n = it := ⟨_, rfl⟩
      rw [hit] at HD hil
      have HIT := Lib.hid hit
      have hlti : (k : Int) < l.length := by omega
      have hk0 : (0 : Int) ≤ k := by omega
      clear hn hni hit
      unfold strV at HD
      go_wp2_with fail
      refine (HD.out _).mono ?_
      rintro e w5 ⟨rfl, hb5⟩
      have HB5 := Lib.hid (HB.out.trans (hb5.mono HB.out.size))
      clear hb5 c0
      go_wp2_with fail
      go_roundw
      case rel => exact ⟨k + 1, sl ++ [32] ++ it, by go_num, by rw [← str_add, ← str_add], by omega, Lib.hid (by rw [HS.out, List.take_succ_eq_append_getElem hlt, HN.out, wordsB_snoc, HIT.out]; simp), HB5⟩
      case measure => simp [intOf]; omega
    · obtain rfl : k = l.length := by omega
      go_wp2_with fail
      go_ret
      refine ⟨?_, HB.out⟩
      have h2 := HS.out
      rw [List.take_length] at h2
      rw [← h2, ← str_add]
      rfl

theorem itoa_any (n : Int) (h : inI n) (w : World) (ht : Tab w) : Calls Tryd.prog 20 #[.int .i64 n] w fun e w' => e = .returned (.string ⟨(Lib.itoa n).toArray⟩) ∧ Below w.heap.size w w' := by
  refine (Tryd.strconv_Itoa n h.1 h.2 w ht).mono ?_
  rintro e w' ⟨rfl, k, os, rfl⟩
  exact ⟨rfl, Lib.below_grow _ w (Nat.le_refl _) k os⟩

set_option maxRecDepth 100000 in
set_option maxHeartbeats 1600000 in
theorem pline_any (wd : List UInt8) (o : Option Addr) (c : Nat) (l : List Int) (w : World) (hl : l = [] ∨ ∃ g off, o = some ⟨g, off, none⟩ ∧ Ints w g off l) (hin : ∀ n ∈ l, inI n) (hw : wd.length ≤ 10) (h10 : l.length ≤ 10) (ht : ∀ w', Below w.heap.size w w' → Tab w') :
    Calls Tryd.prog 12 #[.string ⟨wd.toArray⟩, .slice o l.length c] w fun e w' => e = .returned (strV (lineB wd l)) ∧ Below w.heap.size w w' := by
  have HL := Lib.hid hl
  have HIN := Lib.hid hin
  have HT := Lib.hid ht
  unfold strV lineB
  clear hl hin ht
  go_enter Tryd.func12, Tryd.ntmps12
  go_wp2_with fail
  go_loopw [0, 9] (fun s i wr => ∃ (k : Nat) (sl : List UInt8), i = .int .i64 k ∧ s = .string ⟨sl.toArray⟩ ∧ k ≤ l.length ∧ Hid (sl = wordsB wd (l.take k)) ∧ Hid (Below w.heap.size w wr)) (fun _ i _ => l.length - (intOf i).toNat)
  case atStart => exact ⟨0, wd, rfl, rfl, by omega, Lib.hid (by simp [wordsB]), Lib.hid (Below.refl _ _)⟩
  case round =>
    obtain ⟨k, sl, rfl, rfl, hk, HS, HB⟩ := hrel
    have hsl : sl.length ≤ 230 := by
      have h := wordsB_len wd (l.take k) fun n hn => HIN.out n (List.mem_of_mem_take hn)
      rw [← HS.out] at h
      simp at h
      omega
    by_cases hlt : k < l.length
    · obtain ⟨n, hn⟩ : ∃ n, l[k] = n := ⟨_, rfl⟩
      have HN := Lib.hid hn
      obtain ⟨g, off, rfl, hI⟩ : ∃ g off, o = some ⟨g, off, none⟩ ∧ Ints w g off l := by
        rcases HL.out with h | h
        · rw [h] at hlt
          simp at hlt
        · exact h
      have c0 := (hI.below HB.out).2 k hlt
      rw [hn] at c0
      have hni : inI n := HIN.out n (by rw [← hn]; exact List.getElem_mem _)
      have HD := Lib.hid (itoa_any n hni wr (HT.out wr HB.out))
      have hil := Lib.itoa_length_le n hni.1 hni.2
      obtain ⟨it, hit⟩ : ∃ it, Lib.itoa n = it := ⟨_, rfl⟩
      rw [hit] at HD hil
      have HIT := Lib.hid hit
      have hlti : (k : Int) < l.length := by omega
      have hk0 : (0 : Int) ≤ k := by omega
      clear hn hni hit hI
      go_wp2_with fail
      refine HD.out.mono ?_
      rintro e w5 ⟨rfl, hb5⟩
      have HB5 := Lib.hid (HB.out.trans (hb5.mono HB.out.size))
      clear hb5 c0
      go_wp2_with fail
      go_roundw
      case rel => exact ⟨k + 1, sl ++ ([32] ++ it), by go_num, by rw [← str_add, ← str_add], by omega, Lib.hid (by rw [HS.out, List.take_succ_eq_append_getElem hlt, HN.out, wordsB_snoc, HIT.out]; simp), HB5⟩
      case measure => simp [intOf]; omega
    · obtain rfl : k = l.length := by omega
      go_wp2_with fail
      go_ret
      refine ⟨?_, HB.out⟩
      have h2 := HS.out
      rw [List.take_length] at h2
      rw [← h2, ← str_add]
      rfl
end Go.Proofs.YtifofhjfepkglaaDoor
