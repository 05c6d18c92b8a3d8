/- The document's examples hold. -/
import Derived.Test.YtpbhplooikammaaSmall
import Derived.Test.YtpbhplooikammaaReach
namespace Go.Proofs.Ytpbhplooikammaa
open Go.ChangeShapes Go.WideShapes Go.ChangeAt Go.RowKit

theorem dim_one (w : World) : IsDims (w.alloc (.cells #[.int .i64 0, .int .i64 3, .int .i64 2] 48)) (some ⟨w.heap.size, 0, none⟩) 1 ∧ reachV (w.alloc (.cells #[.int .i64 0, .int .i64 3, .int .i64 2] 48)) 2 (some ⟨w.heap.size, 0, none⟩) 1 = 7 := by
  have h := heap_alloc_new w (.cells #[.int .i64 0, .int .i64 3, .int .i64 2] 48)
  have hc : ∀ i, (w.alloc (.cells #[.int .i64 0, .int .i64 3, .int .i64 2] 48)).cell? ⟨w.heap.size, i, none⟩ = _ := fun i => cell_of_row _ _ i _ _ _ h
  have hr : ∀ i, rd (w.alloc (.cells #[.int .i64 0, .int .i64 3, .int .i64 2] 48)) (some ⟨w.heap.size, 0, none⟩) i = intOf (((#[.int .i64 0, .int .i64 3, .int .i64 2] : Array Value)[i]?).getD undef) := fun i => by
    unfold rd
    show intOf (((w.alloc (.cells #[.int .i64 0, .int .i64 3, .int .i64 2] 48)).cell? ⟨w.heap.size, 0 + i, none⟩).getD undef) = _
    rw [hc, Nat.zero_add]
  constructor
  · intro i hi
    obtain rfl : i = 0 := by omega
    refine ⟨w.heap.size, 0, rfl, by simp, ?_, ?_, ?_, ?_⟩
    · rw [hc, hr]; rfl
    · rw [hc, hr]; rfl
    · rw [hc, hr]; rfl
    · rw [hr]; decide
  · unfold reachV
    rw [if_neg (by decide)]
    unfold reachR
    rw [hr, hr]
    rfl

set_option maxRecDepth 100000 in
set_option maxHeartbeats 1000000 in
theorem shown_yes (w : World) : Calls Try.prog 4 #[] w fun e w' => e = .returned (.bool true) ∧ Below w.heap.size w w' := by
  go_enter Try.func4, Try.ntmps4
  go_wp2_with fail
  refine (check_0 _).mono ?_
  rintro e w1 ⟨rfl, hb1⟩
  have HB1 := Lib.hid hb1
  clear hb1
  go_wp2_with fail
  refine (small_any _).mono ?_
  rintro e w2 ⟨rfl, ht2, hb2⟩
  have HT2 := Lib.hid ht2
  have HB2 : Hid (Below w.heap.size w w2) := Lib.hid (HB1.out.trans (hb2.mono HB1.out.size))
  clear ht2 hb2
  go_wp2_with fail
  refine (check_1 _ _ _ HT2.out.sm).mono ?_
  rintro e w3 ⟨rfl, hb3⟩
  have HB3 : Hid (Below w.heap.size w w3) := Lib.hid (HB2.out.trans (hb3.mono HB2.out.size))
  clear hb3 HB1 HB2 HT2
  go_wp2_with fail
  refine (small_any _).mono ?_
  rintro e w4 ⟨rfl, ht4, hb4⟩
  have HT4 := Lib.hid ht4
  have HB4 : Hid (Below w.heap.size w w4) := Lib.hid (HB3.out.trans (hb4.mono HB3.out.size))
  have HQ : Hid (w.heap.size ≤ w3.heap.size + 2) := Lib.hid (Nat.le_trans HB3.out.size (Nat.le_add_right _ _))
  clear ht4 hb4 HB3
  generalize w3.heap.size = z at *
  obtain ⟨b, hb⟩ : ∃ b, w4.heap.size = b := ⟨_, rfl⟩
  have HM : Hid ((w4.alloc (.cells #[.slice none 0 0, .slice none 0 0, .slice none 0 0, .slice none 0 0, .slice (some ⟨z + 2, 0, none⟩) 1 1, .int .i64 (-1), .slice none 0 0] 42)).heap[b]? = some (.cells #[.slice none 0 0, .slice none 0 0, .slice none 0 0, .slice none 0 0, .slice (some ⟨z + 2, 0, none⟩) 1 1, .int .i64 (-1), .slice none 0 0] 42 (0, 0))) := Lib.hid (by rw [← hb]; exact heap_alloc_new _ _)
  have HT5 : Hid (Two (w4.alloc (.cells #[.slice none 0 0, .slice none 0 0, .slice none 0 0, .slice none 0 0, .slice (some ⟨z + 2, 0, none⟩) 1 1, .int .i64 (-1), .slice none 0 0] 42)) (z + 2) (z + 1)) := Lib.hid (by
    obtain ⟨h1, h2⟩ := HT4.out
    exact ⟨(Below.heap_alloc _ _ _ (lt_of_block h1)).trans h1, (Below.heap_alloc _ _ _ (lt_of_block h2)).trans h2⟩)
  have HB5 : Hid (Below w.heap.size w (w4.alloc (.cells #[.slice none 0 0, .slice none 0 0, .slice none 0 0, .slice none 0 0, .slice (some ⟨z + 2, 0, none⟩) 1 1, .int .i64 (-1), .slice none 0 0] 42))) := Lib.hid (HB4.out.alloc HB4.out.size _)
  have HN : Hid (b ≠ z + 2) := Lib.hid (by have := lt_of_block HT4.out.1; omega)
  clear HT4 HB4
  unfold smallV
  go_upto_region 4 with fail
  try rw [hb]
  clear hb
  generalize w4.alloc (.cells #[.slice none 0 0, .slice none 0 0, .slice none 0 0, .slice none 0 0, .slice (some ⟨z + 2, 0, none⟩) 1 1, .int .i64 (-1), .slice none 0 0] 42) = W5 at *
  have m4 : W5.cell? ⟨b, 4, none⟩ = some (.slice (some ⟨z + 2, 0, none⟩) 1 1) := (cell_of_row _ _ _ _ _ _ HM.out).trans rfl
  have f8 : W5.frozen? ⟨z + 2, 8, none⟩ = false := frozen_of_row _ _ _ _ _ HT5.out.1
  have c8 : W5.cell? ⟨z + 2, 8, none⟩ = some (.int .i64 1) := (cell_of_row _ _ _ _ _ _ HT5.out.1).trans rfl
  go_upto_region 5 with fail
  clear m4 f8 c8
  have HS := Lib.hid HT5.out.set
  have HC : Hid (∀ i, (W5.setCell ⟨z + 2, 8, none⟩ (.int .i64 0)).cell? ⟨b, i, none⟩ = (#[.slice none 0 0, .slice none 0 0, .slice none 0 0, .slice none 0 0, .slice (some ⟨z + 2, 0, none⟩) 1 1, .int .i64 (-1), .slice none 0 0] : Array Value)[i]?) := Lib.hid fun i => by
    rw [← cell_of_row _ _ _ _ _ _ HM.out]
    apply World.cell?_setCell_other
    intro e
    injection e with e1 _ _
    exact HN.out e1.symm
  have HB6 : Hid (Below w.heap.size w (W5.setCell ⟨z + 2, 8, none⟩ (.int .i64 0))) := Lib.hid (HB5.out.setCell HQ.out _)
  clear HM HT5 HB5 HN HQ
  generalize W5.setCell ⟨z + 2, 8, none⟩ (.int .i64 0) = W6 at *
  have m0 := (HC.out 0).trans rfl
  have m1 := (HC.out 1).trans rfl
  have m2 := (HC.out 2).trans rfl
  have m3 := (HC.out 3).trans rfl
  have m4 := (HC.out 4).trans rfl
  have m5 := (HC.out 5).trans rfl
  have m6 := (HC.out 6).trans rfl
  go_wp2_with fail
  refine (check_p _ _ _ HS.out).mono ?_
  rintro e w7 ⟨rfl, hb7⟩
  have HB7 : Hid (Below w.heap.size w w7) := Lib.hid (HB6.out.trans (hb7.mono HB6.out.size))
  clear hb7 HB6 HS HC m0 m1 m2 m3 m4 m5 m6
  go_wp2_with fail
  refine (fits7 _ _ _ _).mono ?_
  rintro e w8 ⟨rfl, hb8⟩
  have HB8 : Hid (Below w.heap.size w w8) := Lib.hid (HB7.out.trans (hb8.mono HB7.out.size))
  clear hb8 HB7
  rw [show fitB 8 false 255 = true from by decide]
  go_wp2_with fail
  refine (fits7 _ _ _ _).mono ?_
  rintro e w9 ⟨rfl, hb9⟩
  have HB9 : Hid (Below w.heap.size w w9) := Lib.hid (HB8.out.trans (hb9.mono HB8.out.size))
  clear hb9 HB8
  rw [show fitB 8 false 256 = false from by decide]
  go_wp2_with fail
  refine (fits7 _ _ _ _).mono ?_
  rintro e w10 ⟨rfl, hb10⟩
  have HB10 : Hid (Below w.heap.size w w10) := Lib.hid (HB9.out.trans (hb10.mono HB9.out.size))
  clear hb10 HB9
  rw [show fitB 16 true (-32768) = true from by decide]
  go_wp2_with fail
  refine (reach9 _ _ _ _ _ _ _ _ (by decide) (dim_one w10).1).mono ?_
  rintro e w11 ⟨rfl, hb11⟩
  have HB11 : Hid (Below w.heap.size w w11) := Lib.hid ((HB10.out.alloc HB10.out.size _).trans (hb11.mono (HB10.out.alloc HB10.out.size _).size))
  clear hb11 HB10
  rw [(dim_one w10).2]
  go_wp2
  go_ret
  exact ⟨rfl, HB11.out⟩
end Go.Proofs.Ytpbhplooikammaa
