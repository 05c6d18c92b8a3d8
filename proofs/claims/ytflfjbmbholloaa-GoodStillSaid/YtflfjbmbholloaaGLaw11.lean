/- The document's examples hold. -/
import Derived.Test.YtflfjbmbholloaaGCheck
import Derived.Deep.CutBlock
namespace Go.Proofs.Ytflfjbmbholloaa
open Go.ChangeShapes Go.WideShapes Go.ChangeAt Go.RowKit
set_option linter.unusedVariables false
set_option linter.unusedSimpArgs false

def locD : LocD := ⟨[], [], false, false, false, false, false⟩
def procD (pr : Int) : ProcD := ⟨ByteArray.empty, 0, [], [], [locD], 0, 0, 0, pr, -1⟩
def smallD (pr : Int) : ModelD := ⟨[], [], [], [], [procD pr], -1, []⟩
def noneD : ModelD := ⟨[], [], [], [], [], 0, []⟩
def noneH : MH := ⟨none, 0, none, 0, none, 0, none, 0, none, 0, none, 0⟩
def smallH (q : Nat) : MH := ⟨none, 0, none, 0, none, 0, none, 0, some ⟨q, 0, none⟩, 1, none, 0⟩
theorem none_md (B : Nat) (w : World) : MD B w noneH noneD := ⟨Row.nil _ _ _ _, Row.nil _ _ _ _, Row.nil _ _ _ _, Row.nil _ _ _ _, Row.nil _ _ _ _, Row.nil _ _ _ _⟩
theorem row_one {α : Type} {B : Nat} {g : Nat} {k : Nat} {R : Nat → Nat → α → Prop} {x : α} (hg : g < B) (h : R g 0 x) : Row B (some ⟨g, 0, none⟩) k R [x] :=
  ⟨by simp, .inr ⟨g, 0, rfl, hg, fun i hi => by
    obtain rfl : i = 0 := by simp at hi; omega
    simpa using h⟩⟩
theorem small_md {B q r : Nat} {w : World} {pr : Int} (hq : q < B) (hr : r < B)
    (h1 : ∀ i, w.cell? ⟨q, i, none⟩ = (#[.string ByteArray.empty, .int .i64 0, .slice none 0 0, .slice none 0 0, .slice (some ⟨r, 0, none⟩) 1 1, .int .i64 0, .int .i64 0, .int .i64 0, .int .i64 pr, .int .i64 (-1)] : Array Value)[i]?)
    (h2 : ∀ i, w.cell? ⟨r, i, none⟩ = (#[.slice none 0 0, .slice none 0 0, .bool false, .bool false, .bool false, .bool false, .bool false] : Array Value)[i]?) : MD B w (smallH q) (smallD pr) := by
  have hl : locAt B w r 0 locD := ⟨⟨none, 0, h2 0, Row.nil _ _ _ _⟩, ⟨none, 0, h2 1, Row.nil _ _ _ _⟩, h2 2, h2 3, h2 4, h2 5, h2 6⟩
  have hp : procAt B w q 0 (procD pr) := ⟨h1 0, h1 1, ⟨none, 0, h1 2, Row.nil _ _ _ _⟩, ⟨none, 0, h1 3, Row.nil _ _ _ _⟩, ⟨some ⟨r, 0, none⟩, 1, h1 4, row_one hr hl⟩, h1 5, h1 6, h1 7, h1 8, h1 9⟩
  exact ⟨Row.nil _ _ _ _, Row.nil _ _ _ _, Row.nil _ _ _ _, Row.nil _ _ _ _, row_one hq hp, Row.nil _ _ _ _⟩
theorem check_none : checkL noneD = (40, 3, -1) := by decide +kernel
theorem check_one : checkL (smallD 1) = (0, 0, 0) := by decide +kernel
theorem check_zero : checkL (smallD 0) = (40, 4, 0) := by decide +kernel

/-- The two blocks of a small model. -/
def Two (w : World) (q r : Nat) : Prop :=
  w.heap[q]? = some (.cells #[.string ByteArray.empty, .int .i64 0, .slice none 0 0, .slice none 0 0, .slice (some ⟨r, 0, none⟩) 1 1, .int .i64 0, .int .i64 0, .int .i64 0, .int .i64 1, .int .i64 (-1)] 38 (0, 0)) ∧
  w.heap[r]? = some (.cells #[.slice none 0 0, .slice none 0 0, .bool false, .bool false, .bool false, .bool false, .bool false] 56 (0, 0))
theorem Two.md {w : World} {q r : Nat} (h : Two w q r) : MD w.heap.size w (smallH q) (smallD 1) :=
  small_md (lt_of_block h.1) (lt_of_block h.2) (fun i => cell_of_row _ _ _ _ _ _ h.1) (fun i => cell_of_row _ _ _ _ _ _ h.2)
theorem Two.md0 {w : World} {q r : Nat} (h : Two w q r) : MD (w.setCell ⟨q, 8, none⟩ (.int .i64 0)).heap.size (w.setCell ⟨q, 8, none⟩ (.int .i64 0)) (smallH q) (smallD 0) := by
  have hne : r ≠ q := fun e => by have := h.1; rw [← e, h.2] at this; simp at this
  have h1 : (w.setCell ⟨q, 8, none⟩ (.int .i64 0)).heap[q]? = some (.cells #[.string ByteArray.empty, .int .i64 0, .slice none 0 0, .slice none 0 0, .slice (some ⟨r, 0, none⟩) 1 1, .int .i64 0, .int .i64 0, .int .i64 0, .int .i64 0, .int .i64 (-1)] 38 (0, 0)) := by
    rw [heap_setCell_same _ _ _ _ _ _ h.1]; rfl
  have h2 : (w.setCell ⟨q, 8, none⟩ (.int .i64 0)).heap[r]? = _ := (heap_setCell_other _ _ _ _ (by exact hne)).trans h.2
  exact small_md (lt_of_block h1) (lt_of_block h2) (fun i => cell_of_row _ _ _ _ _ _ h1) (fun i => cell_of_row _ _ _ _ _ _ h2)

set_option maxRecDepth 100000 in
theorem smallC (w : World) : Calls Try.prog 6 #[] w fun e w' => e = .returned (mV (smallH (w.heap.size + 2)) (smallD 1)) ∧ Two w' (w.heap.size + 2) (w.heap.size + 1) ∧ Below w.heap.size w w' := by
  go_enter Try.func6, Try.ntmps6
  go_wp2
  refine bodyPost_ret (v := mV (smallH (w.heap.size + 2)) (smallD 1)) (by simp [mV, mCells, smallH, smallD, results, Try.results6, go_sem]) rfl ⟨rfl, ⟨?_, ?_⟩, ?_⟩
  · have h := heap_alloc_new ((w.alloc (.cells #[.slice none 0 0, .slice none 0 0, .slice none 0 0, .slice none 0 0, .slice (some ⟨w.heap.size + 1 + 1, 0, none⟩) 1 1, .int .i64 (-1), .slice none 0 0] 29)).alloc (.cells #[.slice none 0 0, .slice none 0 0, .bool false, .bool false, .bool false, .bool false, .bool false] 56)) (.cells #[.string ByteArray.empty, .int .i64 0, .slice none 0 0, .slice none 0 0, .slice (some ⟨w.heap.size + 1, 0, none⟩) 1 1, .int .i64 0, .int .i64 0, .int .i64 0, .int .i64 1, .int .i64 (-1)] 38)
    rw [World.size_alloc, World.size_alloc] at h
    exact h
  · rw [Below.heap_alloc _ _ _ (by simp)]
    have h := heap_alloc_new (w.alloc (.cells #[.slice none 0 0, .slice none 0 0, .slice none 0 0, .slice none 0 0, .slice (some ⟨w.heap.size + 1 + 1, 0, none⟩) 1 1, .int .i64 (-1), .slice none 0 0] 29)) (.cells #[.slice none 0 0, .slice none 0 0, .bool false, .bool false, .bool false, .bool false, .bool false] 56)
    rw [World.size_alloc] at h
    exact h
  · exact (((Below.refl _ _).alloc (Nat.le_refl _) _).alloc (by simp) _).alloc (by simp; omega) _
def dimV : VarD := ⟨0, 2, 0, 0, [⟨0, 3, 2⟩]⟩
theorem dim_row (w : World) : Row (w.alloc (.cells #[.int .i64 0, .int .i64 3, .int .i64 2] 44)).heap.size (some ⟨w.heap.size, 0, none⟩) 3 (dimAt (w.alloc (.cells #[.int .i64 0, .int .i64 3, .int .i64 2] 44))) dimV.dims := by
  have h := heap_alloc_new w (.cells #[.int .i64 0, .int .i64 3, .int .i64 2] 44)
  have hc : ∀ i, (w.alloc (.cells #[.int .i64 0, .int .i64 3, .int .i64 2] 44)).cell? ⟨w.heap.size, i, none⟩ = _ := fun i => cell_of_row _ _ i _ _ _ h
  exact row_one (lt_of_block h) ⟨hc 0, hc 1, hc 2⟩

set_option maxRecDepth 100000 in
set_option maxHeartbeats 4000000 in
theorem shownC (w : World) : Calls Try.prog 4 #[] w fun e w' => e = .returned (.bool true) ∧ Below w.heap.size w w' := by
  go_enter Try.func4, Try.ntmps4
  go_wp2_with fail
  refine (checkC (h := noneH) (m := noneD) _ (Nat.le_refl _) (none_md _ _)).mono ?_
  rintro e w1 ⟨rfl, hb1⟩
  rw [check_none]
  have HB1 := Lib.hid hb1
  clear hb1
  go_wp2_with fail
  refine (smallC _).mono ?_
  rintro e w2 ⟨rfl, ht2, hb2⟩
  have HT2 := Lib.hid ht2
  have HB2 : Hid (Below w.heap.size w w2) := Lib.hid (HB1.out.trans (hb2.mono HB1.out.size))
  clear ht2 hb2
  go_wp2_with fail
  refine (checkC _ (Nat.le_refl _) HT2.out.md).mono ?_
  rintro e w3 ⟨rfl, hb3⟩
  rw [check_one]
  have HB3 : Hid (Below w.heap.size w w3) := Lib.hid (HB2.out.trans (hb3.mono HB2.out.size))
  clear hb3 HB1 HB2 HT2
  go_wp2_with fail
  refine (smallC _).mono ?_
  rintro e w4 ⟨rfl, ht4, hb4⟩
  have HT4 := Lib.hid ht4
  have HB4 : Hid (Below w.heap.size w w4) := Lib.hid (HB3.out.trans (hb4.mono HB3.out.size))
  have HQ : Hid (w.heap.size ≤ w3.heap.size + 2) := Lib.hid (Nat.le_trans HB3.out.size (Nat.le_add_right _ _))
  clear ht4 hb4 HB3
  generalize w3.heap.size = z at *
  obtain ⟨b, hb⟩ : ∃ b, w4.heap.size = b := ⟨_, rfl⟩
  have HM : Hid ((w4.alloc (.cells #[.slice none 0 0, .slice none 0 0, .slice none 0 0, .slice none 0 0, .slice (some ⟨z + 2, 0, none⟩) 1 1, .int .i64 (-1), .slice none 0 0] 29)).heap[b]? = some (.cells #[.slice none 0 0, .slice none 0 0, .slice none 0 0, .slice none 0 0, .slice (some ⟨z + 2, 0, none⟩) 1 1, .int .i64 (-1), .slice none 0 0] 29 (0, 0))) := Lib.hid (by rw [← hb]; exact heap_alloc_new _ _)
  have HT5 : Hid (Two (w4.alloc (.cells #[.slice none 0 0, .slice none 0 0, .slice none 0 0, .slice none 0 0, .slice (some ⟨z + 2, 0, none⟩) 1 1, .int .i64 (-1), .slice none 0 0] 29)) (z + 2) (z + 1)) := Lib.hid (by
    obtain ⟨h1, h2⟩ := HT4.out
    exact ⟨(Below.heap_alloc _ _ _ (lt_of_block h1)).trans h1, (Below.heap_alloc _ _ _ (lt_of_block h2)).trans h2⟩)
  have HB5 : Hid (Below w.heap.size w (w4.alloc (.cells #[.slice none 0 0, .slice none 0 0, .slice none 0 0, .slice none 0 0, .slice (some ⟨z + 2, 0, none⟩) 1 1, .int .i64 (-1), .slice none 0 0] 29))) := Lib.hid (HB4.out.alloc HB4.out.size _)
  have HN : Hid (b ≠ z + 2) := Lib.hid (by have := lt_of_block HT4.out.1; omega)
  clear HT4 HB4
  unfold mV mCells smallH smallD
  go_upto_region 4 with fail
  try rw [hb]
  clear hb
  generalize w4.alloc (.cells #[.slice none 0 0, .slice none 0 0, .slice none 0 0, .slice none 0 0, .slice (some ⟨z + 2, 0, none⟩) 1 1, .int .i64 (-1), .slice none 0 0] 29) = W5 at *
  have m4 : W5.cell? ⟨b, 4, none⟩ = some (.slice (some ⟨z + 2, 0, none⟩) 1 1) := (cell_of_row _ _ _ _ _ _ HM.out).trans rfl
  have f8 : W5.frozen? ⟨z + 2, 8, none⟩ = false := frozen_of_row _ _ _ _ _ HT5.out.1
  have c8 : W5.cell? ⟨z + 2, 8, none⟩ = some (.int .i64 1) := (cell_of_row _ _ _ _ _ _ HT5.out.1).trans rfl
  go_upto_region 5 with fail
  clear m4 f8 c8
  have HS := Lib.hid HT5.out.md0
  have HC : Hid (∀ i, (W5.setCell ⟨z + 2, 8, none⟩ (.int .i64 0)).cell? ⟨b, i, none⟩ = (#[.slice none 0 0, .slice none 0 0, .slice none 0 0, .slice none 0 0, .slice (some ⟨z + 2, 0, none⟩) 1 1, .int .i64 (-1), .slice none 0 0] : Array Value)[i]?) := Lib.hid fun i => by
    rw [← cell_of_row _ _ _ _ _ _ HM.out]
    apply World.cell?_setCell_other
    intro e
    injection e with e1 _ _
    exact HN.out e1.symm
  have HB6 : Hid (Below w.heap.size w (W5.setCell ⟨z + 2, 8, none⟩ (.int .i64 0))) := Lib.hid (HB5.out.setCell HQ.out _)
  clear HM HT5 HB5 HN HQ
  generalize W5.setCell ⟨z + 2, 8, none⟩ (.int .i64 0) = W6 at *
  have m0 := (HC.out 0).trans rfl
  have m1 := (HC.out 1).trans rfl
  have m2 := (HC.out 2).trans rfl
  have m3 := (HC.out 3).trans rfl
  have m4 := (HC.out 4).trans rfl
  have m5 := (HC.out 5).trans rfl
  have m6 := (HC.out 6).trans rfl
  go_wp2_with fail
  refine (checkC (h := smallH (z + 2)) (m := smallD 0) _ (Nat.le_refl _) HS.out).mono ?_
  rintro e w7 ⟨rfl, hb7⟩
  rw [check_zero]
  have HB7 : Hid (Below w.heap.size w w7) := Lib.hid (HB6.out.trans (hb7.mono HB6.out.size))
  clear hb7 HB6 HS HC m0 m1 m2 m3 m4 m5 m6
  go_wp2_with fail
  refine (fitsC _ _ _ _).mono ?_
  rintro e w8 ⟨rfl, hb8⟩
  have HB8 : Hid (Below w.heap.size w w8) := Lib.hid (HB7.out.trans (hb8.mono HB7.out.size))
  clear hb8 HB7
  rw [show fitB 8 false 255 = true from by decide]
  go_wp2_with fail
  refine (fitsC _ _ _ _).mono ?_
  rintro e w9 ⟨rfl, hb9⟩
  have HB9 : Hid (Below w.heap.size w w9) := Lib.hid (HB8.out.trans (hb9.mono HB8.out.size))
  clear hb9 HB8
  rw [show fitB 8 false 256 = false from by decide]
  go_wp2_with fail
  refine (fitsC _ _ _ _).mono ?_
  rintro e w10 ⟨rfl, hb10⟩
  have HB10 : Hid (Below w.heap.size w w10) := Lib.hid (HB9.out.trans (hb10.mono HB9.out.size))
  clear hb10 HB9
  rw [show fitB 16 true (-32768) = true from by decide]
  go_wp2_with fail
  refine (reachC dimV _ 1 _ _ (dim_row w10) (Nat.le_refl _)).mono ?_
  rintro e w11 ⟨rfl, hb11⟩
  have HB11 : Hid (Below w.heap.size w w11) := Lib.hid ((HB10.out.alloc HB10.out.size _).trans (hb11.mono (HB10.out.alloc HB10.out.size _).size))
  clear hb11 HB10
  rw [show reachL dimV = 7 from by decide]
  go_wp2
  go_ret
  exact ⟨rfl, HB11.out⟩
end Go.Proofs.Ytflfjbmbholloaa
