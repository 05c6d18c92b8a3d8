/- Two ends that are the same are found to be the same. -/
import Derived.Test.YtifofhjfepkglaaDoorParR
namespace Go.Proofs.YtifofhjfepkglaaDoor
open Go.ChangeShapes Go.WideShapes Go.ChangeAt Go.RowKit
set_option linter.unusedVariables false
set_option linter.unusedSimpArgs false

set_option maxHeartbeats 1000000 in
set_option maxRecDepth 100000 in
theorem moves_same (l : List MV) (o1 o2 : Option Addr) (n c1 c2 : Nat) (w : World) (hn : l.length = n) (h1 : TrAt w o1 l) (h2 : TrAt w o2 l) (hl : n ≤ 400000000) :
    Calls Tryd.prog 18 #[.slice o1 n c1, .slice o2 n c2] w fun e w' => e = .returned (.bool true) ∧ Below w.heap.size w w' := by
  have H1 := Lib.hid h1
  have H2 := Lib.hid h2
  have HN := Lib.hid hn
  clear h1 h2 hn
  go_enter Tryd.func18, Tryd.ntmps18
  go_wp2_with fail
  go_loopw [5] (fun iv wr => ∃ (i : Nat), iv = .int .i64 i ∧ i ≤ n ∧ Hid (Below w.heap.size w wr)) (fun i _ => n - (intOf i).toNat)
  case atStart => exact ⟨0, rfl, by omega, Lib.hid (Below.refl _ _)⟩
  case round =>
    obtain ⟨i, rfl, hi, HB⟩ := hrel
    by_cases hlt : i < n
    · have hlti : (i : Int) < n := by omega
      have hi0 : (0 : Int) ≤ i := by omega
      obtain ⟨g1, f1, rfl, hm1⟩ : ∃ g off, o1 = some ⟨g, off, none⟩ ∧ Mvs w g off l := by
        rcases H1.out with h | h
        · have := HN.out
          omega
        · exact h
      obtain ⟨g2, f2, rfl, hm2⟩ : ∃ g off, o2 = some ⟨g, off, none⟩ ∧ Mvs w g off l := by
        rcases H2.out with h | h
        · have := HN.out
          omega
        · exact h
      have hk : i < l.length := by have := HN.out; omega
      have a := (hm1.below HB.out).2 i hk
      have b := (hm2.below HB.out).2 i hk
      obtain ⟨m, hm⟩ : ∃ m, l[i] = m := ⟨_, rfl⟩
      rw [hm] at a b
      clear hm hm1 hm2
      obtain ⟨a0, a1, a2, a3, a4, a5, a6⟩ := a
      obtain ⟨b0, b1, b2, b3, b4, b5, b6⟩ := b
      go_wp2_with fail
      go_quiet (fail)
      have HB2 := Lib.hid (bdrew HB.out nq)
      clear a0 a1 a2 a3 a4 a5 a6 b0 b1 b2 b3 b4 b5 b6
      simp only [Exit.then]
      go_wp2_with fail
      go_roundw
      case rel => exact ⟨i + 1, by go_num, by omega, HB2⟩
      case measure => simp [intOf]; omega
    · obtain rfl : i = n := by omega
      go_wp2_with fail
      go_ret
      exact ⟨rfl, HB.out⟩

set_option maxHeartbeats 1000000 in
set_option maxRecDepth 100000 in
theorem found_same (f : FD) (o1 o2 : Option Addr) (c1 c2 : Nat) (w : World) (h1 : TrAt w o1 f.trail) (h2 : TrAt w o2 f.trail) (hl : f.trail.length ≤ 400000000) :
    Calls Tryd.prog 10 #[fdV f (.slice o1 f.trail.length c1), fdV f (.slice o2 f.trail.length c2)] w fun e w' => e = .returned (.bool true) ∧ Below w.heap.size w w' := by
  obtain ⟨n, hn⟩ : ∃ n, f.trail.length = n := ⟨_, rfl⟩
  rw [hn] at hl ⊢
  obtain ⟨W1, hW1⟩ : ∃ W1, w.alloc (.cells (fdCells f (.slice o1 n c1)) 25) = W1 := ⟨_, rfl⟩
  obtain ⟨W2, hW2⟩ : ∃ W2, W1.alloc (.cells (fdCells f (.slice o2 n c2)) 25) = W2 := ⟨_, rfl⟩
  have hs1 : W1.heap.size = w.heap.size + 1 := by rw [← hW1]; exact World.size_alloc _ _
  have hB1 : Below w.heap.size w W1 := by rw [← hW1]; exact (Below.refl _ _).alloc (Nat.le_refl _) _
  have hB2 : Below W1.heap.size W1 W2 := by rw [← hW2]; exact (Below.refl _ _).alloc (Nat.le_refl _) _
  have hX1 : W1.heap[w.heap.size]? = some (.cells (fdCells f (.slice o1 n c1)) 25 (0, 0)) := by rw [← hW1]; exact heap_alloc_new _ _
  have hX2 : W2.heap[w.heap.size + 1]? = some (.cells (fdCells f (.slice o2 n c2)) 25 (0, 0)) := by rw [← hW2, ← hs1]; exact heap_alloc_new _ _
  have hX12 := (hB2.block w.heap.size (by omega)).trans hX1
  have hB := hB1.trans (hB2.mono hB1.size)
  have HS := Lib.hid fun w' (hb : Below W2.heap.size W2 w') => moves_same f.trail o1 o2 n c1 c2 w' hn ((h1.below hB).below hb) ((h2.below hB).below hb) hl
  have HB := Lib.hid hB
  have HX1 := Lib.hid hX12
  have HX2 := Lib.hid hX2
  unfold fdV
  unfold fdCells at hW1 hW2
  clear h1 h2 hB hB1 hB2 hX1 hX2 hX12 hn
  obtain ⟨e0, e1, e2, e3, e4, e5, e6, e7⟩ := fd_cells HX1.out
  obtain ⟨x0, x1, x2, x3, x4, x5, x6, x7⟩ := fd_cells HX2.out
  go_enter Tryd.func10, Tryd.ntmps10
  go_wp2_with fail
  refine (HS.out _ (Below.refl _ _)).mono ?_
  rintro e W3 ⟨rfl, hb3⟩
  have HB3 := Lib.hid (HB.out.trans (hb3.mono HB.out.size))
  have g1 := (hb3.block _ (lt_of_block HX1.out)).trans HX1.out
  have g2 := (hb3.block _ (lt_of_block HX2.out)).trans HX2.out
  clear e0 e1 e2 e3 e4 e5 e6 e7 x0 x1 x2 x3 x4 x5 x6 x7 hb3
  obtain ⟨e0, e1, e2, e3, e4, e5, e6, e7⟩ := fd_cells g1
  obtain ⟨x0, x1, x2, x3, x4, x5, x6, x7⟩ := fd_cells g2
  clear g1 g2
  go_wp2_with fail
  go_ret
  exact ⟨rfl, HB3.out⟩
end Go.Proofs.YtifofhjfepkglaaDoor
