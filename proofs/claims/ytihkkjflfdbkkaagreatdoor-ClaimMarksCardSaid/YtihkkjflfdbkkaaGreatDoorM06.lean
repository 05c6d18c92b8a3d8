/- Layer 17's example: the steps of a state with no processes: none. -/
import Derived.Test.YtihkkjflfdbkkaaGreatDoorM05
import Derived.Test.YtihkkjflfdbkkaaGreatDoorM03
import Derived.StillTailTactics
namespace Go.Proofs.YtihkkjflfdbkkaaGreatDoor
open Go.ChangeShapes Go.WideShapes Go.ChangeAt Go.RowKit
set_option linter.unusedVariables false
set_option linter.unusedSimpArgs false

def LookP (w : World) (e : Ending) (W : World) : Prop := ∃ b, e = .returned (.tuple #[.pointer (some ⟨b, 0, none⟩), .int .i64 0]) ∧ b < W.heap.size ∧ W.cell? ⟨b, 16, none⟩ = some (.slice none 0 0) ∧ Below w.heap.size w W

set_option maxRecDepth 100000 in
set_option maxHeartbeats 2000000 in
theorem allC (b : Nat) (w : World) : Calls Tryz.prog 64 #[.pointer (some ⟨b, 0, none⟩)] w fun e w' => e = .returned (.func (.func 102) #[] #[.pointer (some ⟨w.heap.size, 0, none⟩)]) ∧ w' = w.alloc (.cells #[.pointer (some ⟨b, 0, none⟩)] 142) := by
  have hmf : ∀ (fn : Fn) (first cap : Array Value) (w : World), (Instr.makeFunc fn first cap).run Tryz.prog w = .ok (.func fn first cap) w := fun _ _ _ _ => rfl
  go_enter Tryz.func64, Tryz.ntmps64
  go_wp2_with fail
  go_ret
  exact ⟨rfl, rfl⟩

set_option maxRecDepth 100000 in
set_option maxHeartbeats 4000000 in
theorem stepsIn {a0 a1 a2 a3 a4 a5 a6 b0 b1 b2 b3 b4 b5 : Value} (w : World) (HL : Calls Tryz.prog 63 #[.agg #[a0, a1, a2, a3, a4, a5, a6], .agg #[b0, b1, b2, b3, b4, b5]] ((w.alloc (.cells #[a0, a1, a2, a3, a4, a5, a6] 29)).alloc (.cells #[b0, b1, b2, b3, b4, b5] 33)) (LookP ((w.alloc (.cells #[a0, a1, a2, a3, a4, a5, a6] 29)).alloc (.cells #[b0, b1, b2, b3, b4, b5] 33)))) :
    CallsIn Fence.wide 3 Tryz.prog 28 #[.agg #[a0, a1, a2, a3, a4, a5, a6], .agg #[b0, b1, b2, b3, b4, b5]] w fun e w' => e = .returned (.tuple #[.slice none 0 0, .int .i64 0]) ∧ Below w.heap.size w w' := by
  refine callsIn_of_wp_marks Tryz.func28 rfl trivial ?_ rfl
  simp only [Tryz.ntmps28, List.size_toArray, List.length_cons, List.length_nil, Nat.reduceAdd, Nat.reduceSub, Array.replicate_succ, Array.replicate_zero, List.push_toArray, List.append_toArray, List.nil_append, List.cons_append]
  have HLI := callsIn_wide (n := 2).2 HL
  have HAL := fun (b : Nat) (W : World) => callsIn_wide (n := 2).2 (allC b W)
  gi_wp2_with (refine ⟨trivial, ?_⟩; gi_at_call 63; refine HLI.mono ?_; rintro e w2 ⟨b, rfl, hbl, hb16, hb2⟩)
  have hw2 : Below w.heap.size w w2 := (((Below.refl _ w).alloc (Nat.le_refl _) _).alloc (by simp) _).trans (hb2.mono (by simp; omega))
  clear HL HLI hb2
  gi_wp2_with (refine ⟨trivial, ?_⟩; gi_at_call 64; refine (HAL _ _).mono ?_; rintro e w3 ⟨rfl, rfl⟩)
  have HW3 : Below w2.heap.size w2 (((w2.alloc (.cells #[.pointer (some ⟨b, 0, none⟩)] 142)).alloc (.cells #[.slice none 0 0] 57)).alloc (.cells #[.pointer (some ⟨b, 0, none⟩)] 142)) := (((Below.refl _ w2).alloc (Nat.le_refl _) _).alloc (by simp) _).alloc (by simp; omega) _
  have hg : (((w2.alloc (.cells #[.pointer (some ⟨b, 0, none⟩)] 142)).alloc (.cells #[.slice none 0 0] 57)).alloc (.cells #[.pointer (some ⟨b, 0, none⟩)] 142)).cell? ⟨w2.heap.size + 1 + 1, 0, none⟩ = some (.pointer (some ⟨b, 0, none⟩)) := by
    have h := heap_alloc_new ((w2.alloc (.cells #[.pointer (some ⟨b, 0, none⟩)] 142)).alloc (.cells #[.slice none 0 0] 57)) (.cells #[.pointer (some ⟨b, 0, none⟩)] 142)
    rw [World.size_alloc, World.size_alloc] at h
    exact (cell_of_row _ _ 0 _ _ _ h).trans rfl
  have ho : (((w2.alloc (.cells #[.pointer (some ⟨b, 0, none⟩)] 142)).alloc (.cells #[.slice none 0 0] 57)).alloc (.cells #[.pointer (some ⟨b, 0, none⟩)] 142)).heap[w2.heap.size + 1]? = some (.cells #[.slice none 0 0] 57 (0, 0)) := by
    have h := heap_alloc_new (w2.alloc (.cells #[.pointer (some ⟨b, 0, none⟩)] 142)) (.cells #[.slice none 0 0] 57)
    rw [World.size_alloc] at h
    exact (Below.heap_alloc _ _ _ (by simp)).trans h
  have hsz : (((w2.alloc (.cells #[.pointer (some ⟨b, 0, none⟩)] 142)).alloc (.cells #[.slice none 0 0] 57)).alloc (.cells #[.pointer (some ⟨b, 0, none⟩)] 142)).heap.size = w2.heap.size + 1 + 1 + 1 := by simp
  obtain ⟨W3, hW3⟩ : ∃ W3, (((w2.alloc (.cells #[.pointer (some ⟨b, 0, none⟩)] 142)).alloc (.cells #[.slice none 0 0] 57)).alloc (.cells #[.pointer (some ⟨b, 0, none⟩)] 142)) = W3 := ⟨_, rfl⟩
  rw [hW3] at HW3 hg ho hsz ⊢
  have hb3 := (HW3.cell (p := ⟨b, 16, none⟩) hbl).trans hb16
  have hbw : Below w.heap.size w W3 := hw2.trans (HW3.mono hw2.size)
  have hoc : W3.cell? ⟨w2.heap.size + 1, 0, none⟩ = some (.slice none 0 0) := (cell_of_row _ _ 0 _ _ _ ho).trans rfl
  have hof : W3.frozen? ⟨w2.heap.size + 1, 0, none⟩ = false := frozen_of_row _ _ _ _ _ ho
  clear HAL hW3
  refine wpIn_rangeFunc_ownF (n := 3) rfl (by decide) (gf := 102) (lb := #[.pointer (some ⟨w2.heap.size + 1 + 1, 0, none⟩)]) rfl trivial (enters_of Tryz.func102 (by kernel_rfl) rfl)
    (allStops Fence.wide 2 trivial rfl (by decide) (w2.heap.size + 1 + 1) b W3 (by omega) (by omega) hg hb3) belowK_t (belowK_b (Nat.le_refl _)) (Below.refl _ _) (fun x => nomatch x)
    (fun pre W => (W.cell? ⟨w2.heap.size + 1, 0, none⟩ = some (.slice none 0 0) ∧ W.frozen? ⟨w2.heap.size + 1, 0, none⟩ = false) ∧ Below w.heap.size w W)
    (fun _ _ _ => False)
    (OwnFrom.and (Own.from (fun s A B row hs hg hr => ⟨cell_kept hs.1 hg hr, (frozen_kept hs.1 hg hr).trans hs.2⟩) _) (ownFrom_below (Nat.le_refl _) hbw.size))
    (fun c => Own.from (fun s A B row hs hg hr => hs) _)
    ⟨⟨hoc, hof⟩, hbw⟩
    (fun x => nomatch x) ?assign ?body ?done ?stop
  case assign =>
    intro l x
    exact nomatch x
  case body =>
    intro l pre x
    exact nomatch x
  case done =>
    rintro D ys W hD rfl ⟨⟨hc, hf⟩, hB⟩ hK
    gi_wp2
    refine ⟨by simp, .inl ⟨_, _, rfl, run_takeDeferred hK, ?_⟩⟩
    refine ⟨.tuple #[.slice none 0 0, .int .i64 0], by simp [results, Tryz.results28, go_sem], rfl, hB.trans (belowK_b (w := w) (Nat.le_refl _) W D _ _ (by have := hbw.size; omega) hK rfl rfl)⟩
  case stop =>
    rintro D c pre W hD h
    exact h.elim
theorem stepsC {a0 a1 a2 a3 a4 a5 a6 b0 b1 b2 b3 b4 b5 : Value} (w : World) (HL : Calls Tryz.prog 63 #[.agg #[a0, a1, a2, a3, a4, a5, a6], .agg #[b0, b1, b2, b3, b4, b5]] ((w.alloc (.cells #[a0, a1, a2, a3, a4, a5, a6] 29)).alloc (.cells #[b0, b1, b2, b3, b4, b5] 33)) (LookP ((w.alloc (.cells #[a0, a1, a2, a3, a4, a5, a6] 29)).alloc (.cells #[b0, b1, b2, b3, b4, b5] 33)))) :
    Calls Tryz.prog 28 #[.agg #[a0, a1, a2, a3, a4, a5, a6], .agg #[b0, b1, b2, b3, b4, b5]] w fun e w' => e = .returned (.tuple #[.slice none 0 0, .int .i64 0]) ∧ Below w.heap.size w w' :=
  (callsIn_wide (n := 3)).1 (stepsIn w HL)
end Go.Proofs.YtihkkjflfdbkkaaGreatDoor
/- Layer 17's example: the world of a state with no processes. -/
namespace Go.Proofs.YtihkkjflfdbkkaaGreatDoor
open Go.ChangeShapes Go.WideShapes Go.ChangeAt Go.RowKit
set_option linter.unusedVariables false
set_option linter.unusedSimpArgs false

def AbleP (w : World) (e : Ending) (W : World) : Prop := ∃ o c, e = .returned (.tuple #[.slice o 0 c, .int .i64 0]) ∧ Below w.heap.size w W

set_option maxRecDepth 100000 in
set_option maxHeartbeats 4000000 in
theorem lookC {a0 a1 a2 a3 a4 a5 a6 b0 b1 b3 b4 b5 : Value} {po : Option Addr} {pc : Nat} (w : World) (HA : Calls Tryz.prog 29 #[.agg #[a0, a1, a2, a3, a4, a5, a6], .agg #[b0, b1, .slice po 0 pc, b3, b4, b5]] ((w.alloc (.cells #[a0, a1, a2, a3, a4, a5, a6] 29)).alloc (.cells #[b0, b1, .slice po 0 pc, b3, b4, b5] 33)) (AbleP ((w.alloc (.cells #[a0, a1, a2, a3, a4, a5, a6] 29)).alloc (.cells #[b0, b1, .slice po 0 pc, b3, b4, b5] 33)))) :
    Calls Tryz.prog 63 #[.agg #[a0, a1, a2, a3, a4, a5, a6], .agg #[b0, b1, .slice po 0 pc, b3, b4, b5]] w (LookP w) := by
  have HB := Lib.hid HA
  have h0 := heap_alloc_new w (.cells #[a0, a1, a2, a3, a4, a5, a6] 29)
  have h1 := heap_alloc_new (w.alloc (.cells #[a0, a1, a2, a3, a4, a5, a6] 29)) (.cells #[b0, b1, .slice po 0 pc, b3, b4, b5] 33)
  rw [World.size_alloc] at h1
  have HM := Lib.hid ((Below.heap_alloc (w.alloc (.cells #[a0, a1, a2, a3, a4, a5, a6] 29)) (.cells #[b0, b1, .slice po 0 pc, b3, b4, b5] 33) _ (by simp)).trans h0)
  have HS := Lib.hid h1
  clear HA h0 h1
  go_enter Tryz.func63, Tryz.ntmps63
  go_wp2_with fail
  refine HB.out.mono ?_
  rintro e W2 ⟨o, c, rfl, hb2⟩
  have hw2 : Below w.heap.size w W2 := (((Below.refl _ w).alloc (Nat.le_refl _) _).alloc (by simp) _).trans (hb2.mono (by simp; omega))
  have HW2 := Lib.hid hw2
  have HM2 := Lib.hid ((hb2.block _ (lt_of_block HM.out)).trans HM.out)
  have HS2 := Lib.hid ((hb2.block _ (lt_of_block HS.out)).trans HS.out)
  have HIM : Hid ((Tryz.prog.info? 29).map (·.size) = some 7) := Lib.hid (by kernel_rfl)
  have HIS : Hid ((Tryz.prog.info? 33).map (·.size) = some 6) := Lib.hid (by kernel_rfl)
  clear HB hb2 hw2 HM HS
  go_upto_region 5 with (first | refine wpList_load_row rfl _ _ rfl _ rfl _ #[a0, a1, a2, a3, a4, a5, a6] _ _ HM2.out Tryz.underlying29 rfl HIM.out ?_ | refine wpList_load_row rfl _ _ rfl _ rfl _ #[b0, b1, .slice po 0 pc, b3, b4, b5] _ _ HS2.out Tryz.underlying33 rfl HIS.out ?_)
  have HB0 : Hid ((W2.alloc (.cells #[a0, a1, a2, a3, a4, a5, a6, b0, b1, .slice po 0 pc, b3, b4, b5, .int .i64 0, .bool false, .slice o 0 c, .slice none 0 0] 189)).heap[W2.heap.size]? = some (.cells (wCells a0 a1 a2 a3 a4 a5 a6 b0 b1 (.slice po 0 pc) b3 b4 b5 (.int .i64 0) (.bool false) (.slice o 0 c) (.slice none 0 0)) 189 (0, 0))) := Lib.hid (heap_alloc_new _ _)
  have HBW : Hid (Below w.heap.size w (W2.alloc (.cells #[a0, a1, a2, a3, a4, a5, a6, b0, b1, .slice po 0 pc, b3, b4, b5, .int .i64 0, .bool false, .slice o 0 c, .slice none 0 0] 189))) := Lib.hid (HW2.out.alloc HW2.out.size _)
  have HGE : Hid (w.heap.size ≤ W2.heap.size) := Lib.hid HW2.out.size
  generalize W2.alloc (.cells #[a0, a1, a2, a3, a4, a5, a6, b0, b1, .slice po 0 pc, b3, b4, b5, .int .i64 0, .bool false, .slice o 0 c, .slice none 0 0] 189) = W3 at HB0 HBW ⊢
  generalize W2.heap.size = b at HB0 HGE ⊢
  clear HW2 HM2 HS2 HIM HIS
  have hix0 : ∀ W : World, (Instr.index 190 (.agg #[.bool false, .bool true]) (.int .i64 0)).run Tryz.prog W = .ok (.bool false) W := fun _ => by first | rfl | kernel_rfl
  have hix1 : ∀ W : World, (Instr.index 190 (.agg #[.bool false, .bool true]) (.int .i64 1)).run Tryz.prog W = .ok (.bool true) W := fun _ => by first | rfl | kernel_rfl
  go_wp2_with fail
  go_loopw [28] (fun iv W => ∃ (k : Nat) (u : Bool), iv = .int .i64 k ∧ k ≤ 2 ∧ Hid (W.heap[b]? = some (.cells (wCells a0 a1 a2 a3 a4 a5 a6 b0 b1 (.slice po 0 pc) b3 b4 b5 (.int .i64 0) (.bool u) (.slice o 0 c) (.slice none 0 0)) 189 (0, 0))) ∧ Hid (Below w.heap.size w W)) (fun iv _ => 2 - (intOf iv).toNat)
  case atStart => exact ⟨0, false, rfl, by omega, HB0, HBW⟩
  case round =>
    clear HB0 HBW
    obtain ⟨k, u, rfl, hk, HBK, HBW⟩ := hrel
    by_cases h2 : k = 2
    · subst h2
      go_wp2_with fail
      go_ret2
      exact ⟨b, rfl, lt_of_block HBK.out, (cell_of_row _ _ _ _ _ _ HBK.out).trans rfl, HBW.out⟩
    · have h01 : k = 0 ∨ k = 1 := by omega
      clear hk h2
      rcases h01 with rfl | rfl
      · have c14 : wr.cell? ⟨b, 14, none⟩ = some (.bool u) := (cell_of_row _ _ _ _ _ _ HBK.out).trans rfl
        have f14 : wr.frozen? ⟨b, 14, none⟩ = false := frozen_of_row _ _ _ _ _ HBK.out
        have HN1 : Hid ((wr.setCell ⟨b, 14, none⟩ (.bool false)).heap[b]? = some (.cells (wCells a0 a1 a2 a3 a4 a5 a6 b0 b1 (.slice po 0 pc) b3 b4 b5 (.int .i64 0) (.bool false) (.slice o 0 c) (.slice none 0 0)) 189 (0, 0))) := Lib.hid (heap_setCell_same wr b 14 _ _ (.bool false) HBK.out)
        have HN2 : Hid (Below w.heap.size w (wr.setCell ⟨b, 14, none⟩ (.bool false))) := Lib.hid (HBW.out.setCell (by exact HGE.out) _)
        go_upto_region 9 with fail
        generalize wr.setCell ⟨b, 14, none⟩ (.bool false) = W4 at HN1 HN2 ⊢
        clear c14 f14 HBK HBW
        go_wp2_with fail
        refine (findC HGE.out W4 HN1.out (po := po) (pc := pc) rfl rfl).mono ?_
        rintro e W5 ⟨rfl, h5, hb5⟩
        have HBK := Lib.hid h5
        have HBW := Lib.hid (HN2.out.trans hb5)
        clear h5 hb5 HN1 HN2
        go_wp2_with fail
        refine (anyC b W5 ((cell_of_row _ _ _ _ _ _ HBK.out).trans rfl)).mono ?_
        rintro e W6 ⟨rfl, hb6⟩
        have HBK6 := Lib.hid ((hb6.block _ (lt_of_block HBK.out)).trans HBK.out)
        have HBW6 := Lib.hid (HBW.out.trans (hb6.mono HBW.out.size))
        clear hb6 HBK HBW
        go_wp2_with fail
        go_roundw
        case rel => exact ⟨1, false, by first | rfl | go_num, by omega, HBK6, HBW6⟩
        case measure => simp [intOf]
      · have c14 : wr.cell? ⟨b, 14, none⟩ = some (.bool u) := (cell_of_row _ _ _ _ _ _ HBK.out).trans rfl
        have f14 : wr.frozen? ⟨b, 14, none⟩ = false := frozen_of_row _ _ _ _ _ HBK.out
        have HN1 : Hid ((wr.setCell ⟨b, 14, none⟩ (.bool true)).heap[b]? = some (.cells (wCells a0 a1 a2 a3 a4 a5 a6 b0 b1 (.slice po 0 pc) b3 b4 b5 (.int .i64 0) (.bool true) (.slice o 0 c) (.slice none 0 0)) 189 (0, 0))) := Lib.hid (heap_setCell_same wr b 14 _ _ (.bool true) HBK.out)
        have HN2 : Hid (Below w.heap.size w (wr.setCell ⟨b, 14, none⟩ (.bool true))) := Lib.hid (HBW.out.setCell (by exact HGE.out) _)
        go_upto_region 9 with fail
        generalize wr.setCell ⟨b, 14, none⟩ (.bool true) = W4 at HN1 HN2 ⊢
        clear c14 f14 HBK HBW
        go_wp2_with fail
        refine (findC HGE.out W4 HN1.out (po := po) (pc := pc) rfl rfl).mono ?_
        rintro e W5 ⟨rfl, h5, hb5⟩
        have HBK := Lib.hid h5
        have HBW := Lib.hid (HN2.out.trans hb5)
        clear h5 hb5 HN1 HN2
        go_wp2_with fail
        refine (anyC b W5 ((cell_of_row _ _ _ _ _ _ HBK.out).trans rfl)).mono ?_
        rintro e W6 ⟨rfl, hb6⟩
        have HBK6 := Lib.hid ((hb6.block _ (lt_of_block HBK.out)).trans HBK.out)
        have HBW6 := Lib.hid (HBW.out.trans (hb6.mono HBW.out.size))
        clear hb6 HBK HBW
        go_wp2_with fail
        go_roundw
        case rel => exact ⟨2, true, by first | rfl | go_num, by omega, HBK6, HBW6⟩
        case measure => simp [intOf]
end Go.Proofs.YtihkkjflfdbkkaaGreatDoor
/- Layer 17's example: which processes of a state with none can go on. -/
namespace Go.Proofs.YtihkkjflfdbkkaaGreatDoor
open Go.ChangeShapes Go.WideShapes Go.ChangeAt Go.RowKit
set_option linter.unusedVariables false
set_option linter.unusedSimpArgs false

theorem infoBool : (Tryz.prog.info? 4).map (fun i => (i.zero, i.size, i.bytes)) = some (some (.bool false), 1, 1) := by kernel_rfl
set_option maxRecDepth 100000 in
set_option maxHeartbeats 4000000 in
theorem ableC {o0 o1 o2 o3 o4 o6 p0 p1 po : Option Addr} {n0 n1 n2 n3 n4 n6 c0 c1 c2 c3 c4 c6 k0 k1 d0 d1 pc : Nat} {cl l3 l4 l5 : Int} (w : World) (HA : Calls Tryz.prog 17 #[.agg #[.slice o0 n0 c0, .slice o1 n1 c1, .slice o2 n2 c2, .slice o3 n3 c3, .slice o4 n4 c4, .int .i64 cl, .slice o6 n6 c6], .agg #[.slice p0 k0 d0, .slice p1 k1 d1, .slice po 0 pc, .int .i64 l3, .int .i64 l4, .int .i64 l5]] ((w.alloc (.cells #[.slice o0 n0 c0, .slice o1 n1 c1, .slice o2 n2 c2, .slice o3 n3 c3, .slice o4 n4 c4, .int .i64 cl, .slice o6 n6 c6] 29)).alloc (.cells #[.slice p0 k0 d0, .slice p1 k1 d1, .slice po 0 pc, .int .i64 l3, .int .i64 l4, .int .i64 l5] 33)) fun e w' => e = .returned (.int .i64 0) ∧ Below ((w.alloc (.cells #[.slice o0 n0 c0, .slice o1 n1 c1, .slice o2 n2 c2, .slice o3 n3 c3, .slice o4 n4 c4, .int .i64 cl, .slice o6 n6 c6] 29)).alloc (.cells #[.slice p0 k0 d0, .slice p1 k1 d1, .slice po 0 pc, .int .i64 l3, .int .i64 l4, .int .i64 l5] 33)).heap.size ((w.alloc (.cells #[.slice o0 n0 c0, .slice o1 n1 c1, .slice o2 n2 c2, .slice o3 n3 c3, .slice o4 n4 c4, .int .i64 cl, .slice o6 n6 c6] 29)).alloc (.cells #[.slice p0 k0 d0, .slice p1 k1 d1, .slice po 0 pc, .int .i64 l3, .int .i64 l4, .int .i64 l5] 33)) w') :
    Calls Tryz.prog 29 #[.agg #[.slice o0 n0 c0, .slice o1 n1 c1, .slice o2 n2 c2, .slice o3 n3 c3, .slice o4 n4 c4, .int .i64 cl, .slice o6 n6 c6], .agg #[.slice p0 k0 d0, .slice p1 k1 d1, .slice po 0 pc, .int .i64 l3, .int .i64 l4, .int .i64 l5]] w (AbleP w) := by
  have HB := Lib.hid HA
  have h0 := heap_alloc_new w (.cells #[.slice o0 n0 c0, .slice o1 n1 c1, .slice o2 n2 c2, .slice o3 n3 c3, .slice o4 n4 c4, .int .i64 cl, .slice o6 n6 c6] 29)
  have h1 := heap_alloc_new (w.alloc (.cells #[.slice o0 n0 c0, .slice o1 n1 c1, .slice o2 n2 c2, .slice o3 n3 c3, .slice o4 n4 c4, .int .i64 cl, .slice o6 n6 c6] 29)) (.cells #[.slice p0 k0 d0, .slice p1 k1 d1, .slice po 0 pc, .int .i64 l3, .int .i64 l4, .int .i64 l5] 33)
  rw [World.size_alloc] at h1
  have HM := Lib.hid ((Below.heap_alloc (w.alloc (.cells #[.slice o0 n0 c0, .slice o1 n1 c1, .slice o2 n2 c2, .slice o3 n3 c3, .slice o4 n4 c4, .int .i64 cl, .slice o6 n6 c6] 29)) (.cells #[.slice p0 k0 d0, .slice p1 k1 d1, .slice po 0 pc, .int .i64 l3, .int .i64 l4, .int .i64 l5] 33) _ (by simp)).trans h0)
  have HS := Lib.hid h1
  obtain ⟨i4, hi4, hz0, hz1, hz2⟩ := info_parts infoBool
  have HI := Lib.hid (And.intro hi4 (And.intro hz0 (And.intro hz1 hz2)))
  clear HA h0 h1 hi4 hz0 hz1 hz2
  go_enter Tryz.func29, Tryz.ntmps29
  go_wp2_with fail
  refine HB.out.mono ?_
  rintro e W2 ⟨rfl, hb2⟩
  have hw2 : Below w.heap.size w W2 := (((Below.refl _ w).alloc (Nat.le_refl _) _).alloc (by simp) _).trans (hb2.mono (by simp; omega))
  have HW2 := Lib.hid hw2
  have HM2 := Lib.hid ((hb2.block _ (lt_of_block HM.out)).trans HM.out)
  have HS2 := Lib.hid ((hb2.block _ (lt_of_block HS.out)).trans HS.out)
  have HIM : Hid ((Tryz.prog.info? 29).map (·.size) = some 7) := Lib.hid (by kernel_rfl)
  have HIS : Hid ((Tryz.prog.info? 33).map (·.size) = some 6) := Lib.hid (by kernel_rfl)
  have hc2 : W2.cell? ⟨w.heap.size + 1, 2, none⟩ = some (.slice po 0 pc) := (cell_of_row _ _ _ _ _ _ HS2.out).trans rfl
  have HL1 : Hid (0 ≤ maxLen) := Lib.hid (Nat.zero_le _)
  have HL2 : Hid (i4.bytes * 0 ≤ 281474976710656) := Lib.hid (by omega)
  have HL3 : Hid (w.heap.size ≤ W2.heap.size) := Lib.hid hw2.size
  clear HB hb2 hw2 HM HS
  go_wp2_with (refine wpList_make_full _ rfl _ _ 85 rfl w.heap.size 4 i4 (.bool false) 1 Tryz.underlying85 HI.out.1 HI.out.2.1 HI.out.2.2.1 .i64 .i64 _ _ 0 rfl rfl rfl rfl HL2.out HL1.out HL3.out ?_)
  intro w3 hown hgrow
  have hbb : Below w.heap.size w w3 := HW2.out.trans ((Below.refl _ _).grown hgrow HL3.out (fun k hk => by cases hk))
  have HM3 := Lib.hid ((hgrow.block _ (lt_of_block HM2.out) (fun e => by cases e)).trans HM2.out)
  have HS3 := Lib.hid ((hgrow.block _ (lt_of_block HS2.out) (fun e => by cases e)).trans HS2.out)
  have HW3 := Lib.hid hbb
  generalize W2.heap.size = g
  clear hown hgrow hbb HM2 HS2 HW2 hc2 HL1 HL2 HL3 HI
  go_wp2_with (first | refine wpList_load_row rfl _ _ rfl _ rfl _ #[.slice o0 n0 c0, .slice o1 n1 c1, .slice o2 n2 c2, .slice o3 n3 c3, .slice o4 n4 c4, .int .i64 cl, .slice o6 n6 c6] _ _ HM3.out Tryz.underlying29 rfl HIM.out ?_ | refine wpList_load_row rfl _ _ rfl _ rfl _ #[.slice p0 k0 d0, .slice p1 k1 d1, .slice po 0 pc, .int .i64 l3, .int .i64 l4, .int .i64 l5] _ _ HS3.out Tryz.underlying33 rfl HIS.out ?_)
  have HW4 : Hid (Below w.heap.size w (w3.alloc (.cells #[.slice o0 n0 c0, .slice o1 n1 c1, .slice o2 n2 c2, .slice o3 n3 c3, .slice o4 n4 c4, .int .i64 cl, .slice o6 n6 c6, .slice p0 k0 d0, .slice p1 k1 d1, .slice po 0 pc, .int .i64 l3, .int .i64 l4, .int .i64 l5, .int .i64 0, .bool false, .slice none 0 0] 89))) := Lib.hid (HW3.out.alloc HW3.out.size _)
  generalize w3.alloc (.cells #[.slice o0 n0 c0, .slice o1 n1 c1, .slice o2 n2 c2, .slice o3 n3 c3, .slice o4 n4 c4, .int .i64 cl, .slice o6 n6 c6, .slice p0 k0 d0, .slice p1 k1 d1, .slice po 0 pc, .int .i64 l3, .int .i64 l4, .int .i64 l5, .int .i64 0, .bool false, .slice none 0 0] 89) = W4 at HW4 ⊢
  generalize w3.heap.size = b
  clear HM3 HS3 HW3 HIM HIS
  go_loopw [25] (fun iv W => iv = .int .i64 0 ∧ W4 = W) (fun _ _ => 0)
  case atStart => exact ⟨rfl, rfl⟩
  case round =>
    obtain ⟨rfl, rfl⟩ := hrel
    go_wp2_with fail
    go_ret2
    exact ⟨_, _, rfl, HW4.out⟩
end Go.Proofs.YtihkkjflfdbkkaaGreatDoor
/- Is there a number for each type, and one of it? -/
namespace Go.Proofs.YtihkkjflfdbkkaaGreatDoor
open Go.ChangeShapes Go.WideShapes Go.ChangeAt Go.RowKit
set_option linter.unusedVariables false
set_option linter.unusedSimpArgs false

theorem zip_get2 {α β : Type} {a : List α} {b : List β} {k : Nat} (h1 : k < a.length) (h2 : k < b.length) : ∃ hz : k < (a.zip b).length, (a.zip b)[k] = (a[k], b[k]) := ⟨by rw [List.length_zip]; omega, by simp⟩

set_option maxHeartbeats 2000000 in
set_option maxRecDepth 100000 in
theorem sfitsC {B : Nat} (t : List (Int × Bool)) (l : List Int) (o1 o2 : Option Addr) (p1 p2 : Nat) (w : World) (hB : B ≤ w.heap.size) (h1 : Row B o1 2 (tyAt w) t) (h2 : Row B o2 1 (intAt w) l) :
    Calls Tryz.prog 73 #[.slice o1 t.length p1, .slice o2 l.length p2] w fun e w' => e = .returned (.bool (fitsL t l)) ∧ Below w.heap.size w w' := by
  have HR := Lib.hid (And.intro h1 h2)
  have l1 := h1.1
  have l2 := h2.1
  clear h1 h2
  by_cases hne : l.length = t.length
  · have HV : Hid (fitsL t l = (t.zip l).all fitZ) := Lib.hid (by unfold fitsL; rw [decide_eq_true hne]; rfl)
    have hnb : ((l.length : Int) != (t.length : Int)) = false := by rw [bne_eq_false_iff_eq]; omega
    have HNE := Lib.hid hne
    have m1 : (l.length : Int) ≤ t.length := by omega
    have m2 : (t.length : Int) ≤ l.length := by omega
    clear hne
    go_enter Tryz.func73, Tryz.ntmps73
    go_wp2_with fail
    go_loopw [14] (fun iv W => ∃ i : Nat, iv = .int .i64 i ∧ i ≤ t.length ∧ Hid (∀ j (hj : j < (t.zip l).length), j < i → fitZ (t.zip l)[j] = true) ∧ Hid (Below w.heap.size w W)) (fun iv _ => t.length - (intOf iv).toNat)
    case atStart => exact ⟨0, rfl, by omega, Lib.hid fun j _ h => by omega, Lib.hid (Below.refl _ _)⟩
    case round =>
      obtain ⟨i, rfl, hi, HJ, HB⟩ := hrel
      have hi0 : (0 : Int) ≤ i := by omega
      by_cases hlt : i < t.length
      · have hlti : (i : Int) < t.length := by omega
        have hlt2 : i < l.length := by have := HNE.out; omega
        have hlti2 : (i : Int) < l.length := by omega
        obtain ⟨g1, off1, ho1, hg1, t0, t1⟩ := (HR.out.1.mono fun _ _ _ hg => tyAt.below (HB.out.mono hB) hg).cell hlt
        obtain ⟨g2, off2, ho2, hg2, e2⟩ := (HR.out.2.mono fun _ _ _ hg => intAt.below (HB.out.mono hB) hg).cell hlt2
        subst ho1 ho2
        obtain ⟨⟨b, sg⟩, hbs⟩ : ∃ q, t[i] = q := ⟨_, rfl⟩
        obtain ⟨v, hv⟩ : ∃ q, l[i] = q := ⟨_, rfl⟩
        obtain ⟨hz, hzip⟩ := zip_get2 hlt hlt2
        rw [hbs, hv] at hzip
        rw [hbs] at t0 t1
        have HBAD : Hid (fitB b sg v = false → fitsL t l = false) := Lib.hid fun h => by rw [HV.out, all_bad hz (by rw [hzip]; exact h)]
        have HGO : Hid (fitB b sg v = true → ∀ j (hj : j < (t.zip l).length), j < i + 1 → fitZ (t.zip l)[j] = true) := Lib.hid fun h j hj hjk => by
          by_cases e : j = i
          · subst e; rw [hzip]; exact h
          · exact HJ.out j hj (by omega)
        have e3 : wr.cell? ⟨g2, off2 + i, none⟩ = some (.int .i64 v) := by
          have := e2
          unfold intAt at this
          rw [Nat.mul_one, hv] at this
          exact this
        have hc1 := Lib.cell?_alloc_some (Obj.cells #[.int .i64 b, .bool sg] 113) e3
        simp only at t0 t1
        have HX := Lib.hid (Bx.new wr #[.int .i64 b, .bool sg] 113)
        have HB1 := Lib.hid (HB.out.trans ((ball (Obj.cells #[.int .i64 b, .bool sg] 113)).mono HB.out.size))
        clear hbs hv e2 hz hzip
        go_wp2_with fail
        generalize wr.alloc (Obj.cells #[.int .i64 b, .bool sg] 113) = W at hc1 HX HB1 ⊢
        have x1 : W.cell? ⟨wr.heap.size, 0, none⟩ = some (.int .i64 b) := HX.out.cell rfl
        have x2 : W.cell? ⟨wr.heap.size, 1, none⟩ = some (.bool sg) := HX.out.cell rfl
        go_still_tail 5, (by kernel_rfl)
        change wpList _ _ _ _ _ W.drew
        have HB2 : Hid (Below w.heap.size w W.drew) := Lib.hid HB1.out.drew
        generalize W.drew = W2 at HB2 ⊢
        clear x1 x2 hc1 t0 t1 e3
        go_wp2_with fail
        refine (fitsC b sg v W2).mono ?_
        rintro e W3 ⟨rfl, hb3⟩
        have HB3 := Lib.hid (HB2.out.trans (hb3.mono HB2.out.size))
        clear hb3
        obtain ⟨u, hu⟩ : ∃ u, fitB b sg v = u := ⟨_, rfl⟩
        rw [hu]
        have HU := Lib.hid hu
        clear hu
        cases u
        · have HZ := Lib.hid (HBAD.out HU.out)
          go_wp2_with fail
          go_ret
          exact ⟨retB HZ.out.symm, HB3.out⟩
        · have HZ := Lib.hid (HGO.out HU.out)
          go_wp2_with fail
          go_roundw
          case rel => exact ⟨i + 1, by go_num, by omega, HZ, HB3⟩
          case measure => simp [intOf]; omega
      · have hlti : ¬ (i : Int) < t.length := by omega
        have HA : Hid (fitsL t l = true) := Lib.hid (by rw [HV.out]; exact all_of fun j hj => HJ.out j hj (by rw [List.length_zip] at hj; omega))
        go_wp2_with fail
        go_ret
        exact ⟨retB HA.out.symm, HB.out⟩
  · have HV : Hid (fitsL t l = false) := Lib.hid (by unfold fitsL; rw [decide_eq_false hne]; rfl)
    have hnb : ((l.length : Int) != (t.length : Int)) = true := by rw [bne_iff_ne]; omega
    clear hne
    go_enter Tryz.func73, Tryz.ntmps73
    go_wp2_with fail
    go_ret
    exact ⟨retB HV.out.symm, Below.refl _ _⟩
end Go.Proofs.YtihkkjflfdbkkaaGreatDoor
