/- What an end is as text: the document's answer. -/
import Derived.Test.YtifofhjfepkglaaDoorPrint
namespace Go.Proofs.YtifofhjfepkglaaDoor
open Go.ChangeShapes Go.WideShapes Go.ChangeAt Go.RowKit
set_option linter.unusedVariables false
set_option linter.unusedSimpArgs false

set_option maxRecDepth 100000 in
set_option maxHeartbeats 4000000 in
theorem rprint_any (f : FD) (o : Option Addr) (cap : Nat) (w : World) (hm : TrAt w o f.trail) (hin : FIn f) (hl : f.trail.length ≤ 400000000) :
    Calls Tryd.prog 7 #[fdV f (.slice o f.trail.length cap)] w fun e w' => e = .returned (.tuple #[strV (outOf f), .int .i64 (errOf f)]) ∧ Below w.heap.size w w' := by
  have HM := Lib.hid hm
  have HIN := Lib.hid hin
  obtain ⟨W0, hW0⟩ : ∃ W0, w.alloc (.cells (fdCells f (.slice o f.trail.length cap)) 25) = W0 := ⟨_, rfl⟩
  have hB0 : Below w.heap.size w W0 := by rw [← hW0]; exact (Below.refl _ _).alloc (Nat.le_refl _) _
  have hX0 : W0.heap[w.heap.size]? = some (.cells (fdCells f (.slice o f.trail.length cap)) 25 (0, 0)) := by rw [← hW0]; exact heap_alloc_new _ _
  have hfc : fdCells f (.slice o f.trail.length cap) = #[.int .i64 f.kind, .int .i64 f.what, .int .i64 f.err, .int .i64 f.at_, .slice o f.trail.length cap, .int .i64 f.cyc, .int .i64 f.states, .int .i64 f.steps] := rfl
  rw [hfc] at hW0
  obtain ⟨c0, c1, c2, c3, c4, c5, c6, c7⟩ := fd_cells hX0
  have HB0 := Lib.hid hB0
  have HX0 := Lib.hid hX0
  clear hm hin hfc hB0 hX0
  unfold fdV strV outOf errOf
  by_cases h1 : f.kind < 1
  · have hb : badF f = true := by simp [badF, h1]
    rw [hb]
    clear hb
    go_enter Tryd.func7, Tryd.ntmps7
    go_wp2_with fail
    go_ret2
    exact ⟨rfl, HB0.out⟩
  by_cases h2 : 4 < f.kind
  · have hb : badF f = true := by simp [badF, h2]
    rw [hb]
    clear hb
    go_enter Tryd.func7, Tryd.ntmps7
    go_wp2_with fail
    go_ret2
    exact ⟨rfl, HB0.out⟩
  by_cases h3 : f.cyc < -1
  · have hb : badF f = true := by simp [badF, h3]
    rw [hb]
    clear hb
    go_enter Tryd.func7, Tryd.ntmps7
    go_wp2_with fail
    go_ret2
    exact ⟨rfl, HB0.out⟩
  by_cases h4 : (f.trail.length : Int) ≤ f.cyc
  · have hb : badF f = true := by simp [badF, h4]
    rw [hb]
    clear hb
    go_enter Tryd.func7, Tryd.ntmps7
    go_wp2_with fail
    go_ret2
    exact ⟨rfl, HB0.out⟩
  have hb : badF f = false := by simp [badF]; omega
  rw [hb]
  clear hb
  have hs0 : w.heap.size < W0.heap.size := lt_of_block HX0.out
  have hLN : Calls Tryd.prog 14 #[.string ⟨#[102, 111, 117, 110, 100]⟩, .slice (some ⟨W0.heap.size, 0, none⟩) 6 6] (W0.alloc (.cells #[.int .i64 f.kind, .int .i64 f.what, .int .i64 f.err, .int .i64 f.at_, .int .i64 f.states, .int .i64 f.steps] 3)) fun e w' => e = .returned (strV (lineB foundW (fdL f))) ∧ Below (W0.alloc (.cells #[.int .i64 f.kind, .int .i64 f.what, .int .i64 f.err, .int .i64 f.at_, .int .i64 f.states, .int .i64 f.steps] 3)).heap.size (W0.alloc (.cells #[.int .i64 f.kind, .int .i64 f.what, .int .i64 f.err, .int .i64 f.at_, .int .i64 f.states, .int .i64 f.steps] 3)) w' :=
    rline_any foundW W0.heap.size 0 6 (fdL f) _ (ints6 W0 f.kind f.what f.err f.at_ f.states f.steps) HIN.out.1 (by decide) (by simp [fdL])
  unfold strV at hLN
  have HLN := Lib.hid hLN
  have hlen := lineB_len foundW (fdL f) HIN.out.1
  have hlen2 : (lineB foundW (fdL f)).length ≤ 200 := by simp only [foundW, fdL, List.length_cons, List.length_nil] at hlen ⊢; omega
  obtain ⟨hd, hhd⟩ : ∃ hd, lineB foundW (fdL f) = hd := ⟨_, rfl⟩
  rw [hhd] at HLN hlen2
  have HHD := Lib.hid hhd
  clear hLN hlen hhd
  have HBA : Hid (Below W0.heap.size W0 (W0.alloc (.cells #[.int .i64 f.kind, .int .i64 f.what, .int .i64 f.err, .int .i64 f.at_, .int .i64 f.states, .int .i64 f.steps] 3))) := Lib.hid ((Below.refl _ _).alloc (Nat.le_refl _) _)
  go_enter Tryd.func7, Tryd.ntmps7
  go_wp2_with fail
  refine HLN.out.mono ?_
  rintro e w4 ⟨rfl, hb4⟩
  have HB4 := Lib.hid (HBA.out.trans (hb4.mono HBA.out.size))
  clear hb4 HLN HBA c0 c1 c2 c3 c4 c5 c6 c7 hW0
  go_wp2_with fail
  go_loopw [4, 5] (fun s i wr => ∃ (k : Nat) (sl : List UInt8), i = .int .i64 k ∧ s = .string ⟨sl.toArray⟩ ∧ k ≤ f.trail.length ∧ Hid (sl = hd ++ bodyB f.cyc 0 (f.trail.take k)) ∧ Hid (Below W0.heap.size W0 wr)) (fun _ i _ => f.trail.length - (intOf i).toNat)
  case atStart => exact ⟨0, hd, rfl, rfl, by omega, Lib.hid (by simp [bodyB]), HB4⟩
  case round =>
    obtain ⟨k, sl, rfl, rfl, hk, HS, HB⟩ := hrel
    have hsl : sl.length ≤ 200 + 170 * 400000000 := by
      have h := bodyB_len f.cyc (f.trail.take k) 0 fun m hm => HIN.out.2 m (List.mem_of_mem_take hm)
      rw [HS.out, List.length_append]
      simp at h
      omega
    have HBW := Lib.hid (HB0.out.trans (HB.out.mono HB0.out.size))
    have hown : wr.heap[w.heap.size]? = some (.cells (fdCells f (.slice o f.trail.length cap)) 25 (0, 0)) := (HB.out.block _ hs0).trans HX0.out
    have HOWN := Lib.hid hown
    obtain ⟨_, _, _, _, e4, e5, _, _⟩ := fd_cells hown
    have hfb : w.heap.size < wr.heap.size := lt_of_block hown
    clear hown
    by_cases hlt : k < f.trail.length
    · obtain ⟨m, hm⟩ : ∃ m, f.trail[k] = m := ⟨_, rfl⟩
      have HTK := Lib.hid hm
      obtain ⟨g, off, rfl, hMv⟩ : ∃ g off, o = some ⟨g, off, none⟩ ∧ Mvs w g off f.trail := by
        rcases HM.out with h | h
        · omega
        · exact h
      have hmv := (hMv.below HBW.out).2 k hlt
      rw [hm] at hmv
      obtain ⟨z0, z1, z2, z3, z4, z5, z6⟩ := hmv
      have HMI : Hid (∀ n ∈ mvL m, inI n) := Lib.hid (HIN.out.2 m (by rw [← hm]; exact List.getElem_mem _))
      have hlti : (k : Int) < f.trail.length := by omega
      have hk0 : (0 : Int) ≤ k := by omega
      have HX : Hid ((wr.alloc (.cells #[.int .i64 m.a, .int .i64 m.b, .int .i64 m.c, .int .i64 m.d, .int .i64 m.e, .int .i64 m.f, .int .i64 m.g] 47)).heap[wr.heap.size]? = some (.cells (mvCells m) 47 (0, 0))) := Lib.hid (heap_alloc_new wr _)
      have HBx := Lib.hid ((Below.refl wr.heap.size wr).alloc (Nat.le_refl _) (.cells #[.int .i64 m.a, .int .i64 m.b, .int .i64 m.c, .int .i64 m.d, .int .i64 m.e, .int .i64 m.f, .int .i64 m.g] 47))
      obtain ⟨W5, hW5⟩ : ∃ W5, wr.alloc (.cells #[.int .i64 m.a, .int .i64 m.b, .int .i64 m.c, .int .i64 m.d, .int .i64 m.e, .int .i64 m.f, .int .i64 m.g] 47) = W5 := ⟨_, rfl⟩
      rw [hW5] at HX HBx
      have HW5 := Lib.hid hW5
      have hx5 : wr.heap.size < W5.heap.size := lt_of_block HX.out
      have hs5 : W5.heap.size = wr.heap.size + 1 := by rw [← hW5]; exact World.size_alloc _ _
      have hLM : Calls Tryd.prog 14 #[.string ⟨#[109, 111, 118, 101]⟩, .slice (some ⟨wr.heap.size + 1, 0, none⟩) 7 7] (W5.alloc (.cells #[.int .i64 m.a, .int .i64 m.b, .int .i64 m.c, .int .i64 m.d, .int .i64 m.e, .int .i64 m.f, .int .i64 m.g] 3)) fun e w' => e = .returned (strV (lineB moveW (mvL m))) ∧ Below (W5.alloc (.cells #[.int .i64 m.a, .int .i64 m.b, .int .i64 m.c, .int .i64 m.d, .int .i64 m.e, .int .i64 m.f, .int .i64 m.g] 3)).heap.size (W5.alloc (.cells #[.int .i64 m.a, .int .i64 m.b, .int .i64 m.c, .int .i64 m.d, .int .i64 m.e, .int .i64 m.f, .int .i64 m.g] 3)) w' := by
        have hi := ints7 W5 m.a m.b m.c m.d m.e m.f m.g
        rw [hs5] at hi
        exact rline_any moveW (wr.heap.size + 1) 0 7 (mvL m) _ hi HMI.out (by decide) (by simp [mvL])
      unfold strV at hLM
      obtain ⟨ln, hln⟩ : ∃ ln, lineB moveW (mvL m) = ln := ⟨_, rfl⟩
      have hlnl : ln.length ≤ 170 := by
        have h := lineB_len moveW (mvL m) HMI.out
        rw [hln] at h
        simp only [moveW, mvL, List.length_cons, List.length_nil] at h
        omega
      rw [hln] at hLM
      have HLM := Lib.hid hLM
      have HLL := Lib.hid hln
      have HBa := Lib.hid ((HB.out.trans (HBx.out.mono HB.out.size)).alloc (by have := HB.out.size; omega) (.cells #[.int .i64 m.a, .int .i64 m.b, .int .i64 m.c, .int .i64 m.d, .int .i64 m.e, .int .i64 m.f, .int .i64 m.g] 3))
      clear hm hMv hW5 hLM hln hs5
      by_cases hcy : (k : Int) = f.cyc
      · have hcy2 : ((k : Int) == f.cyc) = true := by simpa using hcy
        have HCY := Lib.hid hcy
        clear hcy
        go_wp2_with fail
        rw [HW5.out]
        refine HLM.out.mono ?_
        rintro e wa ⟨rfl, hba⟩
        have HBb := Lib.hid (HBa.out.trans (hba.mono HBa.out.size))
        clear hba HLM z0 z1 z2 z3 z4 z5 z6 e4 e5
        go_wp2_with fail
        go_roundw
        case rel => exact ⟨k + 1, sl ++ [99, 121, 99, 108, 101, 10] ++ ln, by go_num, by rw [← str_add, ← str_add], by omega, Lib.hid (by rw [HS.out, bodyB_take hlt HTK.out, mvB, if_pos HCY.out, HLL.out]; simp [lineB, wordsB, cycleW]), HBb⟩
        case measure => simp [intOf]; omega
      · have HCY := Lib.hid hcy
        clear hcy
        have hcy2 : ((k : Int) == f.cyc) = false := by simpa using HCY.out
        go_wp2_with fail
        rw [HW5.out]
        refine HLM.out.mono ?_
        rintro e wa ⟨rfl, hba⟩
        have HBb := Lib.hid (HBa.out.trans (hba.mono HBa.out.size))
        clear hba HLM z0 z1 z2 z3 z4 z5 z6 e4 e5
        go_wp2_with fail
        go_roundw
        case rel => exact ⟨k + 1, sl ++ ln, by go_num, by rw [← str_add], by omega, Lib.hid (by rw [HS.out, bodyB_take hlt HTK.out, mvB, if_neg HCY.out, HLL.out]; simp), HBb⟩
        case measure => simp [intOf]; omega
    · obtain rfl : k = f.trail.length := by omega
      go_wp2_with fail
      go_ret2
      refine ⟨?_, HBW.out⟩
      have h := HS.out
      rw [List.take_length] at h
      rw [h, printB, HHD.out]
      rfl
end Go.Proofs.YtifofhjfepkglaaDoor
