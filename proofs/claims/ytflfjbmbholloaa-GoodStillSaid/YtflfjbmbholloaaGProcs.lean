/- The fourth part: all proctypes' tables. -/
import Derived.Test.YtflfjbmbholloaaGPlaces
namespace Go.Proofs.Ytflfjbmbholloaa
open Go.ChangeShapes Go.WideShapes Go.ChangeAt Go.RowKit
set_option linter.unusedVariables false
set_option linter.unusedSimpArgs false

set_option maxHeartbeats 4000000 in
set_option maxRecDepth 100000 in
theorem procsC {B k : Nat} {h : MH} {m : ModelD} (w : World) (hk : Ck B w k h m) :
    Calls Try.prog 12 #[.pointer (some ⟨k, 0, none⟩)] w fun e w' => e = .returned (.tuple #[.int .i64 (procsL m).1, .bool (procsL m).2]) ∧ Below w.heap.size w w' := by
  obtain ⟨go, gc, io, ic, so, sc, co, cc, po, pc, eo, ec⟩ := h
  have HK := Lib.hid hk
  have c4 : w.cell? ⟨k, 4, none⟩ = some (.slice po m.procs.length pc) := hk.c4
  have l1 := hk.md.procs.1
  have hB : B ≤ w.heap.size := by have := hk.le; have := hk.lt; omega
  have HV : Hid (procsL m = idxB (bad (procB m) m.procs.zipIdx)) := Lib.hid rfl
  clear hk
  go_enter Try.func12, Try.ntmps12
  go_wp2_with fail
  clear c4
  go_loopw [12] (fun iv W => ∃ i : Nat, iv = .int .i64 i ∧ i ≤ m.procs.length ∧ Hid (∀ j (hj : j < m.procs.zipIdx.length), j < i → procB m m.procs.zipIdx[j] = true) ∧ Hid (Below w.heap.size w W)) (fun iv _ => m.procs.length - (intOf iv).toNat)
  case atStart => exact ⟨0, rfl, by omega, Lib.hid fun j _ h => by omega, Lib.hid (Below.refl _ _)⟩
  case round =>
    obtain ⟨i, rfl, hi, HJ, HB⟩ := hrel
    have hi0 : (0 : Int) ≤ i := by omega
    by_cases hlt : i < m.procs.length
    · have hlti : (i : Int) < m.procs.length := by omega
      obtain ⟨p, hp⟩ : ∃ p, m.procs[i]? = some p := ⟨_, List.getElem?_eq_getElem hlt⟩
      obtain ⟨hz, hzip⟩ := zipIdx_get hlt
      have hzl : m.procs.zipIdx[i] = (p, i) := by rw [hzip]; obtain ⟨_, h⟩ := List.getElem?_eq_some_iff.1 hp; rw [h]
      have HBAD : Hid (procB m (p, i) = false → procsL m = ((i : Int), false)) := Lib.hid fun h => by
        rw [HV.out, bad_some hz (by rw [hzl]; exact h) (fun j hj hjk => HJ.out j hj hjk)]
        rfl
      have HGO : Hid (procB m (p, i) = true → ∀ j (hj : j < m.procs.zipIdx.length), j < i + 1 → procB m m.procs.zipIdx[j] = true) := Lib.hid fun h j hj hjk => by
        by_cases e : j = i
        · subst e; rw [hzl]; exact h
        · exact HJ.out j hj (by omega)
      have HKr := Lib.hid (HK.out.below HB.out)
      obtain ⟨g, off, hog, hgB, hpa⟩ := HKr.out.md.procs.get hp
      simp only at hog
      subst hog
      obtain ⟨fo, fc, io', ic', lo, lc, ⟨d0, d1, d2, d3, d4, d5, d6, d7, d8, d9⟩, hf, hii, hl⟩ := hpa.pc
      have HR := Lib.hid (And.intro hf (And.intro hii hl))
      have HX := Lib.hid (Bx.new wr #[.string p.name, .int .i64 p.params, .slice fo p.frame.length fc, .slice io' p.init.length ic', .slice lo p.locs.length lc, .int .i64 p.start, .int .i64 p.final, .int .i64 p.active, .int .i64 p.prio, .int .i64 p.provided] 38)
      have hBr : B ≤ wr.heap.size := by have := HB.out.size; omega
      clear hpa hp hz hzip hzl hf hii hl
      go_wp2_with fail
      clear d0 d1 d2 d3 d4 d5 d6 d7 d8 d9
      generalize wr.alloc (Obj.cells #[.string p.name, .int .i64 p.params, .slice fo p.frame.length fc, .slice io' p.init.length ic', .slice lo p.locs.length lc, .int .i64 p.start, .int .i64 p.final, .int .i64 p.active, .int .i64 p.prio, .int .i64 p.provided] 38) = W1 at HX ⊢
      have HRW : Hid (∀ W', Below wr.heap.size wr W' → Row B fo 2 (tyAt W') p.frame ∧ Row B io' 1 (intAt W') p.init ∧ Row B lo 7 (locAt B W') p.locs) := Lib.hid fun W' hb =>
        ⟨HR.out.1.mono fun _ _ _ hg => tyAt.below (hb.mono hBr) hg, HR.out.2.1.mono fun _ _ _ hg => intAt.below (hb.mono hBr) hg, HR.out.2.2.mono fun _ _ _ hg => locAt.below (hb.mono hBr) hg⟩
      refine (frameC fo io' lo fc ic' lc p W1 (HKr.out.bx HX.out) (HRW.out _ HX.out.bel).1 (HRW.out _ HX.out.bel).2.1).mono ?_
      rintro e W2 ⟨rfl, hb2⟩
      have HX2 := Lib.hid (HX.out.below hb2)
      clear hb2
      obtain ⟨u1, hu1⟩ : ∃ u, frameB m p = u := ⟨_, rfl⟩
      rw [hu1]
      have HU1 := Lib.hid hu1
      clear hu1
      cases u1
      · have HZ := Lib.hid (HBAD.out (by unfold procB; rw [HU1.out]; rfl))
        go_wp2_with fail
        go_ret2
        exact ⟨retIB (by rw [HZ.out]) (by rw [HZ.out]), HB.out.trans (HX2.out.bel.mono HB.out.size)⟩
      · have x0 : W2.cell? ⟨wr.heap.size, 0, none⟩ = some (.string p.name) := HX2.out.cell rfl
        have x1 : W2.cell? ⟨wr.heap.size, 1, none⟩ = some (.int .i64 p.params) := HX2.out.cell rfl
        have x2 : W2.cell? ⟨wr.heap.size, 2, none⟩ = some (.slice fo p.frame.length fc) := HX2.out.cell rfl
        have x3 : W2.cell? ⟨wr.heap.size, 3, none⟩ = some (.slice io' p.init.length ic') := HX2.out.cell rfl
        have x4 : W2.cell? ⟨wr.heap.size, 4, none⟩ = some (.slice lo p.locs.length lc) := HX2.out.cell rfl
        have x5 : W2.cell? ⟨wr.heap.size, 5, none⟩ = some (.int .i64 p.start) := HX2.out.cell rfl
        have x6 : W2.cell? ⟨wr.heap.size, 6, none⟩ = some (.int .i64 p.final) := HX2.out.cell rfl
        have x7 : W2.cell? ⟨wr.heap.size, 7, none⟩ = some (.int .i64 p.active) := HX2.out.cell rfl
        have x8 : W2.cell? ⟨wr.heap.size, 8, none⟩ = some (.int .i64 p.prio) := HX2.out.cell rfl
        have x9 : W2.cell? ⟨wr.heap.size, 9, none⟩ = some (.int .i64 p.provided) := HX2.out.cell rfl
        go_wp2_with fail
        clear x0 x1 x2 x3 x4 x5 x6 x7 x8 x9
        refine (placesC _ fo io' lo fc ic' lc p W2 (by have := HX2.out.bel.size; omega) (HRW.out _ HX2.out.bel).2.2).mono ?_
        rintro e W3 ⟨rfl, hb3⟩
        have HX3 := Lib.hid (HX2.out.below hb3)
        clear hb3
        obtain ⟨u2, hu2⟩ : ∃ u, placesB p = u := ⟨_, rfl⟩
        rw [hu2]
        have HU2 := Lib.hid hu2
        clear hu2
        cases u2
        · have HZ := Lib.hid (HBAD.out (by unfold procB; rw [HU1.out, HU2.out]; rfl))
          go_wp2_with fail
          go_ret2
          exact ⟨retIB (by rw [HZ.out]) (by rw [HZ.out]), HB.out.trans (HX3.out.bel.mono HB.out.size)⟩
        · have c5 : W3.cell? ⟨k, 5, none⟩ = some (.int .i64 m.claim) := (HKr.out.bx HX3.out).c5
          have HBE := Lib.hid (HB.out.trans (HX3.out.bel.mono HB.out.size))
          by_cases hc : (i : Int) = m.claim
          · have hcb : ((i : Int) == m.claim) = true := by rw [beq_iff_eq]; exact hc
            have HC := Lib.hid hc
            have x0 : W3.cell? ⟨wr.heap.size, 0, none⟩ = some (.string p.name) := HX3.out.cell rfl
            have x1 : W3.cell? ⟨wr.heap.size, 1, none⟩ = some (.int .i64 p.params) := HX3.out.cell rfl
            have x2 : W3.cell? ⟨wr.heap.size, 2, none⟩ = some (.slice fo p.frame.length fc) := HX3.out.cell rfl
            have x3 : W3.cell? ⟨wr.heap.size, 3, none⟩ = some (.slice io' p.init.length ic') := HX3.out.cell rfl
            have x4 : W3.cell? ⟨wr.heap.size, 4, none⟩ = some (.slice lo p.locs.length lc) := HX3.out.cell rfl
            have x5 : W3.cell? ⟨wr.heap.size, 5, none⟩ = some (.int .i64 p.start) := HX3.out.cell rfl
            have x6 : W3.cell? ⟨wr.heap.size, 6, none⟩ = some (.int .i64 p.final) := HX3.out.cell rfl
            have x7 : W3.cell? ⟨wr.heap.size, 7, none⟩ = some (.int .i64 p.active) := HX3.out.cell rfl
            have x8 : W3.cell? ⟨wr.heap.size, 8, none⟩ = some (.int .i64 p.prio) := HX3.out.cell rfl
            have x9 : W3.cell? ⟨wr.heap.size, 9, none⟩ = some (.int .i64 p.provided) := HX3.out.cell rfl
            clear hc
            go_wp2_with fail
            clear x0 x1 x2 x3 x4 x5 x6 x7 x8 x9 c5
            refine (looksOnC fo io' lo fc ic' lc p W3 (by have := HX3.out.bel.size; omega) (HRW.out _ HX3.out.bel).2.2).mono ?_
            rintro e W4 ⟨rfl, hb4⟩
            have HBE4 := Lib.hid (HBE.out.trans (hb4.mono HBE.out.size))
            clear hb4
            obtain ⟨u3, hu3⟩ : ∃ u, looksOnB p = u := ⟨_, rfl⟩
            rw [hu3]
            have HU3 := Lib.hid hu3
            clear hu3
            cases u3
            · have HZ := Lib.hid (HBAD.out (by unfold procB; rw [HU1.out, HU2.out, HU3.out, decide_eq_true HC.out]; rfl))
              go_wp2_with fail
              go_ret2
              exact ⟨retIB (by rw [HZ.out]) (by rw [HZ.out]), HBE4.out⟩
            · have HZ := Lib.hid (HGO.out (by unfold procB; rw [HU1.out, HU2.out, HU3.out]; simp))
              go_wp2_with fail
              go_roundw
              case rel => exact ⟨i + 1, by go_num, by omega, HZ, HBE4⟩
              case measure => simp [intOf]; omega
          · have hcb : ((i : Int) == m.claim) = false := by rw [beq_eq_false_iff_ne]; exact hc
            have HZ := Lib.hid (HGO.out (by unfold procB; rw [HU1.out, HU2.out, decide_eq_false hc]; simp))
            clear hc
            go_wp2_with fail
            go_roundw
            case rel => exact ⟨i + 1, by go_num, by omega, HZ, HBE⟩
            case measure => simp [intOf]; omega
    · have hlti : ¬ (i : Int) < m.procs.length := by omega
      have HZ : Hid (procsL m = (0, true)) := Lib.hid (by rw [HV.out, bad_none fun j hj => HJ.out j hj (by have h9 : j < m.procs.zipIdx.length := hj; rw [List.length_zipIdx] at h9; omega)]; rfl)
      go_wp2_with fail
      go_ret2
      exact ⟨retIB (by rw [HZ.out]) (by rw [HZ.out]), HB.out⟩
end Go.Proofs.Ytflfjbmbholloaa
