/- The second part: channels. -/
import Derived.Test.YtihkkjflfdbkkaaGreatDoorM12
namespace Go.Proofs.YtihkkjflfdbkkaaGreatDoor
open Go.ChangeShapes Go.WideShapes Go.ChangeAt Go.RowKit
set_option linter.unusedVariables false
set_option linter.unusedSimpArgs false

set_option maxHeartbeats 2000000 in
set_option maxRecDepth 100000 in
theorem channelsC {B p : Nat} {h : MH} {m : ModelD} (w : World) (hk : Ck B w p h m) :
    Calls Tryz.prog 37 #[.pointer (some ⟨p, 0, none⟩)] w fun e w' => e = .returned (.tuple #[.int .i64 (channelsL m).1, .bool (channelsL m).2]) ∧ Below w.heap.size w w' := by
  obtain ⟨go, gc, io, ic, so, sc, co, cc, po, pc, eo, ec⟩ := h
  have HK := Lib.hid hk
  have c2 : w.cell? ⟨p, 2, none⟩ = some (.slice so m.shapes.length sc) := hk.c2
  have c3 : w.cell? ⟨p, 3, none⟩ = some (.slice co m.chans.length cc) := hk.c3
  have l1 := hk.md.shapes.1
  have l2 := hk.md.chans.1
  clear hk
  by_cases hbad : 32 < m.shapes.length ∨ 32 < m.chans.length
  · have HV : Hid (channelsL m = (-1, false)) := Lib.hid (if_pos hbad)
    go_enter Tryz.func37, Tryz.ntmps37
    go_wp2
    all_goals first | (exfalso; omega) | (go_ret2; exact ⟨retIB (by rw [HV.out]) (by rw [HV.out]), Below.refl _ _⟩)
  · have HV : Hid (channelsL m = match bad shapeB m.shapes with | some i => ((i : Int), false) | none => idxB (bad (chanB m) m.chans)) := Lib.hid (if_neg hbad)
    have g1 : ¬ 32 < m.shapes.length := fun h => hbad (.inl h)
    have g2 : ¬ 32 < m.chans.length := fun h => hbad (.inr h)
    clear hbad
    go_enter Tryz.func37, Tryz.ntmps37
    go_wp2_with fail
    clear c2 c3
    go_loopw [32] (fun iv W => ∃ k : Nat, iv = .int .i64 k ∧ k ≤ m.shapes.length ∧ Hid (∀ j (hj : j < m.shapes.length), j < k → shapeB m.shapes[j] = true) ∧ Hid (Below w.heap.size w W)) (fun iv _ => m.shapes.length - (intOf iv).toNat)
    case atStart => exact ⟨0, rfl, by omega, Lib.hid fun j _ h => by omega, Lib.hid (Below.refl _ _)⟩
    case round =>
      obtain ⟨k, rfl, hk, HJ, HBW⟩ := hrel
      have hk0 : (0 : Int) ≤ k := by omega
      by_cases hlt : k < m.shapes.length
      · have hlti : (k : Int) < m.shapes.length := by omega
        have HKr := Lib.hid (HK.out.below HBW.out)
        obtain ⟨g, off, hog, hgB, t0, fo, fc, t1, hF⟩ := HKr.out.md.shapes.cell hlt
        simp only at hog
        subst hog
        have HBAD : Hid (shapeB m.shapes[k] = false → channelsL m = ((k : Int), false)) := Lib.hid fun h => by
          rw [HV.out, bad_some hlt h (fun j hj hjk => HJ.out j hj hjk)]
        have HGO : Hid (shapeB m.shapes[k] = true → ∀ j (hj : j < m.shapes.length), j < k + 1 → shapeB m.shapes[j] = true) := Lib.hid fun h j hj hjk => by
          by_cases e : j = k
          · subst e; exact h
          · exact HJ.out j hj (by omega)
        obtain ⟨⟨room, F⟩, hs⟩ : ∃ s, m.shapes[k] = s := ⟨_, rfl⟩
        rw [hs] at t0 t1 hF HBAD HGO
        simp only at t0 t1 hF
        have hFl := hF.1
        have HF := Lib.hid hF
        clear hs hF
        have HX := Lib.hid (Bx.new wr #[.int .i64 room, .slice fo F.length fc] 82)
        by_cases hh : room < 0 ∨ 16 < room ∨ F.length < 1 ∨ 8 < F.length
        · have HZ := Lib.hid (HBAD.out (by unfold shapeB; rw [decide_eq_true (by exact hh)]; rfl))
          go_wp2
          all_goals first | (exfalso; omega) | (go_ret2; exact ⟨retIB (by rw [HZ.out]) (by rw [HZ.out]), HBW.out.trans (HX.out.bel.mono HBW.out.size)⟩)
        · have HSH : Hid (shapeB ⟨room, F⟩ = F.all tyP) := Lib.hid (by unfold shapeB; rw [decide_eq_false (by exact hh)]; simp)
          have a1 : ¬ room < 0 := fun h => hh (.inl h)
          have a2 : ¬ 16 < room := fun h => hh (.inr (.inl h))
          have a3 : ¬ F.length < 1 := fun h => hh (.inr (.inr (.inl h)))
          have a4 : ¬ 8 < F.length := fun h => hh (.inr (.inr (.inr h)))
          clear hh
          go_wp2_with fail
          have HB1 : Hid (Below wr.heap.size wr (wr.alloc (Obj.cells #[.int .i64 room, .slice fo F.length fc] 82))) := Lib.hid (ball _)
          generalize wr.alloc (Obj.cells #[.int .i64 room, .slice fo F.length fc] 82) = W1 at HX HB1 ⊢
          clear t0 t1
          go_loopw [61] (fun iv W => ∃ i : Nat, iv = .int .i64 i ∧ i ≤ F.length ∧ Hid (∀ j (hj : j < F.length), j < i → tyP F[j] = true) ∧ Hid (Below wr.heap.size wr W)) (fun iv _ => F.length - (intOf iv).toNat)
          case atStart => exact ⟨0, rfl, by omega, Lib.hid fun j _ h => by omega, HB1⟩
          case round =>
            rename_i wr0
            obtain ⟨i, rfl, hi, HI, HBI⟩ := hrel
            have hi0 : (0 : Int) ≤ i := by omega
            by_cases hli : i < F.length
            · have hlii : (i : Int) < F.length := by omega
              have HFr := Lib.hid (HF.out.mono fun _ _ _ hg => tyAt.below (HBI.out.mono (by have := HKr.out.le; have := HKr.out.lt; omega)) hg)
              obtain ⟨gf, offf, hof, hgf, u0, u1⟩ := HFr.out.cell hli
              subst hof
              obtain ⟨⟨b, sg⟩, hbs⟩ : ∃ t, F[i] = t := ⟨_, rfl⟩
              rw [hbs] at u0 u1
              simp only at u0 u1
              have HBS := Lib.hid hbs
              have HX2 := Lib.hid (Bx.new wr #[.int .i64 b, .bool sg] 113)
              clear hbs
              go_wp2_with fail
              refine (typeC b sg _).mono ?_
              rintro e W3 ⟨rfl, hb3⟩
              have HB3 := Lib.hid (HBI.out.trans ((HX2.out.bel.trans (hb3.mono HX2.out.bel.size)).mono HBI.out.size))
              clear hb3 HX2
              obtain ⟨u, hu⟩ : ∃ u, tyB b sg = u := ⟨_, rfl⟩
              rw [hu]
              have HU := Lib.hid hu
              clear hu
              cases u
              · have HZ := Lib.hid (HBAD.out (by rw [HSH.out]; exact all_bad hli (by rw [HBS.out]; exact HU.out)))
                go_wp2_with fail
                go_ret2
                exact ⟨retIB (by rw [HZ.out]) (by rw [HZ.out]), HBW.out.trans (HB3.out.mono HBW.out.size)⟩
              · go_wp2_with fail
                go_roundw
                case rel => exact ⟨i + 1, by go_num, by omega, Lib.hid fun j hj hji => by
                  by_cases e : j = i
                  · subst e; rw [HBS.out]; exact HU.out
                  · exact HI.out j hj (by omega), HB3⟩
                case measure => simp [intOf]; omega
            · have hlii : ¬ (i : Int) < F.length := by omega
              have HZ := Lib.hid (HGO.out (by rw [HSH.out]; exact all_of fun j hj => HI.out j hj (by omega)))
              have HBE := Lib.hid (HBW.out.trans (HBI.out.mono HBW.out.size))
              go_wp2_with fail
              go_roundw
              case rel => exact ⟨k + 1, by go_num, by omega, HZ, HBE⟩
              case measure => simp [intOf]; omega
      · have hlti : ¬ (k : Int) < m.shapes.length := by omega
        have HV2 : Hid (channelsL m = idxB (bad (chanB m) m.chans)) := Lib.hid (by rw [HV.out, bad_none fun j hj => HJ.out j hj (by omega)])
        have HKr := Lib.hid (HK.out.below HBW.out)
        have d3 : wr.cell? ⟨p, 3, none⟩ = some (.slice co m.chans.length cc) := HKr.out.c3
        clear HV HJ
        go_wp2_with fail
        clear d3
        go_loop [77] (fun iv => ∃ k : Nat, iv = .int .i64 k ∧ k ≤ m.chans.length ∧ Hid (∀ j (hj : j < m.chans.length), j < k → chanB m m.chans[j] = true)) (fun iv => m.chans.length - (intOf iv).toNat)
        case atStart => exact ⟨0, rfl, by omega, Lib.hid fun j _ h => by omega⟩
        case round =>
          obtain ⟨i, rfl, hi, HI⟩ := hrel
          have hi0 : (0 : Int) ≤ i := by omega
          by_cases hli : i < m.chans.length
          · have hlii : (i : Int) < m.chans.length := by omega
            obtain ⟨g, off, hog, hgB, t0⟩ := HKr.out.md.chans.cell hli
            simp only at hog
            subst hog
            obtain ⟨q, hq⟩ : ∃ q, m.chans[i] = q := ⟨_, rfl⟩
            have e0 : wr.cell? ⟨g, off + i, none⟩ = some (.int .i64 q) := by
              have := t0
              unfold intAt at this
              rw [Nat.mul_one, hq] at this
              exact this
            have d2 : wr.cell? ⟨p, 2, none⟩ = some (.slice so m.shapes.length sc) := HKr.out.c2
            have HBAD : Hid (¬ (0 ≤ q ∧ q < m.shapes.length) → channelsL m = ((i : Int), false)) := Lib.hid fun h => by
              rw [HV2.out, bad_some hli (by rw [hq]; exact decide_eq_false h) (fun j hj hjk => HI.out j hj hjk)]
              rfl
            have HGO : Hid (0 ≤ q ∧ q < m.shapes.length → ∀ j (hj : j < m.chans.length), j < i + 1 → chanB m m.chans[j] = true) := Lib.hid fun h j hj hjk => by
              by_cases e : j = i
              · subst e; rw [hq]; exact decide_eq_true h
              · exact HI.out j hj (by omega)
            clear t0 hq
            by_cases hh : 0 ≤ q ∧ q < m.shapes.length
            · have HZ := Lib.hid (HGO.out hh)
              obtain ⟨h1, h2⟩ := hh
              go_wp2_with fail
              go_round
              case rel => exact ⟨i + 1, by go_num, by omega, HZ⟩
              case measure => simp [intOf]; omega
            · have HZ := Lib.hid (HBAD.out hh)
              go_wp2
              all_goals first | (exfalso; omega) | (go_ret2; exact ⟨retIB (by rw [HZ.out]) (by rw [HZ.out]), HBW.out⟩)
          · have hlii : ¬ (i : Int) < m.chans.length := by omega
            have HZ : Hid (channelsL m = (0, true)) := Lib.hid (by rw [HV2.out, bad_none fun j hj => HI.out j hj (by omega)]; rfl)
            go_wp2_with fail
            go_ret2
            exact ⟨retIB (by rw [HZ.out]) (by rw [HZ.out]), HBW.out⟩
end Go.Proofs.YtihkkjflfdbkkaaGreatDoor
