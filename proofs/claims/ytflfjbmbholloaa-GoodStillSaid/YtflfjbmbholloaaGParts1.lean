/- The first two parts: globals, channels. -/
import Derived.Test.YtflfjbmbholloaaGExprs
import Derived.StillTailTactics
namespace Go.Proofs.Ytflfjbmbholloaa
open Go.ChangeShapes Go.WideShapes Go.ChangeAt Go.RowKit
set_option linter.unusedVariables false
set_option linter.unusedSimpArgs false

theorem zip_get {α β : Type} {l : List α} {r : List β} {k : Nat} (h1 : k < l.length) (h2 : k < r.length) : ∃ h : k < (l.zip r).length, (l.zip r)[k] = (l[k], r[k]) := ⟨by rw [List.length_zip]; omega, List.getElem_zip⟩

set_option maxHeartbeats 1000000 in
set_option maxRecDepth 100000 in
theorem globalsC {B p : Nat} {h : MH} {m : ModelD} (w : World) (hk : Ck B w p h m) :
    Calls Try.prog 9 #[.pointer (some ⟨p, 0, none⟩)] w fun e w' => e = .returned (.tuple #[.int .i64 (globalsL m).1, .bool (globalsL m).2]) ∧ Below w.heap.size w w' := by
  obtain ⟨go, gc, io, ic, so, sc, co, cc, po, pc, eo, ec⟩ := h
  have HK := Lib.hid hk
  have c0 : w.cell? ⟨p, 0, none⟩ = some (.slice go m.globals.length gc) := hk.c0
  have c1 : w.cell? ⟨p, 1, none⟩ = some (.slice io m.init.length ic) := hk.c1
  have l1 := hk.md.globals.1
  have l2 := hk.md.init.1
  clear hk
  by_cases hbad : 128 < m.globals.length
  · have HV : Hid (globalsL m = (-1, false)) := Lib.hid (if_pos (.inl hbad))
    have hd1 : decide (128 < (m.globals.length : Int)) = true := by simp; omega
    go_enter Try.func9, Try.ntmps9
    go_wp2_with fail
    go_quiet (fail)
    go_wp2_with fail
    go_ret2
    exact ⟨retIB (by rw [HV.out]) (by rw [HV.out]), bdrew (Below.refl _ _) _⟩
  · have hd1 : decide (128 < (m.globals.length : Int)) = false := by simp; omega
    by_cases hne : m.init.length = m.globals.length
    · have HV : Hid (globalsL m = idxB (bad fitZ (m.globals.zip m.init))) := Lib.hid (if_neg (by omega))
      have hn1 : ((m.init.length : Int) != (m.globals.length : Int)) = false := by simp; omega
      have HNE := Lib.hid hne
      have i1 : (m.init.length : Int) ≤ m.globals.length := by omega
      have i2 : (m.globals.length : Int) ≤ m.init.length := by omega
      clear hbad hne
      go_enter Try.func9, Try.ntmps9
      go_wp2_with fail
      go_quiet (fail)
      have HKD := Lib.hid (HK.out.below (bdrew (Below.refl _ w) nq))
      have HBD : Hid (Below w.heap.size w (w.drewN nq)) := Lib.hid (bdrew (Below.refl _ w) nq)
      have d0 : (w.drewN nq).cell? ⟨p, 0, none⟩ = some (.slice go m.globals.length gc) := HKD.out.c0
      go_wp2_with fail
      clear c0 c1 d0 hd1 hn1
      go_loopw [34] (fun iv W => ∃ k : Nat, iv = .int .i64 k ∧ k ≤ m.globals.length ∧ Hid (∀ j (hj : j < (m.globals.zip m.init).length), j < k → fitZ (m.globals.zip m.init)[j] = true) ∧ Hid (Below w.heap.size w W)) (fun iv _ => m.globals.length - (intOf iv).toNat)
      case atStart => exact ⟨0, rfl, by omega, Lib.hid fun j _ h => by omega, HBD⟩
      case round =>
        clear HKD HBD
        obtain ⟨k, rfl, hk, HJ, HBW⟩ := hrel
        have hk0 : (0 : Int) ≤ k := by omega
        by_cases hlt : k < m.globals.length
        · have hlti : (k : Int) < m.globals.length := by omega
          have hlt2 : k < m.init.length := by have := HNE.out; omega
          have hlti2 : (k : Int) < m.init.length := by omega
          have HKr := Lib.hid (HK.out.below HBW.out)
          obtain ⟨g, off, hog, hgB, t0, t1⟩ := HKr.out.md.globals.cell hlt
          obtain ⟨g2, off2, hog2, hgB2, e2⟩ := HKr.out.md.init.cell hlt2
          simp only at hog hog2
          subst hog hog2
          obtain ⟨hz, hzip⟩ := zip_get hlt hlt2
          obtain ⟨⟨b, sg⟩, hbs⟩ : ∃ t, m.globals[k] = t := ⟨_, rfl⟩
          obtain ⟨v, hv⟩ : ∃ v, m.init[k] = v := ⟨_, rfl⟩
          rw [hbs] at t0 t1 hzip
          rw [hv] at hzip
          have HBAD : Hid (fitB b sg v = false → globalsL m = ((k : Int), false)) := Lib.hid fun h => by
            rw [HV.out, bad_some hz (by rw [hzip]; exact h) (fun j hj hjk => HJ.out j hj hjk)]
            rfl
          have HGO : Hid (fitB b sg v = true → ∀ j (hj : j < (m.globals.zip m.init).length), j < k + 1 → fitZ (m.globals.zip m.init)[j] = true) := Lib.hid fun h j hj hjk => by
            by_cases e : j = k
            · subst e; rw [hzip]; exact h
            · exact HJ.out j hj (by omega)
          have e3 : wr.cell? ⟨g2, off2 + k, none⟩ = some (.int .i64 v) := by
            have := e2
            unfold intAt at this
            rw [Nat.mul_one, hv] at this
            exact this
          have HC : Hid (∀ o, (wr.alloc o).cell? ⟨g2, off2 + k, none⟩ = some (.int .i64 v) ∧ (wr.alloc o).cell? ⟨p, 1, none⟩ = some (.slice (some ⟨g2, off2, none⟩) m.init.length ic)) := Lib.hid fun o => ⟨Lib.cell?_alloc_some _ e3, Lib.cell?_alloc_some _ HKr.out.c1⟩
          simp only at t0 t1
          have hc1 := (HC.out (Obj.cells #[.int .i64 b, .bool sg] 41)).1
          have hc2 := (HC.out (Obj.cells #[.int .i64 b, .bool sg] 41)).2
          have HX := Lib.hid (Bx.new wr #[.int .i64 b, .bool sg] 41)
          clear hbs hv e2 hz hzip
          go_wp2_with fail
          generalize wr.alloc (Obj.cells #[.int .i64 b, .bool sg] 41) = W at hc1 hc2 HX ⊢
          have x1 : W.cell? ⟨wr.heap.size, 0, none⟩ = some (.int .i64 b) := HX.out.cell rfl
          have x2 : W.cell? ⟨wr.heap.size, 1, none⟩ = some (.bool sg) := HX.out.cell rfl
          go_still_tail 9, (by kernel_rfl)
          change wpList _ _ _ _ _ W.drew
          have HWD : Hid (Below w.heap.size w W.drew) := Lib.hid (HBW.out.trans ((HX.out.bel.drew).mono HBW.out.size))
          generalize W.drew = W2 at HWD ⊢
          clear x1 x2 hc1 hc2 t0 t1 e3
          go_wp2_with fail
          refine (fitsC b sg v W2).mono ?_
          rintro e W3 ⟨rfl, hb3⟩
          have HW3 := Lib.hid (HWD.out.trans (hb3.mono HWD.out.size))
          clear hb3
          obtain ⟨u, hu⟩ : ∃ u, fitB b sg v = u := ⟨_, rfl⟩
          rw [hu]
          have HU := Lib.hid hu
          clear hu
          cases u
          · have HZ := Lib.hid (HBAD.out HU.out)
            go_wp2_with fail
            go_ret2
            exact ⟨retIB (by rw [HZ.out]) (by rw [HZ.out]), HW3.out⟩
          · have HZ := Lib.hid (HGO.out HU.out)
            go_wp2_with fail
            go_roundw
            case rel => exact ⟨k + 1, by go_num, by omega, HZ, HW3⟩
            case measure => simp [intOf]; omega
        · have hlti : ¬ (k : Int) < m.globals.length := by omega
          have HZ : Hid (globalsL m = (0, true)) := Lib.hid (by rw [HV.out, bad_none fun j hj => HJ.out j hj (by rw [List.length_zip] at hj; omega)]; rfl)
          go_wp2_with fail
          go_ret2
          exact ⟨retIB (by rw [HZ.out]) (by rw [HZ.out]), HBW.out⟩
    · have HV : Hid (globalsL m = (-1, false)) := Lib.hid (if_pos (.inr hne))
      have hn1 : ((m.init.length : Int) != (m.globals.length : Int)) = true := by rw [bne_iff_ne]; omega
      clear hbad hne
      go_enter Try.func9, Try.ntmps9
      go_wp2_with fail
      go_quiet (fail)
      go_wp2_with fail
      go_ret2
      exact ⟨retIB (by rw [HV.out]) (by rw [HV.out]), bdrew (Below.refl _ _) _⟩
end Go.Proofs.Ytflfjbmbholloaa
