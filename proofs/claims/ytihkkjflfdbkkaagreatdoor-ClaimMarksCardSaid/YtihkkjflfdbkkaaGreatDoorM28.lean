/- The document's tables of types and numbers, and shapes. -/
import Derived.Test.YtihkkjflfdbkkaaGreatDoorM05
import Derived.StillTailTactics
namespace Go.Proofs.YtihkkjflfdbkkaaGreatDoor
open Go.ChangeShapes Go.WideShapes Go.ChangeAt Go.RowKit
set_option linter.unusedVariables false
set_option linter.unusedSimpArgs false

theorem zip_getH {α β : Type} {a : List α} {b : List β} {k : Nat} (h1 : k < a.length) (h2 : k < b.length) : ∃ h : k < (a.zip b).length, (a.zip b)[k] = (a[k], b[k]) := ⟨by rw [List.length_zip]; omega, List.getElem_zip⟩
def typedF (t : List (Int × Bool)) (v : List Int) : Int := match bad fitZ (t.zip v) with
  | some i => (i : Int)
  | none => -1
set_option maxRecDepth 100000 in
set_option maxHeartbeats 1000000 in
theorem typedH {B : Nat} (t : List (Int × Bool)) (v : List Int) (o1 o2 : Option Addr) (c1 c2 : Nat) (w : World) (hB : B ≤ w.heap.size) (h1 : Row B o1 2 (tyAt w) t) (h2 : Row B o2 1 (intAt w) v) (hl : v.length = t.length) :
    Calls Tryz.prog 93 #[.slice o1 t.length c1, .slice o2 v.length c2] w fun e w' => e = .returned (.int .i64 (typedF t v)) ∧ Below w.heap.size w w' := by
  have H1 := Lib.hid h1
  have H2 := Lib.hid h2
  have HL := Lib.hid hl
  have HBB := Lib.hid hB
  have n1 := h1.1
  have n2 := h2.1
  have HB0 : Hid (Below w.heap.size w w) := Lib.hid (Below.refl _ _)
  clear h1 h2 hl hB
  go_enter Tryz.func93, Tryz.ntmps93
  go_wp2_with fail
  go_loopw [5] (fun i wr => ∃ k : Nat, i = .int .i64 k ∧ k ≤ t.length ∧ Hid (∀ j (hj : j < (t.zip v).length), j < k → fitZ (t.zip v)[j] = true) ∧ Hid (Below w.heap.size w wr)) (fun i _ => t.length - (intOf i).toNat)
  case atStart => exact ⟨0, rfl, by omega, Lib.hid fun j _ h => by omega, HB0⟩
  case round =>
    clear HB0
    obtain ⟨k, rfl, hk, HJ, HB⟩ := hrel
    have hk0 : (0 : Int) ≤ k := by omega
    by_cases hlt : k < t.length
    · have hlti : (k : Int) < t.length := by omega
      have hlt2 : k < v.length := by have := HL.out; omega
      have hlti2 : (k : Int) < v.length := by omega
      obtain ⟨g, off, hog, hg, t0, t1⟩ := (H1.out.mono fun _ _ _ hg => tyAt.below (HB.out.mono HBB.out) hg).cell hlt
      obtain ⟨g2, off2, hog2, hg2, e2⟩ := (H2.out.mono fun _ _ _ hg => intAt.below (HB.out.mono HBB.out) hg).cell hlt2
      subst hog hog2
      obtain ⟨hz, hzip⟩ := zip_getH hlt hlt2
      obtain ⟨⟨b, sg⟩, hbs⟩ : ∃ x, t[k] = x := ⟨_, rfl⟩
      obtain ⟨x, hx⟩ : ∃ x, v[k] = x := ⟨_, rfl⟩
      rw [hbs] at t0 t1 hzip
      rw [hx] at hzip
      have HBAD : Hid (fitB b sg x = false → typedF t v = (k : Int)) := Lib.hid fun h => by
        unfold typedF
        rw [bad_some hz (by rw [hzip]; exact h) (fun j hj hjk => HJ.out j hj hjk)]
      have HGO : Hid (fitB b sg x = true → ∀ j (hj : j < (t.zip v).length), j < k + 1 → fitZ (t.zip v)[j] = true) := Lib.hid fun h j hj hjk => by
        by_cases e : j = k
        · subst e; rw [hzip]; exact h
        · exact HJ.out j hj (by omega)
      have e3 : wr.cell? ⟨g2, off2 + k, none⟩ = some (.int .i64 x) := by
        have := e2
        unfold intAt at this
        rw [Nat.mul_one, hx] at this
        exact this
      simp only at t0 t1
      clear hbs hx e2 hz hzip hg hg2
      go_wp2_with fail
      go_still_tail 8, (by kernel_rfl)
      change wpList _ _ _ _ _ wr.drew
      have HWD : Hid (Below w.heap.size w wr.drew) := Lib.hid HB.out.drew
      generalize wr.drew = W2 at HWD ⊢
      clear t0 t1 e3
      go_wp2_with fail
      refine (fitsH b sg x W2).mono ?_
      rintro e W3 ⟨rfl, hb3⟩
      have HW3 := Lib.hid (HWD.out.trans (hb3.mono HWD.out.size))
      clear hb3
      obtain ⟨u, hu⟩ : ∃ u, fitB b sg x = u := ⟨_, rfl⟩
      rw [hu]
      have HU := Lib.hid hu
      clear hu
      cases u
      · have HZ := Lib.hid (HBAD.out HU.out)
        go_wp2_with fail
        go_ret
        exact ⟨retI HZ.out.symm, HW3.out⟩
      · have HZ := Lib.hid (HGO.out HU.out)
        go_wp2_with fail
        go_roundw
        case rel => exact ⟨k + 1, by go_num, by omega, HZ, HW3⟩
        case measure => simp [intOf]; omega
    · have hlti : ¬ (k : Int) < t.length := by omega
      have HZ : Hid (typedF t v = -1) := Lib.hid (by unfold typedF; rw [bad_none fun j hj => HJ.out j hj (by rw [List.length_zip] at hj; omega)])
      go_wp2_with fail
      go_ret
      exact ⟨retI HZ.out.symm, HB.out⟩
theorem typed_neg {t : List (Int × Bool)} {v : List Int} (h : typedF t v < 0) : (t.zip v).all fitZ = true := by
  unfold typedF at h
  split at h
  · omega
  · rename_i hb
    rw [List.all_eq_true]
    exact bad_all hb
theorem typed_pos {t : List (Int × Bool)} {v : List Int} (h : 0 ≤ typedF t v) : (t.zip v).all fitZ = false ∧ idxB (bad fitZ (t.zip v)) = (typedF t v, false) := by
  unfold typedF at h ⊢
  cases hb : bad fitZ (t.zip v) with
  | none => rw [hb] at h; simp at h
  | some i =>
    refine ⟨?_, rfl⟩
    unfold bad at hb
    rw [List.findIdx?_eq_some_iff_getElem] at hb
    obtain ⟨hi, h1, -⟩ := hb
    exact all_bad hi (by simpa using h1)

set_option maxRecDepth 100000 in
set_option maxHeartbeats 1000000 in
theorem shapeH {B : Nat} (s : ShapeD) (o : Option Addr) (c : Nat) (w : World) (hB : B ≤ w.heap.size) (h1 : Row B o 2 (tyAt w) s.fields) :
    Calls Tryz.prog 94 #[.agg #[.int .i64 s.room, .slice o s.fields.length c]] w fun e w' => e = .returned (.bool (shapeB s)) ∧ Below w.heap.size w w' := by
  have H1 := Lib.hid h1
  have HBB := Lib.hid hB
  have n1 := h1.1
  clear h1 hB
  obtain ⟨ro, fl⟩ := s
  simp only at H1 n1 ⊢
  have HX := Lib.hid (Bx.new w #[.int .i64 ro, .slice o fl.length c] 82)
  by_cases hbad : ro < 0 ∨ 16 < ro ∨ fl.length < 1 ∨ 8 < fl.length
  · have HV : Hid (shapeB ⟨ro, fl⟩ = false) := Lib.hid (by unfold shapeB; rw [decide_eq_true (by exact hbad)]; rfl)
    go_enter Tryz.func94, Tryz.ntmps94
    go_wp2
    all_goals first | (exfalso; omega) | (go_ret; exact ⟨retB HV.out.symm, HX.out.bel⟩)
  · have HV : Hid (shapeB ⟨ro, fl⟩ = fl.all tyP) := Lib.hid (by unfold shapeB; rw [decide_eq_false (by exact hbad)]; rfl)
    have i1 : ¬ ro < 0 := fun h => hbad (.inl h)
    have i2 : ¬ 16 < ro := fun h => hbad (.inr (.inl h))
    have i3 : ¬ fl.length < 1 := fun h => hbad (.inr (.inr (.inl h)))
    have i4 : ¬ 8 < fl.length := fun h => hbad (.inr (.inr (.inr h)))
    clear hbad
    go_enter Tryz.func94, Tryz.ntmps94
    go_wp2_with fail
    go_loopw [3] (fun i wr => ∃ k : Nat, i = .int .i64 k ∧ k ≤ fl.length ∧ Hid (∀ j (hj : j < fl.length), j < k → tyP fl[j] = true) ∧ Hid (Bx w #[.int .i64 ro, .slice o fl.length c] 82 wr)) (fun i _ => fl.length - (intOf i).toNat)
    case atStart => exact ⟨0, rfl, by omega, Lib.hid fun j _ h => by omega, HX⟩
    case round =>
      clear HX
      obtain ⟨k, rfl, hk, HJ, HX⟩ := hrel
      have hk0 : (0 : Int) ≤ k := by omega
      have x1 : wr.cell? ⟨w.heap.size, 1, none⟩ = some (.slice o fl.length c) := HX.out.cell rfl
      by_cases hlt : k < fl.length
      · have hlti : (k : Int) < fl.length := by omega
        obtain ⟨g, off, hog, hg, t0, t1⟩ := (H1.out.mono fun _ _ _ hg => tyAt.below (HX.out.bel.mono HBB.out) hg).cell hlt
        subst hog
        obtain ⟨⟨b, sg⟩, hbs⟩ : ∃ x, fl[k] = x := ⟨_, rfl⟩
        rw [hbs] at t0 t1
        have HBAD : Hid (tyB b sg = false → shapeB ⟨ro, fl⟩ = false) := Lib.hid fun h => by rw [HV.out, all_bad hlt (by rw [hbs]; exact h)]
        have HGO : Hid (tyB b sg = true → ∀ j (hj : j < fl.length), j < k + 1 → tyP fl[j] = true) := Lib.hid fun h j hj hjk => by
          by_cases e : j = k
          · subst e; rw [hbs]; exact h
          · exact HJ.out j hj (by omega)
        simp only at t0 t1
        clear hbs hg
        go_wp2_with fail
        refine (typeH b sg wr).mono ?_
        rintro e W3 ⟨rfl, hb3⟩
        have HX3 := Lib.hid (HX.out.below hb3)
        clear hb3 t0 t1 x1
        obtain ⟨u, hu⟩ : ∃ u, tyB b sg = u := ⟨_, rfl⟩
        rw [hu]
        have HU := Lib.hid hu
        clear hu
        cases u
        · have HZ := Lib.hid (HBAD.out HU.out)
          go_wp2_with fail
          go_ret
          exact ⟨retB HZ.out.symm, HX3.out.bel⟩
        · have HZ := Lib.hid (HGO.out HU.out)
          go_wp2_with fail
          go_roundw
          case rel => exact ⟨k + 1, by go_num, by omega, HZ, HX3⟩
          case measure => simp [intOf]; omega
      · have hlti : ¬ (k : Int) < fl.length := by omega
        have HZ : Hid (shapeB ⟨ro, fl⟩ = true) := Lib.hid (by rw [HV.out]; exact all_of fun j hj => HJ.out j hj (by omega))
        go_wp2_with fail
        go_ret
        exact ⟨retB HZ.out.symm, HX.out.bel⟩
end Go.Proofs.YtihkkjflfdbkkaaGreatDoor
/- The document's numbers of types, in a state. -/
namespace Go.Proofs.YtihkkjflfdbkkaaGreatDoor
open Go.ChangeShapes Go.WideShapes Go.ChangeAt Go.RowKit
set_option linter.unusedVariables false
set_option linter.unusedSimpArgs false

set_option maxRecDepth 100000 in
set_option maxHeartbeats 1000000 in
theorem typed12H {B : Nat} (t : List (Int × Bool)) (v : List Int) (o1 o2 : Option Addr) (c1 c2 : Nat) (w : World) (hB : B ≤ w.heap.size) (h1 : Row B o1 2 (tyAt w) t) (h2 : Row B o2 1 (intAt w) v) 
     :
    Calls Tryz.prog 33 #[.slice o1 t.length c1, .slice o2 v.length c2] w fun e w' => e = .returned (.bool (fitsL t v)) ∧ Below w.heap.size w w' := by
  have H1 := Lib.hid h1
  have H2 := Lib.hid h2
  have HBB := Lib.hid hB
  have n1 := h1.1
  have n2 := h2.1
  have HB0 : Hid (Below w.heap.size w w) := Lib.hid (Below.refl _ _)
  clear h1 h2 hB
  by_cases hl : v.length = t.length
  rotate_left
  · have hne : ((t.length : Int) != (v.length : Int)) = true := by rw [bne_iff_ne]; omega
    have HZ : Hid (fitsL t v = false) := Lib.hid (by unfold fitsL; rw [decide_eq_false hl]; rfl)
    clear hl
    go_enter Tryz.func33, Tryz.ntmps33
    go_wp2_with fail
    go_ret
    exact ⟨retB HZ.out.symm, HB0.out⟩
  have HL := Lib.hid hl
  have hne : ((t.length : Int) != (v.length : Int)) = false := by rw [bne_eq_false_iff_eq]; omega
  have HV : Hid (fitsL t v = (t.zip v).all fitZ) := Lib.hid (by unfold fitsL; rw [decide_eq_true hl]; rfl)
  clear hl
  go_enter Tryz.func33, Tryz.ntmps33
  go_wp2_with fail
  go_loopw [5] (fun i wr => ∃ k : Nat, i = .int .i64 k ∧ k ≤ t.length ∧ Hid (∀ j (hj : j < (t.zip v).length), j < k → fitZ (t.zip v)[j] = true) ∧ Hid (Below w.heap.size w wr)) (fun i _ => t.length - (intOf i).toNat)
  case atStart => exact ⟨0, rfl, by omega, Lib.hid fun j _ h => by omega, HB0⟩
  case round =>
    clear HB0
    obtain ⟨k, rfl, hk, HJ, HB⟩ := hrel
    have hk0 : (0 : Int) ≤ k := by omega
    by_cases hlt : k < t.length
    · have hlti : (k : Int) < t.length := by omega
      have hlt2 : k < v.length := by have := HL.out; omega
      have hlti2 : (k : Int) < v.length := by omega
      obtain ⟨g, off, hog, hg, t0, t1⟩ := (H1.out.mono fun _ _ _ hg => tyAt.below (HB.out.mono HBB.out) hg).cell hlt
      obtain ⟨g2, off2, hog2, hg2, e2⟩ := (H2.out.mono fun _ _ _ hg => intAt.below (HB.out.mono HBB.out) hg).cell hlt2
      subst hog hog2
      obtain ⟨hz, hzip⟩ := zip_getH hlt hlt2
      obtain ⟨⟨b, sg⟩, hbs⟩ : ∃ x, t[k] = x := ⟨_, rfl⟩
      obtain ⟨x, hx⟩ : ∃ x, v[k] = x := ⟨_, rfl⟩
      rw [hbs] at t0 t1 hzip
      rw [hx] at hzip
      have HBAD : Hid (fitB b sg x = false → fitsL t v = false) := Lib.hid fun h => by rw [HV.out, all_bad hz (by rw [hzip]; exact h)]
      have HGO : Hid (fitB b sg x = true → ∀ j (hj : j < (t.zip v).length), j < k + 1 → fitZ (t.zip v)[j] = true) := Lib.hid fun h j hj hjk => by
        by_cases e : j = k
        · subst e; rw [hzip]; exact h
        · exact HJ.out j hj (by omega)
      have e3 : wr.cell? ⟨g2, off2 + k, none⟩ = some (.int .i64 x) := by
        have := e2
        unfold intAt at this
        rw [Nat.mul_one, hx] at this
        exact this
      simp only at t0 t1
      clear hbs hx e2 hz hzip hg hg2
      go_wp2_with fail
      go_still_tail 8, (by kernel_rfl)
      change wpList _ _ _ _ _ wr.drew
      have HWD : Hid (Below w.heap.size w wr.drew) := Lib.hid HB.out.drew
      generalize wr.drew = W2 at HWD ⊢
      clear t0 t1 e3
      go_wp2_with fail
      refine (fitsH b sg x W2).mono ?_
      rintro e W3 ⟨rfl, hb3⟩
      have HW3 := Lib.hid (HWD.out.trans (hb3.mono HWD.out.size))
      clear hb3
      obtain ⟨u, hu⟩ : ∃ u, fitB b sg x = u := ⟨_, rfl⟩
      rw [hu]
      have HU := Lib.hid hu
      clear hu
      cases u
      · have HZ := Lib.hid (HBAD.out HU.out)
        go_wp2_with fail
        go_ret
        exact ⟨retB HZ.out.symm, HW3.out⟩
      · have HZ := Lib.hid (HGO.out HU.out)
        go_wp2_with fail
        go_roundw
        case rel => exact ⟨k + 1, by go_num, by omega, HZ, HW3⟩
        case measure => simp [intOf]; omega
    · have hlti : ¬ (k : Int) < t.length := by omega
      have HZ : Hid (fitsL t v = true) := Lib.hid (by rw [HV.out]; exact all_of fun j hj => HJ.out j hj (by rw [List.length_zip] at hj; omega))
      go_wp2_with fail
      go_ret
      exact ⟨retB HZ.out.symm, HB.out⟩
end Go.Proofs.YtihkkjflfdbkkaaGreatDoor
