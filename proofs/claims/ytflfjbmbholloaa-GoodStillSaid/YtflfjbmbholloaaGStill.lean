/- GoodStill: for each model, to look at it changes nothing of it, it is told the same again, it may be or it is no model, and where it may be no part and no place is told; and the document's examples hold. Conditions: none. -/
import Derived.Test.YtflfjbmbholloaaGLaw11
import Derived.Test.YtflfjbmbholloaaGOpen
import Derived.ShutString
import Derived.ChangeOld
import Derived.ProofKit
import Derived.Lib.SmallJoins
namespace Go.Proofs.Ytflfjbmbholloaa.goodStill
open Go.ChangeShapes Go.WideShapes Go.ChangeAt Go.RowKit
set_option linter.unusedVariables false

theorem own : ownKnob Try.prog.godebug = none := by kernel_rfl
theorem laidOut : laidOutB Try.prog = true := by kernel_rfl
theorem checkL_kind (m : ModelD) : (∃ a b, checkL m = (40, a, b)) ∨ checkL m = (0, 0, 0) := by
  unfold checkL
  repeat' split
  all_goals first | exact .inl ⟨_, _, rfl⟩ | exact .inr rfl

set_option maxRecDepth 100000 in
set_option maxHeartbeats 4000000 in
theorem walk {h : MH} {m : ModelD} (w : World) (hmd : MD w.heap.size w h m) : Calls Try.prog 3 #[mV h m] w fun e w' => e = .returned (.bool true) ∧ Below w.heap.size w w' := by
  have HMD := Lib.hid hmd
  have HK := Lib.hid (checkL_kind m)
  clear hmd
  have HX := Lib.hid (Bx.new w (mCells h m) 29)
  unfold mV
  unfold mCells at HX ⊢
  go_enter Try.func3, Try.ntmps3
  go_wp2_with fail
  refine (shownC _).mono ?_
  rintro e w1 ⟨rfl, hb1⟩
  have HX1 := Lib.hid (HX.out.below hb1)
  clear hb1
  have m0 := HX1.out.cell (i := 0) rfl
  have m1 := HX1.out.cell (i := 1) rfl
  have m2 := HX1.out.cell (i := 2) rfl
  have m3 := HX1.out.cell (i := 3) rfl
  have m4 := HX1.out.cell (i := 4) rfl
  have m5 := HX1.out.cell (i := 5) rfl
  have m6 := HX1.out.cell (i := 6) rfl
  go_wp2_with fail
  clear m0 m1 m2 m3 m4 m5 m6
  refine (checkC (h := h) (m := m) w1 HX1.out.bel.size (HMD.out.below HX1.out.bel)).mono ?_
  rintro e w2 ⟨rfl, hb2⟩
  have HX2 := Lib.hid (HX1.out.below hb2)
  clear hb2
  have m0 := HX2.out.cell (i := 0) rfl
  have m1 := HX2.out.cell (i := 1) rfl
  have m2 := HX2.out.cell (i := 2) rfl
  have m3 := HX2.out.cell (i := 3) rfl
  have m4 := HX2.out.cell (i := 4) rfl
  have m5 := HX2.out.cell (i := 5) rfl
  have m6 := HX2.out.cell (i := 6) rfl
  go_wp2_with fail
  clear m0 m1 m2 m3 m4 m5 m6
  refine (checkC (h := h) (m := m) w2 HX2.out.bel.size (HMD.out.below HX2.out.bel)).mono ?_
  rintro e w3 ⟨rfl, hb3⟩
  have HB3 := Lib.hid (HX2.out.bel.trans (hb3.mono HX2.out.bel.size))
  clear hb3
  rcases HK.out with ⟨a, b, hk⟩ | hk
  · rw [hk]
    clear hk
    go_wp2_with fail
    go_ret
    exact ⟨rfl, HB3.out⟩
  · rw [hk]
    clear hk
    go_wp2_with fail
    go_ret
    exact ⟨rfl, HB3.out⟩

set_option maxRecDepth 100000 in
theorem lifted (os : Os) (started : os.Started) (H : Type) (enc : TypeId × Value → H) :
    ReturnsInHanded {} Try.checked os 3 .any (Rows.goodStillSpec.pre6 enc Try.prog Try.f3 Rows.goodStillRow.domain false) (Rows.goodStillSpec.post enc Try.prog Try.f3 false true false false) := by
  refine returnsInHanded_of_change_sized (C := Try.checked) own started (by kernel_rfl) Try.func3
    (ChangeSpec.witness6 (enc := enc) (C := Try.checked) false ⟨#[], #[.agg #[.slice none 0 0, .slice none 0 0, .slice none 0 0, .slice none 0 0, .slice none 0 0, .int .i64 0, .slice none 0 0]], []⟩ 8 (by kernel_rfl) (by kernel_rfl) (by kernel_rfl) (by kernel_rfl)) ?_
  intro W base args ds gs before hval0 hW _ hsz0 _
  have hsz : (DataW.weightsEach Try.prog (Try.f3.params.toList ++ Rows.goodStillSpec.plain.varTypes Try.prog) (ds ++ gs)).all (· ≤ reachBytes) = true := hsz0
  clear hsz0
  have hval : ∀ (j : Nat) t v, Try.f3.params[j]? = some t → args[j]? = some v → Value.okWide Try.prog W .any base t v := hval0
  have hW' := hW
  obtain ⟨p, q, hA0, hV, rfl, hfz, hnd⟩ := hW
  have hA : DataW.TrodAll enc Try.prog W 0 (fun _ => true) true Try.f3.params.toList args.toList ds p := hA0
  rw [Try.params3] at hA hval hsz
  obtain ⟨v0, vs0, d0, ds0, p0, q0, hargs, rfl, rfl, h0, r0⟩ := trodAll_cons hA
  obtain ⟨rfl, rfl, rfl⟩ := trodAll_nil r0
  obtain rfl : args = #[v0] := by cases args; simp_all
  obtain ⟨rfl, rfl⟩ := trodVars_none hV
  have k0 := h0
  have lt0 : ∀ x ∈ p0, x.block < W.heap.size := by obtain ⟨m, hm⟩ := k0; exact DataW.trod_lt m _ _ _ hm
  have w0 : Fits 29 d0 := fun k hk => by
    have := List.all_eq_true.1 hsz k (DataW.weights_mem_each (j := 0) rfl rfl k hk)
    simpa using this
  obtain ⟨h, m, rfl, hmd⟩ := open_model (hval 0 29 v0 rfl rfl) h0 w0
  clear hA0 hval0 hsz
  refine (walk W hmd).mono fun e W' ⟨he, bel⟩ => ?_
  subst he
  exact ⟨_, rfl, _, _, _, [], _, [], hW', trodAll_mk1 (shut_bool Try.underlying4 _), (trodAll_cons_mk (Below.trod laidOut (by kernel_rfl) (of_decide_eq_true (by kernel_rfl)) k0 bel lt0) trodAll_mk0), rfl, bel.frame _, fun h => by cases h⟩

theorem over : Rows.goodStillRow.holds Try.pinned (OpenSpec.ofChange Rows.goodStillSpec) :=
  OpenClaim.holds_of_wide 3 Try.f3 rfl rfl rfl rfl rfl rfl rfl ⟨rfl, rfl, rfl, rfl, rfl⟩ rfl rfl rfl rfl rfl (by kernel_rfl) Try.func3 (by kernel_rfl)
    (of_decide_eq_true (by kernel_rfl)) (by unfold Func.isWrapper; first | (rw [if_pos (by decide +kernel)]; kernel_rfl) | (rw [if_neg (by decide +kernel)]; exact ⟨rfl, rfl⟩))
    (fun os started H enc _ => lifted os started H enc)

theorem proved : Rows.GoodStillSaid := over
#print axioms proved
end Go.Proofs.Ytflfjbmbholloaa.goodStill
namespace Go.Proofs.Ytflfjbmbholloaa
theorem goodStill_holds : Rows.GoodStillSaid := goodStill.proved
end Go.Proofs.Ytflfjbmbholloaa
