/- ClaimMarks: for each model and state, whether the claim has ended and whether the state is one of acceptance is as the document has it, or the same refusal; and the document's example holds. Condition: the listed tables hold what the program's text lays in them. -/
import Derived.Test.YtihkkjflfdbkkaaGreatDoorM45
import Derived.Test.YtihkkjflfdbkkaaGreatDoorM44
import Derived.SevenTiedAt
import Derived.ShutString
import Derived.ChangeOld
namespace Go.Proofs.YtihkkjflfdbkkaaGreatDoor.claimMarks
open Go.ChangeShapes Go.WideShapes Go.ChangeAt Go.RowKit
set_option linter.unusedVariables false

set_option maxRecDepth 100000 in
set_option maxHeartbeats 4000000 in
theorem walk {h : MH} {m : ModelD} {hs : SH} {s : StateD} (w : World) (hmd : MD w.heap.size w h m) (hsd : SD w.heap.size w hs s) (hab : ArgsB m) : Calls Tryz.prog 3 #[mV h m, sV hs s] w fun e w' => e = .returned (.bool true) ∧ Below w.heap.size w w' := by
  obtain ⟨CS, hCS⟩ : ∃ c, c = mCells h m := ⟨_, rfl⟩
  obtain ⟨SS, hSS⟩ : ∃ c, c = sCells hs s := ⟨_, rfl⟩
  have HX := Lib.hid (Ys.new hmd hCS hsd hSS)
  have HDC := Lib.hid (fun (W : World) (hd : MD W.heap.size W h m) (hsd : SD W.heap.size W hs s) => check12H hab W (Nat.le_refl _) hd hsd)
  have HEN := Lib.hid (fun (W : World) (hd : MD W.heap.size W h m) (hsd : SD W.heap.size W hs s) => endedC W hd hsd)
  have HAC := Lib.hid (fun (W : World) (hd : MD W.heap.size W h m) (hsd : SD W.heap.size W hs s) => acceptsC W hd hsd)
  have HDE := Lib.hid (fun (hok : stateE m s = 0) (W : World) (hd : MD W.heap.size W h m) (hsd : SD W.heap.size W hs s) => dEndedH hok W hd hsd)
  have HDA := Lib.hid (fun (hok : stateE m s = 0) (W : World) (hd : MD W.heap.size W h m) (hsd : SD W.heap.size W hs s) => dAcceptsH hok W hd hsd)
  unfold mV sV at HDC HEN HAC HDE HDA ⊢
  rw [← hCS, ← hSS] at HDC HEN HAC HDE HDA ⊢
  clear hmd hCS hab hsd hSS
  go_enter Tryz.func3, Tryz.ntmps3
  go_upto_region 1 with fail
  generalize (w.alloc (.cells CS 29)).alloc (.cells SS 33) = W1 at HX ⊢
  go_wp2_with fail
  refine (shownC W1).mono ?_
  rintro e W2 ⟨rfl, hb2⟩
  have HX2 := Lib.hid (HX.out.below hb2)
  clear hb2 HX
  go_wp2_with (first | refine wpList_load_row rfl _ _ rfl _ rfl _ CS _ _ HX2.out.mx.bx.box Tryz.underlying29 rfl HX2.out.mx.info ?_ | refine wpList_load_row rfl _ _ rfl _ rfl _ SS _ _ HX2.out.sx.box Tryz.underlying33 rfl HX2.out.sinfo ?_)
  refine (HDC.out W2 HX2.out.mx.here (HX2.out.sd.lift HX2.out.sx.bel.size)).mono ?_
  rintro e W3 ⟨rfl, hb3⟩
  have HX3 := Lib.hid (HX2.out.below hb3)
  clear hb3 HX2 HDC
  go_wp2_with (first | refine wpList_load_row rfl _ _ rfl _ rfl _ CS _ _ HX3.out.mx.bx.box Tryz.underlying29 rfl HX3.out.mx.info ?_ | refine wpList_load_row rfl _ _ rfl _ rfl _ SS _ _ HX3.out.sx.box Tryz.underlying33 rfl HX3.out.sinfo ?_)
  refine (HEN.out W3 HX3.out.mx.here (HX3.out.sd.lift HX3.out.sx.bel.size)).mono ?_
  rintro e W4 ⟨rfl, hb4⟩
  have HX4 := Lib.hid (HX3.out.below hb4)
  clear hb4 HX3 HEN
  go_wp2_with (first | refine wpList_load_row rfl _ _ rfl _ rfl _ CS _ _ HX4.out.mx.bx.box Tryz.underlying29 rfl HX4.out.mx.info ?_ | refine wpList_load_row rfl _ _ rfl _ rfl _ SS _ _ HX4.out.sx.box Tryz.underlying33 rfl HX4.out.sinfo ?_)
  refine (HAC.out W4 HX4.out.mx.here (HX4.out.sd.lift HX4.out.sx.bel.size)).mono ?_
  rintro e W5 ⟨rfl, hb5⟩
  have HX5 := Lib.hid (HX4.out.below hb5)
  clear hb5 HX4 HAC
  by_cases hs0 : stateE m s = 0
  rotate_left
  · have e1 : markV m s endedB = false := if_neg hs0
    have e2 : markV m s accB = false := if_neg hs0
    rw [e1, e2]
    obtain ⟨a, hA⟩ : ∃ a, stateE m s = a := ⟨_, rfl⟩
    rw [hA] at hs0 ⊢
    have hb1 : (a == a) = true := by simp
    have hb2 : (a != 0) = true := by rw [bne_iff_ne]; exact hs0
    clear hA hs0 e1 e2 HDE HDA
    go_wp2_with fail
    go_ret
    exact ⟨rfl, HX5.out.sx.bel⟩
  have e1 : markV m s endedB = endedB m s := if_pos hs0
  have e2 : markV m s accB = accB m s := if_pos hs0
  rw [e1, e2]
  have HOK := Lib.hid hs0
  rw [hs0]
  obtain ⟨x, hx⟩ : ∃ x, endedB m s = x := ⟨_, rfl⟩
  obtain ⟨y, hy⟩ : ∃ y, accB m s = y := ⟨_, rfl⟩
  rw [hx] at HDE ⊢
  rw [hy] at HDA ⊢
  have hbx : (x == x) = true := by simp
  have hby : (y == y) = true := by simp
  clear hs0 e1 e2 hx hy
  go_wp2_with (first | refine wpList_load_row rfl _ _ rfl _ rfl _ CS _ _ HX5.out.mx.bx.box Tryz.underlying29 rfl HX5.out.mx.info ?_ | refine wpList_load_row rfl _ _ rfl _ rfl _ SS _ _ HX5.out.sx.box Tryz.underlying33 rfl HX5.out.sinfo ?_)
  refine (HDE.out HOK.out W5 HX5.out.mx.here (HX5.out.sd.lift HX5.out.sx.bel.size)).mono ?_
  rintro e W6 ⟨rfl, hb6⟩
  have HX6 := Lib.hid (HX5.out.below hb6)
  clear hb6 HX5 HDE
  go_wp2_with (first | refine wpList_load_row rfl _ _ rfl _ rfl _ CS _ _ HX6.out.mx.bx.box Tryz.underlying29 rfl HX6.out.mx.info ?_ | refine wpList_load_row rfl _ _ rfl _ rfl _ SS _ _ HX6.out.sx.box Tryz.underlying33 rfl HX6.out.sinfo ?_)
  refine (HDA.out HOK.out W6 HX6.out.mx.here (HX6.out.sd.lift HX6.out.sx.bel.size)).mono ?_
  rintro e W7 ⟨rfl, hb7⟩
  have HX7 := Lib.hid (HX6.out.below hb7)
  clear hb7 HX6 HDA HOK
  go_wp2_with fail
  go_ret
  exact ⟨rfl, HX7.out.sx.bel⟩

set_option maxRecDepth 100000 in
theorem contract (H : Type) (enc : TypeId × Value → H) (W : World) (base : Nat) (args : Array Value) (ds gs : List (DataW H)) (before : List MemPlace)
    (hval0 : ∀ (j : Nat) t v, Tryz.f3.params[j]? = some t → args[j]? = some v → Value.okWide Tryz.prog W .any base t v)
    (hW : DataW.Whole enc Tryz.prog Tryz.f3.params.toList Rows.claimMarksSpec.vars false W args.toList ds gs before)
    (hsz0 : (DataW.weightsEach Tryz.prog (Tryz.f3.params.toList ++ Rows.claimMarksSpec.plain.varTypes Tryz.prog) (ds ++ gs)).all (· ≤ reachBytes) = true) (hL : laidMet Tryz.prog laidL W) :
    Calls Tryz.prog 3 args W fun e W' => ∃ v, e = .returned v ∧ Rows.claimMarksSpec.post enc Tryz.prog Tryz.f3 false true false false W args v W' := by
  have hsz := hsz0
  clear hsz0
  have hval : ∀ (j : Nat) t v, Tryz.f3.params[j]? = some t → args[j]? = some v → Value.okWide Tryz.prog W .any base t v := hval0
  have hW' := hW
  obtain ⟨p, q, hA0, hV, rfl, hfz, hnd⟩ := hW
  have hA : DataW.TrodAll enc Tryz.prog W 0 (fun _ => true) true Tryz.f3.params.toList args.toList ds p := hA0
  rw [Tryz.params3] at hA hval hsz
  obtain ⟨v0, vs0, d0, ds0, p0, q0, hargs, rfl, rfl, h0, r0⟩ := trodAll_cons hA
  obtain ⟨v1, vs1, d1, ds1, p1, q1, rfl, rfl, rfl, h1, r1⟩ := trodAll_cons r0
  obtain ⟨rfl, rfl, rfl⟩ := trodAll_nil r1
  obtain rfl : args = #[v0, v1] := by cases args; simp_all
  obtain ⟨rfl, rfl⟩ := trodVars_none hV
  have k0 := h0
  have lt0 : ∀ x ∈ p0, x.block < W.heap.size := by obtain ⟨m, hm⟩ := k0; exact DataW.trod_lt m _ _ _ hm
  have k1 := h1
  have lt1 : ∀ x ∈ p1, x.block < W.heap.size := by obtain ⟨m, hm⟩ := k1; exact DataW.trod_lt m _ _ _ hm
  have w0 : Fits 29 d0 := fun k hk => by
    have := List.all_eq_true.1 hsz k (DataW.weights_mem_each (j := 0) rfl rfl k hk)
    simpa using this
  have w1 : Fits 33 d1 := fun k hk => by
    have := List.all_eq_true.1 hsz k (DataW.weights_mem_each (j := 1) rfl rfl k hk)
    simpa using this
  obtain ⟨h, m, rfl, hmd, hab, hsa⟩ := open_modelB (hval 0 29 v0 rfl rfl) h0 w0
  obtain ⟨hs, s, rfl, hsd⟩ := open_state (hval 1 33 v1 rfl rfl) h1 w1
  clear hA0 hval0 hsz
  refine (walk W hmd hsd hab).mono fun e W' ⟨he, bel⟩ => ?_
  subst he
  exact ⟨_, rfl, _, _, _, [], _, [], hW', trodAll_mk1 (shut_bool Tryz.underlying4 _), (trodAll_cons_mk (Below.trod laidOut (by kernel_rfl) (of_decide_eq_true (by kernel_rfl)) k0 bel lt0) (trodAll_cons_mk (Below.trod laidOut (by kernel_rfl) (of_decide_eq_true (by kernel_rfl)) k1 bel lt1) trodAll_mk0)), rfl, bel.frame _, fun h => by cases h⟩

def args0 : Array Value := #[.agg #[.slice none 0 0, .slice none 0 0, .slice none 0 0, .slice none 0 0, .slice none 0 0, .int .i64 0, .slice none 0 0], .agg #[.slice none 0 0, .slice none 0 0, .slice none 0 0, .int .i64 0, .int .i64 0, .int .i64 0]]
theorem laid_in (os : Os) : LaidIn Tryz.prog ((laidWorld os).forCall (fun _ _ => 0) ⟨#[], args0, []⟩).memory laidL [2, 3, 1, 0] :=
  LaidIn.of_run [2, 3, 1, 0] 8 (by kernel_rfl) (by kernel_rfl) (by kernel_rfl) (by kernel_rfl)
theorem laid_met (os : Os) : laidMet Tryz.prog laidL ((laidWorld os).forCall (fun _ _ => 0) ⟨#[], args0, []⟩).memory := (laid_in os).met
theorem reads (os : Os) {H : Type} (enc : TypeId × Value → H) : ∃ places, DataW.whole enc Tryz.prog ((laidWorld os).forCall (fun _ _ => 0) ⟨#[], args0, []⟩).memory Tryz.f3.params.toList Rows.claimMarksSpec.vars false args0.toList 8 = some ([.agg [.nil, .nil, .nil, .nil, .nil, .lit (.int .i64 0), .nil], .agg [.nil, .nil, .nil, .lit (.int .i64 0), .lit (.int .i64 0), .lit (.int .i64 0)]], [], places) :=
  ⟨[], by kernel_rfl⟩

set_option maxRecDepth 100000 in
theorem lifted (os : Os) (started : os.Started) (H : Type) (enc : TypeId × Value → H) (F : Stop.Interp) :
    ReturnsInHanded {} Tryz.checked os 3 .any ((OpenSpec.ofChange Rows.claimMarksSpec).preRow enc Tryz.prog Tryz.f3 Rows.claimMarksRow.domain false Rows.claimMarksRow.laid) (((OpenSpec.ofChange Rows.claimMarksSpec).at F).post enc Tryz.prog Tryz.f3 false true false false) := by
  obtain ⟨places, hx⟩ := reads os enc
  refine returnsInHanded_of_row (C := Tryz.checked) (s := OpenSpec.ofChange Rows.claimMarksSpec) own started (by kernel_rfl) Tryz.func3
    (witness_row_atRef (enc := enc) (C := Tryz.checked) false (laidWorld os) args0 rfl (by kernel_rfl) (by kernel_rfl) (by kernel_rfl)
      (OpenSpec.preRow_of_cond 8 hx (by kernel_rfl) (fun k hk => by cases hk) (by kernel_rfl) (laid_met os))) ?_
  intro W base args ds gs before hval hW _ _ hsz hL _ _
  exact contract H enc W base args ds gs before hval hW hsz hL

theorem said : Rows.ClaimMarksSaid :=
  OpenClaim.holds_of_cond 3 Tryz.f3 rfl rfl rfl rfl rfl rfl rfl ⟨rfl, rfl, rfl, rfl, rfl⟩ rfl rfl rfl rfl rfl (by kernel_rfl) Tryz.func3 (by kernel_rfl)
    (of_decide_eq_true (by kernel_rfl)) (by unfold Func.isWrapper; first | (rw [if_pos (by decide +kernel)]; kernel_rfl) | (rw [if_neg (by decide +kernel)]; exact ⟨rfl, rfl⟩))
    (fun os started H enc _ F => by rw [OpenClaim.pre_eq_preRow]; exact lifted os started H enc F)

theorem plain (f : FuncId) (fn : Func) (hf : Tryz.pinned.checked.prog.funcNamed "spinneret/spinneretlaw17.ClaimMarks" = some f) (hfn : Tryz.pinned.checked.prog.funcs[f]? = some fn) :
    false = Tryz.pinned.checked.prog.looks [] ∧ ∀ (j : Nat) t, fn.params[j]? = some t → Tryz.pinned.checked.prog.wantsStandIn t = false := by
  obtain rfl : f = 3 := Option.some.inj ((show Tryz.prog.funcNamed "spinneret/spinneretlaw17.ClaimMarks" = some 3 by kernel_rfl).symm.trans hf) |>.symm
  obtain rfl : fn = Tryz.f3 := (Option.some.inj (Tryz.func3.symm.trans hfn)).symm
  refine ⟨by kernel_rfl, fun j t ht => ?_⟩
  rw [Tryz.params3] at ht
  have h2 := Array.mem_of_getElem? ht
  simp at h2
  rcases h2 with rfl | rfl
  · exact (show Tryz.prog.wantsStandIn 29 = false by kernel_rfl)
  · exact (show Tryz.prog.wantsStandIn 33 = false by kernel_rfl)

theorem card : Rows.ClaimMarksCardSaid :=
  Claim7.holds_tied_plain_at .later [] _ _ _ _ said (fun _ h => by cases h) (by kernel_rfl) (fun _ h => by cases h) claimMarks_row_tie rfl ⟨rfl, rfl⟩ (by kernel_rfl) rfl plain (by kernel_rfl)
end Go.Proofs.YtihkkjflfdbkkaaGreatDoor.claimMarks
namespace Go.Proofs.YtihkkjflfdbkkaaGreatDoor
theorem claimMarks_holds : Rows.ClaimMarksCardSaid := claimMarks.card
#print axioms claimMarks_holds
end Go.Proofs.YtihkkjflfdbkkaaGreatDoor
