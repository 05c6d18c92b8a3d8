/- PorAlone: for each model, state and row of steps, the processes whose steps may stand for all are those that the document says, or the same refusal; and the document's example holds. Conditions: none. -/
import Derived.Test.YtofdfaopabmfoaaM33
import Derived.Test.YtofdfaopabmfoaaM45
import Derived.Test.YtofdfaopabmfoaaM46
import Derived.Test.YtofdfaopabmfoaaM42
import Derived.Test.YtofdfaopabmfoaaM44
import Derived.ShutString
import Derived.ChangeOld
import Derived.ProofKit
import Derived.Lib.SmallJoins
namespace Go.Proofs.Ytofdfaopabmfoaa.porAlone
open Go.ChangeShapes Go.WideShapes Go.ChangeAt Go.RowKit
set_option linter.unusedVariables false

theorem own : ownKnob Try.prog.godebug = none := by kernel_rfl
theorem laidOut : laidOutB Try.prog = true := by kernel_rfl

set_option maxRecDepth 100000 in
set_option maxHeartbeats 4000000 in
theorem walk {h : MH} {m : ModelD} {hs : SH} {s : StateD} (pids : List Int) (no : Option Addr) (nc : Nat) (w : World) (hmd : MD w.heap.size w h m) (hsd : SD w.heap.size w hs s) (hpid : Row w.heap.size no 15 (intAt w) pids) (hab : ArgsB m) (hsa : SArgsB m) : Calls Try.prog 4 #[mV h m, sV hs s, .slice no pids.length nc] w fun e w' => e = .returned (.bool true) ∧ Below w.heap.size w w' := by
  obtain ⟨CS, hCS⟩ : ∃ c, c = mCells h m := ⟨_, rfl⟩
  obtain ⟨SS, hSS⟩ : ∃ c, c = sCells hs s := ⟨_, rfl⟩
  have HX := Lib.hid (Ys.new hmd hCS hsd hSS)
  have HRP := Lib.hid (fun (W : World) (hb : Below w.heap.size w W) => (hpid.mono fun _ _ _ hg => intAt.below hb hg).up hb.size)
  have HAL := Lib.hid (fun (W : World) (hd : MD W.heap.size W h m) (hsd : SD W.heap.size W hs s) (hl : Row W.heap.size no 15 (intAt W) pids) => pAloneC pids no nc W hd hsd hl)
  have HDA := Lib.hid (fun (W : World) (hd : MD W.heap.size W h m) => dAdmitsH W hd hab)
  have HDC := Lib.hid (fun (W : World) (hd : MD W.heap.size W h m) (hsd : SD W.heap.size W hs s) => check12H hab W (Nat.le_refl _) hd hsd)
  have HDL := Lib.hid (fun (hg : GM m) (hmay : mayB m s = true) (W : World) (hd : MD W.heap.size W h m) (hsd : SD W.heap.size W hs s) (hl : Row W.heap.size no 15 (intAt W) pids) => dAloneH hg hsa hmay pids no nc W hd hsd hl)
  have lp := hpid.1
  unfold mV at HAL HDA HDC HDL ⊢
  unfold sV at HAL HDC HDL ⊢
  rw [← hCS] at HAL HDA HDC HDL ⊢
  rw [← hSS] at HAL HDC HDL ⊢
  clear hmd hCS hab hsa hsd hSS hpid
  go_enter Try.func4, Try.ntmps4
  go_upto_region 1 with fail
  generalize (w.alloc (.cells CS 29)).alloc (.cells SS 46) = W1 at HX ⊢
  go_wp2_with fail
  refine (shownC W1).mono ?_
  rintro e W2 ⟨rfl, hb2⟩
  have HX2 := Lib.hid (HX.out.below hb2)
  clear hb2 HX
  go_wp2_with (first | refine wpList_load_row rfl _ _ rfl _ rfl _ CS _ _ HX2.out.mx.bx.box Try.underlying29 rfl HX2.out.mx.info ?_ | refine wpList_load_row rfl _ _ rfl _ rfl _ SS _ _ HX2.out.sx.box Try.underlying46 rfl HX2.out.sinfo ?_)
  refine (HAL.out W2 HX2.out.mx.here (HX2.out.sd.lift HX2.out.sx.bel.size) (HRP.out W2 HX2.out.sx.bel)).mono ?_
  rintro e W3 hap
  have HAP := Lib.hid hap
  have HX3 := Lib.hid (HX2.out.below hap.bel)
  clear hap HX2 HAL
  by_cases ha : aloneE m s = 0
  rotate_left
  · obtain rfl := HAP.out.no ha
    by_cases hd0 : admE m = 0
    · have HE : Hid (aloneE m s = stateE m s) := Lib.hid (by unfold aloneE; rw [if_pos hd0])
      have HA0 : Hid (stateE m s ≠ 0) := Lib.hid (by rw [← HE.out]; exact ha)
      rw [HE.out]
      rw [hd0] at HDA
      clear ha hd0
      go_wp2_with (refine wpList_load_row rfl _ _ rfl _ rfl _ CS _ _ HX3.out.mx.bx.box Try.underlying29 rfl HX3.out.mx.info ?_)
      refine (HDA.out W3 HX3.out.mx.here).mono ?_
      rintro e W4 ⟨rfl, hb4⟩
      have HX4 := Lib.hid (HX3.out.below hb4)
      clear hb4 HX3
      go_wp2_with (first | refine wpList_load_row rfl _ _ rfl _ rfl _ CS _ _ HX4.out.mx.bx.box Try.underlying29 rfl HX4.out.mx.info ?_ | refine wpList_load_row rfl _ _ rfl _ rfl _ SS _ _ HX4.out.sx.box Try.underlying46 rfl HX4.out.sinfo ?_)
      refine (HDC.out W4 HX4.out.mx.here (HX4.out.sd.lift HX4.out.sx.bel.size)).mono ?_
      rintro e W5 ⟨rfl, hb5⟩
      have HX5 := Lib.hid (HX4.out.below hb5)
      clear hb5 HX4
      obtain ⟨a, hA⟩ : ∃ a, stateE m s = a := ⟨_, rfl⟩
      rw [hA] at HA0 ⊢
      have hb1 : (a == a) = true := by simp
      have hb2 : (a != 0) = true := by rw [bne_iff_ne]; exact HA0.out
      clear hA
      go_wp2_with fail
      go_ret
      exact ⟨rfl, HX5.out.sx.bel⟩
    · have HE : Hid (aloneE m s = admE m) := Lib.hid (by unfold aloneE; rw [if_neg hd0])
      rw [HE.out]
      obtain ⟨a, hA⟩ : ∃ a, admE m = a := ⟨_, rfl⟩
      rw [hA] at hd0 HDA ⊢
      have hb1 : (a == a) = true := by simp
      have hb2 : (a != 0) = true := by rw [bne_iff_ne]; exact hd0
      have hb3 : (a == 0) = false := by rw [beq_eq_false_iff_ne]; exact hd0
      clear hA hd0 ha
      go_wp2_with (refine wpList_load_row rfl _ _ rfl _ rfl _ CS _ _ HX3.out.mx.bx.box Try.underlying29 rfl HX3.out.mx.info ?_)
      refine (HDA.out W3 HX3.out.mx.here).mono ?_
      rintro e W4 ⟨rfl, hb4⟩
      have HX4 := Lib.hid (HX3.out.below hb4)
      clear hb4 HX3
      go_wp2_with fail
      go_ret
      exact ⟨rfl, HX4.out.sx.bel⟩
  obtain ⟨oA, cA, rfl, hRA⟩ := HAP.out.yes ha
  have hd0 : admE m = 0 := by
    unfold aloneE at ha
    split at ha
    · assumption
    · exact ha
  have hs0 : stateE m s = 0 := by
    unfold aloneE at ha
    rw [if_pos hd0] at ha
    exact ha
  have HGM := Lib.hid (GM.of (adm_good hd0))
  have HMAY := Lib.hid (stateE_may hs0)
  have HRA := Lib.hid hRA
  rw [hd0] at HDA
  rw [hs0] at HDC
  clear hRA ha hd0 hs0 HAP
  have HB3 : Hid (Below W3.heap.size W3 W3) := Lib.hid (Below.refl _ _)
  go_wp2_with (refine wpList_load_row rfl _ _ rfl _ rfl _ CS _ _ HX3.out.mx.bx.box Try.underlying29 rfl HX3.out.mx.info ?_)
  refine (HDA.out W3 HX3.out.mx.here).mono ?_
  rintro e W4 ⟨rfl, hb4⟩
  have HX4 := Lib.hid (HX3.out.below hb4)
  have HB4 : Hid (Below W3.heap.size W3 W4) := Lib.hid hb4
  clear hb4 HX3 HB3 HDA
  go_wp2_with (first | refine wpList_load_row rfl _ _ rfl _ rfl _ CS _ _ HX4.out.mx.bx.box Try.underlying29 rfl HX4.out.mx.info ?_ | refine wpList_load_row rfl _ _ rfl _ rfl _ SS _ _ HX4.out.sx.box Try.underlying46 rfl HX4.out.sinfo ?_)
  refine (HDC.out W4 HX4.out.mx.here (HX4.out.sd.lift HX4.out.sx.bel.size)).mono ?_
  rintro e W5 ⟨rfl, hb5⟩
  have HX5 := Lib.hid (HX4.out.below hb5)
  have HB5 : Hid (Below W3.heap.size W3 W5) := Lib.hid (HB4.out.trans (hb5.mono HB4.out.size))
  clear hb5 HX4 HB4 HDC
  go_wp2_with (first | refine wpList_load_row rfl _ _ rfl _ rfl _ CS _ _ HX5.out.mx.bx.box Try.underlying29 rfl HX5.out.mx.info ?_ | refine wpList_load_row rfl _ _ rfl _ rfl _ SS _ _ HX5.out.sx.box Try.underlying46 rfl HX5.out.sinfo ?_)
  refine (HDL.out HGM.out HMAY.out W5 HX5.out.mx.here (HX5.out.sd.lift HX5.out.sx.bel.size) (HRP.out W5 HX5.out.sx.bel)).mono ?_
  rintro e W6 ⟨hb6, oB, cB, rfl, hRB⟩
  have HX6 := Lib.hid (HX5.out.below hb6)
  have HB6 : Hid (Below W3.heap.size W3 W6) := Lib.hid (HB5.out.trans (hb6.mono HB5.out.size))
  have HRB := Lib.hid hRB
  clear hb6 HX5 HB5 HDL hRB
  obtain ⟨L, hL⟩ : ∃ L, aloneL m s pids = L := ⟨_, rfl⟩
  rw [hL] at HRA HRB ⊢
  have lL := HRA.out.1
  have hbl : ((L.length : Int) != (L.length : Int)) = false := by simp
  clear hL
  go_wp2_with fail
  clear hbl
  have HBW : Hid (Below W6.heap.size W6 W6) := Lib.hid (Below.refl _ _)
  go_loopw [12] (fun iv W => ∃ k : Nat, iv = .int .i64 k ∧ k ≤ L.length ∧ Hid (Below W6.heap.size W6 W)) (fun iv _ => L.length - (intOf iv).toNat)
  case atStart => exact ⟨0, rfl, by omega, HBW⟩
  case round =>
    clear HBW
    obtain ⟨k, rfl, hk, HB⟩ := hrel
    have hk0 : (0 : Int) ≤ k := by omega
    by_cases hlt : k < L.length
    · have hlti : (k : Int) < L.length := by omega
      obtain ⟨ga, offa, hoa, hga, ea⟩ := HRA.out.cell hlt
      obtain ⟨gb, offb, hob, hgb, eb⟩ := HRB.out.cell hlt
      obtain ⟨x, hx⟩ : ∃ x, L[k] = x := ⟨_, rfl⟩
      rw [hx, Nat.mul_one] at ea eb
      have c1 : wr.cell? ⟨ga, offa + k, none⟩ = some (.int .i64 x) := ((HB6.out.trans (HB.out.mono HB6.out.size)).cell (p := ⟨ga, offa + k, none⟩) hga).trans ea
      have c2 : wr.cell? ⟨gb, offb + k, none⟩ = some (.int .i64 x) := (HB.out.cell (p := ⟨gb, offb + k, none⟩) hgb).trans eb
      have HSA : Hid (∀ n : Nat, Value.slice oA n cA = Value.slice (some ⟨ga, offa, none⟩) n cA) := Lib.hid fun n => by rw [hoa]
      have HSB : Hid (∀ n : Nat, Value.slice oB n cB = Value.slice (some ⟨gb, offb, none⟩) n cB) := Lib.hid fun n => by rw [hob]
      have hbx : (x != x) = false := by simp
      rw [HSA.out, HSB.out]
      clear hoa hob hga hgb ea eb hx
      go_wp2_with fail
      go_quiet (fail)
      have HBN : Hid (Below W6.heap.size W6 (wr.drewN nq)) := Lib.hid (bdrew HB.out nq)
      generalize wr.drewN nq = W8 at HBN ⊢
      clear c1 c2 hbx
      go_wp2_with fail
      go_roundw
      case rel => exact ⟨k + 1, by go_num, by omega, HBN⟩
      case measure => simp [intOf]; omega
    · have hlti : ¬ (k : Int) < L.length := by omega
      go_wp2_with fail
      go_ret
      exact ⟨rfl, HX6.out.sx.bel.trans (HB.out.mono HX6.out.sx.bel.size)⟩

set_option maxRecDepth 100000 in
theorem lifted (os : Os) (started : os.Started) (H : Type) (enc : TypeId × Value → H) :
    ReturnsInHanded {} Try.checked os 4 .any (Rows.porAloneSpec.pre6 enc Try.prog Try.f4 Rows.porAloneRow.domain false) (Rows.porAloneSpec.post enc Try.prog Try.f4 false true false false) := by
  refine returnsInHanded_of_change_sized (C := Try.checked) own started (by kernel_rfl) Try.func4
    (ChangeSpec.witness6 (enc := enc) (C := Try.checked) false ⟨#[], #[.agg #[.slice none 0 0, .slice none 0 0, .slice none 0 0, .slice none 0 0, .slice none 0 0, .int .i64 0, .slice none 0 0], .agg #[.slice none 0 0, .slice none 0 0, .slice none 0 0, .int .i64 0, .int .i64 0, .int .i64 0], .slice none 0 0], []⟩ 8 (by kernel_rfl) (by kernel_rfl) (by kernel_rfl) (by kernel_rfl)) ?_
  intro W base args ds gs before hval0 hW _ hsz0 _
  have hsz : (DataW.weightsEach Try.prog (Try.f4.params.toList ++ Rows.porAloneSpec.plain.varTypes Try.prog) (ds ++ gs)).all (· ≤ reachBytes) = true := hsz0
  clear hsz0
  have hval : ∀ (j : Nat) t v, Try.f4.params[j]? = some t → args[j]? = some v → Value.okWide Try.prog W .any base t v := hval0
  have hW' := hW
  obtain ⟨p, q, hA0, hV, rfl, hfz, hnd⟩ := hW
  have hA : DataW.TrodAll enc Try.prog W 0 (fun _ => true) true Try.f4.params.toList args.toList ds p := hA0
  rw [Try.params4] at hA hval hsz
  obtain ⟨v0, vs0, d0, ds0, p0, q0, hargs, rfl, rfl, h0, r0⟩ := trodAll_cons hA
  obtain ⟨v1, vs1, d1, ds1, p1, q1, rfl, rfl, rfl, h1, r1⟩ := trodAll_cons r0
  obtain ⟨v2, vs2, d2, ds2, p2, q2, rfl, rfl, rfl, h2, r2⟩ := trodAll_cons r1
  obtain ⟨rfl, rfl, rfl⟩ := trodAll_nil r2
  obtain rfl : args = #[v0, v1, v2] := by cases args; simp_all
  obtain ⟨rfl, rfl⟩ := trodVars_none hV
  have k0 := h0
  have lt0 : ∀ x ∈ p0, x.block < W.heap.size := by obtain ⟨m, hm⟩ := k0; exact DataW.trod_lt m _ _ _ hm
  have k1 := h1
  have lt1 : ∀ x ∈ p1, x.block < W.heap.size := by obtain ⟨m, hm⟩ := k1; exact DataW.trod_lt m _ _ _ hm
  have k2 := h2
  have lt2 : ∀ x ∈ p2, x.block < W.heap.size := by obtain ⟨m, hm⟩ := k2; exact DataW.trod_lt m _ _ _ hm
  have w0 : Fits 29 d0 := fun k hk => by
    have := List.all_eq_true.1 hsz k (DataW.weights_mem_each (j := 0) rfl rfl k hk)
    simpa using this
  have w1 : Fits 46 d1 := fun k hk => by
    have := List.all_eq_true.1 hsz k (DataW.weights_mem_each (j := 1) rfl rfl k hk)
    simpa using this
  have w2 : Fits 47 d2 := fun k hk => by
    have := List.all_eq_true.1 hsz k (DataW.weights_mem_each (j := 2) rfl rfl k hk)
    simpa using this
  obtain ⟨h, m, rfl, hmd, hab, hsa⟩ := open_modelB (hval 0 29 v0 rfl rfl) h0 w0
  obtain ⟨hs, s, rfl, hsd⟩ := open_state (hval 1 46 v1 rfl rfl) h1 w1
  obtain ⟨no, pids, nc, rfl, hpid⟩ := open_pids (hval 2 47 v2 rfl rfl) h2 w2
  clear hA0 hval0 hsz
  refine (walk pids no nc W hmd hsd hpid hab hsa).mono fun e W' ⟨he, bel⟩ => ?_
  subst he
  exact ⟨_, rfl, _, _, _, [], _, [], hW', trodAll_mk1 (shut_bool Try.underlying4 _), (trodAll_cons_mk (Below.trod laidOut (by kernel_rfl) (of_decide_eq_true (by kernel_rfl)) k0 bel lt0) (trodAll_cons_mk (Below.trod laidOut (by kernel_rfl) (of_decide_eq_true (by kernel_rfl)) k1 bel lt1) (trodAll_cons_mk (Below.trod laidOut (by kernel_rfl) (of_decide_eq_true (by kernel_rfl)) k2 bel lt2) trodAll_mk0))), rfl, bel.frame _, fun h => by cases h⟩

theorem over : Rows.porAloneRow.holds Try.pinned (OpenSpec.ofChange Rows.porAloneSpec) :=
  OpenClaim.holds_of_wide 4 Try.f4 rfl rfl rfl rfl rfl rfl rfl ⟨rfl, rfl, rfl, rfl, rfl⟩ rfl rfl rfl rfl rfl (by kernel_rfl) Try.func4 (by kernel_rfl)
    (of_decide_eq_true (by kernel_rfl)) (by unfold Func.isWrapper; first | (rw [if_pos (by decide +kernel)]; kernel_rfl) | (rw [if_neg (by decide +kernel)]; exact ⟨rfl, rfl⟩))
    (fun os started H enc _ => lifted os started H enc)

theorem proved : Rows.PorAloneSaid := over
end Go.Proofs.Ytofdfaopabmfoaa.porAlone
namespace Go.Proofs.Ytofdfaopabmfoaa
theorem porAlone_holds : Rows.PorAloneSaid := porAlone.proved
#print axioms porAlone_holds
end Go.Proofs.Ytofdfaopabmfoaa
