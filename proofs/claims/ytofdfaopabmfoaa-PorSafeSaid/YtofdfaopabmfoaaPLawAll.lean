/- PorSafe: for each model, which may be searched reduced, and at which places a process may go alone, is what the document says; and the document's example holds. Conditions: none. -/
import Derived.Test.YtofdfaopabmfoaaM33
import Derived.Test.YtofdfaopabmfoaaM38
import Derived.Test.YtofdfaopabmfoaaM42
import Derived.ShutString
import Derived.ChangeOld
import Derived.ProofKit
import Derived.Lib.SmallJoins
namespace Go.Proofs.Ytofdfaopabmfoaa.porSafe
open Go.ChangeShapes Go.WideShapes Go.ChangeAt Go.RowKit
set_option linter.unusedVariables false

theorem own : ownKnob Try.prog.godebug = none := by kernel_rfl
theorem laidOut : laidOutB Try.prog = true := by kernel_rfl

set_option maxRecDepth 100000 in
set_option maxHeartbeats 4000000 in
theorem walk {h : MH} {m : ModelD} (w : World) (hmd : MD w.heap.size w h m) (hab : ArgsB m) (hsa : SArgsB m) : Calls Try.prog 3 #[mV h m] w fun e w' => e = .returned (.bool true) ∧ Below w.heap.size w w' := by
  obtain ⟨CS, hCS⟩ : ∃ c, c = mCells h m := ⟨_, rfl⟩
  have HX := Lib.hid (Mx.new hmd hCS)
  have HAB := Lib.hid hab
  have HSA := Lib.hid hsa
  have HAD := Lib.hid (fun (W : World) (hd : MD W.heap.size W h m) => admitsC W hd)
  have HSF := Lib.hid (fun (W : World) (hd : MD W.heap.size W h m) => safesC W hd)
  have HDA := Lib.hid (fun (W : World) (hd : MD W.heap.size W h m) => dAdmitsH W hd hab)
  have HDS := Lib.hid (fun (hg : GM m) (i k : Nat) (p : ProcD) (hp : m.procs[i]? = some p) (l : LocD) (hl : p.locs[k]? = some l) (W : World) (hd : MD W.heap.size W h m) => dSafeH hg hsa i k p hp l hl W hd)
  have l4 := hmd.procs.1
  unfold mV at HAD HSF HDA HDS ⊢
  rw [← hCS] at HAD HSF HDA HDS ⊢
  clear hmd hCS hab hsa
  go_enter Try.func3, Try.ntmps3
  go_upto_region 1 with fail
  generalize w.alloc (.cells CS 29) = W1 at HX ⊢
  go_wp2_with fail
  refine (shownC W1).mono ?_
  rintro e W2 ⟨rfl, hb2⟩
  have HX2 := Lib.hid (HX.out.below hb2)
  clear hb2 HX
  go_wp2_with (refine wpList_load_row rfl _ _ rfl _ rfl _ CS _ _ HX2.out.bx.box Try.underlying29 rfl HX2.out.info ?_)
  refine (HAD.out W2 HX2.out.here).mono ?_
  rintro e W3 ⟨rfl, hb3⟩
  have HX3 := Lib.hid (HX2.out.below hb3)
  clear hb3 HX2 HAD
  go_wp2_with (refine wpList_load_row rfl _ _ rfl _ rfl _ CS _ _ HX3.out.bx.box Try.underlying29 rfl HX3.out.info ?_)
  refine (HSF.out W3 HX3.out.here).mono ?_
  rintro e W4 hsp
  have HSP := Lib.hid hsp
  have HX4 := Lib.hid (HX3.out.below hsp.bel)
  clear hsp HSF
  by_cases ha : admE m = 0
  rotate_left
  · obtain rfl := HSP.out.no ha
    obtain ⟨a, hA⟩ : ∃ a, admE m = a := ⟨_, rfl⟩
    rw [hA] at ha HDA ⊢
    go_wp2_with (refine wpList_load_row rfl _ _ rfl _ rfl _ CS _ _ HX4.out.bx.box Try.underlying29 rfl HX4.out.info ?_)
    refine (HDA.out W4 HX4.out.here).mono ?_
    rintro e W5 ⟨rfl, hb5⟩
    have HX5 := Lib.hid (HX4.out.below hb5)
    have hb1 : (a != a) = false := by simp
    have hb2 : (a != 0) = true := by rw [bne_iff_ne]; exact ha
    clear hA ha hb5
    go_wp2_with fail
    go_ret
    exact ⟨rfl, HX5.out.bx.bel⟩
  obtain ⟨gR, cR, hgR, rfl, hRR⟩ := HSP.out.yes ha
  have HGM := Lib.hid (GM.of (adm_good ha))
  have hm16 := good_many (adm_good ha)
  rw [ha] at HDA ⊢
  have HRR := Lib.hid hRR
  clear hRR hgR ha HSP HX3
  go_wp2_with (refine wpList_load_row rfl _ _ rfl _ rfl _ CS _ _ HX4.out.bx.box Try.underlying29 rfl HX4.out.info ?_)
  refine (HDA.out W4 HX4.out.here).mono ?_
  rintro e W5 ⟨rfl, hb5⟩
  have HX5 := Lib.hid (HX4.out.below hb5)
  have HB5 : Hid (Below W4.heap.size W4 W5) := Lib.hid hb5
  clear hb5 HX4 HDA
  have c4 := HX5.out.c4
  go_wp2_with fail
  clear c4
  have HW : Hid (Below W4.heap.size W4 W5 ∧ Mx w w.heap.size CS h m W5) := Lib.hid ⟨HB5.out, HX5.out⟩
  clear HX5 HB5
  go_loopw [8] (fun iv W => ∃ k : Nat, iv = .int .i64 k ∧ k ≤ m.procs.length ∧ Hid (Below W4.heap.size W4 W ∧ Mx w w.heap.size CS h m W)) (fun iv _ => m.procs.length - (intOf iv).toNat)
  case atStart => exact ⟨0, rfl, by omega, HW⟩
  case round =>
    clear HW
    obtain ⟨k, rfl, hk, HW⟩ := hrel
    have hk0 : (0 : Int) ≤ k := by omega
    by_cases hlt : k < m.procs.length
    · have hlti : (k : Int) < m.procs.length := by omega
      obtain ⟨p, hp⟩ : ∃ p, m.procs[k]? = some p := ⟨_, List.getElem?_eq_getElem hlt⟩
      have HPK := Lib.hid hp
      have hmn := HGM.out.many hp
      obtain ⟨g, off, ho, hg, hat⟩ := HW.out.2.md.procs.get hp
      obtain ⟨lo, lc, d4, -⟩ := hat.locs
      have c4 := HW.out.2.c4
      rw [ho] at c4
      have hsl : (m.procs.map (safesL m))[k]? = some (safesL m p) := by rw [List.getElem?_map, hp]; rfl
      obtain ⟨gq, oq, hq1, hgq, gB, cB, hgB, hBc, hBr⟩ := HRR.out.get hsl
      injection hq1 with hq1
      injection hq1 with hq1 hq2
      subst hq1 hq2
      rw [Nat.zero_add, Nat.mul_one] at hBc
      have hln : (safesL m p).length = p.locs.length := by unfold safesL; rw [List.length_map]
      have HBR := Lib.hid hBr
      have HCC : Hid (∀ W, Below W4.heap.size W4 W → W.cell? ⟨gR, k, none⟩ = some (.slice (some ⟨gB, 0, none⟩) p.locs.length cB)) := Lib.hid fun W hb => by
        rw [← hln]; exact (hb.cell (p := ⟨gR, k, none⟩) hgq).trans hBc
      have r0 := HCC.out _ HW.out.1
      have HLN := Lib.hid hln
      have hbn : ((p.locs.length : Int) != (p.locs.length : Int)) = false := by simp
      clear ho hg hat hsl hgq hgB hBc hBr hln hp
      go_wp2_with fail
      go_quiet (fail)
      have HW2 : Hid (Below W4.heap.size W4 (wr.drewN nq) ∧ Mx w w.heap.size CS h m (wr.drewN nq)) := Lib.hid ⟨bdrew HW.out.1 nq, HW.out.2.below (bdrew (Below.refl _ wr) nq)⟩
      generalize wr.drewN nq = W6 at HW2 ⊢
      clear HW d4 c4 r0 hbn
      go_wp2_with fail
      go_loopw [9] (fun jv W => ∃ j : Nat, jv = .int .i64 j ∧ j ≤ p.locs.length ∧ Hid (Below W4.heap.size W4 W ∧ Mx w w.heap.size CS h m W)) (fun jv _ => p.locs.length - (intOf jv).toNat)
      case atStart => exact ⟨0, rfl, by omega, HW2⟩
      case round =>
        clear HW2
        obtain ⟨j, rfl, hj, HW⟩ := hrel
        have hj0 : (0 : Int) ≤ j := by omega
        have r0 := HCC.out _ HW.out.1
        by_cases hlj : j < p.locs.length
        · have hlji : (j : Int) < p.locs.length := by omega
          obtain ⟨l, hl⟩ : ∃ l, p.locs[j]? = some l := ⟨_, List.getElem?_eq_getElem hlj⟩
          have HLL := Lib.hid hl
          have hsj : (safesL m p)[j]? = some (safeLB m p l) := by unfold safesL; rw [List.getElem?_map, hl]; rfl
          obtain ⟨gq, oq, hq1, hgq, hbc⟩ := HBR.out.get hsj
          injection hq1 with hq1
          injection hq1 with hq1 hq2
          subst hq1 hq2
          rw [Nat.zero_add, Nat.mul_one] at hbc
          obtain ⟨u, hu⟩ : ∃ u, safeLB m p l = u := ⟨_, rfl⟩
          have HU := Lib.hid hu
          rw [hu] at hbc
          have HBV : Hid (∀ W, Below W4.heap.size W4 W → W.cell? ⟨gB, j, none⟩ = some (.bool u)) := Lib.hid fun W hb => (hb.cell (p := ⟨gB, j, none⟩) hgq).trans hbc
          clear hl hsj hgq hbc hu
          go_wp2_with fail
          refine wp_region_kept (by kernel_rfl) (by kernel_rfl) (fun ι hne f hf hcl => ?_)
          have KB := Lib.hid (fun n => HW.out.1.trans ((hf n).mono HW.out.1.size))
          have KM := Lib.hid (fun n => HW.out.2.below (hf n))
          have q0 := fun n => HCC.out _ (KB.out n)
          have q1 := fun n => HBV.out _ (KB.out n)
          have m0 := fun n => (KM.out n).c0
          have m1 := fun n => (KM.out n).c1
          have m2 := fun n => (KM.out n).c2
          have m3 := fun n => (KM.out n).c3
          have m4 := fun n => (KM.out n).c4
          have m5 := fun n => (KM.out n).c5
          have m6 := fun n => (KM.out n).c6
          have h9 := fun n => HDS.out HGM.out k j p HPK.out l HLL.out (f n) (KM.out n).here
          have hme : CS = mCells h m := HW.out.2.eq
          rw [hme, HU.out] at h9
          unfold mCells at h9
          have HC := Lib.hid h9
          have HF := Lib.hid hcl
          clear hcl hf h9 hme r0
          repeat (go_big_quiet_step ((go_at_call 9; with_reducible exact kept_of HF.out _ (HC.out _))))
          refine wpQuiet_nil ?_
          intro W8 hb8
          have HW8 : Hid (Below W4.heap.size W4 W8 ∧ Mx w w.heap.size CS h m W8) := Lib.hid ⟨HW.out.1.trans (hb8.mono HW.out.1.size), HW.out.2.below hb8⟩
          clear hb8 HC HF q0 q1 m0 m1 m2 m3 m4 m5 m6
          have hbu : (u != u) = false := by simp
          go_wp2_with fail
          go_roundw
          case rel => exact ⟨j + 1, by go_num, by omega, HW8⟩
          case measure => simp [intOf]; omega
        · have hlji : ¬ (j : Int) < p.locs.length := by omega
          go_wp2_with fail
          go_roundw
          case rel => exact ⟨k + 1, by go_num, by omega, HW⟩
          case measure => simp [intOf]; omega
    · have hlti : ¬ (k : Int) < m.procs.length := by omega
      go_wp2_with fail
      go_ret
      exact ⟨rfl, HW.out.2.bx.bel⟩

set_option maxRecDepth 100000 in
theorem lifted (os : Os) (started : os.Started) (H : Type) (enc : TypeId × Value → H) :
    ReturnsInHanded {} Try.checked os 3 .any (Rows.porSafeSpec.pre6 enc Try.prog Try.f3 Rows.porSafeRow.domain false) (Rows.porSafeSpec.post enc Try.prog Try.f3 false true false false) := by
  refine returnsInHanded_of_change_sized (C := Try.checked) own started (by kernel_rfl) Try.func3
    (ChangeSpec.witness6 (enc := enc) (C := Try.checked) false ⟨#[], #[.agg #[.slice none 0 0, .slice none 0 0, .slice none 0 0, .slice none 0 0, .slice none 0 0, .int .i64 0, .slice none 0 0]], []⟩ 8 (by kernel_rfl) (by kernel_rfl) (by kernel_rfl) (by kernel_rfl)) ?_
  intro W base args ds gs before hval0 hW _ hsz0 _
  have hsz : (DataW.weightsEach Try.prog (Try.f3.params.toList ++ Rows.porSafeSpec.plain.varTypes Try.prog) (ds ++ gs)).all (· ≤ reachBytes) = true := hsz0
  clear hsz0
  have hval : ∀ (j : Nat) t v, Try.f3.params[j]? = some t → args[j]? = some v → Value.okWide Try.prog W .any base t v := hval0
  have hW' := hW
  obtain ⟨p, q, hA0, hV, rfl, hfz, hnd⟩ := hW
  have hA : DataW.TrodAll enc Try.prog W 0 (fun _ => true) true Try.f3.params.toList args.toList ds p := hA0
  rw [Try.params3] at hA hval hsz
  obtain ⟨v0, vs0, d0, ds0, p0, q0, hargs, rfl, rfl, h0, r0⟩ := trodAll_cons hA
  obtain ⟨rfl, rfl, rfl⟩ := trodAll_nil r0
  obtain rfl : args = #[v0] := by cases args; simp_all
  obtain ⟨rfl, rfl⟩ := trodVars_none hV
  have k0 := h0
  have lt0 : ∀ x ∈ p0, x.block < W.heap.size := by obtain ⟨m, hm⟩ := k0; exact DataW.trod_lt m _ _ _ hm
  have w0 : Fits 29 d0 := fun k hk => by
    have := List.all_eq_true.1 hsz k (DataW.weights_mem_each (j := 0) rfl rfl k hk)
    simpa using this
  obtain ⟨h, m, rfl, hmd, hab, hsa⟩ := open_modelB (hval 0 29 v0 rfl rfl) h0 w0
  clear hA0 hval0 hsz
  refine (walk W hmd hab hsa).mono fun e W' ⟨he, bel⟩ => ?_
  subst he
  exact ⟨_, rfl, _, _, _, [], _, [], hW', trodAll_mk1 (shut_bool Try.underlying4 _), (trodAll_cons_mk (Below.trod laidOut (by kernel_rfl) (of_decide_eq_true (by kernel_rfl)) k0 bel lt0) trodAll_mk0), rfl, bel.frame _, fun h => by cases h⟩

theorem over : Rows.porSafeRow.holds Try.pinned (OpenSpec.ofChange Rows.porSafeSpec) :=
  OpenClaim.holds_of_wide 3 Try.f3 rfl rfl rfl rfl rfl rfl rfl ⟨rfl, rfl, rfl, rfl, rfl⟩ rfl rfl rfl rfl rfl (by kernel_rfl) Try.func3 (by kernel_rfl)
    (of_decide_eq_true (by kernel_rfl)) (by unfold Func.isWrapper; first | (rw [if_pos (by decide +kernel)]; kernel_rfl) | (rw [if_neg (by decide +kernel)]; exact ⟨rfl, rfl⟩))
    (fun os started H enc _ => lifted os started H enc)

theorem proved : Rows.PorSafeSaid := over
end Go.Proofs.Ytofdfaopabmfoaa.porSafe
namespace Go.Proofs.Ytofdfaopabmfoaa
theorem porSafe_holds : Rows.PorSafeSaid := porSafe.proved
#print axioms porSafe_holds
end Go.Proofs.Ytofdfaopabmfoaa
