/- The document's answer to which models may be run: the whole. -/
import Derived.Test.YtihkkjflfdbkkaaGreatDoorM32
import Derived.Test.YtihkkjflfdbkkaaGreatDoorM40
import Derived.Test.YtihkkjflfdbkkaaGreatDoorM39
namespace Go.Proofs.YtihkkjflfdbkkaaGreatDoor
open Go.ChangeShapes Go.WideShapes Go.ChangeAt Go.RowKit
set_option linter.unusedVariables false
set_option linter.unusedSimpArgs false

theorem retIII' {a b c a' b' c' : Int} (h1 : a = a') (h2 : b = b') (h3 : c = c') : Ending.returned (.tuple #[.int .i64 a, .int .i64 b, .int .i64 c]) = .returned (.tuple #[.int .i64 a', .int .i64 b', .int .i64 c']) := by rw [h1, h2, h3]
theorem Mx.tables {w W : World} {p : Nat} {CS : Array Value} {h : MH} {m : ModelD} (k : Mx w p CS h m W) (hab : ArgsB m) : Calls Tryz.prog 60 #[.agg CS] W fun e w' => e = .returned (.tuple #[.int .i64 (tablesF m).1, .int .i64 (tablesF m).2]) ∧ Below W.heap.size W w' := by
  rw [k.eq]
  exact tablesH W k.here hab
theorem Mx.table {w W : World} {p : Nat} {CS : Array Value} {h : MH} {m : ModelD} (k : Mx w p CS h m W) (i : Nat) (q : ProcD) (hq : m.procs[i]? = some q) : Calls Tryz.prog 61 #[.agg CS, .int .i64 i] W fun e w' => e = .returned (.bool (procB m (q, i))) ∧ Below W.heap.size W w' := by
  rw [k.eq, ← table_is]
  exact tableH i q hq W k.here
theorem Mx.ways {w W : World} {p : Nat} {CS : Array Value} {h : MH} {m : ModelD} (k : Mx w p CS h m W) (hx : EX m) (i : Nat) (q : ProcD) (hq : m.procs[i]? = some q) (hesc : ∀ l ∈ q.locs, l.esc.length ≤ 8) (hpv : q.provided < m.exprs.length) : Calls Tryz.prog 62 #[.agg CS, .int .i64 i] W fun e w' => e = .returned (.bool (dprocB m (q, i))) ∧ Below W.heap.size W w' := by
  rw [k.eq]
  exact waysH hx i q hq hesc hpv W k.here
theorem zip_at {m : ModelD} {i : Nat} {q : ProcD} (hq : m.procs[i]? = some q) : ∃ h : i < m.procs.zipIdx.length, m.procs.zipIdx[i] = (q, i) := by
  obtain ⟨hi, rfl⟩ := List.getElem?_eq_some_iff.1 hq
  exact ⟨by rw [List.length_zipIdx]; exact hi, by rw [List.getElem_zipIdx]; simp⟩
theorem dstat_bad {m : ModelD} : ∀ (l : List ProcD) (k i : Nat) (hi : i < l.length), (∀ j (hj : j < l.length), j < i → dprocB m (l[j], k + j) = true) → dprocB m (l[i], k + i) = false → dstatGo m (l.zipIdx k) = (((k + i : Nat) : Int), false)
  | [], k, i, hi, _, _ => by simp at hi
  | p :: r, k, 0, hi, _, h => by
    rw [List.zipIdx_cons]
    unfold dstatGo
    rw [if_neg (by simpa using h)]
    simp
  | p :: r, k, i + 1, hi, hj, h => by
    rw [List.zipIdx_cons]
    unfold dstatGo
    rw [if_pos (show dprocB m (p, k) = true from hj 0 (by simp) (by omega))]
    have := dstat_bad r (k + 1) i (by simpa using hi) (fun j hj2 hji => by
      have := hj (j + 1) (by simpa using hj2) (by omega)
      rw [show k + 1 + j = k + (j + 1) by omega]
      simpa using this) (by rw [show k + 1 + i = k + (i + 1) by omega]; simpa using h)
    rw [this, show k + 1 + i = k + (i + 1) by omega]
theorem dstat_ok {m : ModelD} : ∀ (l : List ProcD) (k : Nat), (∀ j (hj : j < l.length), dprocB m (l[j], k + j) = true) → dstatGo m (l.zipIdx k) = (0, true)
  | [], k, _ => rfl
  | p :: r, k, h => by
    rw [List.zipIdx_cons]
    unfold dstatGo
    rw [if_pos (show dprocB m (p, k) = true from h 0 (by simp))]
    exact dstat_ok r (k + 1) fun j hj => by
      have := h (j + 1) (by simpa using hj)
      rw [show k + 1 + j = k + (j + 1) by omega]
      simpa using this
/-- What a table that may be gives. -/
theorem procB_of {m : ModelD} {q : ProcD} {i : Nat} (h : procB m (q, i) = true) : (0 ≤ q.active ∧ q.active ≤ 16) ∧ q.provided < m.exprs.length ∧ ∀ l ∈ q.locs, l.esc.length ≤ 8 := by
  rw [← table_is] at h
  unfold dtableB at h
  simp only [Bool.and_eq_true] at h
  obtain ⟨⟨⟨⟨⟨h1, h2⟩, h3⟩, h4⟩, h5⟩, h6⟩ := h
  unfold dtabTail at h3
  rw [decide_eq_true_eq] at h3
  refine ⟨by omega, by omega, fun l hl => ?_⟩
  obtain ⟨j, hj, rfl⟩ := List.mem_iff_getElem.1 hl
  have hz : j < q.locs.zipIdx.length := by rw [List.length_zipIdx]; exact hj
  have h7 := List.all_eq_true.1 h5 _ (List.getElem_mem hz)
  rw [List.getElem_zipIdx] at h7
  unfold dtabLoc locHeadB at h7
  simp only [Bool.and_eq_true, Bool.not_eq_true', decide_eq_false_iff_not] at h7
  have := h7.1.1.1
  simp at this
  omega
theorem checkF_tab {m : ModelD} {a b : Int} (h : tablesF m = (a, b)) (ha : 0 < a) : checkL m = (40, a, b) := by
  unfold tablesF at h
  unfold checkL
  split at h
  · rename_i h1
    rw [if_pos h1]
    injection h with h2 h3
    rw [← h2, ← h3]
  · rename_i h1
    rw [if_neg h1]
    split at h
    · rename_i h4
      rw [if_pos h4]
      injection h with h2 h3
      rw [← h2, ← h3]
    · rename_i h4
      rw [if_neg h4]
      split at h
      · rename_i h5
        rw [if_pos h5]
        injection h with h2 h3
        rw [← h2, ← h3]
      · injection h with h2 h3
        omega
theorem checkF_rest {m : ModelD} {a b : Int} (h : tablesF m = (a, b)) (ha : ¬ 0 < a) : EX m ∧ m.procs.length ≤ 16 ∧ checkL m = if (procsL m).2 = false then (40, 4, (procsL m).1) else if (activeL m).2 = false then (40, 5, (activeL m).1) else if (statementsL m).2 = false then (40, 6, (statementsL m).1) else (0, 0, 0) := by
  unfold tablesF at h
  split at h
  · injection h with h2 h3; omega
  · rename_i h1
    split at h
    · injection h with h2 h3; omega
    · rename_i h4
      split at h
      · injection h with h2 h3; omega
      · rename_i h5
        have h6 : (expressionsL m).2 = true := by simpa using h5
        refine ⟨EX.of h6, ?_, ?_⟩
        · unfold expressionsL at h6
          split at h6
          · cases h6
          · rename_i hh
            unfold exprsHead at hh
            rw [decide_eq_true_eq] at hh
            omega
        · unfold checkL
          rw [if_neg h1, if_neg h4, if_neg h5]

set_option maxRecDepth 100000 in
set_option maxHeartbeats 8000000 in
theorem checkH {h : MH} {m : ModelD} (w : World) (hd : MD w.heap.size w h m) (hab : ArgsB m) : Calls Tryz.prog 27 #[mV h m] w fun e w' => e = .returned (.tuple #[.int .i64 (checkL m).1, .int .i64 (checkL m).2.1, .int .i64 (checkL m).2.2]) ∧ Below w.heap.size w w' := by
  obtain ⟨CS, hCS⟩ : ∃ c, c = mCells h m := ⟨_, rfl⟩
  have l4 := hd.procs.1
  have HAB := Lib.hid hab
  have HX := Lib.hid (Mx.new hd hCS)
  have HT : Hid (∀ a b c, checkL m = (a, b, c) → Ending.returned (.tuple #[.int .i64 a, .int .i64 b, .int .i64 c]) = .returned (.tuple #[.int .i64 (checkL m).1, .int .i64 (checkL m).2.1, .int .i64 (checkL m).2.2])) := Lib.hid fun a b c h => by rw [h]
  unfold mV
  rw [← hCS]
  clear hd hCS hab
  go_enter Tryz.func27, Tryz.ntmps27
  go_upto_region 1 with fail
  generalize w.alloc (.cells CS 29) = W1 at HX ⊢
  go_wp2_with (refine wpList_load_row rfl _ _ rfl _ rfl _ CS _ _ HX.out.bx.box Tryz.underlying29 rfl HX.out.info ?_)
  refine (HX.out.tables HAB.out).mono ?_
  rintro e W2 ⟨rfl, hb2⟩
  have HX2 := Lib.hid (HX.out.below hb2)
  clear hb2 HX
  obtain ⟨a, b, htf⟩ : ∃ a b, tablesF m = (a, b) := ⟨_, _, rfl⟩
  rw [htf]
  simp only
  by_cases ha : 0 < a
  · have HZ := Lib.hid (checkF_tab htf ha)
    clear htf
    go_wp2_with fail
    go_ret3
    exact ⟨HT.out _ _ _ HZ.out, HX2.out.bx.bel⟩
  obtain ⟨hx, h16, hck⟩ := checkF_rest htf ha
  have HEX := Lib.hid hx
  have HCK := Lib.hid hck
  clear htf hx hck
  go_wp2_with fail
  go_loopw [7, 8] (fun mv iv wr => ∃ (k : Nat) (M : Int), mv = .int .i64 M ∧ iv = .int .i64 k ∧ k ≤ m.procs.length ∧ 0 ≤ M ∧ M ≤ k * 16 ∧ Hid (M = ((m.procs.take k).map (·.active)).sum) ∧ Hid (∀ j (hj : j < m.procs.zipIdx.length), j < k → procB m m.procs.zipIdx[j] = true) ∧ Hid (Mx w w.heap.size CS h m wr)) (fun _ iv _ => m.procs.length - (intOf iv).toNat)
  case atStart => exact ⟨0, 0, rfl, rfl, by omega, by omega, by omega, Lib.hid rfl, Lib.hid fun j _ h => by omega, HX2⟩
  case round =>
    clear HX2
    obtain ⟨k, M, rfl, rfl, hk, hM0, hM1, HM, HJ, HX⟩ := hrel
    have hk0 : (0 : Int) ≤ k := by omega
    have c4 := HX.out.c4
    by_cases hlt : k < m.procs.length
    · have hlti : (k : Int) < m.procs.length := by omega
      obtain ⟨q, hq⟩ : ∃ q, m.procs[k]? = some q := ⟨_, List.getElem?_eq_getElem hlt⟩
      have HTB := Lib.hid (HX.out.table k q hq)
      obtain ⟨hz, hzk⟩ := zip_at hq
      have HBAD : Hid (procB m (q, k) = false → checkL m = (40, 4, (k : Int))) := Lib.hid fun h => by
        have e := bad_some hz (by rw [hzk]; exact h) HJ.out
        have e2 : procsL m = ((k : Int), false) := by unfold procsL; rw [e]; rfl
        rw [HCK.out, e2]
        rfl
      have HGO : Hid (procB m (q, k) = true → ∀ j (hj : j < m.procs.zipIdx.length), j < k + 1 → procB m m.procs.zipIdx[j] = true) := Lib.hid fun h j hj hjk => by
        by_cases e : j = k
        · subst e; rw [hzk]; exact h
        · exact HJ.out j hj (by omega)
      have HQ := Lib.hid hq
      have HSM : Hid (((m.procs.take (k + 1)).map (·.active)).sum = M + q.active) := Lib.hid (by
        have e : m.procs[k] = q := (List.getElem?_eq_some_iff.1 hq).2
        rw [List.take_succ_eq_append_getElem hlt, List.map_append, List.sum_append, ← HM.out, e]
        simp)
      clear hq hz hzk HJ
      go_wp2_with (refine wpList_load_row rfl _ _ rfl _ rfl _ CS _ _ HX.out.bx.box Tryz.underlying29 rfl HX.out.info ?_)
      refine HTB.out.mono ?_
      rintro e W3 ⟨rfl, hb3⟩
      have HX3 := Lib.hid (HX.out.below hb3)
      clear hb3 HTB HX c4
      cases hu : procB m (q, k)
      · have HZ := Lib.hid (HBAD.out hu)
        clear hu
        go_wp2_with fail
        go_ret3
        exact ⟨HT.out _ _ _ HZ.out, HX3.out.bx.bel⟩
      · have HZ := Lib.hid (HGO.out hu)
        obtain ⟨⟨a0, a1⟩, -, -⟩ := procB_of hu
        obtain ⟨g, off, ho, hg, hpa⟩ := HX3.out.md.procs.get HQ.out
        have c4 := HX3.out.c4
        rw [ho] at c4
        obtain ⟨A, hA⟩ : ∃ A, q.active = A := ⟨_, rfl⟩
        have e7 := hpa.c7
        rw [hA] at e7 a0 a1 HSM
        clear hu ho hg hpa hA
        go_wp2_with fail
        go_roundw
        case rel => exact ⟨k + 1, M + A, by go_num, by go_num, by omega, by omega, by omega, Lib.hid HSM.out.symm, HZ, HX3⟩
        case measure => simp [intOf]; omega
    · have hlti : ¬ (k : Int) < m.procs.length := by omega
      have HPR : Hid (∀ j q, m.procs[j]? = some q → procB m (q, j) = true) := Lib.hid fun j q hq => by
        obtain ⟨hz, hzk⟩ := zip_at hq
        have := HJ.out j hz (by rw [List.length_zipIdx] at hz; omega)
        rw [hzk] at this
        exact this
      have HC1 : Hid (checkL m = if (activeL m).2 = false then (40, 5, (activeL m).1) else if (statementsL m).2 = false then (40, 6, (statementsL m).1) else (0, 0, 0)) := Lib.hid (by
        have e : procsL m = (0, true) := by
          unfold procsL
          rw [bad_none fun j hj => HJ.out j hj (by rw [List.length_zipIdx] at hj; omega)]
          rfl
        rw [HCK.out, e]
        rfl)
      have HAC : Hid (activeL m = (-1, decide (M ≤ 16))) := Lib.hid (by
        have h1 := HM.out
        rw [List.take_of_length_le (by omega)] at h1
        unfold activeL activeS
        rw [h1])
      clear HJ HCK HM
      by_cases hm : 16 < M
      · have HZ : Hid (checkL m = (40, 5, -1)) := Lib.hid (by rw [HC1.out, HAC.out, decide_eq_false (by omega)]; rfl)
        go_wp2_with fail
        go_ret3
        exact ⟨HT.out _ _ _ HZ.out, HX.out.bx.bel⟩
      have HC2 : Hid (checkL m = if (dstatGo m m.procs.zipIdx).2 = false then (40, 6, (dstatGo m m.procs.zipIdx).1) else (0, 0, 0)) := Lib.hid (by rw [HC1.out, HAC.out, decide_eq_true (by omega), statements_is HEX.out]; rfl)
      clear HC1 HAC
      go_wp2_with fail
      clear c4
      go_loopw [10] (fun iv wr => ∃ k : Nat, iv = .int .i64 k ∧ k ≤ m.procs.length ∧ Hid (∀ j (hj : j < m.procs.length), j < k → dprocB m (m.procs[j], j) = true) ∧ Hid (Mx w w.heap.size CS h m wr)) (fun iv _ => m.procs.length - (intOf iv).toNat)
      case atStart => exact ⟨0, rfl, by omega, Lib.hid fun j _ h => by omega, HX⟩
      case round =>
        clear HX
        obtain ⟨k2, rfl, hk2, HJ, HX⟩ := hrel
        have hk20 : (0 : Int) ≤ k2 := by omega
        have c4 := HX.out.c4
        by_cases hlt2 : k2 < m.procs.length
        · have hlti2 : (k2 : Int) < m.procs.length := by omega
          obtain ⟨q, hq⟩ : ∃ q, m.procs[k2] = q := ⟨_, rfl⟩
          have hq2 : m.procs[k2]? = some q := by rw [List.getElem?_eq_getElem hlt2, hq]
          obtain ⟨-, p1, p2⟩ := procB_of (HPR.out k2 q hq2)
          have HWY := Lib.hid (HX.out.ways HEX.out k2 q hq2 p2 p1)
          have HBAD : Hid (dprocB m (q, k2) = false → checkL m = (40, 6, (k2 : Int))) := Lib.hid fun h => by
            have e := dstat_bad m.procs 0 k2 hlt2 (fun j hj hjk => by rw [Nat.zero_add]; exact HJ.out j hj hjk) (by rw [Nat.zero_add, hq]; exact h)
            rw [HC2.out, e, Nat.zero_add]
            rfl
          have HGO : Hid (dprocB m (q, k2) = true → ∀ j (hj : j < m.procs.length), j < k2 + 1 → dprocB m (m.procs[j], j) = true) := Lib.hid fun h j hj hjk => by
            by_cases e : j = k2
            · subst e; rw [hq]; exact h
            · exact HJ.out j hj (by omega)
          clear hq hq2 p1 p2 HJ
          go_wp2_with (refine wpList_load_row rfl _ _ rfl _ rfl _ CS _ _ HX.out.bx.box Tryz.underlying29 rfl HX.out.info ?_)
          refine HWY.out.mono ?_
          rintro e W3 ⟨rfl, hb3⟩
          have HX3 := Lib.hid (HX.out.below hb3)
          clear hb3 HWY HX c4
          obtain ⟨u, hu⟩ : ∃ u, dprocB m (q, k2) = u := ⟨_, rfl⟩
          rw [hu] at HBAD HGO
          rw [hu]
          clear hu
          cases u
          · have HZ := Lib.hid (HBAD.out rfl)
            go_wp2_with fail
            go_ret3
            exact ⟨HT.out _ _ _ HZ.out, HX3.out.bx.bel⟩
          · have HZ := Lib.hid (HGO.out rfl)
            go_wp2_with fail
            go_roundw
            case rel => exact ⟨k2 + 1, by go_num, by omega, HZ, HX3⟩
            case measure => simp [intOf]; omega
        · have hlti2 : ¬ (k2 : Int) < m.procs.length := by omega
          have HZ : Hid (checkL m = (0, 0, 0)) := Lib.hid (by
            rw [HC2.out, dstat_ok m.procs 0 fun j hj => by rw [Nat.zero_add]; exact HJ.out j hj (by omega)]
            rfl)
          go_wp2_with fail
          go_ret3
          exact ⟨HT.out _ _ _ HZ.out, HX.out.bx.bel⟩
/-- The document's May of a model. -/
theorem mayH {h : MH} {m : ModelD} (w : World) (hd : MD w.heap.size w h m) (hab : ArgsB m) : Calls Tryz.prog 14 #[mV h m] w fun e w' => e = .returned (.bool ((checkL m).1 == 0)) ∧ Below w.heap.size w w' := by
  have HC := Lib.hid (fun (W : World) (hd : MD W.heap.size W h m) => checkH W hd hab)
  obtain ⟨CS, hCS⟩ : ∃ c, c = mCells h m := ⟨_, rfl⟩
  have HX := Lib.hid (Mx.new hd hCS)
  unfold mV at HC ⊢
  rw [← hCS] at HC ⊢
  clear hd hCS hab
  go_enter Tryz.func14, Tryz.ntmps14
  go_upto_region 1 with fail
  generalize w.alloc (.cells CS 29) = W1 at HX ⊢
  go_wp2_with (refine wpList_load_row rfl _ _ rfl _ rfl _ CS _ _ HX.out.bx.box Tryz.underlying29 rfl HX.out.info ?_)
  refine (HC.out W1 HX.out.here).mono ?_
  rintro e W2 ⟨rfl, hb2⟩
  have HX2 := Lib.hid (HX.out.below hb2)
  clear hb2 HX
  go_wp2_with fail
  go_ret
  exact ⟨rfl, HX2.out.bx.bel⟩
end Go.Proofs.YtihkkjflfdbkkaaGreatDoor
