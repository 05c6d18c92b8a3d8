/- The program's Take. -/
import Derived.Test.YtfcoljioojidnaaPut
import Derived.Test.YtfcoljioojidnaaDelete
namespace Go.Proofs.Ytfcoljioojidnaa
open Go.ChangeShapes Go.WideShapes Go.ChangeAt Go.RowKit
set_option linter.unusedVariables false
set_option linter.unusedSimpArgs false

theorem take_two (w : World) (o1 o2 : Obj) : ((w.alloc o1).alloc o2).heap[w.heap.size]? = some o1 ∧ ((w.alloc o1).alloc o2).heap[w.heap.size + 1]? = some o2 ∧ Below w.heap.size w ((w.alloc o1).alloc o2) := by
  refine ⟨?_, ?_, ((Below.refl _ w).alloc (Nat.le_refl _) _).alloc (by simp) _⟩
  · rw [Below.heap_alloc _ _ _ (by simp)]
    exact heap_alloc_new w _
  · rw [show w.heap.size + 1 = (w.alloc o1).heap.size by simp]
    exact heap_alloc_new _ _

set_option maxHeartbeats 4000000 in
set_option maxRecDepth 100000 in
theorem take_none (r at' : Int) (s : SL) (w : World) (h : at' < 0 ∨ (s.n : Int) ≤ at') (hn : s.n ≤ 9223372036854775807) :
    Calls Try.prog 14 #[chV r s, .int .i64 at'] w fun e w' => e = .returned (.tuple #[chV 0 ⟨none, 0, 0⟩, slV ⟨none, 0, 0⟩, .int .i64 46]) ∧ Below w.heap.size w w' := by
  obtain ⟨so, sn, sc⟩ := s
  simp only at h hn
  unfold chV slV
  simp only
  by_cases hneg : at' < 0
  · clear h
    go_enter Try.func14, Try.ntmps14
    go_wp2_with fail
    refine bodyPost_ret (v := .tuple #[.agg #[.int .i64 0, .slice none 0 0], .slice none 0 0, .int .i64 46]) (by simp [results, Try.results14, go_sem]) rfl ?_
    exact ⟨rfl, (take_two w _ _).2.2⟩
  · have hge : (sn : Int) ≤ at' := h.resolve_left hneg
    clear h
    go_enter Try.func14, Try.ntmps14
    go_wp2_with fail
    refine bodyPost_ret (v := .tuple #[.agg #[.int .i64 0, .slice none 0 0], .slice none 0 0, .int .i64 46]) (by simp [results, Try.results14, go_sem]) rfl ?_
    exact ⟨rfl, (take_two w _ _).2.2⟩

structure TM (w : World) (r : Int) (s : Value) (g n c : Nat) (M : List SL) (Q : List (List Int)) (W : World) : Prop where
  row : W.ownsRow w.heap.size 29 1 (.slice (some ⟨g, 0, none⟩) n c) n (M.map slV)
  own : OwnZ W w.heap.size (M.zip Q)
  chn : W.heap[w.heap.size]? = some (.cells #[.int .i64 r, s] 27 (0, 0))
  res : W.heap[w.heap.size + 1]? = some (.cells #[.int .i64 0, .slice none 0 0] 27 (0, 0))
  bel : Below w.heap.size w W
theorem TM.start {w W w3 : World} {r : Int} {g n c : Nat} {M : List SL} {Q : List (List Int)} {s : Value} (hchn : w3.heap[w.heap.size]? = some (.cells #[.int .i64 r, s] 27 (0, 0))) (hres : w3.heap[w.heap.size + 1]? = some (.cells #[.int .i64 0, .slice none 0 0] 27 (0, 0))) (hb : Below w.heap.size w w3) (ho : w3.ownsRow W.heap.size 29 1 (.slice (some ⟨g, 0, none⟩) n c) n (M.map slV)) (hw : w.heap.size ≤ W.heap.size) (hown : Owns w3 W.heap.size M Q M.length) (v : Value) :
    TM w r v g n c M Q ((w3.setCell ⟨w.heap.size, 0, none⟩ (.int .i64 r)).setCell ⟨w.heap.size, 1, none⟩ v) := by
  have g1 := owns_neObj ho hchn (by decide)
  refine ⟨?_, ?_, ?_, ?_, ?_⟩
  · exact owns_set (owns_set (Joins.ownsRow_le ho hw) _ _ g1) _ _ g1
  · refine hown.toZ.mono fun v n xs h => ?_
    have g3 := owns_neObj h hchn (by decide)
    exact owns_set (owns_set (Joins.ownsRow_le h hw) _ _ g3) _ _ g3
  · rw [heap_setCell_same _ _ _ _ _ _ (heap_setCell_same _ _ _ _ _ _ hchn)]
    rfl
  · rw [heap_setCell_other _ _ _ _ (by show w.heap.size + 1 ≠ w.heap.size; omega), heap_setCell_other _ _ _ _ (by show w.heap.size + 1 ≠ w.heap.size; omega)]
    exact hres
  · exact (hb.setCell (Nat.le_refl _) _).setCell (Nat.le_refl _) _
theorem TM.done {w W w5 : World} {r : Int} {s : Value} {g n c k : Nat} {M : List SL} {Q : List (List Int)} {t : Value} {xs : List Value} (h : TM w r s g n c M Q W) (ho : w5.ownsRow w.heap.size 29 1 t k xs) (hg : W.grownBy w5 (some g)) (u v x : Value) :
    (((w5.setCell ⟨w.heap.size, 1, none⟩ u).setCell ⟨w.heap.size + 1, 0, none⟩ v).setCell ⟨w.heap.size + 1, 1, none⟩ x).ownsRow w.heap.size 29 1 t k xs ∧ OwnZ (((w5.setCell ⟨w.heap.size, 1, none⟩ u).setCell ⟨w.heap.size + 1, 0, none⟩ v).setCell ⟨w.heap.size + 1, 1, none⟩ x) w.heap.size (M.zip Q) ∧ Below w.heap.size w (((w5.setCell ⟨w.heap.size, 1, none⟩ u).setCell ⟨w.heap.size + 1, 0, none⟩ v).setCell ⟨w.heap.size + 1, 1, none⟩ x) := by
  have hchn := obj_grown h.row h.chn (by decide) hg
  have hres := obj_grown h.row h.res (by decide) hg
  have hs : ∀ {v0 : Value} {e : TypeId} {n : Nat} {xs : List Value}, e ≠ 27 → w5.ownsRow w.heap.size e 1 v0 n xs → (((w5.setCell ⟨w.heap.size, 1, none⟩ u).setCell ⟨w.heap.size + 1, 0, none⟩ v).setCell ⟨w.heap.size + 1, 1, none⟩ x).ownsRow w.heap.size e 1 v0 n xs := fun he hh =>
    owns_set (owns_set (owns_set hh _ _ (owns_neObj hh hchn he)) _ _ (owns_neObj hh hres he)) _ _ (owns_neObj hh hres he)
  refine ⟨hs (by decide) ho, h.own.mono fun _ _ _ hh => hs (by decide) (owns_grown hh h.row (by decide) hg), ?_⟩
  refine (((h.bel.grown hg h.bel.size (fun q hq => (h.row.lt q hq).1)).setCell ?_ _).setCell ?_ _).setCell ?_ _
  all_goals (simp only []; omega)

set_option maxHeartbeats 4000000 in
set_option maxRecDepth 100000 in
theorem take_some (r : Int) (i : Nat) (s : SL) (L : List SL) (Q : List (List Int)) (w : World) (hs : s.n = L.length) (hi : i < L.length) (hR : QRow w s.o L) (hM : Msgs w L Q) (hbig : L.length * 24 ≤ 140737488355328) (hbq : ∀ q ∈ Q, q.length * 8 ≤ 140737488355328) :
    Calls Try.prog 14 #[chV r s, .int .i64 i] w fun e w' => ∃ t M, ∃ h : i < M.length, e = .returned (.tuple #[chV r t, slV M[i], .int .i64 0]) ∧ M.length = L.length ∧ w'.ownsRow w.heap.size 29 1 (slV t) (L.length - 1) ((M.map slV).take i ++ (M.map slV).drop (i + 1)) ∧ Owns w' w.heap.size M Q L.length ∧ Below w.heap.size w w' := by
  have HR := Lib.hid hR
  have HM := Lib.hid hM
  have HBQ := Lib.hid hbq
  have hi0 : ¬ (i : Int) < 0 := by omega
  have hin : ¬ (L.length : Int) ≤ i := by omega
  have hil : (i : Int) < L.length := by omega
  obtain ⟨so, sn, sc⟩ := s
  simp only at hs
  subst hs
  have T2 := Lib.hid (take_two w (Obj.cells #[.int .i64 r, .slice so L.length sc] 27) (Obj.cells #[.int .i64 0, .slice none 0 0] 27))
  clear hR hM hbq
  unfold chV slV
  simp only at HR ⊢
  go_enter Try.func14, Try.ntmps14
  go_wp2_with fail
  obtain ⟨W, hW⟩ : ∃ W, (w.alloc (Obj.cells #[.int .i64 r, .slice so L.length sc] 27)).alloc (Obj.cells #[.int .i64 0, .slice none 0 0] 27) = W := ⟨_, rfl⟩
  rw [hW] at T2 ⊢
  clear hW
  refine (copied23 r ⟨so, L.length, sc⟩ L Q W rfl (HR.out.below T2.out.2.2) (HM.out.below T2.out.2.2) hbig HBQ.out).mono ?_
  rintro e w3 ⟨⟨o3, n3, c3⟩, M, rfl, hn3, hML, ho3, hown, hbel⟩
  simp only at hn3
  subst hn3
  obtain ⟨g, cap, hg⟩ := Joins.ownsRow_form ho3 (by omega)
  unfold slV at hg
  injection hg with e1 e2 e3
  simp only at e1 e3
  subst e1 e3
  have hchn := (hbel.block _ (lt_of_block T2.out.1)).trans T2.out.1
  have hres := (hbel.block _ (lt_of_block T2.out.2.1)).trans T2.out.2.1
  have HTM := Lib.hid (TM.start hchn hres (T2.out.2.2.trans (hbel.mono T2.out.2.2.size)) ho3 T2.out.2.2.size (by rw [hML]; exact hown) (.slice (some ⟨g, 0, none⟩) L.length c3))
  have HML := Lib.hid hML
  have hgb : ¬ (g = w.heap.size) := fun e => owns_neObj ho3 hchn (by decide) (by rw [e]; rfl)
  have hMi : i < M.length := by omega
  obtain ⟨⟨mo, mn, mc⟩, hmi⟩ : ∃ s, M[i] = s := ⟨_, rfl⟩
  have l1 : w3.cell? ⟨g, i, none⟩ = some (.slice mo mn mc) := by
    refine (World.ownsRow.cellAt ho3 i (by omega)).trans ?_
    rw [List.getElem?_map, List.getElem?_eq_getElem hMi, hmi]
    rfl
  have HMI : Hid (∃ h : i < M.length, M[i] = ⟨mo, mn, mc⟩) := Lib.hid ⟨hMi, hmi⟩
  have s1 : w3.cell? ⟨w.heap.size, 0, none⟩ = some (.int .i64 r) := (cell_of_row _ _ _ _ _ _ hchn).trans rfl
  have s2 : w3.cell? ⟨w.heap.size, 1, none⟩ = some (.slice so L.length sc) := (cell_of_row _ _ _ _ _ _ hchn).trans rfl
  have s3 : w3.frozen? ⟨w.heap.size, 0, none⟩ = false := frozen_of_row _ _ _ _ _ hchn
  have s4 : w3.frozen? ⟨w.heap.size, 1, none⟩ = false := frozen_of_row _ _ _ _ _ hchn
  clear ho3 hown hbel hML hchn hres hMi hmi
  simp only [chV, slV]
  have hwi : IntKind.i64.wrap ((i : Int) + 1) = (i : Int) + 1 := by rw [IntKind.wrap_i64]; omega
  go_wp2_with fail
  have HIN := Lib.hid (delete26 w.heap.size g L.length i c3 (M.map slV) _ HTM.out.row (slV_one M) hi (by omega))
  refine HIN.out.mono ?_
  rintro e w5 ⟨⟨t1, tn, tc1⟩, rfl, ho5, hg5⟩
  have HD := Lib.hid (fun u v x => HTM.out.done ho5 hg5 u v x)
  have hc1 := obj_grown HTM.out.row HTM.out.chn (by decide) hg5
  have hc2 := obj_grown HTM.out.row HTM.out.res (by decide) hg5
  have v1 : w5.cell? ⟨w.heap.size, 0, none⟩ = some (.int .i64 r) := (cell_of_row _ _ _ _ _ _ hc1).trans rfl
  have v2 : w5.cell? ⟨w.heap.size, 1, none⟩ = some (.slice (some ⟨g, 0, none⟩) L.length c3) := (cell_of_row _ _ _ _ _ _ hc1).trans rfl
  have v3 : w5.frozen? ⟨w.heap.size, 1, none⟩ = false := frozen_of_row _ _ _ _ _ hc1
  have v4 : w5.cell? ⟨w.heap.size + 1, 0, none⟩ = some (.int .i64 0) := (cell_of_row _ _ _ _ _ _ hc2).trans rfl
  have v5 : w5.cell? ⟨w.heap.size + 1, 1, none⟩ = some (.slice none 0 0) := (cell_of_row _ _ _ _ _ _ hc2).trans rfl
  have v6 : w5.frozen? ⟨w.heap.size + 1, 0, none⟩ = false := frozen_of_row _ _ _ _ _ hc2
  have v7 : w5.frozen? ⟨w.heap.size + 1, 1, none⟩ = false := frozen_of_row _ _ _ _ _ hc2
  clear ho5 hg5 hc1 hc2 s1 s2 s3 s4 l1
  simp only [slV]
  go_wp2_with fail
  refine bodyPost_ret (v := .tuple #[.agg #[.int .i64 r, .slice t1 tn tc1], .slice mo mn mc, .int .i64 0]) (by simp [results, Try.results14, go_sem, v4, v5, v6, v7]) rfl ?_
  obtain ⟨hM1, hM2⟩ := HMI.out
  have hd := HD.out (.slice t1 tn tc1) (.int .i64 r) (.slice t1 tn tc1)
  exact ⟨⟨t1, tn, tc1⟩, M, hM1, by rw [hM2], HML.out, hd.1, Owns.ofZ hd.2.1, hd.2.2⟩
end Go.Proofs.Ytfcoljioojidnaa
