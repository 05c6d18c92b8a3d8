/- A message put into the midst of the row, where there is room; all roads together. -/
import Derived.Test.YtfcoljioojidnaaInsert
namespace Go.Proofs.Ytfcoljioojidnaa
open Go.ChangeShapes Go.WideShapes Go.ChangeAt Go.RowKit
set_option linter.unusedVariables false
set_option linter.unusedSimpArgs false

theorem shape_of {w : World} {b : Nat} {cs : Array Value} {T : TypeId} {fr : Nat × Nat} (h : w.heap[b]? = some (.cells cs T fr)) : w.shape? b = some (T, cs.size) := by
  unfold World.shape?
  rw [h]

set_option maxHeartbeats 4000000 in
set_option maxRecDepth 100000 in
theorem insert_room (B k g : Nat) (n i c : Nat) (T : TypeId) (xs : List Value) (u : SL) (w : World) (h : w.ownsRow B 29 1 (.slice (some ⟨g, 0, none⟩) n c) n xs) (h1c : ∀ v ∈ xs, v.oneCell' = true) (hi : i < n) (hc : n + 1 ≤ c) (hkb : w.heap[k]? = some (.cells #[slV u] T (0, 0))) (hkg : k ≠ g) (hB : B ≤ w.heap.size) (hbig : (n + 1) * 24 ≤ 140737488355328) :
    Calls Try.prog 24 #[.slice (some ⟨g, 0, none⟩) n c, .int .i64 i, .slice (some ⟨k, 0, none⟩) 1 1] w fun e w' => ∃ t, e = .returned (slV t) ∧ w'.ownsRow B 29 1 (slV t) (n + 1) (xs.take i ++ [slV u] ++ xs.drop i) ∧ w.grownBy w' (some g) := by
  have hlen : xs.length = n := by simpa using h.1
  have hk : w.cell? ⟨k, 0, none⟩ = some (slV u) := (cell_of_row _ _ _ _ _ _ hkb).trans rfl
  obtain ⟨zs, hzl, hzt, hzc, ho⟩ : ∃ zs : List Value, zs.length = n + 1 ∧ zs.take i = xs.take i ∧ (∀ j, j < n → zs[j]? = xs[j]?) ∧ w.ownsRow B 29 1 (.slice (some ⟨g, 0, none⟩) (n + 1) c) (n + 1) zs ∧ c ≤ maxLen ∧ ∃ cur, w.heap[g]? = some (.cells cur 29 (0, 0)) ∧ cur.size = c := by
    rcases h.2 with ⟨e, _⟩ | ⟨g', cap, cur, e, hb, hg, hnc, hcm, hcs, ht⟩
    · cases e
    · injection e with e1 e2 e3
      injection e1 with e1
      injection e1 with e1
      subst e1 e3
      refine ⟨cur.toList.take (n + 1), by rw [List.length_take, Array.length_toList]; omega, ?_, ?_, ⟨by rw [List.length_take, Array.length_toList]; omega, .inr ⟨g, c, cur, rfl, hb, hg, hc, hcm, hcs, by rw [Nat.mul_one]⟩⟩, hcm, cur, hg, by omega⟩
      · rw [← ht, List.take_take, List.take_take]
        congr 1
        omega
      · intro j hj
        rw [← ht, List.getElem?_take, List.getElem?_take, if_pos (by omega), if_pos (by omega)]
  obtain ⟨ho, hcm, cur, hgc, hcs⟩ := ho
  have hov : ∀ o lb cb, (callFunc 29 #[.slice (some ⟨k, 0, none⟩) 1 1, .slice (some ⟨g, o, none⟩) lb cb]).run Try.prog w = .ok (.value (.bool false)) w := fun o lb cb => by
    rw [run_callFunc_extern Try.func29 (by kernel_rfl) (by kernel_rfl) (by kernel_rfl) (e := Extern.SlicesOverlaps.overlaps #[25, 25] #[4]) (by kernel_rfl),
      Lib.run_overlaps_apart w 25 4 29 Try.underlying25 1 (fun w => Try.sizeOf29 w) ⟨k, 0, none⟩ ⟨g, o, none⟩ 1 1 lb cb hkg T 29 _ _ (shape_of hkb) (shape_of hgc) (by omega) (frozen_of_row _ _ _ _ _ hkb) (frozen_of_row _ _ _ _ _ hkb)]
    rfl
  have hdl : (xs.drop i).length = n - i := by rw [List.length_drop, hlen]
  have h2 := owns_over (xs.drop i) (i + 1) _ _ _ _ _ _ ho.drew
  obtain ⟨W1, hW1⟩ : ∃ W1, W1 = w.drew.setCells g (i + 1) (xs.drop i) := ⟨_, rfl⟩
  have hcA : ∀ ty dc sc, (Builtin.copy_ #[25, 25] ty #[.slice (some ⟨g, i + 1, none⟩) (n - i) dc, .slice (some ⟨g, i, none⟩) (n + 1 - i) sc]).run Try.prog w.drew = .ok (goInt (n - i : Nat)) W1 := fun ty dc sc => by
    rw [hW1, ← hdl]
    refine run_copy_own ho.drew (i + 1) (xs.drop i).length dc ⟨g, i, none⟩ (n + 1 - i) sc (xs.drop i) (Nat.min_eq_right (by omega)).symm (by omega) (fun j v hj => ?_) (fun v hv => h1c v (List.mem_of_mem_drop hv)) ty
    rw [Addr.add_lit]
    rw [List.getElem?_drop] at hj
    have hjn : i + j < n := by
      rcases Nat.lt_or_ge (i + j) n with h' | h'
      · exact h'
      · rw [List.getElem?_eq_none (by omega)] at hj; cases hj
    exact (h.cellAt (i + j) (by omega)).trans hj
  rw [← hW1] at h2
  have h3 := owns_over [slV u] i _ _ _ _ _ _ h2.1
  obtain ⟨W2, hW2⟩ : ∃ W2, W2 = W1.setCells g i [slV u] := ⟨_, rfl⟩
  have hkw : k < w.heap.size := World.block_lt_of_cell? w _ hk
  have hcB : ∀ ty dc, (Builtin.copy_ #[25, 25] ty #[.slice (some ⟨g, i, none⟩) (n + 1 - i) dc, .slice (some ⟨k, 0, none⟩) 1 1]).run Try.prog W1 = .ok (goInt 1) W2 := fun ty dc => by
    rw [hW2]
    refine run_copy_own h2.1 i (n + 1 - i) dc ⟨k, 0, none⟩ 1 1 [slV u] (Nat.min_eq_left (show 1 ≤ n + 1 - i by omega)).symm (by simp; omega) (fun j v hj => ?_) (fun v hv => by rw [List.mem_singleton.1 hv]; rfl) ty
    rw [Addr.add_lit]
    cases j with
    | zero =>
      simp only [List.getElem?_cons_zero, Option.some.injEq] at hj
      rw [← hj]
      exact (World.cell?_of_block (w := w) (h2.2.block k hkw (by intro e; cases e; exact hkg rfl))).trans hk
    | succ j => simp at hj
  rw [← hW2] at h3
  have hfin : W2.ownsRow B 29 1 (.slice (some ⟨g, 0, none⟩) (n + 1) c) (n + 1) (xs.take i ++ [slV u] ++ xs.drop i) := by
    have := h3.1
    rw [over_two' _ hlen hzl hi hzt] at this
    exact this
  have hgr : w.grownBy W2 (some g) := ⟨h3.2.os.trans h2.2.os, h3.2.tape.trans h2.2.tape, h3.2.output.trans h2.2.output, Nat.le_trans h2.2.size h3.2.size, fun q hq hne => (h3.2.block q (Nat.lt_of_lt_of_le hq h2.2.size) hne).trans (h2.2.block q hq hne)⟩
  have HF := Lib.hid (And.intro hfin hgr)
  have HCA := Lib.hid hcA
  have HCB := Lib.hid hcB
  have hc63 : c ≤ 9223372036854775807 := hcm
  have hci : ¬ (c = i) := by omega
  have hci1 : ¬ (c = i + 1) := by omega
  have hcn : ¬ (c < n + 1) := by omega
  have hne : ¬ ((i : Int) = (n : Int)) := by omega
  have hw1 : IntKind.i64.wrap ((i : Int) + 1) = (i : Int) + 1 := by rw [IntKind.wrap_i64]; omega
  have hp1 : (0 : Int) ≤ (i : Int) + 1 := by omega
  have hp2 : ((i : Int) + 1).toNat = i + 1 := by omega
  have hin : i ≤ n := by omega
  have hin' : (i : Int) ≤ (n : Int) := by omega
  have hin1 : i ≤ n + 1 := by omega
  have hin2 : (i : Int) ≤ (n : Int) + 1 := by omega
  clear hdl hcA h2 hW1 h3 hW2 hcB hfin hgr h1c h hk hkb hzl hzt hzc ho hcm hgc hcs hkw
  go_enter Try.func24, Try.ntmps24
  go_wp2_with (simp only [hov])
  go_region_law (refine step_copy_runI rfl _ _ 25 25 rfl (.slice (some ⟨g, i + 1, none⟩) (n - i) (c - (i + 1))) (.slice (some ⟨g, i, none⟩) (n + 1 - i) (c - i)) (by simp [Act.eval, Act.put]) (by simp [Act.eval, Act.put]) (HCA.out _ _ _) ?_)
  all_goals (
    clear hov
    go_wp2_with (refine wpList_copy_runI _ rfl _ _ 25 25 rfl _ _ rfl rfl (HCB.out _ _) ?_)
    go_ret
    exact ⟨⟨_, _, _⟩, rfl, HF.out⟩)

/-- Wherever it is put. -/
theorem insert24 (B k : Nat) (o : Option Addr) (n c i : Nat) (T : TypeId) (xs : List Value) (u : SL) (w : World) (h : w.ownsRow B 29 1 (.slice o n c) n xs) (h1c : ∀ v ∈ xs, v.oneCell' = true) (hi : i ≤ n) (hkb : w.heap[k]? = some (.cells #[slV u] T (0, 0))) (hko : ∀ a, o = some a → k ≠ a.block) (hB : B ≤ w.heap.size) (hbig : (n + 1) * 24 ≤ 140737488355328) :
    Calls Try.prog 24 #[.slice o n c, .int .i64 i, .slice (some ⟨k, 0, none⟩) 1 1] w fun e w' => ∃ t, e = .returned (slV t) ∧ w'.ownsRow B 29 1 (slV t) (n + 1) (xs.take i ++ [slV u] ++ xs.drop i) ∧ w.grownBy w' (Value.slice o n c).ownBlock := by
  have hk : w.cell? ⟨k, 0, none⟩ = some (slV u) := (cell_of_row _ _ _ _ _ _ hkb).trans rfl
  have hlen : xs.length = n := by simpa using h.1
  by_cases hin : i = n
  · subst hin
    refine (insert_end B k o i c xs u w h hk hB hbig).mono ?_
    rintro e w' ⟨t, rfl, ho, hg⟩
    refine ⟨t, rfl, ?_, hg⟩
    rw [List.take_of_length_le (by omega), List.drop_eq_nil_of_le (by omega), List.append_nil]
    exact ho
  · obtain ⟨g, cap, hg⟩ := Joins.ownsRow_form h (by omega)
    injection hg with e1 e2 e3
    subst e1 e3
    have hnc : n ≤ c := by
      rcases h.2 with ⟨e, _⟩ | ⟨g', cap', cur, e, hb, hg, hnc, hcm, hcs, ht⟩
      · cases e
      · injection e with e1 e2 e3
        omega
    by_cases hcn : c = n
    · subst hcn
      refine (insert_grow B k g c i xs u w h h1c (by omega) hk hB hbig).mono ?_
      rintro e w' ⟨t, rfl, ho, hb⟩
      exact ⟨t, rfl, ho, hb.os, hb.tape, hb.output, hb.size, fun k hk _ => hb.block k hk⟩
    · refine (insert_room B k g n i c T xs u w h h1c (by omega) (by omega) hkb (hko _ rfl) hB hbig).mono ?_
      rintro e w' ⟨t, rfl, ho, hg⟩
      exact ⟨t, rfl, ho, hg⟩
end Go.Proofs.Ytfcoljioojidnaa
