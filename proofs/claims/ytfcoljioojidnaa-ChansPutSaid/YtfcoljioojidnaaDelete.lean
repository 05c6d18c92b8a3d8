/- A message taken out of the row. -/
import Derived.Test.YtfcoljioojidnaaInsert2
namespace Go.Proofs.Ytfcoljioojidnaa
open Go.ChangeShapes Go.WideShapes Go.ChangeAt Go.RowKit
set_option linter.unusedVariables false
set_option linter.unusedSimpArgs false

theorem owns_cut {W : World} {B g n c k : Nat} {xs : List Value} (h : W.ownsRow B 29 1 (.slice (some ⟨g, 0, none⟩) n c) n xs) (hk : k ≤ n) : W.ownsRow B 29 1 (.slice (some ⟨g, 0, none⟩) k c) k (xs.take k) := by
  have hl : xs.length = n := by simpa using h.1
  rcases h.2 with ⟨e, _⟩ | ⟨g', cap, cur, e, hb, hg, hnc, hcm, hcs, ht⟩
  · cases e
  · injection e with e1 e2 e3
    injection e1 with e1
    injection e1 with e1
    subst e1 e3
    refine ⟨by rw [List.length_take]; omega, .inr ⟨g, c, cur, rfl, hb, hg, by omega, hcm, hcs, ?_⟩⟩
    rw [← ht, List.take_take]
    congr 1
    omega

set_option maxHeartbeats 4000000 in
set_option maxRecDepth 100000 in
theorem delete26 (B g : Nat) (n i c : Nat) (xs : List Value) (w : World) (h : w.ownsRow B 29 1 (.slice (some ⟨g, 0, none⟩) n c) n xs) (h1c : ∀ v ∈ xs, v.oneCell' = true) (hi : i < n) (hn63 : n ≤ 9223372036854775806) :
    Calls Try.prog 26 #[.slice (some ⟨g, 0, none⟩) n c, .int .i64 i, .int .i64 ((i : Int) + 1)] w fun e w' => ∃ t, e = .returned (slV t) ∧ w'.ownsRow B 29 1 (slV t) (n - 1) (xs.take i ++ xs.drop (i + 1)) ∧ w.grownBy w' (some g) := by
  have hlen : xs.length = n := by simpa using h.1
  obtain ⟨hnc, hcm⟩ : n ≤ c ∧ c ≤ maxLen := by
    rcases h.2 with ⟨e, _⟩ | ⟨g', cap, cur, e, hb, hg, hnc, hcm, hcs, ht⟩
    · cases e
    · injection e with e1 e2 e3
      omega
  obtain ⟨i29, hi29, hz0, hsz, hby⟩ := info_parts info29
  have hdl : (xs.drop (i + 1)).length = n - (i + 1) := by rw [List.length_drop, hlen]
  have h2 := owns_over (xs.drop (i + 1)) i _ _ _ _ _ _ h.drew
  have ho : over xs i (xs.drop (i + 1)) = xs.take i ++ xs.drop (i + 1) ++ xs.drop (n - 1) := by
    rw [over_eq _ _ _ (by omega), hdl]
    congr 2
    omega
  rw [ho] at h2
  obtain ⟨W1, hW1⟩ : ∃ W1, W1 = w.drew.setCells g i (xs.drop (i + 1)) := ⟨_, rfl⟩
  rw [← hW1] at h2
  have hlast : (xs.take i ++ xs.drop (i + 1) ++ xs.drop (n - 1)).length = n := by
    simp only [List.length_append, List.length_take, List.length_drop]
    omega
  obtain ⟨z, hz⟩ : ∃ z, W1.cell? ⟨g, n - 1, none⟩ = some z := Option.isSome_iff_exists.1 (row_some h2.1 (n - 1) (by omega))
  have hzf : W1.frozen? ⟨g, n - 1, none⟩ = false := h2.1.frozenAt _
  have h3 := h2.1.stored (n - 1) (.slice none 0 0)
  have h4 := owns_cut h3.1 (show n - 1 ≤ n by omega)
  have hfin : (W1.setCell ⟨g, n - 1, none⟩ (.slice none 0 0)).ownsRow B 29 1 (.slice (some ⟨g, 0, none⟩) (n - 1) c) (n - 1) (xs.take i ++ xs.drop (i + 1)) := by
    have e : ((xs.take i ++ xs.drop (i + 1) ++ xs.drop (n - 1)).set (n - 1) (.slice none 0 0)).take (n - 1) = xs.take i ++ xs.drop (i + 1) := by
      rw [List.take_set_of_le (Nat.le_refl _), List.take_append_of_le_length (by simp only [List.length_append, List.length_take, List.length_drop]; omega), List.take_of_length_le (by simp only [List.length_append, List.length_take, List.length_drop]; omega)]
    rw [e] at h4
    exact h4
  have hgr : w.grownBy (W1.setCell ⟨g, n - 1, none⟩ (.slice none 0 0)) (some g) := ⟨h3.2.os.trans h2.2.os, h3.2.tape.trans h2.2.tape, h3.2.output.trans h2.2.output, Nat.le_trans h2.2.size h3.2.size, fun q hq hne => (h3.2.block q (Nat.lt_of_lt_of_le hq h2.2.size) hne).trans (h2.2.block q hq hne)⟩
  have HF := Lib.hid (And.intro hfin hgr)
  have hsrc : ∀ j v, (xs.drop (i + 1))[j]? = some v → w.drew.cell? ((⟨g, i + 1, none⟩ : Addr).add j) = some v := by
    intro j v hj
    rw [Addr.add_lit]
    rw [List.getElem?_drop] at hj
    have hjn : i + 1 + j < n := by
      rcases Nat.lt_or_ge (i + 1 + j) n with h' | h'
      · exact h'
      · rw [List.getElem?_eq_none (by omega)] at hj; cases hj
    exact (h.cellAt _ (by omega)).trans hj
  have hsp : ∀ j, j < (xs.drop (i + 1)).length → (w.drew.cell? ⟨g, 0 + i * 1 + j, none⟩).isSome = true ∧ w.drew.frozen? ⟨g, 0 + i * 1 + j, none⟩ = false := fun j hj => ⟨by rw [show 0 + i * 1 + j = i + j by omega]; exact row_some h.drew _ (by omega), h.drew.frozenAt _⟩
  have hW1' : w.drew.setCells g (0 + i * 1) (xs.drop (i + 1)) = W1 := by rw [hW1, Nat.zero_add, Nat.mul_one]
  have h1d : ∀ u ∈ xs.drop (i + 1), u.oneCell' = true := fun u hu => h1c u (List.mem_of_mem_drop hu)
  have HI := Lib.hid (And.intro hi29 hsz)
  have HS := Lib.hid (And.intro hsrc (And.intro hsp (And.intro h1d (And.intro hdl hW1'))))
  have hc63 : c ≤ 9223372036854775807 := hcm
  have hci : ¬ (c = i) := by omega
  have hin : i ≤ n := by omega
  have hin' : (i : Int) ≤ (n : Int) := by omega
  have hp1 : (0 : Int) ≤ (i : Int) + 1 := by omega
  have hp2 : ((i : Int) + 1).toNat = i + 1 := by omega
  have hp3 : (i : Int) + 1 ≤ n := by omega
  have hp4 : ¬ ((i : Int) = (i : Int) + 1) := by omega
  have hp5 : i + 1 ≤ n := by omega
  clear hlen hi29 hz0 hsz hby hdl h2 ho hW1 hlast h3 h4 hfin hgr hsrc hsp hW1' h1d h h1c hcm
  obtain ⟨k, hk⟩ : ∃ k, n - 1 = k := ⟨_, rfl⟩
  have HE : Hid (i + (n - (i + 1)) = k) := Lib.hid (by omega)
  rw [hk] at hz hzf HF ⊢
  have hk1 : n - k = 1 := by omega
  have hkn : k ≤ n := by omega
  have hkn' : (k : Int) ≤ (n : Int) := by omega
  have hck : ¬ (c = k) := by omega
  have hkc : k ≤ c := by omega
  have hnc' : (n : Int) ≤ (c : Int) := by omega
  clear hk
  have hcl : ∀ ty cc, (Builtin.clear_ #[25] ty #[.slice (some ⟨g, k, none⟩) 1 cc]).run Try.prog W1 = .ok (.tuple #[]) (W1.setCell ⟨g, k, none⟩ (.slice none 0 0)) := fun ty cc =>
    Lib.run_clear_slice W1 25 29 ty (.slice none 0 0) Try.underlying25 (fun w => Try.zeroValue29 w) rfl rfl g k 1 cc (by omega) (fun j hj => by
      obtain rfl : j = 0 := by omega
      rw [Nat.add_zero, hz]
      rfl) (fun j hj => by
      obtain rfl : j = 0 := by omega
      exact hzf)
  have hic : i ≤ c := by omega
  have hic' : (i : Int) ≤ (c : Int) := by omega
  by_cases hce : c = i + 1
  · obtain rfl : n = i + 1 := by omega
    obtain rfl : k = i := by omega
    subst hce
    have hx0 : xs.drop (k + 1) = [] := List.eq_nil_of_length_eq_zero (by rw [HS.out.2.2.2.1]; omega)
    have hW0 : w.drew.setCells g (0 + k * 1) [] = W1 := by rw [← HS.out.2.2.2.2, hx0]
    have HW0 := Lib.hid hW0
    have hq1 : (k : Int) ≤ (k : Int) + 1 := by omega
    have hq2 : k ≤ k + 1 := by omega
    clear hx0 hW0
    go_enter Try.func26, Try.ntmps26
    go_wp2_with fail
    go_region_law (refine step_append_room rfl (.tmp 22) (.tmp 25) 25 rfl 29 i29 1 Try.underlying25 HI.out.1 HI.out.2 g 0 k (k + 1) (by simp [Act.eval, Act.put]) ⟨g, 0, none⟩ 0 0 [] (by simp [Act.eval, Act.put]) rfl (fun _ _ h => by simp at h) (fun _ h => by simp at h) (by omega) (fun _ h => by simp at h) ?_; rw [HW0.out])
    all_goals (
      go_wp2_with fail
      go_ret
      exact ⟨⟨_, _, _⟩, rfl, HF.out⟩)
  · go_enter Try.func26, Try.ntmps26
    go_wp2_with fail
    go_region_law (refine step_append_room rfl (.tmp 22) (.tmp 25) 25 rfl 29 i29 1 Try.underlying25 HI.out.1 HI.out.2 g 0 i c (by simp [Act.eval, Act.put]) ⟨g, i + 1, none⟩ (n - (i + 1)) (c - (i + 1)) (xs.drop (i + 1)) (by simp [Act.eval, Act.put]) (by rw [HS.out.2.2.2.1, Nat.mul_one]) HS.out.1 HS.out.2.2.1 (by omega) HS.out.2.1 ?_; rw [HS.out.2.2.2.2, HE.out])
    all_goals (
      go_wp2_with fail
      go_ret
      exact ⟨⟨_, _, _⟩, rfl, HF.out⟩)
end Go.Proofs.Ytfcoljioojidnaa
