/- What a proctype uses: one part more is left. -/
import Derived.Test.YtflfjbmbholloaaGUMem
import Derived.Deep.RegionLaw
import Derived.Deep.DrawnRows
namespace Go.Proofs.Ytflfjbmbholloaa
open Go.ChangeShapes Go.WideShapes Go.ChangeAt Go.RowKit
set_option linter.unusedVariables false
set_option linter.unusedSimpArgs false
attribute [local go_sem ↓] Go.wp_at_zero Go.wp_at_succ

theorem news_one {W : World} {B : Nat} {x : Int} {fr : Nat × Nat} (hb : W.heap[B]? = some (.cells #[.int .i64 x] 3 fr)) : ∀ j u, (leftV [x])[j]? = some u → W.cell? ((⟨B, 0, none⟩ : Addr).add j) = some u := fun j u hu => World.news_of_block hb j u hu
theorem one_left (x : Int) : ∀ u ∈ leftV [x], u.oneCell' = true := by
  intro u hu
  simp [leftV] at hu
  subst hu
  rfl
/-- Behind an append. -/
def Pushed (B p sb : Nat) (h : MH) (m : ModelD) (seen left : List Int) (W W' : World) : Prop := UJ B p sb h m seen left W' ∧ Gn B W W'
theorem push_put {B p sb g : Nat} {h : MH} {m : ModelD} {seen left left0 : List Int} {lv v lv2 : Value} {W W1 W2 : World} {q : Int} (k : UK B p sb h m seen left lv W) (hb : Below W.heap.size W W1) (hv : v.ownBlock = none ∨ v.ownBlock = lv.ownBlock)
    (hg : W1.grownBy W2 v.ownBlock) (own2 : W2.ownsRow B 3 1 lv2 (left0 ++ [q]).length (leftV (left0 ++ [q]))) (h2 : lv2.ownBlock = some g) (hat : v.ownBlock = some g ∨ g = W1.heap.size) : Pushed B p sb h m seen (left0 ++ [q]) W (W2.setCell ⟨p, 8, none⟩ lv2) := by
  have k1 := k.below hb
  have hsb : sb < W1.heap.size := (k1.rs.lt sb rfl).2
  have hne2 : lv2.ownBlock ≠ some sb := by
    rw [h2]
    intro e
    injection e with e
    rcases hat with h3 | h3
    · rcases hv with h4 | h4
      · rw [h4] at h3; cases h3
      · rw [h4] at h3; exact k.ne (by rw [h3, e])
    · omega
  have := k1.put hg hv own2 hne2
  exact ⟨⟨lv2, this.1⟩, (Gn.of hb k.leW).trans this.2⟩

set_option maxHeartbeats 4000000 in
set_option maxRecDepth 100000 in
theorem uses1C {B p sb bx : Nat} {h : MH} {m : ModelD} {seen left : List Int} (q : Int) (W : World) (hj : UJ B p sb h m seen left W) (hx : W.heap[bx]? = some (.cells #[.pointer (some ⟨p, 0, none⟩)] 58 (0, 0))) (hn : left.length ≤ 100000) :
    Calls Try.prog 32 #[.int .i64 q, .pointer (some ⟨bx, 0, none⟩)] W fun e W' => e = .returned (.tuple #[]) ∧ Pushed B p sb h m seen (left ++ [q]) W W' := by
  obtain ⟨lv, k⟩ := hj
  obtain ⟨i0, hi, hz0, hz1, hz2⟩ := info_parts info_int
  have HI := Lib.hid (And.intro hi (And.intro hz0 (And.intro hz1 hz2)))
  have HK := Lib.hid k
  have l1 : W.cell? ⟨bx, 0, none⟩ = some (.pointer (some ⟨p, 0, none⟩)) := (cell_of_row _ _ _ _ _ _ hx).trans rfl
  have l2 := k.c8
  have f2 := k.f8
  have HA : Hid (∀ w1, Below W.heap.size W w1 → w1.ownsRow B 3 1 lv left.length (leftV left) ∧ B ≤ w1.heap.size) := Lib.hid fun w1 hb => ⟨owns_below HK.out.row hb, Nat.le_trans HK.out.leW hb.size⟩
  have hxlt : bx < W.heap.size := lt_of_block hx
  have hplt : p < W.heap.size := k.lt
  have HX := Lib.hid hx
  clear hx
  clear hi hz0 hz1 hz2 k
  go_enter Try.func32, Try.ntmps32
  go_wp2_with fail
  go_region_law
    (refine step_append_lies _ rfl (.tmp 7) (.tmp 9) 25 rfl B 3 i0 (.int .i64 0) 1 8 Try.underlying25 HI.out.1 HI.out.2.1 HI.out.2.2.1 HI.out.2.2.2 rfl (by decide) lv left.length (leftV left) (by simp [Act.eval, Act.put]) (HA.out _ ((ball _).drew)).1 ⟨W.heap.size, 0, none⟩ 1 1 (leftV [q]) (by simp [Act.eval, Act.put]) rfl (news_one (heap_alloc_new _ _)) (one_left q) (by decide) (by unfold maxLen; omega) (by omega) (HA.out _ ((ball _).drew)).2 _ rfl ?_
     intro g cap w2 hown hgrow hat hlt
     have HP2 := Lib.hid (push_put (left0 := left) (q := q) HK.out ((ball _).drew) (.inr rfl) hgrow (by rw [List.length_append]; unfold leftV; rw [List.map_append]; exact hown) rfl hat)
     have HB : Hid (w2.heap[bx]? = some (.cells #[.pointer (some ⟨p, 0, none⟩)] 58 (0, 0))) := Lib.hid ((hgrow.block bx (Nat.lt_of_lt_of_le hxlt (ball _).drew.size) (owns_neObj HK.out.row HX.out (by decide)).symm).trans (((ball _).drew.block _ hxlt).trans HX.out))
     have HC : Hid (∃ cs, w2.heap[p]? = some (.cells cs 49 (0, 0)) ∧ cs[8]? = some lv) := Lib.hid ⟨_, (hgrow.block p (Nat.lt_of_lt_of_le hplt (ball _).drew.size) HK.out.lvp.symm).trans (((ball _).drew.block _ hplt).trans HK.out.kp), rfl⟩
     obtain ⟨cs, hc1, hc2⟩ := HC.out
     have k1 : w2.cell? ⟨bx, 0, none⟩ = some (.pointer (some ⟨p, 0, none⟩)) := (cell_of_row _ _ _ _ _ _ HB.out).trans rfl
     have k2 : w2.cell? ⟨p, 8, none⟩ = some lv := (cell_of_row _ _ _ _ _ _ hc1).trans hc2
     have k3 : w2.frozen? ⟨p, 8, none⟩ = false := frozen_of_row _ _ _ _ _ hc1
     clear hown hgrow hat hc1 hc2
     simp only [Act.put, List.setIfInBounds_toArray, List.set_cons_zero, List.set_cons_succ])
  all_goals (
    clear l1 l2 k1 k2 k3
    go_wp2_with fail
    first | go_end0 | skip
    exact ⟨rfl, HP2.out⟩)
theorem run_uses1 (args : Array Value) (w : World) : (callFunc 32 args).run Try.prog w = .ok (.enter 32 args) w := by
  have h1 : (Try.f32.name == "runtime.NumGoroutine") = false := by kernel_rfl
  have h2 : Try.f32.body.isNone = false := by kernel_rfl
  simp only [beq_eq_false_iff_ne, ne_eq] at h1
  have h3 : ¬ Try.f32.body = none := by
    intro e
    rw [e] at h2
    cases h2
  simp [callFunc, go_sem, Try.func32, h1, h3]
/-- What the pushing keeps, from w0 on. -/
structure PK (B p sb bx : Nat) (h : MH) (m : ModelD) (seen : List Int) (w0 : World) (left : List Int) (W : World) : Prop where
  uj : UJ B p sb h m seen left W
  box : W.heap[bx]? = some (.cells #[.pointer (some ⟨p, 0, none⟩)] 58 (0, 0))
  gn : Gn B w0 W
theorem doer2 (B p sb bx : Nat) (h : MH) (m : ModelD) (seen : List Int) (w0 : World) : Doer B 32 #[.pointer (some ⟨bx, 0, none⟩)] (fun l q => l ++ [q]) (PK B p sb bx h m seen w0) (fun l _ => l.length ≤ 100000) where
  call s W q k hs := (uses1C q W k.uj k.box hs).mono fun e W' ⟨h1, h2, h3⟩ => ⟨h1, ⟨h2, h3.oth _ _ _ _ (by decide) (by decide) k.box, k.gn.trans h3⟩, h3.bel, h3.size, fun b cs fr hb => h3.oth _ _ _ _ (by decide) (by decide) hb⟩
  below s W W' k hb := by
    obtain ⟨⟨lv, k1⟩, k2, k3⟩ := k
    exact ⟨⟨lv, k1.below hb⟩, (hb.block _ (lt_of_block k2)).trans k2, k3.trans (Gn.of hb k1.leW)⟩
  run := run_uses1
theorem fold_push (l s : List Int) : l.foldl (fun l q => l ++ [q]) s = s ++ l := by
  induction l generalizing s with
  | nil => simp
  | cons x r ih => rw [List.foldl_cons, ih, List.append_assoc]; rfl
end Go.Proofs.Ytflfjbmbholloaa
