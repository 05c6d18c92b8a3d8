/- Check at the small models. -/
import Derived.Test.YtpbhplooikammaaChk
import Derived.Test.YtpbhplooikammaaFit
import Derived.Laws.EntriesVeiled
namespace Go.Proofs.Ytpbhplooikammaa
open Go.ChangeShapes Go.WideShapes Go.ChangeAt Go.RowKit

theorem info51 : (Try.prog.info? 51).map (fun i => (i.zero, i.size, i.bytes)) = some (some .nilFunc, 1, 8) := by kernel_rfl
theorem ix (cs : Array Value) (k : Nat) (v : Value) (hk : k < 6) (w : World) (h : cs[k]? = some v) : (Instr.index 52 (.agg cs) (.int .i64 (k : Int))).run Try.prog w = .ok v w := by
  have hi : (0 : Int) ≤ k ∧ (k : Int) < 6 := by omega
  have hs : ∀ w, (sizeOf 51).run Try.prog w = .ok 1 w := fun w => by
    obtain ⟨i, hi⟩ : ∃ i, Try.prog.info? 51 = some i := by
      have := info51
      cases h : Try.prog.info? 51 with
      | none => rw [h] at this; cases this
      | some i => exact ⟨i, rfl⟩
    have h2 := info51
    rw [hi] at h2
    simp at h2
    simp [sizeOf, typeInfo, hi, h2.2.1, go_sem]
  simp [Instr.index, asIntOf, run_underlying Try.underlying52, hi, hs, go_sem]
  rw [if_pos hk, h]
  rfl

/-- A proctype with one place, in memory. -/
structure Sm (w : World) (q r : Nat) (pr : Int) : Prop where
  q0 : w.cell? ⟨q, 0, none⟩ = some (.string ByteArray.empty)
  q1 : w.cell? ⟨q, 1, none⟩ = some (.int .i64 0)
  q2 : w.cell? ⟨q, 2, none⟩ = some (.slice none 0 0)
  q3 : w.cell? ⟨q, 3, none⟩ = some (.slice none 0 0)
  q4 : w.cell? ⟨q, 4, none⟩ = some (.slice (some ⟨r, 0, none⟩) 1 1)
  q5 : w.cell? ⟨q, 5, none⟩ = some (.int .i64 0)
  q6 : w.cell? ⟨q, 6, none⟩ = some (.int .i64 0)
  q7 : w.cell? ⟨q, 7, none⟩ = some (.int .i64 0)
  q8 : w.cell? ⟨q, 8, none⟩ = some (.int .i64 pr)
  q9 : w.cell? ⟨q, 9, none⟩ = some (.int .i64 (-1))
  r0 : w.cell? ⟨r, 0, none⟩ = some (.slice none 0 0)
  r1 : w.cell? ⟨r, 1, none⟩ = some (.slice none 0 0)
  r2 : w.cell? ⟨r, 2, none⟩ = some (.bool false)
  r3 : w.cell? ⟨r, 3, none⟩ = some (.bool false)
  r4 : w.cell? ⟨r, 4, none⟩ = some (.bool false)
  r5 : w.cell? ⟨r, 5, none⟩ = some (.bool false)
  r6 : w.cell? ⟨r, 6, none⟩ = some (.bool false)
  qs : q < w.heap.size
  rs : r < w.heap.size
theorem Sm.below {w w' : World} {q r : Nat} {pr : Int} (h : Sm w q r pr) (hb : Below w.heap.size w w') : Sm w' q r pr := by
  have hq : ∀ i, w'.cell? ⟨q, i, none⟩ = w.cell? ⟨q, i, none⟩ := fun i => hb.cell h.qs
  have hr : ∀ i, w'.cell? ⟨r, i, none⟩ = w.cell? ⟨r, i, none⟩ := fun i => hb.cell h.rs
  have hs := hb.size
  have h1 := h.qs
  have h2 := h.rs
  obtain ⟨q0, q1, q2, q3, q4, q5, q6, q7, q8, q9, r0, r1, r2, r3, r4, r5, r6, qs, rs⟩ := h
  constructor
  all_goals (try rw [hq])
  all_goals (try rw [hr])
  all_goals (try assumption)
  all_goals omega
theorem Ck.of {w : World} {p q r : Nat} {pr : Int} (h : Sm w q r pr) (hq : q < p) (hr : r < p) (ho : w.heap[p]? = some (.cells #[.slice none 0 0, .slice none 0 0, .slice none 0 0, .slice none 0 0, .slice (some ⟨q, 0, none⟩) 1 1, .int .i64 (-1), .slice none 0 0, .slice none 0 0, .slice none 0 0] 50 (0, 0))) : Ck w p q r pr := by
  have hp : ∀ i, w.cell? ⟨p, i, none⟩ = _ := fun i => cell_of_row _ _ i _ _ _ ho
  have hf : w.frozen? ⟨p, 7, none⟩ = false := frozen_of_row _ _ _ _ _ ho
  have hs := lt_of_block ho
  obtain ⟨q0, q1, q2, q3, q4, q5, q6, q7, q8, q9, r0, r1, r2, r3, r4, r5, r6, qs, rs⟩ := h
  constructor
  all_goals (try assumption)
  all_goals (try (rw [hp]; rfl))
  exact ⟨_, (hp 7).trans rfl⟩

set_option maxRecDepth 100000 in
theorem check_0 (w : World) : Calls Try.prog 11 #[.agg #[.slice none 0 0, .slice none 0 0, .slice none 0 0, .slice none 0 0, .slice none 0 0, .int .i64 (0), .slice none 0 0]] w fun e w' => e = .returned (.tuple #[.int .i64 40, .int .i64 3, .int .i64 (-1)]) ∧ Below w.heap.size w w' := by
  have hmf : ∀ (fn : Fn) (first cap : Array Value) (w : World), (Instr.makeFunc fn first cap).run Try.prog w = .ok (.func fn first cap) w := fun _ _ _ _ => rfl
  have hx0 : ∀ (a b c d e f : Value) (w : World), (Instr.index 52 (.agg #[a, b, c, d, e, f]) (.int .i64 0)).run Try.prog w = .ok a w := fun _ _ _ _ _ _ _ => ix _ 0 _ (by decide) _ rfl
  have hx1 : ∀ (a b c d e f : Value) (w : World), (Instr.index 52 (.agg #[a, b, c, d, e, f]) (.int .i64 1)).run Try.prog w = .ok b w := fun _ _ _ _ _ _ _ => ix _ 1 _ (by decide) _ rfl
  have hx2 : ∀ (a b c d e f : Value) (w : World), (Instr.index 52 (.agg #[a, b, c, d, e, f]) (.int .i64 2)).run Try.prog w = .ok c w := fun _ _ _ _ _ _ _ => ix _ 2 _ (by decide) _ rfl
  have hx3 : ∀ (a b c d e f : Value) (w : World), (Instr.index 52 (.agg #[a, b, c, d, e, f]) (.int .i64 3)).run Try.prog w = .ok d w := fun _ _ _ _ _ _ _ => ix _ 3 _ (by decide) _ rfl
  have hx4 : ∀ (a b c d e f : Value) (w : World), (Instr.index 52 (.agg #[a, b, c, d, e, f]) (.int .i64 4)).run Try.prog w = .ok e w := fun _ _ _ _ _ _ _ => ix _ 4 _ (by decide) _ rfl
  have hx5 : ∀ (a b c d e f : Value) (w : World), (Instr.index 52 (.agg #[a, b, c, d, e, f]) (.int .i64 5)).run Try.prog w = .ok f w := fun _ _ _ _ _ _ _ => ix _ 5 _ (by decide) _ rfl
  have HB : Hid (Below w.heap.size w (((w.alloc (.cells #[.slice none 0 0, .slice none 0 0, .slice none 0 0, .slice none 0 0, .slice none 0 0, .int .i64 (0), .slice none 0 0] 42)).alloc (.cells #[.slice none 0 0, .slice none 0 0, .slice none 0 0, .slice none 0 0, .slice none 0 0, .int .i64 (0), .slice none 0 0, .slice none 0 0, .slice none 0 0] 50)).alloc (.cells #[.func (.func 13) #[.pointer (some ⟨w.heap.size + 1, 0, none⟩)] #[], .func (.func 14) #[.pointer (some ⟨w.heap.size + 1, 0, none⟩)] #[], .func (.func 15) #[.pointer (some ⟨w.heap.size + 1, 0, none⟩)] #[], .func (.func 16) #[.pointer (some ⟨w.heap.size + 1, 0, none⟩)] #[], .func (.func 17) #[.pointer (some ⟨w.heap.size + 1, 0, none⟩)] #[], .func (.func 18) #[.pointer (some ⟨w.heap.size + 1, 0, none⟩)] #[]] 52))) := Lib.hid ((((Below.refl _ _).alloc (Nat.le_refl _) _).alloc (by simp) _).alloc (by simp; omega) _)
  have HO : Hid ((((w.alloc (.cells #[.slice none 0 0, .slice none 0 0, .slice none 0 0, .slice none 0 0, .slice none 0 0, .int .i64 (0), .slice none 0 0] 42)).alloc (.cells #[.slice none 0 0, .slice none 0 0, .slice none 0 0, .slice none 0 0, .slice none 0 0, .int .i64 (0), .slice none 0 0, .slice none 0 0, .slice none 0 0] 50)).alloc (.cells #[.func (.func 13) #[.pointer (some ⟨w.heap.size + 1, 0, none⟩)] #[], .func (.func 14) #[.pointer (some ⟨w.heap.size + 1, 0, none⟩)] #[], .func (.func 15) #[.pointer (some ⟨w.heap.size + 1, 0, none⟩)] #[], .func (.func 16) #[.pointer (some ⟨w.heap.size + 1, 0, none⟩)] #[], .func (.func 17) #[.pointer (some ⟨w.heap.size + 1, 0, none⟩)] #[], .func (.func 18) #[.pointer (some ⟨w.heap.size + 1, 0, none⟩)] #[]] 52)).heap[w.heap.size + 1]? = some (.cells #[.slice none 0 0, .slice none 0 0, .slice none 0 0, .slice none 0 0, .slice none 0 0, .int .i64 (0), .slice none 0 0, .slice none 0 0, .slice none 0 0] 50 (0, 0))) := Lib.hid (by
    rw [Below.heap_alloc _ _ _ (by simp)]
    have h := heap_alloc_new (w.alloc (.cells #[.slice none 0 0, .slice none 0 0, .slice none 0 0, .slice none 0 0, .slice none 0 0, .int .i64 (0), .slice none 0 0] 42)) (.cells #[.slice none 0 0, .slice none 0 0, .slice none 0 0, .slice none 0 0, .slice none 0 0, .int .i64 (0), .slice none 0 0, .slice none 0 0, .slice none 0 0] 50)
    rw [World.size_alloc] at h
    exact h)
  go_enter Try.func11, Try.ntmps11
  go_wp2_with fail
  refine wp_loop_rounds 7 ?_
  have hW : ∃ W, ((w.alloc (.cells #[.slice none 0 0, .slice none 0 0, .slice none 0 0, .slice none 0 0, .slice none 0 0, .int .i64 (0), .slice none 0 0] 42)).alloc (.cells #[.slice none 0 0, .slice none 0 0, .slice none 0 0, .slice none 0 0, .slice none 0 0, .int .i64 (0), .slice none 0 0, .slice none 0 0, .slice none 0 0] 50)).alloc (.cells #[.func (.func 13) #[.pointer (some ⟨w.heap.size + 1, 0, none⟩)] #[], .func (.func 14) #[.pointer (some ⟨w.heap.size + 1, 0, none⟩)] #[], .func (.func 15) #[.pointer (some ⟨w.heap.size + 1, 0, none⟩)] #[], .func (.func 16) #[.pointer (some ⟨w.heap.size + 1, 0, none⟩)] #[], .func (.func 17) #[.pointer (some ⟨w.heap.size + 1, 0, none⟩)] #[], .func (.func 18) #[.pointer (some ⟨w.heap.size + 1, 0, none⟩)] #[]] 52) = W := ⟨_, rfl⟩
  obtain ⟨W, hW⟩ := hW
  rw [hW] at HB HO
  rw [hW]
  have HS : Hid (w.heap.size + 1 < W.heap.size) := Lib.hid (lt_of_block HO.out)
  clear hW
  have hc : ∀ (w' : World), Below W.heap.size W w' → ∀ i, w'.cell? ⟨w.heap.size + 1, i, none⟩ = (#[.slice none 0 0, .slice none 0 0, .slice none 0 0, .slice none 0 0, .slice none 0 0, .int .i64 (0), .slice none 0 0, .slice none 0 0, .slice none 0 0] : Array Value)[i]? := fun w' hb i => by
    rw [hb.cell HS.out, cell_of_row _ _ _ _ _ _ HO.out]
  have HC := Lib.hid hc
  clear hc
  have HB0 : Hid (Below W.heap.size W W) := Lib.hid (Below.refl _ _)
  rw [rounds_succ]
  go_wp2_with fail
  refine (globals_0 _ _ (HC.out _ HB0.out 0) (HC.out _ HB0.out 1)).mono ?_
  rintro e w1 ⟨rfl, hb1⟩
  have HB1 : Hid (Below W.heap.size W w1) := Lib.hid (HB0.out.trans (hb1.mono HB0.out.size))
  clear hb1
  go_wp2_with fail
  rw [rounds_succ]
  go_wp2_with fail
  refine (channels_0 _ _ (HC.out _ HB1.out 2) (HC.out _ HB1.out 3)).mono ?_
  rintro e w2 ⟨rfl, hb2⟩
  have HB2 : Hid (Below W.heap.size W w2) := Lib.hid (HB1.out.trans (hb2.mono HB1.out.size))
  clear hb2
  go_wp2_with fail
  rw [rounds_succ]
  go_wp2_with fail
  refine (expressions_0 _ _ (HC.out _ HB2.out 0) (HC.out _ HB2.out 1) (HC.out _ HB2.out 2) (HC.out _ HB2.out 3) (HC.out _ HB2.out 4) (HC.out _ HB2.out 5) (HC.out _ HB2.out 6)).mono ?_
  rintro e w3 ⟨rfl, hb3⟩
  have HB3 : Hid (Below W.heap.size W w3) := Lib.hid (HB2.out.trans (hb3.mono HB2.out.size))
  clear hb3
  go_wp2_with fail
  go_ret3
  exact ⟨rfl, HB.out.trans (HB3.out.mono HB.out.size)⟩

set_option maxRecDepth 100000 in
theorem check_p (w : World) (q r : Nat) (hs : Sm w q r 0) : Calls Try.prog 11 #[.agg #[.slice none 0 0, .slice none 0 0, .slice none 0 0, .slice none 0 0, .slice (some ⟨q, 0, none⟩) 1 1, .int .i64 (-1), .slice none 0 0]] w fun e w' => e = .returned (.tuple #[.int .i64 40, .int .i64 4, .int .i64 0]) ∧ Below w.heap.size w w' := by
  have hmf : ∀ (fn : Fn) (first cap : Array Value) (w : World), (Instr.makeFunc fn first cap).run Try.prog w = .ok (.func fn first cap) w := fun _ _ _ _ => rfl
  have hx0 : ∀ (a b c d e f : Value) (w : World), (Instr.index 52 (.agg #[a, b, c, d, e, f]) (.int .i64 0)).run Try.prog w = .ok a w := fun _ _ _ _ _ _ _ => ix _ 0 _ (by decide) _ rfl
  have hx1 : ∀ (a b c d e f : Value) (w : World), (Instr.index 52 (.agg #[a, b, c, d, e, f]) (.int .i64 1)).run Try.prog w = .ok b w := fun _ _ _ _ _ _ _ => ix _ 1 _ (by decide) _ rfl
  have hx2 : ∀ (a b c d e f : Value) (w : World), (Instr.index 52 (.agg #[a, b, c, d, e, f]) (.int .i64 2)).run Try.prog w = .ok c w := fun _ _ _ _ _ _ _ => ix _ 2 _ (by decide) _ rfl
  have hx3 : ∀ (a b c d e f : Value) (w : World), (Instr.index 52 (.agg #[a, b, c, d, e, f]) (.int .i64 3)).run Try.prog w = .ok d w := fun _ _ _ _ _ _ _ => ix _ 3 _ (by decide) _ rfl
  have hx4 : ∀ (a b c d e f : Value) (w : World), (Instr.index 52 (.agg #[a, b, c, d, e, f]) (.int .i64 4)).run Try.prog w = .ok e w := fun _ _ _ _ _ _ _ => ix _ 4 _ (by decide) _ rfl
  have hx5 : ∀ (a b c d e f : Value) (w : World), (Instr.index 52 (.agg #[a, b, c, d, e, f]) (.int .i64 5)).run Try.prog w = .ok f w := fun _ _ _ _ _ _ _ => ix _ 5 _ (by decide) _ rfl
  have HB : Hid (Below w.heap.size w (((w.alloc (.cells #[.slice none 0 0, .slice none 0 0, .slice none 0 0, .slice none 0 0, .slice (some ⟨q, 0, none⟩) 1 1, .int .i64 (-1), .slice none 0 0] 42)).alloc (.cells #[.slice none 0 0, .slice none 0 0, .slice none 0 0, .slice none 0 0, .slice (some ⟨q, 0, none⟩) 1 1, .int .i64 (-1), .slice none 0 0, .slice none 0 0, .slice none 0 0] 50)).alloc (.cells #[.func (.func 13) #[.pointer (some ⟨w.heap.size + 1, 0, none⟩)] #[], .func (.func 14) #[.pointer (some ⟨w.heap.size + 1, 0, none⟩)] #[], .func (.func 15) #[.pointer (some ⟨w.heap.size + 1, 0, none⟩)] #[], .func (.func 16) #[.pointer (some ⟨w.heap.size + 1, 0, none⟩)] #[], .func (.func 17) #[.pointer (some ⟨w.heap.size + 1, 0, none⟩)] #[], .func (.func 18) #[.pointer (some ⟨w.heap.size + 1, 0, none⟩)] #[]] 52))) := Lib.hid ((((Below.refl _ _).alloc (Nat.le_refl _) _).alloc (by simp) _).alloc (by simp; omega) _)
  have HO : Hid ((((w.alloc (.cells #[.slice none 0 0, .slice none 0 0, .slice none 0 0, .slice none 0 0, .slice (some ⟨q, 0, none⟩) 1 1, .int .i64 (-1), .slice none 0 0] 42)).alloc (.cells #[.slice none 0 0, .slice none 0 0, .slice none 0 0, .slice none 0 0, .slice (some ⟨q, 0, none⟩) 1 1, .int .i64 (-1), .slice none 0 0, .slice none 0 0, .slice none 0 0] 50)).alloc (.cells #[.func (.func 13) #[.pointer (some ⟨w.heap.size + 1, 0, none⟩)] #[], .func (.func 14) #[.pointer (some ⟨w.heap.size + 1, 0, none⟩)] #[], .func (.func 15) #[.pointer (some ⟨w.heap.size + 1, 0, none⟩)] #[], .func (.func 16) #[.pointer (some ⟨w.heap.size + 1, 0, none⟩)] #[], .func (.func 17) #[.pointer (some ⟨w.heap.size + 1, 0, none⟩)] #[], .func (.func 18) #[.pointer (some ⟨w.heap.size + 1, 0, none⟩)] #[]] 52)).heap[w.heap.size + 1]? = some (.cells #[.slice none 0 0, .slice none 0 0, .slice none 0 0, .slice none 0 0, .slice (some ⟨q, 0, none⟩) 1 1, .int .i64 (-1), .slice none 0 0, .slice none 0 0, .slice none 0 0] 50 (0, 0))) := Lib.hid (by
    rw [Below.heap_alloc _ _ _ (by simp)]
    have h := heap_alloc_new (w.alloc (.cells #[.slice none 0 0, .slice none 0 0, .slice none 0 0, .slice none 0 0, .slice (some ⟨q, 0, none⟩) 1 1, .int .i64 (-1), .slice none 0 0] 42)) (.cells #[.slice none 0 0, .slice none 0 0, .slice none 0 0, .slice none 0 0, .slice (some ⟨q, 0, none⟩) 1 1, .int .i64 (-1), .slice none 0 0, .slice none 0 0, .slice none 0 0] 50)
    rw [World.size_alloc] at h
    exact h)
  go_enter Try.func11, Try.ntmps11
  go_wp2_with fail
  refine wp_loop_rounds 7 ?_
  have HK0 : Hid (Ck (((w.alloc (.cells #[.slice none 0 0, .slice none 0 0, .slice none 0 0, .slice none 0 0, .slice (some ⟨q, 0, none⟩) 1 1, .int .i64 (-1), .slice none 0 0] 42)).alloc (.cells #[.slice none 0 0, .slice none 0 0, .slice none 0 0, .slice none 0 0, .slice (some ⟨q, 0, none⟩) 1 1, .int .i64 (-1), .slice none 0 0, .slice none 0 0, .slice none 0 0] 50)).alloc (.cells #[.func (.func 13) #[.pointer (some ⟨w.heap.size + 1, 0, none⟩)] #[], .func (.func 14) #[.pointer (some ⟨w.heap.size + 1, 0, none⟩)] #[], .func (.func 15) #[.pointer (some ⟨w.heap.size + 1, 0, none⟩)] #[], .func (.func 16) #[.pointer (some ⟨w.heap.size + 1, 0, none⟩)] #[], .func (.func 17) #[.pointer (some ⟨w.heap.size + 1, 0, none⟩)] #[], .func (.func 18) #[.pointer (some ⟨w.heap.size + 1, 0, none⟩)] #[]] 52)) (w.heap.size + 1) q r 0) := Lib.hid (Ck.of (hs.below HB.out) (Nat.lt_succ_of_lt hs.qs) (Nat.lt_succ_of_lt hs.rs) HO.out)
  have HB0 := HB
  clear HB HO hs
  generalize ((w.alloc (.cells #[.slice none 0 0, .slice none 0 0, .slice none 0 0, .slice none 0 0, .slice (some ⟨q, 0, none⟩) 1 1, .int .i64 (-1), .slice none 0 0] 42)).alloc (.cells #[.slice none 0 0, .slice none 0 0, .slice none 0 0, .slice none 0 0, .slice (some ⟨q, 0, none⟩) 1 1, .int .i64 (-1), .slice none 0 0, .slice none 0 0, .slice none 0 0] 50)).alloc (.cells #[.func (.func 13) #[.pointer (some ⟨w.heap.size + 1, 0, none⟩)] #[], .func (.func 14) #[.pointer (some ⟨w.heap.size + 1, 0, none⟩)] #[], .func (.func 15) #[.pointer (some ⟨w.heap.size + 1, 0, none⟩)] #[], .func (.func 16) #[.pointer (some ⟨w.heap.size + 1, 0, none⟩)] #[], .func (.func 17) #[.pointer (some ⟨w.heap.size + 1, 0, none⟩)] #[], .func (.func 18) #[.pointer (some ⟨w.heap.size + 1, 0, none⟩)] #[]] 52) = W at *
  rw [rounds_succ]
  go_wp2_with fail
  refine (globals_0 _ _ HK0.out.c0 HK0.out.c1).mono ?_
  rintro e w1 ⟨rfl, hb1⟩
  have HB1 : Hid (Below w.heap.size w w1) := Lib.hid (HB0.out.trans (hb1.mono HB0.out.size))
  have HK1 := Lib.hid (HK0.out.below hb1)
  clear hb1 HB0 HK0
  go_wp2_with fail
  rw [rounds_succ]
  go_wp2_with fail
  refine (channels_0 _ _ HK1.out.c2 HK1.out.c3).mono ?_
  rintro e w2 ⟨rfl, hb2⟩
  have HB2 : Hid (Below w.heap.size w w2) := Lib.hid (HB1.out.trans (hb2.mono HB1.out.size))
  have HK2 := Lib.hid (HK1.out.below hb2)
  clear hb2 HB1 HK1
  go_wp2_with fail
  rw [rounds_succ]
  go_wp2_with fail
  refine (expressions_1 _ _ _ _ _ HK2.out).mono ?_
  rintro e w3 ⟨rfl, hb3⟩
  have HB3 : Hid (Below w.heap.size w w3) := Lib.hid (HB2.out.trans (hb3.mono HB2.out.size))
  have HK3 := Lib.hid (HK2.out.below hb3)
  clear hb3 HB2 HK2
  go_wp2_with fail
  rw [rounds_succ]
  go_wp2_with fail
  refine (procs_0 _ _ _ _ HK3.out).mono ?_
  rintro e w4 ⟨rfl, hb4⟩
  have HB4 : Hid (Below w.heap.size w w4) := Lib.hid (HB3.out.trans (hb4.mono HB3.out.size))
  have HK4 := Lib.hid (HK3.out.below hb4)
  clear hb4 HB3 HK3
  go_wp2_with fail
  go_ret3
  exact ⟨rfl, HB4.out⟩


set_option maxHeartbeats 1000000 in
set_option maxRecDepth 100000 in
theorem check_1 (w : World) (q r : Nat) (hs : Sm w q r 1) : Calls Try.prog 11 #[.agg #[.slice none 0 0, .slice none 0 0, .slice none 0 0, .slice none 0 0, .slice (some ⟨q, 0, none⟩) 1 1, .int .i64 (-1), .slice none 0 0]] w fun e w' => e = .returned (.tuple #[.int .i64 0, .int .i64 0, .int .i64 0]) ∧ Below w.heap.size w w' := by
  have hmf : ∀ (fn : Fn) (first cap : Array Value) (w : World), (Instr.makeFunc fn first cap).run Try.prog w = .ok (.func fn first cap) w := fun _ _ _ _ => rfl
  have hx0 : ∀ (a b c d e f : Value) (w : World), (Instr.index 52 (.agg #[a, b, c, d, e, f]) (.int .i64 0)).run Try.prog w = .ok a w := fun _ _ _ _ _ _ _ => ix _ 0 _ (by decide) _ rfl
  have hx1 : ∀ (a b c d e f : Value) (w : World), (Instr.index 52 (.agg #[a, b, c, d, e, f]) (.int .i64 1)).run Try.prog w = .ok b w := fun _ _ _ _ _ _ _ => ix _ 1 _ (by decide) _ rfl
  have hx2 : ∀ (a b c d e f : Value) (w : World), (Instr.index 52 (.agg #[a, b, c, d, e, f]) (.int .i64 2)).run Try.prog w = .ok c w := fun _ _ _ _ _ _ _ => ix _ 2 _ (by decide) _ rfl
  have hx3 : ∀ (a b c d e f : Value) (w : World), (Instr.index 52 (.agg #[a, b, c, d, e, f]) (.int .i64 3)).run Try.prog w = .ok d w := fun _ _ _ _ _ _ _ => ix _ 3 _ (by decide) _ rfl
  have hx4 : ∀ (a b c d e f : Value) (w : World), (Instr.index 52 (.agg #[a, b, c, d, e, f]) (.int .i64 4)).run Try.prog w = .ok e w := fun _ _ _ _ _ _ _ => ix _ 4 _ (by decide) _ rfl
  have hx5 : ∀ (a b c d e f : Value) (w : World), (Instr.index 52 (.agg #[a, b, c, d, e, f]) (.int .i64 5)).run Try.prog w = .ok f w := fun _ _ _ _ _ _ _ => ix _ 5 _ (by decide) _ rfl
  have HB : Hid (Below w.heap.size w (((w.alloc (.cells #[.slice none 0 0, .slice none 0 0, .slice none 0 0, .slice none 0 0, .slice (some ⟨q, 0, none⟩) 1 1, .int .i64 (-1), .slice none 0 0] 42)).alloc (.cells #[.slice none 0 0, .slice none 0 0, .slice none 0 0, .slice none 0 0, .slice (some ⟨q, 0, none⟩) 1 1, .int .i64 (-1), .slice none 0 0, .slice none 0 0, .slice none 0 0] 50)).alloc (.cells #[.func (.func 13) #[.pointer (some ⟨w.heap.size + 1, 0, none⟩)] #[], .func (.func 14) #[.pointer (some ⟨w.heap.size + 1, 0, none⟩)] #[], .func (.func 15) #[.pointer (some ⟨w.heap.size + 1, 0, none⟩)] #[], .func (.func 16) #[.pointer (some ⟨w.heap.size + 1, 0, none⟩)] #[], .func (.func 17) #[.pointer (some ⟨w.heap.size + 1, 0, none⟩)] #[], .func (.func 18) #[.pointer (some ⟨w.heap.size + 1, 0, none⟩)] #[]] 52))) := Lib.hid ((((Below.refl _ _).alloc (Nat.le_refl _) _).alloc (by simp) _).alloc (by simp; omega) _)
  have HO : Hid ((((w.alloc (.cells #[.slice none 0 0, .slice none 0 0, .slice none 0 0, .slice none 0 0, .slice (some ⟨q, 0, none⟩) 1 1, .int .i64 (-1), .slice none 0 0] 42)).alloc (.cells #[.slice none 0 0, .slice none 0 0, .slice none 0 0, .slice none 0 0, .slice (some ⟨q, 0, none⟩) 1 1, .int .i64 (-1), .slice none 0 0, .slice none 0 0, .slice none 0 0] 50)).alloc (.cells #[.func (.func 13) #[.pointer (some ⟨w.heap.size + 1, 0, none⟩)] #[], .func (.func 14) #[.pointer (some ⟨w.heap.size + 1, 0, none⟩)] #[], .func (.func 15) #[.pointer (some ⟨w.heap.size + 1, 0, none⟩)] #[], .func (.func 16) #[.pointer (some ⟨w.heap.size + 1, 0, none⟩)] #[], .func (.func 17) #[.pointer (some ⟨w.heap.size + 1, 0, none⟩)] #[], .func (.func 18) #[.pointer (some ⟨w.heap.size + 1, 0, none⟩)] #[]] 52)).heap[w.heap.size + 1]? = some (.cells #[.slice none 0 0, .slice none 0 0, .slice none 0 0, .slice none 0 0, .slice (some ⟨q, 0, none⟩) 1 1, .int .i64 (-1), .slice none 0 0, .slice none 0 0, .slice none 0 0] 50 (0, 0))) := Lib.hid (by
    rw [Below.heap_alloc _ _ _ (by simp)]
    have h := heap_alloc_new (w.alloc (.cells #[.slice none 0 0, .slice none 0 0, .slice none 0 0, .slice none 0 0, .slice (some ⟨q, 0, none⟩) 1 1, .int .i64 (-1), .slice none 0 0] 42)) (.cells #[.slice none 0 0, .slice none 0 0, .slice none 0 0, .slice none 0 0, .slice (some ⟨q, 0, none⟩) 1 1, .int .i64 (-1), .slice none 0 0, .slice none 0 0, .slice none 0 0] 50)
    rw [World.size_alloc] at h
    exact h)
  go_enter Try.func11, Try.ntmps11
  go_wp2_with fail
  refine wp_loop_rounds 7 ?_
  have HK0 : Hid (Ck (((w.alloc (.cells #[.slice none 0 0, .slice none 0 0, .slice none 0 0, .slice none 0 0, .slice (some ⟨q, 0, none⟩) 1 1, .int .i64 (-1), .slice none 0 0] 42)).alloc (.cells #[.slice none 0 0, .slice none 0 0, .slice none 0 0, .slice none 0 0, .slice (some ⟨q, 0, none⟩) 1 1, .int .i64 (-1), .slice none 0 0, .slice none 0 0, .slice none 0 0] 50)).alloc (.cells #[.func (.func 13) #[.pointer (some ⟨w.heap.size + 1, 0, none⟩)] #[], .func (.func 14) #[.pointer (some ⟨w.heap.size + 1, 0, none⟩)] #[], .func (.func 15) #[.pointer (some ⟨w.heap.size + 1, 0, none⟩)] #[], .func (.func 16) #[.pointer (some ⟨w.heap.size + 1, 0, none⟩)] #[], .func (.func 17) #[.pointer (some ⟨w.heap.size + 1, 0, none⟩)] #[], .func (.func 18) #[.pointer (some ⟨w.heap.size + 1, 0, none⟩)] #[]] 52)) (w.heap.size + 1) q r 1) := Lib.hid (Ck.of (hs.below HB.out) (Nat.lt_succ_of_lt hs.qs) (Nat.lt_succ_of_lt hs.rs) HO.out)
  have HB0 := HB
  clear HB HO hs
  generalize ((w.alloc (.cells #[.slice none 0 0, .slice none 0 0, .slice none 0 0, .slice none 0 0, .slice (some ⟨q, 0, none⟩) 1 1, .int .i64 (-1), .slice none 0 0] 42)).alloc (.cells #[.slice none 0 0, .slice none 0 0, .slice none 0 0, .slice none 0 0, .slice (some ⟨q, 0, none⟩) 1 1, .int .i64 (-1), .slice none 0 0, .slice none 0 0, .slice none 0 0] 50)).alloc (.cells #[.func (.func 13) #[.pointer (some ⟨w.heap.size + 1, 0, none⟩)] #[], .func (.func 14) #[.pointer (some ⟨w.heap.size + 1, 0, none⟩)] #[], .func (.func 15) #[.pointer (some ⟨w.heap.size + 1, 0, none⟩)] #[], .func (.func 16) #[.pointer (some ⟨w.heap.size + 1, 0, none⟩)] #[], .func (.func 17) #[.pointer (some ⟨w.heap.size + 1, 0, none⟩)] #[], .func (.func 18) #[.pointer (some ⟨w.heap.size + 1, 0, none⟩)] #[]] 52) = W at *
  rw [rounds_succ]
  go_wp2_with fail
  refine (globals_0 _ _ HK0.out.c0 HK0.out.c1).mono ?_
  rintro e w1 ⟨rfl, hb1⟩
  have HB1 : Hid (Below w.heap.size w w1) := Lib.hid (HB0.out.trans (hb1.mono HB0.out.size))
  have HK1 := Lib.hid (HK0.out.below hb1)
  clear hb1 HB0 HK0
  go_wp2_with fail
  rw [rounds_succ]
  go_wp2_with fail
  refine (channels_0 _ _ HK1.out.c2 HK1.out.c3).mono ?_
  rintro e w2 ⟨rfl, hb2⟩
  have HB2 : Hid (Below w.heap.size w w2) := Lib.hid (HB1.out.trans (hb2.mono HB1.out.size))
  have HK2 := Lib.hid (HK1.out.below hb2)
  clear hb2 HB1 HK1
  go_wp2_with fail
  rw [rounds_succ]
  go_wp2_with fail
  refine (expressions_1 _ _ _ _ _ HK2.out).mono ?_
  rintro e w3 ⟨rfl, hb3⟩
  have HB3 : Hid (Below w.heap.size w w3) := Lib.hid (HB2.out.trans (hb3.mono HB2.out.size))
  have HK3 := Lib.hid (HK2.out.below hb3)
  clear hb3 HB2 HK2
  go_wp2_with fail
  rw [rounds_succ]
  go_wp2_with fail
  refine (procs_1 _ _ _ _ HK3.out).mono ?_
  rintro e w4 ⟨rfl, hb4⟩
  have HB4 : Hid (Below w.heap.size w w4) := Lib.hid (HB3.out.trans (hb4.mono HB3.out.size))
  have HK4 := Lib.hid (HK3.out.below hb4)
  clear hb4 HB3 HK3
  go_wp2_with fail
  rw [rounds_succ]
  go_wp2_with fail
  refine (active_any _ _ _ _ _ HK4.out).mono ?_
  rintro e w5 ⟨rfl, hb5⟩
  have HB5 : Hid (Below w.heap.size w w5) := Lib.hid (HB4.out.trans (hb5.mono HB4.out.size))
  have HK5 := Lib.hid (HK4.out.below hb5)
  clear hb5 HB4 HK4
  go_wp2_with fail
  rw [rounds_succ]
  go_wp2_with fail
  refine (statements_1 _ _ _ _ HK5.out).mono ?_
  rintro e w6 ⟨rfl, hb6⟩
  have HB6 : Hid (Below w.heap.size w w6) := Lib.hid (HB5.out.trans (hb6.mono (Nat.le_succ _)))
  clear hb6
  go_wp2_with fail
  rw [rounds_succ]
  go_wp2_with fail
  go_ret3
  exact ⟨rfl, HB6.out⟩


end Go.Proofs.Ytpbhplooikammaa
