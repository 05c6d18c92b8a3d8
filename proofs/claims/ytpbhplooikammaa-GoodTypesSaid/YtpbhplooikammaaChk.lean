/- The parts of Check at the small models. -/
import Derived.Test.YtpbhplooikammaaRows
import Derived.WalkKit
import Derived.ProofKit
import Derived.Below
import Derived.Outline
import Derived.BigQuiet
import Derived.Deep.QuietTactic
import Derived.LoopN
import Derived.Lib.Hide
import Derived.Laws.Rows
import Derived.Laws.MakeOwn
import Derived.OwnWalk
import Derived.Deep.Cut
namespace Go.Proofs.Ytpbhplooikammaa
open Go.ChangeShapes Go.WideShapes Go.ChangeAt Go.RowKit

/-- A proctype with one place. -/
def procV (pr : Int) (r : Nat) : Value := .agg #[.string ByteArray.empty, .int .i64 0, .slice none 0 0, .slice none 0 0, .slice (some ⟨r, 0, none⟩) 1 1, .int .i64 0, .int .i64 0, .int .i64 0, .int .i64 pr, .int .i64 (-1)]

/-- A model with one such proctype, as a checker has it. -/
structure Ck (w : World) (p q r : Nat) (pr : Int) : Prop where
  c0 : w.cell? ⟨p, 0, none⟩ = some (.slice none 0 0)
  c1 : w.cell? ⟨p, 1, none⟩ = some (.slice none 0 0)
  c2 : w.cell? ⟨p, 2, none⟩ = some (.slice none 0 0)
  c3 : w.cell? ⟨p, 3, none⟩ = some (.slice none 0 0)
  c4 : w.cell? ⟨p, 4, none⟩ = some (.slice (some ⟨q, 0, none⟩) 1 1)
  c5 : w.cell? ⟨p, 5, none⟩ = some (.int .i64 (-1))
  c6 : w.cell? ⟨p, 6, none⟩ = some (.slice none 0 0)
  c7 : w.frozen? ⟨p, 7, none⟩ = false
  c8 : ∃ v, w.cell? ⟨p, 7, none⟩ = some v
  q0 : w.cell? ⟨q, 0, none⟩ = some (.string ByteArray.empty)
  q1 : w.cell? ⟨q, 1, none⟩ = some (.int .i64 0)
  q2 : w.cell? ⟨q, 2, none⟩ = some (.slice none 0 0)
  q3 : w.cell? ⟨q, 3, none⟩ = some (.slice none 0 0)
  q4 : w.cell? ⟨q, 4, none⟩ = some (.slice (some ⟨r, 0, none⟩) 1 1)
  q5 : w.cell? ⟨q, 5, none⟩ = some (.int .i64 0)
  q6 : w.cell? ⟨q, 6, none⟩ = some (.int .i64 0)
  q7 : w.cell? ⟨q, 7, none⟩ = some (.int .i64 0)
  q8 : w.cell? ⟨q, 8, none⟩ = some (.int .i64 pr)
  q9 : w.cell? ⟨q, 9, none⟩ = some (.int .i64 (-1))
  r0 : w.cell? ⟨r, 0, none⟩ = some (.slice none 0 0)
  r1 : w.cell? ⟨r, 1, none⟩ = some (.slice none 0 0)
  r2 : w.cell? ⟨r, 2, none⟩ = some (.bool false)
  r3 : w.cell? ⟨r, 3, none⟩ = some (.bool false)
  r4 : w.cell? ⟨r, 4, none⟩ = some (.bool false)
  r5 : w.cell? ⟨r, 5, none⟩ = some (.bool false)
  r6 : w.cell? ⟨r, 6, none⟩ = some (.bool false)
  ps : p < w.heap.size
  qs : q < p
  rs : r < p

theorem Ck.below {w w' : World} {p q r : Nat} {pr : Int} (h : Ck w p q r pr) (hb : Below w.heap.size w w') : Ck w' p q r pr := by
  have hp : ∀ i, w'.cell? ⟨p, i, none⟩ = w.cell? ⟨p, i, none⟩ := fun i => hb.cell h.ps
  have hq : ∀ i, w'.cell? ⟨q, i, none⟩ = w.cell? ⟨q, i, none⟩ := fun i => hb.cell (Nat.lt_trans h.qs h.ps)
  have hr : ∀ i, w'.cell? ⟨r, i, none⟩ = w.cell? ⟨r, i, none⟩ := fun i => hb.cell (Nat.lt_trans h.rs h.ps)
  have hf : w'.frozen? ⟨p, 7, none⟩ = w.frozen? ⟨p, 7, none⟩ := hb.frozen h.ps
  have hs := hb.size
  have h1 := h.ps
  obtain ⟨c0, c1, c2, c3, c4, c5, c6, c7, c8, q0, q1, q2, q3, q4, q5, q6, q7, q8, q9, r0, r1, r2, r3, r4, r5, r6, ps, qs, rs⟩ := h
  constructor
  all_goals (try rw [hp])
  all_goals (try rw [hq])
  all_goals (try rw [hr])
  all_goals (try rw [hf])
  all_goals (try assumption)
  omega

/-- A boxed proctype. -/
structure Bx (w : World) (b r : Nat) (pr : Int) : Prop where
  b0 : w.cell? ⟨b, 0, none⟩ = some (.string ByteArray.empty)
  b1 : w.cell? ⟨b, 1, none⟩ = some (.int .i64 0)
  b2 : w.cell? ⟨b, 2, none⟩ = some (.slice none 0 0)
  b3 : w.cell? ⟨b, 3, none⟩ = some (.slice none 0 0)
  b4 : w.cell? ⟨b, 4, none⟩ = some (.slice (some ⟨r, 0, none⟩) 1 1)
  b5 : w.cell? ⟨b, 5, none⟩ = some (.int .i64 0)
  b6 : w.cell? ⟨b, 6, none⟩ = some (.int .i64 0)
  b7 : w.cell? ⟨b, 7, none⟩ = some (.int .i64 0)
  b8 : w.cell? ⟨b, 8, none⟩ = some (.int .i64 pr)
  b9 : w.cell? ⟨b, 9, none⟩ = some (.int .i64 (-1))
  bs : b < w.heap.size
theorem Bx.new (w : World) (r : Nat) (pr : Int) : Bx (w.alloc (.cells #[.string ByteArray.empty, .int .i64 0, .slice none 0 0, .slice none 0 0, .slice (some ⟨r, 0, none⟩) 1 1, .int .i64 0, .int .i64 0, .int .i64 0, .int .i64 pr, .int .i64 (-1)] 46)) w.heap.size r pr := by
  have h := heap_alloc_new w (.cells #[.string ByteArray.empty, .int .i64 0, .slice none 0 0, .slice none 0 0, .slice (some ⟨r, 0, none⟩) 1 1, .int .i64 0, .int .i64 0, .int .i64 0, .int .i64 pr, .int .i64 (-1)] 46)
  constructor
  all_goals (try (rw [cell_of_row _ _ _ _ _ _ h]; rfl))
  simp
theorem Bx.below {w w' : World} {b r : Nat} {pr : Int} (h : Bx w b r pr) (hb : Below w.heap.size w w') : Bx w' b r pr := by
  have hp : ∀ i, w'.cell? ⟨b, i, none⟩ = w.cell? ⟨b, i, none⟩ := fun i => hb.cell h.bs
  have hs := hb.size
  have h1 := h.bs
  obtain ⟨b0, b1, b2, b3, b4, b5, b6, b7, b8, b9, bs⟩ := h
  constructor
  all_goals (try rw [hp])
  all_goals (try assumption)
  omega

theorem bdrew {B : Nat} {a w : World} (h : Below B a w) (n : Nat) : Below B a (w.drewN n) := ⟨h.os, h.tape, h.output, h.size, h.block⟩

theorem globals_0 (w : World) (p : Nat) (h0 : w.cell? ⟨p, 0, none⟩ = some (.slice none 0 0)) (h1 : w.cell? ⟨p, 1, none⟩ = some (.slice none 0 0)) :
    Calls Try.prog 13 #[.pointer (some ⟨p, 0, none⟩)] w fun e w' => e = .returned (.tuple #[.int .i64 0, .bool true]) ∧ Below w.heap.size w w' := by
  go_enter Try.func13, Try.ntmps13
  go_wp2
  go_quiet (fail)
  go_wp2
  refine wp_loop_rounds 1 ?_
  rw [rounds_succ]
  go_wp2
  go_ret2
  exact ⟨rfl, bdrew (Below.refl _ _) _⟩

theorem channels_0 (w : World) (p : Nat) (h0 : w.cell? ⟨p, 2, none⟩ = some (.slice none 0 0)) (h1 : w.cell? ⟨p, 3, none⟩ = some (.slice none 0 0)) :
    Calls Try.prog 14 #[.pointer (some ⟨p, 0, none⟩)] w fun e w' => e = .returned (.tuple #[.int .i64 0, .bool true]) ∧ Below w.heap.size w w' := by
  go_enter Try.func14, Try.ntmps14
  go_wp2
  refine wp_loop_rounds 1 ?_
  rw [rounds_succ]
  go_wp2
  refine wp_loop_rounds 1 ?_
  rw [rounds_succ]
  go_wp2
  go_ret2
  exact ⟨rfl, Below.refl _ _⟩

theorem frame_1 (w : World) (p q r : Nat) (hk : Ck w p q r 1) :
    Calls Try.prog 22 #[.pointer (some ⟨p, 0, none⟩), procV 1 r] w fun e w' => e = .returned (.bool true) ∧ Below w.heap.size w w' := by
  have h6 := hk.c6
  have hp := hk.ps
  unfold procV
  go_enter Try.func22, Try.ntmps22
  go_wp2
  refine wp_loop_rounds 1 ?_
  rw [rounds_succ]
  go_wp2
  go_quiet (fail)
  go_wp2
  go_ret
  exact ⟨rfl, bdrew (Below.alloc (Below.refl _ _) (Nat.le_refl _) _) _⟩

theorem frame_0 (w : World) (p q r : Nat) (hk : Ck w p q r 0) :
    Calls Try.prog 22 #[.pointer (some ⟨p, 0, none⟩), procV 0 r] w fun e w' => e = .returned (.bool false) ∧ Below w.heap.size w w' := by
  have h6 := hk.c6
  have hp := hk.ps
  unfold procV
  go_enter Try.func22, Try.ntmps22
  go_wp2
  refine wp_loop_rounds 1 ?_
  rw [rounds_succ]
  go_wp2
  go_quiet (fail)
  go_wp2
  go_ret
  exact ⟨rfl, bdrew (Below.alloc (Below.refl _ _) (Nat.le_refl _) _) _⟩

theorem places_any (w : World) (p q r : Nat) (pr : Int) (hk : Ck w p q r pr) :
    Calls Try.prog 23 #[.pointer (some ⟨p, 0, none⟩), procV pr r] w fun e w' => e = .returned (.bool true) ∧ Below w.heap.size w w' := by
  have r0 := hk.r0
  have r1 := hk.r1
  have r2 := hk.r2
  have r3 := hk.r3
  have r4 := hk.r4
  have r5 := hk.r5
  have r6 := hk.r6
  have hr : r < w.heap.size := Nat.lt_trans hk.rs hk.ps
  have hne : r ≠ w.heap.size := Nat.ne_of_lt hr
  unfold procV
  go_enter Try.func23, Try.ntmps23
  go_wp2
  refine wp_loop_rounds 2 ?_
  rw [rounds_succ]
  go_wp2
  refine wp_loop_rounds 2 ?_
  rw [rounds_succ]
  go_wp2
  refine wp_loop_rounds 1 ?_
  rw [rounds_succ]
  go_wp2
  rw [rounds_succ]
  go_wp2
  rw [rounds_succ]
  go_wp2
  go_ret
  refine ⟨rfl, ?_⟩
  exact Below.alloc (Below.alloc (Below.refl _ _) (Nat.le_refl _) _) (by simp) _

theorem active_any (w : World) (p q r : Nat) (pr : Int) (hk : Ck w p q r pr) :
    Calls Try.prog 17 #[.pointer (some ⟨p, 0, none⟩)] w fun e w' => e = .returned (.tuple #[.int .i64 (-1), .bool true]) ∧ Below w.heap.size w w' := by
  have h4 := hk.c4
  have q0 := hk.q0
  have q1 := hk.q1
  have q2 := hk.q2
  have q3 := hk.q3
  have q4 := hk.q4
  have q5 := hk.q5
  have q6 := hk.q6
  have q7 := hk.q7
  have q8 := hk.q8
  have q9 := hk.q9
  go_enter Try.func17, Try.ntmps17
  go_wp2
  refine wp_loop_rounds 2 ?_
  rw [rounds_succ]
  go_wp2
  rw [rounds_succ]
  go_wp2
  go_ret2
  refine ⟨rfl, ?_⟩
  exact Below.alloc (Below.refl _ _) (Nat.le_refl _) _

theorem procs_0 (w : World) (p q r : Nat) (hk : Ck w p q r 0) :
    Calls Try.prog 16 #[.pointer (some ⟨p, 0, none⟩)] w fun e w' => e = .returned (.tuple #[.int .i64 0, .bool false]) ∧ Below w.heap.size w w' := by
  have h4 := hk.c4
  have q0 := hk.q0
  have q1 := hk.q1
  have q2 := hk.q2
  have q3 := hk.q3
  have q4 := hk.q4
  have q5 := hk.q5
  have q6 := hk.q6
  have q7 := hk.q7
  have q8 := hk.q8
  have q9 := hk.q9
  have HK := Lib.hid hk
  clear hk
  go_enter Try.func16, Try.ntmps16
  go_wp2
  refine wp_loop_rounds 2 ?_
  rw [rounds_succ]
  go_wp2_with fail
  have HB := Lib.hid (Below.alloc (Below.refl w.heap.size w) (Nat.le_refl _) (.cells #[.string ByteArray.empty, .int .i64 0, .slice none 0 0, .slice none 0 0, .slice (some ⟨r, 0, none⟩) 1 1, .int .i64 0, .int .i64 0, .int .i64 0, .int .i64 0, .int .i64 (-1)] 46))
  have HK1 := Lib.hid (HK.out.below HB.out)
  refine (frame_0 _ p q r HK1.out).mono ?_
  rintro e w2 ⟨rfl, hb2⟩
  have HB2 := Lib.hid hb2
  clear hb2
  go_wp2
  go_ret2
  exact ⟨rfl, HB.out.trans (HB2.out.mono (by simp))⟩

theorem procs_1 (w : World) (p q r : Nat) (hk : Ck w p q r 1) :
    Calls Try.prog 16 #[.pointer (some ⟨p, 0, none⟩)] w fun e w' => e = .returned (.tuple #[.int .i64 0, .bool true]) ∧ Below w.heap.size w w' := by
  have h4 := hk.c4
  have q0 := hk.q0
  have q1 := hk.q1
  have q2 := hk.q2
  have q3 := hk.q3
  have q4 := hk.q4
  have q5 := hk.q5
  have q6 := hk.q6
  have q7 := hk.q7
  have q8 := hk.q8
  have q9 := hk.q9
  have HK := Lib.hid hk
  clear hk
  go_enter Try.func16, Try.ntmps16
  go_wp2
  refine wp_loop_rounds 2 ?_
  rw [rounds_succ]
  go_wp2_with fail
  have HB := Lib.hid (Below.alloc (Below.refl w.heap.size w) (Nat.le_refl _) (.cells #[.string ByteArray.empty, .int .i64 0, .slice none 0 0, .slice none 0 0, .slice (some ⟨r, 0, none⟩) 1 1, .int .i64 0, .int .i64 0, .int .i64 0, .int .i64 1, .int .i64 (-1)] 46))
  have HX := Lib.hid (Bx.new w r 1)
  have HK1 := Lib.hid (HK.out.below HB.out)
  have HBS : Hid (w.heap.size ≤ (w.alloc (.cells #[.string ByteArray.empty, .int .i64 0, .slice none 0 0, .slice none 0 0, .slice (some ⟨r, 0, none⟩) 1 1, .int .i64 0, .int .i64 0, .int .i64 0, .int .i64 1, .int .i64 (-1)] 46)).heap.size) := Lib.hid HB.out.size
  refine (frame_1 _ p q r HK1.out).mono ?_
  rintro e w2 ⟨rfl, hb2⟩
  have HX2 := Lib.hid (HX.out.below hb2)
  have HK2 := Lib.hid (HK1.out.below hb2)
  have HB2 := Lib.hid (HB.out.trans (hb2.mono HBS.out))
  clear hb2 q0 q1 q2 q3 q4 q5 q6 q7 q8 q9 h4
  have b0 := HX2.out.b0
  have b1 := HX2.out.b1
  have b2 := HX2.out.b2
  have b3 := HX2.out.b3
  have b4 := HX2.out.b4
  have b5 := HX2.out.b5
  have b6 := HX2.out.b6
  have b7 := HX2.out.b7
  have b8 := HX2.out.b8
  have b9 := HX2.out.b9
  go_wp2_with fail
  refine (places_any _ p q r 1 HK2.out).mono ?_
  rintro e w3 ⟨rfl, hb3⟩
  have HK3 := Lib.hid (HK2.out.below hb3)
  have HB3 := Lib.hid (HB2.out.trans (hb3.mono HB2.out.size))
  have c5 := HK3.out.c5
  clear hb3 b0 b1 b2 b3 b4 b5 b6 b7 b8 b9
  go_wp2
  rw [rounds_succ]
  go_wp2
  go_ret2
  exact ⟨rfl, HB3.out⟩

theorem info4 : (Try.prog.info? 4).map (fun i => (i.zero, i.size, i.bytes)) = some (some (.bool false), 1, 1) := by kernel_rfl
theorem info3 : (Try.prog.info? 3).map (fun i => (i.zero, i.size, i.bytes)) = some (some (.int .i64 0), 1, 8) := by kernel_rfl
theorem make_bools (w : World) : (Instr.makeSlice 61 (.int .i64 0) (.int .i64 0)).run Try.prog w = .ok (.slice (some ⟨w.heap.size, 0, none⟩) 0 0) (w.alloc (.cells #[] 4)) := by
  obtain ⟨i0, hi, hz0, hz1, hz2⟩ := info_parts info4
  have h := run_makeSlice (P := Try.prog) w 61 4 i0 (.bool false) Try.underlying61 hi hz0 .i64 .i64 0 0 (by omega) (by omega) (by rw [hz1]; omega) (by rw [hz2]; omega) (by omega)
  rw [h, hz1]
  simp [Value.cells, madeCells, Array.range_zero']
theorem make_ints (w : World) : (Instr.makeSlice 38 (.int .i64 0) (.int .i64 0)).run Try.prog w = .ok (.slice (some ⟨w.heap.size, 0, none⟩) 0 0) (w.alloc (.cells #[] 3)) := by
  obtain ⟨i0, hi, hz0, hz1, hz2⟩ := info_parts info3
  have h := run_makeSlice (P := Try.prog) w 38 3 i0 (.int .i64 0) Try.underlying38 hi hz0 .i64 .i64 0 0 (by omega) (by omega) (by rw [hz1]; omega) (by rw [hz2]; omega) (by omega)
  rw [h, hz1]
  simp [Value.cells, madeCells, Array.range_zero']

theorem expressions_1 (w : World) (p q r : Nat) (pr : Int) (hk : Ck w p q r pr) :
    Calls Try.prog 15 #[.pointer (some ⟨p, 0, none⟩)] w fun e w' => e = .returned (.tuple #[.int .i64 0, .bool true]) ∧ Below w.heap.size w w' := by
  have c0 := hk.c0
  have c1 := hk.c1
  have c2 := hk.c2
  have c3 := hk.c3
  have c4 := hk.c4
  have c5 := hk.c5
  have c6 := hk.c6
  have hmk := make_bools
  go_enter Try.func15, Try.ntmps15
  go_wp2
  refine wp_loop_rounds 1 ?_
  rw [rounds_succ]
  go_wp2
  go_ret2
  refine ⟨rfl, ?_⟩
  exact Below.alloc (Below.alloc (Below.alloc (Below.refl _ _) (Nat.le_refl _) _) (by simp) _) (by simp; omega) _

theorem expressions_0 (w : World) (p : Nat) (c0 : w.cell? ⟨p, 0, none⟩ = some (.slice none 0 0)) (c1 : w.cell? ⟨p, 1, none⟩ = some (.slice none 0 0)) (c2 : w.cell? ⟨p, 2, none⟩ = some (.slice none 0 0)) (c3 : w.cell? ⟨p, 3, none⟩ = some (.slice none 0 0)) (c4 : w.cell? ⟨p, 4, none⟩ = some (.slice none 0 0)) (c5 : w.cell? ⟨p, 5, none⟩ = some (.int .i64 0)) (c6 : w.cell? ⟨p, 6, none⟩ = some (.slice none 0 0)) :
    Calls Try.prog 15 #[.pointer (some ⟨p, 0, none⟩)] w fun e w' => e = .returned (.tuple #[.int .i64 (-1), .bool false]) ∧ Below w.heap.size w w' := by
  go_enter Try.func15, Try.ntmps15
  go_wp2
  go_ret2
  refine ⟨rfl, ?_⟩
  exact Below.alloc (Below.refl _ _) (Nat.le_refl _) _

theorem ways_0 (w : World) (pv : Value) (i : Int) :
    Calls Try.prog 25 #[pv, .int .i64 i, .slice none 0 0] w fun e w' => e = .returned (.bool true) ∧ w' = w := by
  go_enter Try.func25, Try.ntmps25
  go_wp2
  refine wp_loop_rounds 1 ?_
  rw [rounds_succ]
  go_wp2
  go_ret
  exact ⟨rfl, rfl⟩

theorem statements_1 (w : World) (p q r : Nat) (hk : Ck w p q r 1) :
    Calls Try.prog 18 #[.pointer (some ⟨p, 0, none⟩)] w fun e w' => e = .returned (.tuple #[.int .i64 0, .bool true]) ∧ Below p w w' := by
  have HK := Lib.hid hk
  have c4 := hk.c4
  have c5 := hk.c5
  have c6 := hk.c6
  have c7 := hk.c7
  obtain ⟨v8, c8⟩ := hk.c8
  have hps := hk.ps
  have hrs := hk.rs
  have hqs := hk.qs
  have q4 := hk.q4
  have q9 := hk.q9
  have r0 := hk.r0
  have r1 := hk.r1
  have hmk := make_ints
  have n1 : q ≠ w.heap.size := by omega
  have n2 : r ≠ w.heap.size := by omega
  have n3 : p ≠ w.heap.size := by omega
  have n4 : q ≠ p := by omega
  have n5 : r ≠ p := by omega
  clear hk
  have HW : Hid (Below p w ((w.setCell ⟨p, 7, none⟩ (.slice (some ⟨w.heap.size, 0, none⟩) 0 0)).alloc (.cells #[] 3))) := Lib.hid (((Below.refl p w).setCell (Nat.le_refl _) _).alloc (by simp; omega) _)
  have HC : Hid (∀ i, i ≠ 7 → ((w.setCell ⟨p, 7, none⟩ (.slice (some ⟨w.heap.size, 0, none⟩) 0 0)).alloc (.cells #[] 3)).cell? ⟨p, i, none⟩ = w.cell? ⟨p, i, none⟩) := Lib.hid fun i hi => by
    have h1 := (Below.alloc (Below.refl (w.setCell ⟨p, 7, none⟩ (.slice (some ⟨w.heap.size, 0, none⟩) 0 0)).heap.size (w.setCell ⟨p, 7, none⟩ (.slice (some ⟨w.heap.size, 0, none⟩) 0 0))) (Nat.le_refl _) (.cells #[] 3)).cell (p := ⟨p, i, none⟩) (by simpa using hps)
    rw [h1]
    apply World.cell?_setCell_other
    intro h
    injection h with _ h2 _
    omega
  go_enter Try.func18, Try.ntmps18
  go_upto_region 2 with fail
  clear c4 c5 c6 c7 c8 q4 q9 r0 r1
  have c4 := (HC.out 4 (by decide)).trans HK.out.c4
  have c5 := (HC.out 5 (by decide)).trans HK.out.c5
  have c6 := (HC.out 6 (by decide)).trans HK.out.c6
  have q4 := (HW.out.cell (p := ⟨q, 4, none⟩) hqs).trans HK.out.q4
  have q9 := (HW.out.cell (p := ⟨q, 9, none⟩) hqs).trans HK.out.q9
  have r0 := (HW.out.cell (p := ⟨r, 0, none⟩) hrs).trans HK.out.r0
  have r1 := (HW.out.cell (p := ⟨r, 1, none⟩) hrs).trans HK.out.r1
  clear n1 n2 n3 n4 n5 HC hmk
  generalize (w.setCell ⟨p, 7, none⟩ (.slice (some ⟨w.heap.size, 0, none⟩) 0 0)).alloc (.cells #[] 3) = W at *
  go_wp2
  refine wp_loop_rounds 2 ?_
  rw [rounds_succ]
  go_wp2
  refine wp_loop_rounds 2 ?_
  rw [rounds_succ]
  go_wp2_with fail
  refine (ways_0 _ _ _).mono ?_
  rintro e w3 ⟨rfl, rfl⟩
  go_wp2
  refine wp_loop_rounds 1 ?_
  rw [rounds_succ]
  go_wp2
  rw [rounds_succ]
  go_wp2
  rw [rounds_succ]
  go_wp2
  go_ret2
  exact ⟨rfl, HW.out⟩
end Go.Proofs.Ytpbhplooikammaa
