/- Layer 14's examples hold: the walk. -/
import Derived.Test.YtbhgdlfndamklaaGreatDoorM25
namespace Go.Proofs.YtbhgdlfndamklaaGreatDoor
open Go.ChangeShapes Go.WideShapes Go.ChangeAt Go.RowKit
set_option linter.unusedVariables false
set_option linter.unusedSimpArgs false

/-- The example lies in memory. -/
structure ShM (W : World) (p0 p1 p2 p3 p6 p11 p12 p13 p15 : Nat) : Prop where
  h0 : W.heap[p0]? = some (.cells shC0 61 (0, 0))
  h1 : W.heap[p1]? = some (.cells shC1 2 (0, 0))
  h2 : W.heap[p2]? = some (.cells shC2 65 (0, 0))
  h3 : W.heap[p3]? = some (.cells (shC3 p2) 68 (0, 0))
  h6 : W.heap[p6]? = some (.cells shC6 76 (0, 0))
  h11 : W.heap[p11]? = some (.cells shC11 76 (0, 0))
  h12 : W.heap[p12]? = some (.cells (shC12 p6 p11) 73 (0, 0))
  h13 : W.heap[p13]? = some (.cells shC13 2 (0, 0))
  h15 : W.heap[p15]? = some (.cells #[.slice (some ⟨p0, 0, none⟩) 3 3, .slice (some ⟨p1, 0, none⟩) 3 3, .slice none 0 0, .slice none 0 0, .slice (some ⟨p3, 0, none⟩) 1 1, .int .i64 (-1), .slice (some ⟨p12, 0, none⟩) 9 9, .slice (some ⟨p13, 0, none⟩) 3 3, .slice none 0 0, .slice none 0 0, .int .i64 0, .int .i64 (-1), .int .i64 (-1), .int .i64 (-1), .bool false, .slice none 0 0] 36 (0, 0))
theorem ShM.below {W W' : World} {p0 p1 p2 p3 p6 p11 p12 p13 p15 : Nat} (h : ShM W p0 p1 p2 p3 p6 p11 p12 p13 p15) (hb : Below W.heap.size W W') : ShM W' p0 p1 p2 p3 p6 p11 p12 p13 p15 :=
  ⟨(hb.block _ (lt_of_block h.h0)).trans h.h0, (hb.block _ (lt_of_block h.h1)).trans h.h1, (hb.block _ (lt_of_block h.h2)).trans h.h2, (hb.block _ (lt_of_block h.h3)).trans h.h3, (hb.block _ (lt_of_block h.h6)).trans h.h6, (hb.block _ (lt_of_block h.h11)).trans h.h11, (hb.block _ (lt_of_block h.h12)).trans h.h12, (hb.block _ (lt_of_block h.h13)).trans h.h13, (hb.block _ (lt_of_block h.h15)).trans h.h15⟩
theorem ShM.ed {W : World} {p0 p1 p2 p3 p6 p11 p12 p13 p15 : Nat} (h : ShM W p0 p1 p2 p3 p6 p11 p12 p13 p15) : ED W.heap.size W (shH p0 p1 p3 p12) (shHS p13) none shownE := sh_ed h.h0 h.h1 h.h2 h.h3 h.h6 h.h11 h.h12 h.h13
set_option maxRecDepth 100000 in
theorem shEval {p0 p1 p2 p3 p6 p11 p12 p13 p15 : Nat} (W : World) (h : ShM W p0 p1 p2 p3 p6 p11 p12 p13 p15) (x : Int) : Calls Tryz.prog 7 #[.agg #[.slice (some ⟨p0, 0, none⟩) 3 3, .slice (some ⟨p1, 0, none⟩) 3 3, .slice none 0 0, .slice none 0 0, .slice (some ⟨p3, 0, none⟩) 1 1, .int .i64 (-1), .slice (some ⟨p12, 0, none⟩) 9 9, .slice (some ⟨p13, 0, none⟩) 3 3, .slice none 0 0, .slice none 0 0, .int .i64 0, .int .i64 (-1), .int .i64 (-1), .int .i64 (-1), .bool false, .slice none 0 0], .int .i64 x] W fun e W' => e = .returned (.tuple #[.int .i64 (envEval shownE x).1, .int .i64 (envEval shownE x).2]) ∧ Below W.heap.size W W' :=
  eEvalC (h := shH p0 p1 p3 p12) (hs := shHS p13) (ao := none) (ac := 0) x W (Nat.le_refl _) h.ed
set_option maxRecDepth 100000 in
theorem shChan {p0 p1 p2 p3 p6 p11 p12 p13 p15 : Nat} (W : World) (h : ShM W p0 p1 p2 p3 p6 p11 p12 p13 p15) (x : Int) : Calls Tryz.prog 8 #[.agg #[.slice (some ⟨p0, 0, none⟩) 3 3, .slice (some ⟨p1, 0, none⟩) 3 3, .slice none 0 0, .slice none 0 0, .slice (some ⟨p3, 0, none⟩) 1 1, .int .i64 (-1), .slice (some ⟨p12, 0, none⟩) 9 9, .slice (some ⟨p13, 0, none⟩) 3 3, .slice none 0 0, .slice none 0 0, .int .i64 0, .int .i64 (-1), .int .i64 (-1), .int .i64 (-1), .bool false, .slice none 0 0], .int .i64 x] W fun e W' => e = .returned (.tuple #[.int .i64 (envChan shownE x).1, .int .i64 (envChan shownE x).2]) ∧ Below W.heap.size W W' :=
  eChanC (h := shH p0 p1 p3 p12) (hs := shHS p13) (ao := none) (ac := 0) x W (Nat.le_refl _) h.ed
theorem shEvalX {p0 p1 p2 p3 p6 p11 p12 p13 p15 : Nat} (W : World) (h : ShM W p0 p1 p2 p3 p6 p11 p12 p13 p15) (x : Int) {a c : Int} (hv : envEval shownE x = (a, c)) : Calls Tryz.prog 7 #[.agg #[.slice (some ⟨p0, 0, none⟩) 3 3, .slice (some ⟨p1, 0, none⟩) 3 3, .slice none 0 0, .slice none 0 0, .slice (some ⟨p3, 0, none⟩) 1 1, .int .i64 (-1), .slice (some ⟨p12, 0, none⟩) 9 9, .slice (some ⟨p13, 0, none⟩) 3 3, .slice none 0 0, .slice none 0 0, .int .i64 0, .int .i64 (-1), .int .i64 (-1), .int .i64 (-1), .bool false, .slice none 0 0], .int .i64 x] W fun e W' => e = .returned (.tuple #[.int .i64 a, .int .i64 c]) ∧ Below W.heap.size W W' := by
  have h1 := shEval W h x
  rw [hv] at h1
  exact h1
theorem shChanX {p0 p1 p2 p3 p6 p11 p12 p13 p15 : Nat} (W : World) (h : ShM W p0 p1 p2 p3 p6 p11 p12 p13 p15) (x : Int) {a c : Int} (hv : envChan shownE x = (a, c)) : Calls Tryz.prog 8 #[.agg #[.slice (some ⟨p0, 0, none⟩) 3 3, .slice (some ⟨p1, 0, none⟩) 3 3, .slice none 0 0, .slice none 0 0, .slice (some ⟨p3, 0, none⟩) 1 1, .int .i64 (-1), .slice (some ⟨p12, 0, none⟩) 9 9, .slice (some ⟨p13, 0, none⟩) 3 3, .slice none 0 0, .slice none 0 0, .int .i64 0, .int .i64 (-1), .int .i64 (-1), .int .i64 (-1), .bool false, .slice none 0 0], .int .i64 x] W fun e W' => e = .returned (.tuple #[.int .i64 a, .int .i64 c]) ∧ Below W.heap.size W W' := by
  have h1 := shChan W h x
  rw [hv] at h1
  exact h1
theorem shEnv {W : World} {p0 p1 p2 p3 p6 p11 p12 p13 p15 : Nat} (h : ShM W p0 p1 p2 p3 p6 p11 p12 p13 p15) : W.cell? ⟨p15, 0, none⟩ = some (.slice (some ⟨p0, 0, none⟩) 3 3) ∧ W.cell? ⟨p15, 1, none⟩ = some (.slice (some ⟨p1, 0, none⟩) 3 3) ∧ W.cell? ⟨p15, 2, none⟩ = some (.slice none 0 0) ∧ W.cell? ⟨p15, 3, none⟩ = some (.slice none 0 0) ∧ W.cell? ⟨p15, 4, none⟩ = some (.slice (some ⟨p3, 0, none⟩) 1 1) ∧ W.cell? ⟨p15, 5, none⟩ = some (.int .i64 (-1)) ∧ W.cell? ⟨p15, 6, none⟩ = some (.slice (some ⟨p12, 0, none⟩) 9 9) ∧ W.cell? ⟨p15, 7, none⟩ = some (.slice (some ⟨p13, 0, none⟩) 3 3) ∧ W.cell? ⟨p15, 8, none⟩ = some (.slice none 0 0) ∧ W.cell? ⟨p15, 9, none⟩ = some (.slice none 0 0) ∧ W.cell? ⟨p15, 10, none⟩ = some (.int .i64 0) ∧ W.cell? ⟨p15, 11, none⟩ = some (.int .i64 (-1)) ∧ W.cell? ⟨p15, 12, none⟩ = some (.int .i64 (-1)) ∧ W.cell? ⟨p15, 13, none⟩ = some (.int .i64 (-1)) ∧ W.cell? ⟨p15, 14, none⟩ = some (.bool false) ∧ W.cell? ⟨p15, 15, none⟩ = some (.slice none 0 0) :=
  ⟨(cell_of_row _ _ 0 _ _ _ h.h15).trans rfl, (cell_of_row _ _ 1 _ _ _ h.h15).trans rfl, (cell_of_row _ _ 2 _ _ _ h.h15).trans rfl, (cell_of_row _ _ 3 _ _ _ h.h15).trans rfl, (cell_of_row _ _ 4 _ _ _ h.h15).trans rfl, (cell_of_row _ _ 5 _ _ _ h.h15).trans rfl, (cell_of_row _ _ 6 _ _ _ h.h15).trans rfl, (cell_of_row _ _ 7 _ _ _ h.h15).trans rfl, (cell_of_row _ _ 8 _ _ _ h.h15).trans rfl, (cell_of_row _ _ 9 _ _ _ h.h15).trans rfl, (cell_of_row _ _ 10 _ _ _ h.h15).trans rfl, (cell_of_row _ _ 11 _ _ _ h.h15).trans rfl, (cell_of_row _ _ 12 _ _ _ h.h15).trans rfl, (cell_of_row _ _ 13 _ _ _ h.h15).trans rfl, (cell_of_row _ _ 14 _ _ _ h.h15).trans rfl, (cell_of_row _ _ 15 _ _ _ h.h15).trans rfl⟩
theorem shown_p : printF [97, 37, 100, 37, 37, 37, 99, 37, 113] [5, 66] = [97, 53, 37, 66, 37, 113] := by
  rw [printF_plain (by decide), printF_some (by decide) (by decide), printF_pc, printF_some (by decide) (by decide), printF_no (by decide) (by decide)]
  have e1 : convF 100 5 = [53] := by
    unfold convF
    rw [if_neg (by decide), if_neg (by decide), if_neg (by decide), if_neg (by decide)]
    unfold Lib.itoa
    rw [if_neg (by omega), Lib.decDigits]
    rfl
  have e2 : convF 99 66 = [66] := rfl
  rw [e1, e2]
  rfl
def seqTail : Nat → Code → Code
  | 0, c => c
  | n + 1, .seq _ b => seqTail n b
  | _, c => c
def seqHead : Code → Code
  | .seq a _ => a
  | c => c
noncomputable def shBody : Code := Tryz.f5.body.getD .skip
set_option maxRecDepth 1000000 in
set_option maxHeartbeats 4000000 in
theorem shFull10 (w W : World) {p1 p2 p3 p6 p11 p12 p13 p15 : Nat} (hsh : ShM W w.heap.size p1 p2 p3 p6 p11 p12 p13 p15) (h0 : Below w.heap.size w W) (ht : TabW w) (z0 z1 z2 z14 z15 z16 z17 z18 z19 z20 z21 z22 z23 z24 z25 z26 z27 z28 z29 z30 z31 z32 z33 z34 z35 z36 z37 z38 z39 z40 z41 z42 z43 z44 z45 z46 z47 z48 z49 z50 z51 z52 z53 z54 z55 z56 z57 z58 z59 z60 z61 z62 z63 z64 z65 z66 z67 z68 z69 z70 z71 z72 z73 z74 z75 z76 z77 z78 z79 z80 z81 z82 z83 z84 z85 z86 z87 z88 z89 z90 z91 z92 z93 z94 z95 z96 z97 z98 z99 z100 z101 z102 z103 : Value) :
    Code.wp Tryz.prog (seqTail 10 shBody) (bodyPost Tryz.prog Tryz.f5 fun e w' => e = .returned (.bool true) ∧ Below w.heap.size w w') ⟨#[z0, z1, z2, .pointer (some ⟨p15, 0, none⟩), .int .i64 6, .int .i64 0, .int .i64 0, .int .i64 48, .int .i64 0, .int .i64 0, .int .i64 0, .int .i64 47, .int .i64 0, .int .i64 49, z14, z15, z16, z17, z18, z19, z20, z21, z22, z23, z24, z25, z26, z27, z28, z29, z30, z31, z32, z33, z34, z35, z36, z37, z38, z39, z40, z41, z42, z43, z44, z45, z46, z47, z48, z49, z50, z51, z52, z53, z54, z55, z56, z57, z58, z59, z60, z61, z62, z63, z64, z65, z66, z67, z68, z69, z70, z71, z72, z73, z74, z75, z76, z77, z78, z79, z80, z81, z82, z83, z84, z85, z86, z87, z88, z89, z90, z91, z92, z93, z94, z95, z96, z97, z98, z99, z100, z101, z102, z103], []⟩ W := by
  have HSH := Lib.hid hsh
  have H0 := Lib.hid h0
  have HT := Lib.hid ht
  clear hsh h0 ht
  conv => arg 2; whnf
  go_wp2_with fail
  have HROW : Hid (Row (W.alloc (.cells #[.int .i64 5, .int .i64 66] 2)).heap.size (some ⟨W.heap.size, 0, none⟩) 1 (intAt (W.alloc (.cells #[.int .i64 5, .int .i64 66] 2))) [5, 66]) := Lib.hid (by
    have h := heap_alloc_new W (.cells #[.int .i64 5, .int .i64 66] 2)
    refine ⟨by decide, .inr ⟨_, 0, rfl, lt_of_block h, fun i hi => ?_⟩⟩
    have hi' : i = 0 ∨ i = 1 := by
      have : i < 2 := hi
      omega
    rcases hi' with rfl | rfl
    all_goals exact (cell_of_row _ _ _ _ _ _ h).trans rfl)
  have HB5 : Hid (Below w.heap.size w (W.alloc (.cells #[.int .i64 5, .int .i64 66] 2))) := Lib.hid (H0.out.alloc H0.out.size _)
  refine (printC (B := (W.alloc (.cells #[.int .i64 5, .int .i64 66] 2)).heap.size) _ [5, 66] _ 2 _ (Nat.le_refl _) HROW.out (by simp) (by intro v hv; simp at hv; rcases hv with rfl | rfl <;> (unfold inI; omega)) (by decide) (HT.out.below HB5.out)).mono ?_
  rintro e W6 ⟨rfl, hb⟩
  have H6 : Hid (Below w.heap.size w W6) := Lib.hid (HB5.out.trans (hb.mono HB5.out.size))
  clear hb HB5 HROW H0 HSH
  rw [shown_p]
  go_wp2_with fail
  go_ret
  exact ⟨rfl, H6.out⟩

set_option maxRecDepth 1000000 in
set_option maxHeartbeats 4000000 in
theorem shFull9 (w W : World) {p1 p2 p3 p6 p11 p12 p13 p15 : Nat} (hsh : ShM W w.heap.size p1 p2 p3 p6 p11 p12 p13 p15) (h0 : Below w.heap.size w W) (ht : TabW w) (z0 z1 z2 z12 z13 z14 z15 z16 z17 z18 z19 z20 z21 z22 z23 z24 z25 z26 z27 z28 z29 z30 z31 z32 z33 z34 z35 z36 z37 z38 z39 z40 z41 z42 z43 z44 z45 z46 z47 z48 z49 z50 z51 z52 z53 z54 z55 z56 z57 z58 z59 z60 z61 z62 z63 z64 z65 z66 z67 z68 z69 z70 z71 z72 z73 z74 z75 z76 z77 z78 z79 z80 z81 z82 z83 z84 z85 z86 z87 z88 z89 z90 z91 z92 z93 z94 z95 z96 z97 z98 z99 z100 z101 z102 z103 : Value) :
    Code.wp Tryz.prog (seqTail 9 shBody) (bodyPost Tryz.prog Tryz.f5 fun e w' => e = .returned (.bool true) ∧ Below w.heap.size w w') ⟨#[z0, z1, z2, .pointer (some ⟨p15, 0, none⟩), .int .i64 6, .int .i64 0, .int .i64 0, .int .i64 48, .int .i64 0, .int .i64 0, .int .i64 0, .int .i64 47, z12, z13, z14, z15, z16, z17, z18, z19, z20, z21, z22, z23, z24, z25, z26, z27, z28, z29, z30, z31, z32, z33, z34, z35, z36, z37, z38, z39, z40, z41, z42, z43, z44, z45, z46, z47, z48, z49, z50, z51, z52, z53, z54, z55, z56, z57, z58, z59, z60, z61, z62, z63, z64, z65, z66, z67, z68, z69, z70, z71, z72, z73, z74, z75, z76, z77, z78, z79, z80, z81, z82, z83, z84, z85, z86, z87, z88, z89, z90, z91, z92, z93, z94, z95, z96, z97, z98, z99, z100, z101, z102, z103], []⟩ W := by
  have HSH := Lib.hid hsh
  have H0 := Lib.hid h0
  have HT := Lib.hid ht
  clear hsh h0 ht
  show Code.wp Tryz.prog (Code.seq (seqHead (seqTail 9 shBody)) (seqTail 10 shBody)) _ _ _
  refine wp_seq ?_
  conv => arg 2; whnf
  obtain ⟨m0, m1, m2, m3, m4, m5, m6, m7, m8, m9, m10, m11, m12, m13, m14, m15⟩ := shEnv HSH.out
  go_wp2_with fail
  clear m0 m1 m2 m3 m4 m5 m6 m7 m8 m9 m10 m11 m12 m13 m14 m15
  refine (shChanX _ HSH.out 5 shown_5).mono ?_
  rintro e W1 ⟨rfl, hb⟩
  have H1 : Hid (Below w.heap.size w W1) := Lib.hid (H0.out.trans (hb.mono H0.out.size))
  have S1 := Lib.hid (HSH.out.below hb)
  clear hb H0 HSH
  go_wp2_with fail
  exact shFull10 w W1 S1.out H1.out HT.out _ _ _ _ _ _ _ _ _ _ _ _ _ _ _ _ _ _ _ _ _ _ _ _ _ _ _ _ _ _ _ _ _ _ _ _ _ _ _ _ _ _ _ _ _ _ _ _ _ _ _ _ _ _ _ _ _ _ _ _ _ _ _ _ _ _ _ _ _ _ _ _ _ _ _ _ _ _ _ _ _ _ _ _ _ _ _ _ _ _ _ _ _

set_option maxRecDepth 1000000 in
set_option maxHeartbeats 4000000 in
theorem shFull8 (w W : World) {p1 p2 p3 p6 p11 p12 p13 p15 : Nat} (hsh : ShM W w.heap.size p1 p2 p3 p6 p11 p12 p13 p15) (h0 : Below w.heap.size w W) (ht : TabW w) (z0 z1 z2 z10 z11 z12 z13 z14 z15 z16 z17 z18 z19 z20 z21 z22 z23 z24 z25 z26 z27 z28 z29 z30 z31 z32 z33 z34 z35 z36 z37 z38 z39 z40 z41 z42 z43 z44 z45 z46 z47 z48 z49 z50 z51 z52 z53 z54 z55 z56 z57 z58 z59 z60 z61 z62 z63 z64 z65 z66 z67 z68 z69 z70 z71 z72 z73 z74 z75 z76 z77 z78 z79 z80 z81 z82 z83 z84 z85 z86 z87 z88 z89 z90 z91 z92 z93 z94 z95 z96 z97 z98 z99 z100 z101 z102 z103 : Value) :
    Code.wp Tryz.prog (seqTail 8 shBody) (bodyPost Tryz.prog Tryz.f5 fun e w' => e = .returned (.bool true) ∧ Below w.heap.size w w') ⟨#[z0, z1, z2, .pointer (some ⟨p15, 0, none⟩), .int .i64 6, .int .i64 0, .int .i64 0, .int .i64 48, .int .i64 0, .int .i64 0, z10, z11, z12, z13, z14, z15, z16, z17, z18, z19, z20, z21, z22, z23, z24, z25, z26, z27, z28, z29, z30, z31, z32, z33, z34, z35, z36, z37, z38, z39, z40, z41, z42, z43, z44, z45, z46, z47, z48, z49, z50, z51, z52, z53, z54, z55, z56, z57, z58, z59, z60, z61, z62, z63, z64, z65, z66, z67, z68, z69, z70, z71, z72, z73, z74, z75, z76, z77, z78, z79, z80, z81, z82, z83, z84, z85, z86, z87, z88, z89, z90, z91, z92, z93, z94, z95, z96, z97, z98, z99, z100, z101, z102, z103], []⟩ W := by
  have HSH := Lib.hid hsh
  have H0 := Lib.hid h0
  have HT := Lib.hid ht
  clear hsh h0 ht
  show Code.wp Tryz.prog (Code.seq (seqHead (seqTail 8 shBody)) (seqTail 9 shBody)) _ _ _
  refine wp_seq ?_
  conv => arg 2; whnf
  obtain ⟨m0, m1, m2, m3, m4, m5, m6, m7, m8, m9, m10, m11, m12, m13, m14, m15⟩ := shEnv HSH.out
  go_wp2_with fail
  clear m0 m1 m2 m3 m4 m5 m6 m7 m8 m9 m10 m11 m12 m13 m14 m15
  refine (shEvalX _ HSH.out 8 shown_8).mono ?_
  rintro e W1 ⟨rfl, hb⟩
  have H1 : Hid (Below w.heap.size w W1) := Lib.hid (H0.out.trans (hb.mono H0.out.size))
  have S1 := Lib.hid (HSH.out.below hb)
  clear hb H0 HSH
  go_wp2_with fail
  exact shFull9 w W1 S1.out H1.out HT.out _ _ _ _ _ _ _ _ _ _ _ _ _ _ _ _ _ _ _ _ _ _ _ _ _ _ _ _ _ _ _ _ _ _ _ _ _ _ _ _ _ _ _ _ _ _ _ _ _ _ _ _ _ _ _ _ _ _ _ _ _ _ _ _ _ _ _ _ _ _ _ _ _ _ _ _ _ _ _ _ _ _ _ _ _ _ _ _ _ _ _ _ _ _ _

set_option maxRecDepth 1000000 in
set_option maxHeartbeats 4000000 in
theorem shFull7 (w W : World) {p1 p2 p3 p6 p11 p12 p13 p15 : Nat} (hsh : ShM W w.heap.size p1 p2 p3 p6 p11 p12 p13 p15) (h0 : Below w.heap.size w W) (ht : TabW w) (z0 z1 z2 z8 z9 z10 z11 z12 z13 z14 z15 z16 z17 z18 z19 z20 z21 z22 z23 z24 z25 z26 z27 z28 z29 z30 z31 z32 z33 z34 z35 z36 z37 z38 z39 z40 z41 z42 z43 z44 z45 z46 z47 z48 z49 z50 z51 z52 z53 z54 z55 z56 z57 z58 z59 z60 z61 z62 z63 z64 z65 z66 z67 z68 z69 z70 z71 z72 z73 z74 z75 z76 z77 z78 z79 z80 z81 z82 z83 z84 z85 z86 z87 z88 z89 z90 z91 z92 z93 z94 z95 z96 z97 z98 z99 z100 z101 z102 z103 : Value) :
    Code.wp Tryz.prog (seqTail 7 shBody) (bodyPost Tryz.prog Tryz.f5 fun e w' => e = .returned (.bool true) ∧ Below w.heap.size w w') ⟨#[z0, z1, z2, .pointer (some ⟨p15, 0, none⟩), .int .i64 6, .int .i64 0, .int .i64 0, .int .i64 48, z8, z9, z10, z11, z12, z13, z14, z15, z16, z17, z18, z19, z20, z21, z22, z23, z24, z25, z26, z27, z28, z29, z30, z31, z32, z33, z34, z35, z36, z37, z38, z39, z40, z41, z42, z43, z44, z45, z46, z47, z48, z49, z50, z51, z52, z53, z54, z55, z56, z57, z58, z59, z60, z61, z62, z63, z64, z65, z66, z67, z68, z69, z70, z71, z72, z73, z74, z75, z76, z77, z78, z79, z80, z81, z82, z83, z84, z85, z86, z87, z88, z89, z90, z91, z92, z93, z94, z95, z96, z97, z98, z99, z100, z101, z102, z103], []⟩ W := by
  have HSH := Lib.hid hsh
  have H0 := Lib.hid h0
  have HT := Lib.hid ht
  clear hsh h0 ht
  show Code.wp Tryz.prog (Code.seq (seqHead (seqTail 7 shBody)) (seqTail 8 shBody)) _ _ _
  refine wp_seq ?_
  conv => arg 2; whnf
  obtain ⟨m0, m1, m2, m3, m4, m5, m6, m7, m8, m9, m10, m11, m12, m13, m14, m15⟩ := shEnv HSH.out
  go_wp2_with fail
  clear m0 m1 m2 m3 m4 m5 m6 m7 m8 m9 m10 m11 m12 m13 m14 m15
  refine (shEvalX _ HSH.out 6 shown_6).mono ?_
  rintro e W1 ⟨rfl, hb⟩
  have H1 : Hid (Below w.heap.size w W1) := Lib.hid (H0.out.trans (hb.mono H0.out.size))
  have S1 := Lib.hid (HSH.out.below hb)
  clear hb H0 HSH
  go_wp2_with fail
  exact shFull8 w W1 S1.out H1.out HT.out _ _ _ _ _ _ _ _ _ _ _ _ _ _ _ _ _ _ _ _ _ _ _ _ _ _ _ _ _ _ _ _ _ _ _ _ _ _ _ _ _ _ _ _ _ _ _ _ _ _ _ _ _ _ _ _ _ _ _ _ _ _ _ _ _ _ _ _ _ _ _ _ _ _ _ _ _ _ _ _ _ _ _ _ _ _ _ _ _ _ _ _ _ _ _ _ _

set_option maxRecDepth 1000000 in
set_option maxHeartbeats 4000000 in
theorem shFull6 (w W : World) {p1 p2 p3 p6 p11 p12 p13 p15 : Nat} (hsh : ShM W w.heap.size p1 p2 p3 p6 p11 p12 p13 p15) (h0 : Below w.heap.size w W) (ht : TabW w) (z0 z1 z2 z6 z7 z8 z9 z10 z11 z12 z13 z14 z15 z16 z17 z18 z19 z20 z21 z22 z23 z24 z25 z26 z27 z28 z29 z30 z31 z32 z33 z34 z35 z36 z37 z38 z39 z40 z41 z42 z43 z44 z45 z46 z47 z48 z49 z50 z51 z52 z53 z54 z55 z56 z57 z58 z59 z60 z61 z62 z63 z64 z65 z66 z67 z68 z69 z70 z71 z72 z73 z74 z75 z76 z77 z78 z79 z80 z81 z82 z83 z84 z85 z86 z87 z88 z89 z90 z91 z92 z93 z94 z95 z96 z97 z98 z99 z100 z101 z102 z103 : Value) :
    Code.wp Tryz.prog (seqTail 6 shBody) (bodyPost Tryz.prog Tryz.f5 fun e w' => e = .returned (.bool true) ∧ Below w.heap.size w w') ⟨#[z0, z1, z2, .pointer (some ⟨p15, 0, none⟩), .int .i64 6, .int .i64 0, z6, z7, z8, z9, z10, z11, z12, z13, z14, z15, z16, z17, z18, z19, z20, z21, z22, z23, z24, z25, z26, z27, z28, z29, z30, z31, z32, z33, z34, z35, z36, z37, z38, z39, z40, z41, z42, z43, z44, z45, z46, z47, z48, z49, z50, z51, z52, z53, z54, z55, z56, z57, z58, z59, z60, z61, z62, z63, z64, z65, z66, z67, z68, z69, z70, z71, z72, z73, z74, z75, z76, z77, z78, z79, z80, z81, z82, z83, z84, z85, z86, z87, z88, z89, z90, z91, z92, z93, z94, z95, z96, z97, z98, z99, z100, z101, z102, z103], []⟩ W := by
  have HSH := Lib.hid hsh
  have H0 := Lib.hid h0
  have HT := Lib.hid ht
  clear hsh h0 ht
  show Code.wp Tryz.prog (Code.seq (seqHead (seqTail 6 shBody)) (seqTail 7 shBody)) _ _ _
  refine wp_seq ?_
  conv => arg 2; whnf
  obtain ⟨m0, m1, m2, m3, m4, m5, m6, m7, m8, m9, m10, m11, m12, m13, m14, m15⟩ := shEnv HSH.out
  go_wp2_with fail
  clear m0 m1 m2 m3 m4 m5 m6 m7 m8 m9 m10 m11 m12 m13 m14 m15
  refine (shEvalX _ HSH.out 4 shown_4).mono ?_
  rintro e W1 ⟨rfl, hb⟩
  have H1 : Hid (Below w.heap.size w W1) := Lib.hid (H0.out.trans (hb.mono H0.out.size))
  have S1 := Lib.hid (HSH.out.below hb)
  clear hb H0 HSH
  go_wp2_with fail
  exact shFull7 w W1 S1.out H1.out HT.out _ _ _ _ _ _ _ _ _ _ _ _ _ _ _ _ _ _ _ _ _ _ _ _ _ _ _ _ _ _ _ _ _ _ _ _ _ _ _ _ _ _ _ _ _ _ _ _ _ _ _ _ _ _ _ _ _ _ _ _ _ _ _ _ _ _ _ _ _ _ _ _ _ _ _ _ _ _ _ _ _ _ _ _ _ _ _ _ _ _ _ _ _ _ _ _ _ _ _

set_option maxRecDepth 1000000 in
set_option maxHeartbeats 4000000 in
theorem shSeg5 (w W : World) {p1 p2 p3 p6 p11 p12 p13 p15 : Nat} (hsh : ShM W w.heap.size p1 p2 p3 p6 p11 p12 p13 p15) (h0 : Below w.heap.size w W) (ht : TabW w) (z0 z1 z2 z4 z5 z6 z7 z8 z9 z10 z11 z12 z13 z14 z15 z16 z17 z18 z19 z20 z21 z22 z23 z24 z25 z26 z27 z28 z29 z30 z31 z32 z33 z34 z35 z36 z37 z38 z39 z40 z41 z42 z43 z44 z45 z46 z47 z48 z49 z50 z51 z52 z53 z54 z55 z56 z57 z58 z59 z60 z61 z62 z63 z64 z65 z66 z67 z68 z69 z70 z71 z72 z73 z74 z75 z76 z77 z78 z79 z80 z81 z82 z83 z84 z85 z86 z87 z88 z89 z90 z91 z92 z93 z94 z95 z96 z97 z98 z99 z100 z101 z102 z103 : Value) :
    Code.wp Tryz.prog (seqHead (seqTail 5 shBody)) (Exit.then (fun a w' => Code.wp Tryz.prog (seqTail 6 shBody) (bodyPost Tryz.prog Tryz.f5 fun e w' => e = .returned (.bool true) ∧ Below w.heap.size w w') a w') (bodyPost Tryz.prog Tryz.f5 fun e w' => e = .returned (.bool true) ∧ Below w.heap.size w w')) ⟨#[z0, z1, z2, .pointer (some ⟨p15, 0, none⟩), z4, z5, z6, z7, z8, z9, z10, z11, z12, z13, z14, z15, z16, z17, z18, z19, z20, z21, z22, z23, z24, z25, z26, z27, z28, z29, z30, z31, z32, z33, z34, z35, z36, z37, z38, z39, z40, z41, z42, z43, z44, z45, z46, z47, z48, z49, z50, z51, z52, z53, z54, z55, z56, z57, z58, z59, z60, z61, z62, z63, z64, z65, z66, z67, z68, z69, z70, z71, z72, z73, z74, z75, z76, z77, z78, z79, z80, z81, z82, z83, z84, z85, z86, z87, z88, z89, z90, z91, z92, z93, z94, z95, z96, z97, z98, z99, z100, z101, z102, z103], []⟩ W := by
  have HSH := Lib.hid hsh
  have H0 := Lib.hid h0
  have HT := Lib.hid ht
  clear hsh h0 ht
  conv => arg 2; whnf
  obtain ⟨m0, m1, m2, m3, m4, m5, m6, m7, m8, m9, m10, m11, m12, m13, m14, m15⟩ := shEnv HSH.out
  go_wp2_with fail
  clear m0 m1 m2 m3 m4 m5 m6 m7 m8 m9 m10 m11 m12 m13 m14 m15
  refine (shEvalX _ HSH.out 1 shown_1).mono ?_
  rintro e W1 ⟨rfl, hb⟩
  have H1 : Hid (Below w.heap.size w W1) := Lib.hid (H0.out.trans (hb.mono H0.out.size))
  have S1 := Lib.hid (HSH.out.below hb)
  clear hb H0 HSH
  go_wp2_with fail
  exact shFull6 w W1 S1.out H1.out HT.out _ _ _ _ _ _ _ _ _ _ _ _ _ _ _ _ _ _ _ _ _ _ _ _ _ _ _ _ _ _ _ _ _ _ _ _ _ _ _ _ _ _ _ _ _ _ _ _ _ _ _ _ _ _ _ _ _ _ _ _ _ _ _ _ _ _ _ _ _ _ _ _ _ _ _ _ _ _ _ _ _ _ _ _ _ _ _ _ _ _ _ _ _ _ _ _ _ _ _ _ _



set_option maxRecDepth 100000 in
set_option maxHeartbeats 4000000 in
theorem shownC (w : World) (ht : TabW w) : Calls Tryz.prog 5 #[] w fun e w' => e = .returned (.bool true) ∧ Below w.heap.size w w' := by
  have HT := Lib.hid ht
  clear ht
  go_enter Tryz.func5, Tryz.ntmps5
  go_upto_region 2 with fail
  obtain ⟨WA, hWA⟩ : ∃ WA, WA = (((((w.alloc (.cells #[.int .i64 8, .bool false, .int .i64 8, .bool false, .int .i64 8, .bool false] 61)).alloc (.cells #[.int .i64 4, .int .i64 5, .int .i64 6] 2)).alloc (.cells #[.slice none 0 0, .slice none 0 0, .bool false, .bool false, .bool false, .bool false, .bool false] 65)).alloc (.cells #[.string ⟨#[]⟩, .int .i64 0, .slice none 0 0, .slice none 0 0, .slice (some ⟨w.heap.size + 1 + 1, 0, none⟩) 1 1, .int .i64 0, .int .i64 0, .int .i64 0, .int .i64 1, .int .i64 (-1)] 68)).alloc (.cells #[.slice (some ⟨w.heap.size, 0, none⟩) 3 3, .slice (some ⟨w.heap.size + 1, 0, none⟩) 3 3, .slice none 0 0, .slice none 0 0, .slice (some ⟨w.heap.size + 1 + 1 + 1, 0, none⟩) 1 1, .int .i64 (-1), .slice none 0 0] 29)) := ⟨_, rfl⟩
  have HWA : Hid (WA = allocs w [(.cells #[.int .i64 8, .bool false, .int .i64 8, .bool false, .int .i64 8, .bool false] 61), (.cells #[.int .i64 4, .int .i64 5, .int .i64 6] 2), (.cells #[.slice none 0 0, .slice none 0 0, .bool false, .bool false, .bool false, .bool false, .bool false] 65), (.cells #[.string ⟨#[]⟩, .int .i64 0, .slice none 0 0, .slice none 0 0, .slice (some ⟨w.heap.size + 1 + 1, 0, none⟩) 1 1, .int .i64 0, .int .i64 0, .int .i64 0, .int .i64 1, .int .i64 (-1)] 68), (.cells #[.slice (some ⟨w.heap.size, 0, none⟩) 3 3, .slice (some ⟨w.heap.size + 1, 0, none⟩) 3 3, .slice none 0 0, .slice none 0 0, .slice (some ⟨w.heap.size + 1 + 1 + 1, 0, none⟩) 1 1, .int .i64 (-1), .slice none 0 0] 29)]) := Lib.hid hWA
  rw [← hWA]
  clear hWA
  have HBA : Hid (Below w.heap.size w WA) := Lib.hid (by rw [HWA.out]; exact allocs_below _ _ _ (Nat.le_refl _))
  have HA0 : Hid (WA.heap[w.heap.size]? = some (.cells shC0 61 (0, 0))) := Lib.hid (by rw [HWA.out]; exact allocs_at (k := 0) rfl)
  have HA1 : Hid (WA.heap[w.heap.size + 1]? = some (.cells shC1 2 (0, 0))) := Lib.hid (by rw [HWA.out]; exact allocs_at (k := 1) rfl)
  have HA2 : Hid (WA.heap[w.heap.size + 1 + 1]? = some (.cells shC2 65 (0, 0))) := Lib.hid (by rw [HWA.out]; exact allocs_at (k := 2) rfl)
  have HA3 : Hid (WA.heap[w.heap.size + 1 + 1 + 1]? = some (.cells (shC3 (w.heap.size + 1 + 1)) 68 (0, 0))) := Lib.hid (by rw [HWA.out]; exact allocs_at (k := 3) rfl)
  have HA4 : Hid (WA.heap[w.heap.size + 1 + 1 + 1 + 1]? = some (.cells (shC4 w.heap.size (w.heap.size + 1) (w.heap.size + 1 + 1 + 1) (.slice none 0 0)) 29 (0, 0))) := Lib.hid (by rw [HWA.out]; exact allocs_at (k := 4) rfl)
  have HP4 : Hid (w.heap.size ≤ w.heap.size + 1 + 1 + 1 + 1) := Lib.hid (by omega)
  have HNE : Hid (w.heap.size ≠ w.heap.size + 1 + 1 + 1 + 1 ∧ w.heap.size + 1 ≠ w.heap.size + 1 + 1 + 1 + 1 ∧ w.heap.size + 1 + 1 ≠ w.heap.size + 1 + 1 + 1 + 1 ∧ w.heap.size + 1 + 1 + 1 ≠ w.heap.size + 1 + 1 + 1 + 1) := Lib.hid (by omega)
  clear HWA
  generalize w.heap.size + 1 + 1 + 1 + 1 = p4 at *
  generalize w.heap.size + 1 + 1 + 1 = p3 at *
  generalize w.heap.size + 1 + 1 = p2 at *
  generalize w.heap.size + 1 = p1 at *
  have hp4 : p4 < WA.heap.size := lt_of_block HA4.out
  have HBB : Hid (Below WA.heap.size WA ((((((((WA.alloc (.cells #[.int .i64 1, .int .i64 2, .int .i64 (-1), .int .i64 (-1), .int .i64 (-1), .int .i64 0, .int .i64 0, .int .i64 0, .int .i64 0, .slice none 0 0, .slice none 0 0, .slice none 0 0] 73)).alloc (.cells #[.int .i64 0, .int .i64 3, .int .i64 1] 76)).alloc (.cells #[.int .i64 1, .int .i64 7, .int .i64 (-1), .int .i64 (-1), .int .i64 (-1), .int .i64 0, .int .i64 0, .int .i64 0, .int .i64 0, .slice none 0 0, .slice none 0 0, .slice none 0 0] 73)).alloc (.cells #[.int .i64 1, .int .i64 0, .int .i64 (-1), .int .i64 (-1), .int .i64 (-1), .int .i64 0, .int .i64 0, .int .i64 0, .int .i64 0, .slice none 0 0, .slice none 0 0, .slice none 0 0] 73)).alloc (.cells #[.int .i64 1, .int .i64 0, .int .i64 (-1), .int .i64 (-1), .int .i64 (-1), .int .i64 0, .int .i64 0, .int .i64 0, .int .i64 0, .slice none 0 0, .slice none 0 0, .slice none 0 0] 73)).alloc (.cells #[.int .i64 1, .int .i64 3, .int .i64 (-1), .int .i64 (-1), .int .i64 (-1), .int .i64 0, .int .i64 0, .int .i64 0, .int .i64 0, .slice none 0 0, .slice none 0 0, .slice none 0 0] 73)).alloc (.cells #[.int .i64 7, .int .i64 3, .int .i64 1] 76)).alloc (.cells #[.int .i64 1, .int .i64 2, .int .i64 (-1), .int .i64 (-1), .int .i64 (-1), .int .i64 0, .int .i64 0, .int .i64 0, .int .i64 0, .slice none 0 0, .slice none 0 0, .slice none 0 0, .int .i64 2, .int .i64 0, .int .i64 (-1), .int .i64 (-1), .int .i64 (-1), .int .i64 0, .int .i64 0, .int .i64 (-1), .int .i64 (-1), .slice (some ⟨WA.heap.size + 1, 0, none⟩) 1 1, .slice none 0 0, .slice none 0 0, .int .i64 1, .int .i64 7, .int .i64 (-1), .int .i64 (-1), .int .i64 (-1), .int .i64 0, .int .i64 0, .int .i64 0, .int .i64 0, .slice none 0 0, .slice none 0 0, .slice none 0 0, .int .i64 1, .int .i64 0, .int .i64 (-1), .int .i64 (-1), .int .i64 (-1), .int .i64 0, .int .i64 0, .int .i64 0, .int .i64 0, .slice none 0 0, .slice none 0 0, .slice none 0 0, .int .i64 7, .int .i64 0, .int .i64 2, .int .i64 3, .int .i64 (-1), .int .i64 0, .int .i64 0, .int .i64 0, .int .i64 0, .slice none 0 0, .slice none 0 0, .slice none 0 0, .int .i64 1, .int .i64 0, .int .i64 (-1), .int .i64 (-1), .int .i64 (-1), .int .i64 0, .int .i64 0, .int .i64 0, .int .i64 0, .slice none 0 0, .slice none 0 0, .slice none 0 0, .int .i64 22, .int .i64 0, .int .i64 5, .int .i64 4, .int .i64 (-1), .int .i64 0, .int .i64 0, .int .i64 0, .int .i64 0, .slice none 0 0, .slice none 0 0, .slice none 0 0, .int .i64 1, .int .i64 3, .int .i64 (-1), .int .i64 (-1), .int .i64 (-1), .int .i64 0, .int .i64 0, .int .i64 0, .int .i64 0, .slice none 0 0, .slice none 0 0, .slice none 0 0, .int .i64 2, .int .i64 0, .int .i64 (-1), .int .i64 (-1), .int .i64 (-1), .int .i64 0, .int .i64 0, .int .i64 (-1), .int .i64 (-1), .slice (some ⟨WA.heap.size + 1 + 1 + 1 + 1 + 1 + 1, 0, none⟩) 1 1, .slice none 0 0, .slice none 0 0] 73))) := Lib.hid (allocs_below [exO 2, .cells shC6 76, exO 7, exO 0, exO 0, exO 3, .cells shC11 76, .cells (shC12 (WA.heap.size + 1) (WA.heap.size + 1 + 1 + 1 + 1 + 1 + 1)) 73] WA WA.heap.size (Nat.le_refl _))
  have a6 : ((((((((WA.alloc (.cells #[.int .i64 1, .int .i64 2, .int .i64 (-1), .int .i64 (-1), .int .i64 (-1), .int .i64 0, .int .i64 0, .int .i64 0, .int .i64 0, .slice none 0 0, .slice none 0 0, .slice none 0 0] 73)).alloc (.cells #[.int .i64 0, .int .i64 3, .int .i64 1] 76)).alloc (.cells #[.int .i64 1, .int .i64 7, .int .i64 (-1), .int .i64 (-1), .int .i64 (-1), .int .i64 0, .int .i64 0, .int .i64 0, .int .i64 0, .slice none 0 0, .slice none 0 0, .slice none 0 0] 73)).alloc (.cells #[.int .i64 1, .int .i64 0, .int .i64 (-1), .int .i64 (-1), .int .i64 (-1), .int .i64 0, .int .i64 0, .int .i64 0, .int .i64 0, .slice none 0 0, .slice none 0 0, .slice none 0 0] 73)).alloc (.cells #[.int .i64 1, .int .i64 0, .int .i64 (-1), .int .i64 (-1), .int .i64 (-1), .int .i64 0, .int .i64 0, .int .i64 0, .int .i64 0, .slice none 0 0, .slice none 0 0, .slice none 0 0] 73)).alloc (.cells #[.int .i64 1, .int .i64 3, .int .i64 (-1), .int .i64 (-1), .int .i64 (-1), .int .i64 0, .int .i64 0, .int .i64 0, .int .i64 0, .slice none 0 0, .slice none 0 0, .slice none 0 0] 73)).alloc (.cells #[.int .i64 7, .int .i64 3, .int .i64 1] 76)).alloc (.cells #[.int .i64 1, .int .i64 2, .int .i64 (-1), .int .i64 (-1), .int .i64 (-1), .int .i64 0, .int .i64 0, .int .i64 0, .int .i64 0, .slice none 0 0, .slice none 0 0, .slice none 0 0, .int .i64 2, .int .i64 0, .int .i64 (-1), .int .i64 (-1), .int .i64 (-1), .int .i64 0, .int .i64 0, .int .i64 (-1), .int .i64 (-1), .slice (some ⟨WA.heap.size + 1, 0, none⟩) 1 1, .slice none 0 0, .slice none 0 0, .int .i64 1, .int .i64 7, .int .i64 (-1), .int .i64 (-1), .int .i64 (-1), .int .i64 0, .int .i64 0, .int .i64 0, .int .i64 0, .slice none 0 0, .slice none 0 0, .slice none 0 0, .int .i64 1, .int .i64 0, .int .i64 (-1), .int .i64 (-1), .int .i64 (-1), .int .i64 0, .int .i64 0, .int .i64 0, .int .i64 0, .slice none 0 0, .slice none 0 0, .slice none 0 0, .int .i64 7, .int .i64 0, .int .i64 2, .int .i64 3, .int .i64 (-1), .int .i64 0, .int .i64 0, .int .i64 0, .int .i64 0, .slice none 0 0, .slice none 0 0, .slice none 0 0, .int .i64 1, .int .i64 0, .int .i64 (-1), .int .i64 (-1), .int .i64 (-1), .int .i64 0, .int .i64 0, .int .i64 0, .int .i64 0, .slice none 0 0, .slice none 0 0, .slice none 0 0, .int .i64 22, .int .i64 0, .int .i64 5, .int .i64 4, .int .i64 (-1), .int .i64 0, .int .i64 0, .int .i64 0, .int .i64 0, .slice none 0 0, .slice none 0 0, .slice none 0 0, .int .i64 1, .int .i64 3, .int .i64 (-1), .int .i64 (-1), .int .i64 (-1), .int .i64 0, .int .i64 0, .int .i64 0, .int .i64 0, .slice none 0 0, .slice none 0 0, .slice none 0 0, .int .i64 2, .int .i64 0, .int .i64 (-1), .int .i64 (-1), .int .i64 (-1), .int .i64 0, .int .i64 0, .int .i64 (-1), .int .i64 (-1), .slice (some ⟨WA.heap.size + 1 + 1 + 1 + 1 + 1 + 1, 0, none⟩) 1 1, .slice none 0 0, .slice none 0 0] 73)).cell? ⟨p4, 6, none⟩ = some (.slice none 0 0) := (HBB.out.cell (by exact hp4)).trans ((cell_of_row _ _ 6 _ _ _ HA4.out).trans rfl)
  have f6 : ((((((((WA.alloc (.cells #[.int .i64 1, .int .i64 2, .int .i64 (-1), .int .i64 (-1), .int .i64 (-1), .int .i64 0, .int .i64 0, .int .i64 0, .int .i64 0, .slice none 0 0, .slice none 0 0, .slice none 0 0] 73)).alloc (.cells #[.int .i64 0, .int .i64 3, .int .i64 1] 76)).alloc (.cells #[.int .i64 1, .int .i64 7, .int .i64 (-1), .int .i64 (-1), .int .i64 (-1), .int .i64 0, .int .i64 0, .int .i64 0, .int .i64 0, .slice none 0 0, .slice none 0 0, .slice none 0 0] 73)).alloc (.cells #[.int .i64 1, .int .i64 0, .int .i64 (-1), .int .i64 (-1), .int .i64 (-1), .int .i64 0, .int .i64 0, .int .i64 0, .int .i64 0, .slice none 0 0, .slice none 0 0, .slice none 0 0] 73)).alloc (.cells #[.int .i64 1, .int .i64 0, .int .i64 (-1), .int .i64 (-1), .int .i64 (-1), .int .i64 0, .int .i64 0, .int .i64 0, .int .i64 0, .slice none 0 0, .slice none 0 0, .slice none 0 0] 73)).alloc (.cells #[.int .i64 1, .int .i64 3, .int .i64 (-1), .int .i64 (-1), .int .i64 (-1), .int .i64 0, .int .i64 0, .int .i64 0, .int .i64 0, .slice none 0 0, .slice none 0 0, .slice none 0 0] 73)).alloc (.cells #[.int .i64 7, .int .i64 3, .int .i64 1] 76)).alloc (.cells #[.int .i64 1, .int .i64 2, .int .i64 (-1), .int .i64 (-1), .int .i64 (-1), .int .i64 0, .int .i64 0, .int .i64 0, .int .i64 0, .slice none 0 0, .slice none 0 0, .slice none 0 0, .int .i64 2, .int .i64 0, .int .i64 (-1), .int .i64 (-1), .int .i64 (-1), .int .i64 0, .int .i64 0, .int .i64 (-1), .int .i64 (-1), .slice (some ⟨WA.heap.size + 1, 0, none⟩) 1 1, .slice none 0 0, .slice none 0 0, .int .i64 1, .int .i64 7, .int .i64 (-1), .int .i64 (-1), .int .i64 (-1), .int .i64 0, .int .i64 0, .int .i64 0, .int .i64 0, .slice none 0 0, .slice none 0 0, .slice none 0 0, .int .i64 1, .int .i64 0, .int .i64 (-1), .int .i64 (-1), .int .i64 (-1), .int .i64 0, .int .i64 0, .int .i64 0, .int .i64 0, .slice none 0 0, .slice none 0 0, .slice none 0 0, .int .i64 7, .int .i64 0, .int .i64 2, .int .i64 3, .int .i64 (-1), .int .i64 0, .int .i64 0, .int .i64 0, .int .i64 0, .slice none 0 0, .slice none 0 0, .slice none 0 0, .int .i64 1, .int .i64 0, .int .i64 (-1), .int .i64 (-1), .int .i64 (-1), .int .i64 0, .int .i64 0, .int .i64 0, .int .i64 0, .slice none 0 0, .slice none 0 0, .slice none 0 0, .int .i64 22, .int .i64 0, .int .i64 5, .int .i64 4, .int .i64 (-1), .int .i64 0, .int .i64 0, .int .i64 0, .int .i64 0, .slice none 0 0, .slice none 0 0, .slice none 0 0, .int .i64 1, .int .i64 3, .int .i64 (-1), .int .i64 (-1), .int .i64 (-1), .int .i64 0, .int .i64 0, .int .i64 0, .int .i64 0, .slice none 0 0, .slice none 0 0, .slice none 0 0, .int .i64 2, .int .i64 0, .int .i64 (-1), .int .i64 (-1), .int .i64 (-1), .int .i64 0, .int .i64 0, .int .i64 (-1), .int .i64 (-1), .slice (some ⟨WA.heap.size + 1 + 1 + 1 + 1 + 1 + 1, 0, none⟩) 1 1, .slice none 0 0, .slice none 0 0] 73)).frozen? ⟨p4, 6, none⟩ = false := (HBB.out.frozen (by exact hp4)).trans (frozen_of_row _ _ 6 _ _ HA4.out)
  go_upto_region 3 with (go_at_call 17; refine (numC _ _).mono ?_; rintro e wN ⟨rfl, rfl⟩; unfold exV exO)
  clear a6 f6
  obtain ⟨WB, hWB⟩ : ∃ WB, WB = ((((((((WA.alloc (.cells #[.int .i64 1, .int .i64 2, .int .i64 (-1), .int .i64 (-1), .int .i64 (-1), .int .i64 0, .int .i64 0, .int .i64 0, .int .i64 0, .slice none 0 0, .slice none 0 0, .slice none 0 0] 73)).alloc (.cells #[.int .i64 0, .int .i64 3, .int .i64 1] 76)).alloc (.cells #[.int .i64 1, .int .i64 7, .int .i64 (-1), .int .i64 (-1), .int .i64 (-1), .int .i64 0, .int .i64 0, .int .i64 0, .int .i64 0, .slice none 0 0, .slice none 0 0, .slice none 0 0] 73)).alloc (.cells #[.int .i64 1, .int .i64 0, .int .i64 (-1), .int .i64 (-1), .int .i64 (-1), .int .i64 0, .int .i64 0, .int .i64 0, .int .i64 0, .slice none 0 0, .slice none 0 0, .slice none 0 0] 73)).alloc (.cells #[.int .i64 1, .int .i64 0, .int .i64 (-1), .int .i64 (-1), .int .i64 (-1), .int .i64 0, .int .i64 0, .int .i64 0, .int .i64 0, .slice none 0 0, .slice none 0 0, .slice none 0 0] 73)).alloc (.cells #[.int .i64 1, .int .i64 3, .int .i64 (-1), .int .i64 (-1), .int .i64 (-1), .int .i64 0, .int .i64 0, .int .i64 0, .int .i64 0, .slice none 0 0, .slice none 0 0, .slice none 0 0] 73)).alloc (.cells #[.int .i64 7, .int .i64 3, .int .i64 1] 76)).alloc (.cells #[.int .i64 1, .int .i64 2, .int .i64 (-1), .int .i64 (-1), .int .i64 (-1), .int .i64 0, .int .i64 0, .int .i64 0, .int .i64 0, .slice none 0 0, .slice none 0 0, .slice none 0 0, .int .i64 2, .int .i64 0, .int .i64 (-1), .int .i64 (-1), .int .i64 (-1), .int .i64 0, .int .i64 0, .int .i64 (-1), .int .i64 (-1), .slice (some ⟨WA.heap.size + 1, 0, none⟩) 1 1, .slice none 0 0, .slice none 0 0, .int .i64 1, .int .i64 7, .int .i64 (-1), .int .i64 (-1), .int .i64 (-1), .int .i64 0, .int .i64 0, .int .i64 0, .int .i64 0, .slice none 0 0, .slice none 0 0, .slice none 0 0, .int .i64 1, .int .i64 0, .int .i64 (-1), .int .i64 (-1), .int .i64 (-1), .int .i64 0, .int .i64 0, .int .i64 0, .int .i64 0, .slice none 0 0, .slice none 0 0, .slice none 0 0, .int .i64 7, .int .i64 0, .int .i64 2, .int .i64 3, .int .i64 (-1), .int .i64 0, .int .i64 0, .int .i64 0, .int .i64 0, .slice none 0 0, .slice none 0 0, .slice none 0 0, .int .i64 1, .int .i64 0, .int .i64 (-1), .int .i64 (-1), .int .i64 (-1), .int .i64 0, .int .i64 0, .int .i64 0, .int .i64 0, .slice none 0 0, .slice none 0 0, .slice none 0 0, .int .i64 22, .int .i64 0, .int .i64 5, .int .i64 4, .int .i64 (-1), .int .i64 0, .int .i64 0, .int .i64 0, .int .i64 0, .slice none 0 0, .slice none 0 0, .slice none 0 0, .int .i64 1, .int .i64 3, .int .i64 (-1), .int .i64 (-1), .int .i64 (-1), .int .i64 0, .int .i64 0, .int .i64 0, .int .i64 0, .slice none 0 0, .slice none 0 0, .slice none 0 0, .int .i64 2, .int .i64 0, .int .i64 (-1), .int .i64 (-1), .int .i64 (-1), .int .i64 0, .int .i64 0, .int .i64 (-1), .int .i64 (-1), .slice (some ⟨WA.heap.size + 1 + 1 + 1 + 1 + 1 + 1, 0, none⟩) 1 1, .slice none 0 0, .slice none 0 0] 73)).setCell ⟨p4, 6, none⟩ (.slice (some ⟨WA.heap.size + 1 + 1 + 1 + 1 + 1 + 1 + 1, 0, none⟩) 9 9) := ⟨_, rfl⟩
  have HWB : Hid (WB = (allocs WA [exO 2, .cells shC6 76, exO 7, exO 0, exO 0, exO 3, .cells shC11 76, .cells (shC12 (WA.heap.size + 1) (WA.heap.size + 1 + 1 + 1 + 1 + 1 + 1)) 73]).setCell ⟨p4, 6, none⟩ (.slice (some ⟨WA.heap.size + 1 + 1 + 1 + 1 + 1 + 1 + 1, 0, none⟩) 9 9)) := Lib.hid hWB
  rw [← hWB]
  clear hWB
  have HSB : Hid (∀ (k : Nat) (o : Obj), [exO 2, .cells shC6 76, exO 7, exO 0, exO 0, exO 3, .cells shC11 76, .cells (shC12 (WA.heap.size + 1) (WA.heap.size + 1 + 1 + 1 + 1 + 1 + 1)) 73][k]? = some o → WB.heap[WA.heap.size + k]? = some o) := Lib.hid fun k o hk => by
    rw [HWB.out, heap_setCell_other _ _ _ _ (by show WA.heap.size + k ≠ p4; omega)]
    exact allocs_at hk
  have HB6 : Hid (WB.heap[WA.heap.size + 1]? = some (.cells shC6 76 (0, 0))) := Lib.hid (HSB.out 1 _ rfl)
  have HB11 : Hid (WB.heap[WA.heap.size + 1 + 1 + 1 + 1 + 1 + 1]? = some (.cells shC11 76 (0, 0))) := Lib.hid (HSB.out 6 _ rfl)
  have HB12 : Hid (WB.heap[WA.heap.size + 1 + 1 + 1 + 1 + 1 + 1 + 1]? = some (.cells (shC12 (WA.heap.size + 1) (WA.heap.size + 1 + 1 + 1 + 1 + 1 + 1)) 73 (0, 0))) := Lib.hid (HSB.out 7 _ rfl)
  have HOB : Hid (∀ (b : Nat) (o : Obj), b ≠ p4 → WA.heap[b]? = some o → WB.heap[b]? = some o) := Lib.hid fun b o hb ho => by
    rw [HWB.out, heap_setCell_other _ _ _ _ (by exact hb)]
    exact (HBB.out.block _ (Array.getElem?_eq_some_iff.1 ho).1).trans ho
  have HB4 : Hid (WB.heap[p4]? = some (.cells (shC4 w.heap.size p1 p3 (.slice (some ⟨WA.heap.size + 1 + 1 + 1 + 1 + 1 + 1 + 1, 0, none⟩) 9 9)) 29 (0, 0))) := Lib.hid (by
    rw [HWB.out]
    exact heap_setCell_same _ _ _ _ _ _ ((HBB.out.block _ hp4).trans HA4.out))
  have HB0 := Lib.hid (HOB.out _ _ (by exact fun e => HNE.out.1 e) HA0.out)
  have HB1 := Lib.hid (HOB.out _ _ (by exact fun e => HNE.out.2.1 e) HA1.out)
  have HB2 := Lib.hid (HOB.out _ _ (by exact fun e => HNE.out.2.2.1 e) HA2.out)
  have HB3 := Lib.hid (HOB.out _ _ (by exact fun e => HNE.out.2.2.2 e) HA3.out)
  have HBW : Hid (Below w.heap.size w WB) := Lib.hid (by rw [HWB.out]; exact (HBA.out.trans (allocs_below _ _ _ HBA.out.size)).setCell HP4.out _)
  clear HWB HSB HOB HBB HBA HA0 HA1 HA2 HA3 HA4 HNE HP4 hp4
  generalize WA.heap.size + 1 + 1 + 1 + 1 + 1 + 1 + 1 = p12 at *
  generalize WA.heap.size + 1 + 1 + 1 + 1 + 1 + 1 = p11 at *
  generalize WA.heap.size + 1 = p6 at *
  go_upto_region 4 with fail
  obtain ⟨WC, hWC⟩ : ∃ WC, WC = (WB.alloc (.cells #[.int .i64 4, .int .i64 5, .int .i64 6] 2)).alloc (.cells #[.slice (some ⟨WB.heap.size, 0, none⟩) 3 3, .slice none 0 0, .slice none 0 0, .int .i64 0, .int .i64 (-1), .int .i64 (-1)] 33) := ⟨_, rfl⟩
  have HWC := Lib.hid hWC
  rw [← hWC]
  clear hWC
  have HBC : Hid (Below WB.heap.size WB WC) := Lib.hid (by rw [HWC.out]; exact (ball _).alloc (by simp) _)
  have HC13 : Hid (WC.heap[WB.heap.size]? = some (.cells shC13 2 (0, 0))) := Lib.hid (by rw [HWC.out]; exact (Below.heap_alloc _ _ _ (by simp)).trans (heap_alloc_new _ _))
  have HC14 : Hid (WC.heap[WB.heap.size + 1]? = some (.cells #[.slice (some ⟨WB.heap.size, 0, none⟩) 3 3, .slice none 0 0, .slice none 0 0, .int .i64 0, .int .i64 (-1), .int .i64 (-1)] 33 (0, 0))) := Lib.hid (by
    have h := heap_alloc_new (WB.alloc (.cells #[.int .i64 4, .int .i64 5, .int .i64 6] 2)) (.cells #[.slice (some ⟨WB.heap.size, 0, none⟩) 3 3, .slice none 0 0, .slice none 0 0, .int .i64 0, .int .i64 (-1), .int .i64 (-1)] 33)
    rw [World.size_alloc] at h
    rw [HWC.out]; exact h)
  have HC0 := Lib.hid ((HBC.out.block _ (lt_of_block HB0.out)).trans HB0.out)
  have HC1 := Lib.hid ((HBC.out.block _ (lt_of_block HB1.out)).trans HB1.out)
  have HC2 := Lib.hid ((HBC.out.block _ (lt_of_block HB2.out)).trans HB2.out)
  have HC3 := Lib.hid ((HBC.out.block _ (lt_of_block HB3.out)).trans HB3.out)
  have HC4 := Lib.hid ((HBC.out.block _ (lt_of_block HB4.out)).trans HB4.out)
  have HC6 := Lib.hid ((HBC.out.block _ (lt_of_block HB6.out)).trans HB6.out)
  have HC11 := Lib.hid ((HBC.out.block _ (lt_of_block HB11.out)).trans HB11.out)
  have HC12 := Lib.hid ((HBC.out.block _ (lt_of_block HB12.out)).trans HB12.out)
  have HCW : Hid (Below w.heap.size w WC) := Lib.hid (HBW.out.trans (HBC.out.mono HBW.out.size))
  clear HBC HWC HB0 HB1 HB2 HB3 HB4 HB6 HB11 HB12 HBW
  generalize WB.heap.size + 1 = p14 at *
  generalize WB.heap.size = p13 at *
  have m0 : WC.cell? ⟨p4, 0, none⟩ = some (.slice (some ⟨w.heap.size, 0, none⟩) 3 3) := (cell_of_row _ _ 0 _ _ _ HC4.out).trans rfl
  have m1 : WC.cell? ⟨p4, 1, none⟩ = some (.slice (some ⟨p1, 0, none⟩) 3 3) := (cell_of_row _ _ 1 _ _ _ HC4.out).trans rfl
  have m2 : WC.cell? ⟨p4, 2, none⟩ = some (.slice none 0 0) := (cell_of_row _ _ 2 _ _ _ HC4.out).trans rfl
  have m3 : WC.cell? ⟨p4, 3, none⟩ = some (.slice none 0 0) := (cell_of_row _ _ 3 _ _ _ HC4.out).trans rfl
  have m4 : WC.cell? ⟨p4, 4, none⟩ = some (.slice (some ⟨p3, 0, none⟩) 1 1) := (cell_of_row _ _ 4 _ _ _ HC4.out).trans rfl
  have m5 : WC.cell? ⟨p4, 5, none⟩ = some (.int .i64 (-1)) := (cell_of_row _ _ 5 _ _ _ HC4.out).trans rfl
  have m6 : WC.cell? ⟨p4, 6, none⟩ = some (.slice (some ⟨p12, 0, none⟩) 9 9) := (cell_of_row _ _ 6 _ _ _ HC4.out).trans rfl
  have s0 : WC.cell? ⟨p14, 0, none⟩ = some (.slice (some ⟨p13, 0, none⟩) 3 3) := (cell_of_row _ _ 0 _ _ _ HC14.out).trans rfl
  have s1 : WC.cell? ⟨p14, 1, none⟩ = some (.slice none 0 0) := (cell_of_row _ _ 1 _ _ _ HC14.out).trans rfl
  have s2 : WC.cell? ⟨p14, 2, none⟩ = some (.slice none 0 0) := (cell_of_row _ _ 2 _ _ _ HC14.out).trans rfl
  have s3 : WC.cell? ⟨p14, 3, none⟩ = some (.int .i64 0) := (cell_of_row _ _ 3 _ _ _ HC14.out).trans rfl
  have s4 : WC.cell? ⟨p14, 4, none⟩ = some (.int .i64 (-1)) := (cell_of_row _ _ 4 _ _ _ HC14.out).trans rfl
  have s5 : WC.cell? ⟨p14, 5, none⟩ = some (.int .i64 (-1)) := (cell_of_row _ _ 5 _ _ _ HC14.out).trans rfl
  go_upto_region 5 with fail
  clear m0 m1 m2 m3 m4 m5 m6 s0 s1 s2 s3 s4 s5
  obtain ⟨WD, hWD⟩ : ∃ WD, WD = WC.alloc (.cells #[.slice (some ⟨w.heap.size, 0, none⟩) 3 3, .slice (some ⟨p1, 0, none⟩) 3 3, .slice none 0 0, .slice none 0 0, .slice (some ⟨p3, 0, none⟩) 1 1, .int .i64 (-1), .slice (some ⟨p12, 0, none⟩) 9 9, .slice (some ⟨p13, 0, none⟩) 3 3, .slice none 0 0, .slice none 0 0, .int .i64 0, .int .i64 (-1), .int .i64 (-1), .int .i64 (-1), .bool false, .slice none 0 0] 36) := ⟨_, rfl⟩
  have HWD := Lib.hid hWD
  rw [← hWD]
  clear hWD
  have HBD : Hid (Below WC.heap.size WC WD) := Lib.hid (by rw [HWD.out]; exact ball _)
  have HSH : Hid (ShM WD w.heap.size p1 p2 p3 p6 p11 p12 p13 WC.heap.size) := Lib.hid ⟨(HBD.out.block _ (lt_of_block HC0.out)).trans HC0.out, (HBD.out.block _ (lt_of_block HC1.out)).trans HC1.out, (HBD.out.block _ (lt_of_block HC2.out)).trans HC2.out, (HBD.out.block _ (lt_of_block HC3.out)).trans HC3.out, (HBD.out.block _ (lt_of_block HC6.out)).trans HC6.out, (HBD.out.block _ (lt_of_block HC11.out)).trans HC11.out, (HBD.out.block _ (lt_of_block HC12.out)).trans HC12.out, (HBD.out.block _ (lt_of_block HC13.out)).trans HC13.out, by rw [HWD.out]; exact heap_alloc_new _ _⟩
  have H0 : Hid (Below w.heap.size w WD) := Lib.hid (HCW.out.trans (HBD.out.mono HCW.out.size))
  clear HBD HWD HC0 HC1 HC2 HC3 HC4 HC6 HC11 HC12 HC13 HC14 HCW
  generalize WC.heap.size = p15 at *
  refine wp_mono (shSeg5 w WD HSH.out H0.out HT.out _ _ _ _ _ _ _ _ _ _ _ _ _ _ _ _ _ _ _ _ _ _ _ _ _ _ _ _ _ _ _ _ _ _ _ _ _ _ _ _ _ _ _ _ _ _ _ _ _ _ _ _ _ _ _ _ _ _ _ _ _ _ _ _ _ _ _ _ _ _ _ _ _ _ _ _ _ _ _ _ _ _ _ _ _ _ _ _ _ _ _ _ _ _ _ _ _ _ _ _ _ _ _) (fun e a w h => ?_)
  cases e with
  | normal => exact (by assumption : ∀ (a : Act) (w : World), Code.wp Tryz.prog _ _ a w → (_ : Act → World → Prop) a w) _ _ h
  | _ => exact h
end Go.Proofs.YtbhgdlfndamklaaGreatDoor
