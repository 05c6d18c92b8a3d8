/- The document's examples. -/
import Derived.Test.YtifofhjfepkglaaDoorSame
import Derived.Test.YtifofhjfepkglaaDoorRPrint
namespace Go.Proofs.YtifofhjfepkglaaDoor
open Go.ChangeShapes Go.WideShapes Go.ChangeAt Go.RowKit
set_option linter.unusedVariables false
set_option linter.unusedSimpArgs false

def fS : FD := ⟨1, 0, 0, 0, [], -1, 9, 12⟩
def sS : List UInt8 := [102, 111, 117, 110, 100, 32, 49, 32, 48, 32, 48, 32, 48, 32, 57, 32, 49, 50]
theorem fS_in : FIn fS := ⟨fun n hn => by simp [fS, fdL] at hn; rcases hn with rfl | rfl | rfl | rfl <;> (unfold inI; omega), fun m hm => by cases hm⟩
theorem fS_bad : badF fS = false := by decide
theorem fS_text : printB fS = sS ++ [10] := by
  have d0 : Lib.itoa 0 = [48] := by simp [Lib.itoa, Lib.decDigits]
  have d1 : Lib.itoa 1 = [49] := by simp [Lib.itoa, Lib.decDigits]
  have d9 : Lib.itoa 9 = [57] := by simp [Lib.itoa, Lib.decDigits]
  have d12 : Lib.itoa 12 = [49, 50] := by simp [Lib.itoa, Lib.decDigits]
  simp [printB, fS, lineB, wordsB, fdL, bodyB, d0, d1, d9, d12, foundW, sS]
theorem fS_out : outOf fS = sS ++ [10] := by unfold outOf; rw [fS_bad]; exact fS_text
theorem fS_err : errOf fS = 0 := by unfold errOf; rw [fS_bad]; rfl
theorem fS_parse : parseF (sS ++ [10]) = .ok fS := by rw [← fS_text]; exact parse_print fS fS_in fS_bad
theorem none_parse : parseF [] = .bad 0 := by simp [parseF, parts, parseL, ps0]
theorem open_parse : parseF sS = .bad 0 := by
  unfold parseF
  rw [parts_miss 10 sS (by decide)]
  simp [parseL, sS, ps0]

theorem par_fS {w : World} {e : Ending} {w' : World} (h : ParP w (.ok fS) e w') : Below w.heap.size w w' ∧ ∃ o cap, e = .returned (.tuple #[.agg #[.int .i64 1, .int .i64 0, .int .i64 0, .int .i64 0, .slice o 0 cap, .int .i64 (-1), .int .i64 9, .int .i64 12], .int .i64 0, .int .i64 0]) ∧ TrAt w' o fS.trail := h
theorem par_bad0 {w : World} {e : Ending} {w' : World} (h : ParP w (.bad 0) e w') : Below w.heap.size w w' ∧ e = .returned (.tuple #[.agg #[.int .i64 0, .int .i64 0, .int .i64 0, .int .i64 0, .slice none 0 0, .int .i64 0, .int .i64 0, .int .i64 0], .int .i64 43, .int .i64 0]) := h

set_option maxHeartbeats 1000000 in
set_option maxRecDepth 100000 in
theorem shown_any (w : World) (henv : Env w) : Calls Tryd.prog 5 #[] w fun e w' => e = .returned (.bool true) ∧ Below w.heap.size w w' := by
  have HE := Lib.hid henv
  have HPR := Lib.hid (print_any fS none 0 w (.inl rfl) fS_in (by simp [fS]) fun w' hb => (henv w' hb).tab)
  rw [fS_out, fS_err] at HPR
  unfold fdV strV at HPR
  have HP1 := Lib.hid fun w' (hb : Below w.heap.size w w') => parse_any (sS ++ [10]) w' (by simp [sS]) (henv.below hb)
  have HP2 := Lib.hid fun w' (hb : Below w.heap.size w w') => parse_any [] w' (by simp) (henv.below hb)
  have HP3 := Lib.hid fun w' (hb : Below w.heap.size w w') => parse_any sS w' (by simp [sS]) (henv.below hb)
  rw [fS_parse] at HP1
  rw [none_parse] at HP2
  rw [open_parse] at HP3
  have HSA := Lib.hid fun o1 c1 w' (h : TrAt w' o1 fS.trail) => found_same fS o1 none c1 0 w' h (.inl rfl) (by simp [fS])
  have HSB : Hid (∀ (o1 : Option Addr) (c1 : Nat) (w' : World), TrAt w' o1 fS.trail → Calls Tryd.prog 10 #[.agg #[.int .i64 1, .int .i64 0, .int .i64 0, .int .i64 0, .slice o1 0 c1, .int .i64 (-1), .int .i64 9, .int .i64 12], .agg #[.int .i64 1, .int .i64 0, .int .i64 0, .int .i64 0, .slice none 0 0, .int .i64 (-1), .int .i64 9, .int .i64 12]] w' fun e w'' => e = .returned (.bool true) ∧ Below w'.heap.size w' w'') := Lib.hid HSA.out
  unfold sS at HP1 HP3 HPR
  clear henv HSA
  go_enter Tryd.func5, Tryd.ntmps5
  go_wp2_with fail
  refine HPR.out.mono ?_
  rintro e W1 ⟨rfl, hb1⟩
  have HB1 := Lib.hid hb1
  clear hb1
  go_wp2_with fail
  refine (HP1.out _ HB1.out).mono ?_
  intro e W2 hpar
  obtain ⟨hb2, o1, c1, rfl, ht1⟩ := par_fS hpar
  have HB2 := Lib.hid (HB1.out.trans (hb2.mono HB1.out.size))
  have HT2 := Lib.hid ht1
  clear hb2 ht1 hpar
  have HBa := Lib.hid (HB2.out.alloc HB2.out.size (.cells #[.int .i64 1, .int .i64 0, .int .i64 0, .int .i64 0, .slice o1 0 c1, .int .i64 (-1), .int .i64 9, .int .i64 12] 25))
  have hXa := heap_alloc_new W2 (.cells #[.int .i64 1, .int .i64 0, .int .i64 0, .int .i64 0, .slice o1 0 c1, .int .i64 (-1), .int .i64 9, .int .i64 12] 25)
  have HTa := Lib.hid (HT2.out.below ((Below.refl _ _).alloc (Nat.le_refl _) (.cells #[.int .i64 1, .int .i64 0, .int .i64 0, .int .i64 0, .slice o1 0 c1, .int .i64 (-1), .int .i64 9, .int .i64 12] 25)))
  go_wp2_with fail
  obtain ⟨W3, hW3⟩ : ∃ W3, W2.alloc (.cells #[.int .i64 1, .int .i64 0, .int .i64 0, .int .i64 0, .slice o1 0 c1, .int .i64 (-1), .int .i64 9, .int .i64 12] 25) = W3 := ⟨_, rfl⟩
  rw [hW3] at HBa hXa HTa ⊢
  have HXa := Lib.hid hXa
  clear hW3 hXa
  refine (HP2.out _ HBa.out).mono ?_
  intro e W4 hpar
  obtain ⟨hb4, rfl⟩ := par_bad0 hpar
  have HB4 := Lib.hid hb4
  have HBb := Lib.hid ((HBa.out.trans (hb4.mono HBa.out.size)).alloc (Nat.le_trans HBa.out.size hb4.size) (.cells #[.int .i64 0, .int .i64 0, .int .i64 0, .int .i64 0, .slice none 0 0, .int .i64 0, .int .i64 0, .int .i64 0] 25))
  have HBc := Lib.hid (hb4.alloc hb4.size (.cells #[.int .i64 0, .int .i64 0, .int .i64 0, .int .i64 0, .slice none 0 0, .int .i64 0, .int .i64 0, .int .i64 0] 25))
  clear hb4 hpar
  go_wp2_with fail
  obtain ⟨W5, hW5⟩ : ∃ W5, W4.alloc (.cells #[.int .i64 0, .int .i64 0, .int .i64 0, .int .i64 0, .slice none 0 0, .int .i64 0, .int .i64 0, .int .i64 0] 25) = W5 := ⟨_, rfl⟩
  rw [hW5] at HBb HBc ⊢
  clear hW5
  refine (HP3.out _ HBb.out).mono ?_
  intro e W6 hpar
  obtain ⟨hb6, rfl⟩ := par_bad0 hpar
  have HBd := Lib.hid ((HBb.out.trans (hb6.mono HBb.out.size)).alloc (Nat.le_trans HBb.out.size hb6.size) (.cells #[.int .i64 0, .int .i64 0, .int .i64 0, .int .i64 0, .slice none 0 0, .int .i64 0, .int .i64 0, .int .i64 0] 25))
  have HBe := Lib.hid ((HBc.out.trans (hb6.mono HBc.out.size)).alloc (Nat.le_trans HBc.out.size hb6.size) (.cells #[.int .i64 0, .int .i64 0, .int .i64 0, .int .i64 0, .slice none 0 0, .int .i64 0, .int .i64 0, .int .i64 0] 25))
  clear hb6 hpar
  obtain ⟨W7, hW7⟩ : ∃ W7, W6.alloc (.cells #[.int .i64 0, .int .i64 0, .int .i64 0, .int .i64 0, .slice none 0 0, .int .i64 0, .int .i64 0, .int .i64 0] 25) = W7 := ⟨_, rfl⟩
  rw [hW7] at HBd HBe
  have HW7 := Lib.hid hW7
  clear hW7
  have hx7 := (HBe.out.block _ (lt_of_block HXa.out)).trans HXa.out
  obtain ⟨q0, q1, q2, q3, q4, q5, q6, q7⟩ := fd_cells (f := fS) (tv := .slice o1 0 c1) hx7
  have HQ := Lib.hid (HSB.out o1 c1 W7 (HTa.out.below HBe.out))
  simp only [fS] at q0 q1 q2 q3 q4 q5 q6 q7
  rw [← HW7.out] at q0 q1 q2 q3 q4 q5 q6 q7
  clear hx7
  go_wp2_with fail
  rw [HW7.out]
  refine HQ.out.mono ?_
  rintro e W8 ⟨rfl, hb8⟩
  have HB8 := Lib.hid (HBd.out.trans (hb8.mono HBd.out.size))
  clear hb8 q0 q1 q2 q3 q4 q5 q6 q7
  go_wp2_with fail
  go_ret
  exact ⟨rfl, HB8.out⟩
end Go.Proofs.YtifofhjfepkglaaDoor
