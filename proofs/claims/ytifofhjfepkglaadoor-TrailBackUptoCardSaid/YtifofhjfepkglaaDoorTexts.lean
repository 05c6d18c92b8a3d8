/- The law on the texts of ends, walked. -/
import Derived.Test.YtifofhjfepkglaaDoorShown
namespace Go.Proofs.YtifofhjfepkglaaDoor
open Go.ChangeShapes Go.WideShapes Go.ChangeAt Go.RowKit
set_option linter.unusedVariables false
set_option linter.unusedSimpArgs false

theorem body_ge (cyc : Int) : ∀ (l : List MV) (i : Nat), l.length ≤ (bodyB cyc i l).length
  | [], _ => by simp
  | m :: r, i => by
    have := body_ge cyc r (i + 1)
    simp only [bodyB, mvB, lineB, List.length_append, List.length_cons, List.length_nil]
    omega
theorem read_len {s : List UInt8} {g : FD} (h : parseF s = .ok g) : g.trail.length ≤ s.length := by
  have h1 := (print_parse h).1
  have h2 := body_ge g.cyc g.trail 0
  rw [← h1]
  unfold printB
  rw [List.length_append]
  omega
/-- What is read: the end, the error, the place. -/
structure Out where
  g : FD
  c : Int
  p : Int
def outR : PR → Out
  | .ok g => ⟨g, 0, 0⟩
  | .bad p => ⟨fdZ, 43, p⟩
theorem par_out {w w' : World} {R : PR} {e : Ending} (h : ParP w R e w') : Below w.heap.size w w' ∧ ∃ o cap, e = .returned (.tuple #[fdV (outR R).g (.slice o (outR R).g.trail.length cap), .int .i64 (outR R).c, .int .i64 (outR R).p]) ∧ TrAt w' o (outR R).g.trail := by
  refine ⟨h.1, ?_⟩
  have h2 := h.2
  cases R with
  | ok g => exact h2
  | bad p => exact ⟨none, 0, h2, .inl rfl⟩
theorem out_len {s : List UInt8} (hs : s.length ≤ 400000000) : (outR (parseF s)).g.trail.length ≤ 400000000 := by
  cases h : parseF s with
  | ok g => have := read_len h; show g.trail.length ≤ _; omega
  | bad p => show fdZ.trail.length ≤ _; simp [fdZ]
theorem shows (w : World) (x : Nat) (a : Array Value) (h : w.heap[x]? = some (.cells a 25 (0, 0))) (w' : World) (hb : Below w.heap.size w w') : w'.heap[x]? = some (.cells a 25 (0, 0)) :=
  (hb.block _ (lt_of_block h)).trans h

set_option maxHeartbeats 1000000 in
set_option maxRecDepth 100000 in
theorem texts_walk (f : FD) (o : Option Addr) (cap : Nat) (s : List UInt8) (w : World) (hm : TrAt w o f.trail) (hin : FIn f) (hl : f.trail.length ≤ 400000000) (hs : s.length ≤ 400000000) (henv : Env w) :
    Calls Tryd.prog 3 #[fdV f (.slice o f.trail.length cap), .string ⟨s.toArray⟩] w fun e w' => e = .returned (.bool true) ∧ Below w.heap.size w w' := by
  have HE := Lib.hid henv
  obtain ⟨n, hn⟩ : ∃ n, f.trail.length = n := ⟨_, rfl⟩
  have HSH := Lib.hid fun w' (hb : Below w.heap.size w w') => shown_any w' (henv.below hb)
  have HPR := Lib.hid fun w' (hb : Below w.heap.size w w') => print_any f o cap w' (hm.below hb) hin hl fun w2 h2 => (henv w2 (hb.trans (h2.mono hb.size))).tab
  have HRP := Lib.hid fun w' (hb : Below w.heap.size w w') => rprint_any f o cap w' (hm.below hb) hin hl
  obtain ⟨txt, htxt⟩ : ∃ txt, outOf f = txt := ⟨_, rfl⟩
  obtain ⟨er, her⟩ : ∃ er, errOf f = er := ⟨_, rfl⟩
  rw [htxt, her, hn] at HPR HRP
  obtain ⟨R, hR⟩ : ∃ R, parseF s = R := ⟨_, rfl⟩
  have HP := Lib.hid fun w' (hb : Below w.heap.size w w') => parse_any s w' hs (henv.below hb)
  have HQ := Lib.hid fun w' (hb : Below w.heap.size w w') => rparse_any s w' hs
  have HOL := Lib.hid (out_len hs)
  rw [hR] at HP HQ HOL
  rw [hn]
  obtain ⟨W0, hW0⟩ : ∃ W0, w.alloc (.cells (fdCells f (.slice o n cap)) 25) = W0 := ⟨_, rfl⟩
  have HB0 : Hid (Below w.heap.size w W0) := Lib.hid (by rw [← hW0]; exact (Below.refl _ _).alloc (Nat.le_refl _) _)
  have HX0 : Hid (W0.heap[w.heap.size]? = some (.cells (fdCells f (.slice o n cap)) 25 (0, 0))) := Lib.hid (by rw [← hW0]; exact heap_alloc_new _ _)
  unfold fdV strV at HPR HRP
  unfold fdV
  unfold fdCells at hW0
  clear henv hm hin hR htxt her hn
  go_enter Tryd.func3, Tryd.ntmps3
  go_wp2_with fail
  refine (HSH.out _ HB0.out).mono ?_
  rintro e W1 ⟨rfl, hb1⟩
  have HB1 := Lib.hid (HB0.out.trans (hb1.mono HB0.out.size))
  have HX1 := Lib.hid ((hb1.block _ (lt_of_block HX0.out)).trans HX0.out)
  clear hb1 hW0
  obtain ⟨a0, a1, a2, a3, a4, a5, a6, a7⟩ := fd_cells HX1.out
  go_wp2_with fail
  refine (HPR.out _ HB1.out).mono ?_
  rintro e W2 ⟨rfl, hb2⟩
  have HB2 := Lib.hid (HB1.out.trans (hb2.mono HB1.out.size))
  have HX2 := Lib.hid ((hb2.block _ (lt_of_block HX1.out)).trans HX1.out)
  clear hb2 a0 a1 a2 a3 a4 a5 a6 a7
  obtain ⟨a0, a1, a2, a3, a4, a5, a6, a7⟩ := fd_cells HX2.out
  go_wp2_with fail
  refine (HRP.out _ HB2.out).mono ?_
  rintro e W3 ⟨rfl, hb3⟩
  have HB3 := Lib.hid (HB2.out.trans (hb3.mono HB2.out.size))
  clear hb3 a0 a1 a2 a3 a4 a5 a6 a7
  go_wp2_with fail
  refine (HP.out _ HB3.out).mono ?_
  intro e W4 hpar
  obtain ⟨hb4, o4, c4, rfl, ht4⟩ := par_out hpar
  have HB4 := Lib.hid (HB3.out.trans (hb4.mono HB3.out.size))
  have HT4 := Lib.hid ht4
  clear hb4 hpar ht4
  obtain ⟨⟨g, c, p⟩, hout⟩ : ∃ x, outR R = x := ⟨_, rfl⟩
  rw [hout] at HT4 HOL ⊢
  simp only at HT4 HOL ⊢
  obtain ⟨gn, hgn⟩ : ∃ gn, g.trail.length = gn := ⟨_, rfl⟩
  rw [hgn]
  unfold fdV
  have HBa := Lib.hid (HB4.out.alloc HB4.out.size (.cells #[.int .i64 g.kind, .int .i64 g.what, .int .i64 g.err, .int .i64 g.at_, .slice o4 gn c4, .int .i64 g.cyc, .int .i64 g.states, .int .i64 g.steps] 25))
  have hXa := heap_alloc_new W4 (.cells #[.int .i64 g.kind, .int .i64 g.what, .int .i64 g.err, .int .i64 g.at_, .slice o4 gn c4, .int .i64 g.cyc, .int .i64 g.states, .int .i64 g.steps] 25)
  have HTa := Lib.hid (HT4.out.below ((Below.refl _ _).alloc (Nat.le_refl _) (.cells #[.int .i64 g.kind, .int .i64 g.what, .int .i64 g.err, .int .i64 g.at_, .slice o4 gn c4, .int .i64 g.cyc, .int .i64 g.states, .int .i64 g.steps] 25)))
  go_wp2_with fail
  obtain ⟨W5, hW5⟩ : ∃ W5, W4.alloc (.cells #[.int .i64 g.kind, .int .i64 g.what, .int .i64 g.err, .int .i64 g.at_, .slice o4 gn c4, .int .i64 g.cyc, .int .i64 g.states, .int .i64 g.steps] 25) = W5 := ⟨_, rfl⟩
  rw [hW5] at HBa hXa HTa ⊢
  have HXa := Lib.hid hXa
  clear hW5 hXa
  refine (HQ.out _ HBa.out).mono ?_
  intro e W6 hpar
  obtain ⟨hb6, o6, c6, rfl, ht6⟩ := par_out hpar
  rw [hout] at ht6 ⊢
  simp only at ht6 ⊢
  rw [hgn]
  unfold fdV
  have HBb := Lib.hid ((HBa.out.trans (hb6.mono HBa.out.size)).alloc (Nat.le_trans HBa.out.size hb6.size) (.cells #[.int .i64 g.kind, .int .i64 g.what, .int .i64 g.err, .int .i64 g.at_, .slice o6 gn c6, .int .i64 g.cyc, .int .i64 g.states, .int .i64 g.steps] 25))
  have HBc := Lib.hid (hb6.alloc hb6.size (.cells #[.int .i64 g.kind, .int .i64 g.what, .int .i64 g.err, .int .i64 g.at_, .slice o6 gn c6, .int .i64 g.cyc, .int .i64 g.states, .int .i64 g.steps] 25))
  have HTb := Lib.hid (ht6.below ((Below.refl _ _).alloc (Nat.le_refl _) (.cells #[.int .i64 g.kind, .int .i64 g.what, .int .i64 g.err, .int .i64 g.at_, .slice o6 gn c6, .int .i64 g.cyc, .int .i64 g.states, .int .i64 g.steps] 25)))
  have hXb := heap_alloc_new W6 (.cells #[.int .i64 g.kind, .int .i64 g.what, .int .i64 g.err, .int .i64 g.at_, .slice o6 gn c6, .int .i64 g.cyc, .int .i64 g.states, .int .i64 g.steps] 25)
  clear hb6 hpar ht6
  obtain ⟨W7, hW7⟩ : ∃ W7, W6.alloc (.cells #[.int .i64 g.kind, .int .i64 g.what, .int .i64 g.err, .int .i64 g.at_, .slice o6 gn c6, .int .i64 g.cyc, .int .i64 g.states, .int .i64 g.steps] 25) = W7 := ⟨_, rfl⟩
  rw [hW7] at HBb HBc HTb hXb
  have HW7 := Lib.hid hW7
  clear hW7
  have hxa := (HBc.out.block _ (lt_of_block HXa.out)).trans HXa.out
  obtain ⟨q0, q1, q2, q3, q4, q5, q6, q7⟩ := fd_cells (f := g) (tv := .slice o4 gn c4) hxa
  obtain ⟨r0, r1, r2, r3, r4, r5, r6, r7⟩ := fd_cells (f := g) (tv := .slice o6 gn c6) hXb
  have hsame := found_same g o4 o6 c4 c6 W7 (HTa.out.below HBc.out) HTb.out HOL.out
  rw [hgn] at hsame
  unfold fdV at hsame
  have HSM := Lib.hid hsame
  rw [← HW7.out] at q0 q1 q2 q3 q4 q5 q6 q7 r0 r1 r2 r3 r4 r5 r6 r7
  clear hxa hXb hsame hout hgn
  go_wp2_with fail
  rw [HW7.out]
  refine HSM.out.mono ?_
  rintro e W8 ⟨rfl, hb8⟩
  have HB8 := Lib.hid (HBb.out.trans (hb8.mono HBb.out.size))
  clear hb8 q0 q1 q2 q3 q4 q5 q6 q7 r0 r1 r2 r3 r4 r5 r6 r7
  go_wp2_with fail
  go_ret
  exact ⟨rfl, HB8.out⟩
end Go.Proofs.YtifofhjfepkglaaDoor
