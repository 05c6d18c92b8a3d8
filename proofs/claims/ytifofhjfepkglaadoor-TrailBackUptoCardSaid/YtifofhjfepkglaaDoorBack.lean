/- The law on the texts of ends, there and back, walked. -/
import Derived.Test.YtifofhjfepkglaaDoorTexts
namespace Go.Proofs.YtifofhjfepkglaaDoor
open Go.ChangeShapes Go.WideShapes Go.ChangeAt Go.RowKit
set_option linter.unusedVariables false
set_option linter.unusedSimpArgs false

theorem print_len {f : FD} (hin : FIn f) (hl : f.trail.length ≤ 1200000) : (printB f).length ≤ 400000000 := by
  have h1 := lineB_len foundW (fdL f) hin.1
  have h2 := bodyB_len f.cyc f.trail 0 hin.2
  unfold printB
  rw [List.length_append]
  simp only [foundW, fdL, List.length_cons, List.length_nil] at h1 ⊢
  omega
/-- The second half: the text that came in is read, and written again. -/
def TailP (s : List UInt8) (w : World) : Prop := match parseF s with
  | .ok g => printB g = s ∧ badF g = false ∧ FIn g ∧ g.trail.length ≤ 400000000
  | .bad _ => True
theorem tail_of (s : List UInt8) (w : World) (hs : s.length ≤ 400000000) : TailP s w := by
  unfold TailP
  cases h : parseF s with
  | ok g =>
    obtain ⟨h1, h2, h3⟩ := print_parse h
    exact ⟨h1, h2, h3, by have := read_len h; omega⟩
  | bad p => trivial

set_option maxHeartbeats 1000000 in
set_option maxRecDepth 100000 in
theorem back_walk (f : FD) (o : Option Addr) (cap : Nat) (s : List UInt8) (w : World) (hm : TrAt w o f.trail) (hin : FIn f) (hl : f.trail.length ≤ 1200000) (hs : s.length ≤ 400000000) (henv : Env w) :
    Calls Tryd.prog 4 #[fdV f (.slice o f.trail.length cap), .string ⟨s.toArray⟩] w fun e w' => e = .returned (.bool true) ∧ Below w.heap.size w w' := by
  have HE := Lib.hid henv
  obtain ⟨n, hn⟩ : ∃ n, f.trail.length = n := ⟨_, rfl⟩
  have HSH := Lib.hid fun w' (hb : Below w.heap.size w w') => shown_any w' (henv.below hb)
  have HPR := Lib.hid fun w' (hb : Below w.heap.size w w') => print_any f o cap w' (hm.below hb) hin (by omega) fun w2 h2 => (henv w2 (hb.trans (h2.mono hb.size))).tab
  obtain ⟨txt, htxt⟩ : ∃ txt, outOf f = txt := ⟨_, rfl⟩
  obtain ⟨R, hR⟩ : ∃ R, parseF s = R := ⟨_, rfl⟩
  have HP := Lib.hid fun w' (hb : Below w.heap.size w w') => parse_any s w' hs (henv.below hb)
  have HTP := Lib.hid (tail_of s w hs)
  unfold TailP at HTP
  have HPG := Lib.hid fun (g : FD) (h : R = .ok g) o2 c2 w' (hb : Below w.heap.size w w') (ht : TrAt w' o2 g.trail) => print_any g o2 c2 w' ht (by have h3 := HTP.out; rw [hR, h] at h3; exact h3.2.2.1) (by have h3 := HTP.out; rw [hR, h] at h3; exact h3.2.2.2) fun w2 h2 => (henv w2 (hb.trans (h2.mono hb.size))).tab
  rw [hR] at HP HTP
  have HM := Lib.hid fun w' (hb : Below w.heap.size w w') => hm.below hb
  have HPP := Lib.hid fun (hb0 : badF f = false) w' (hb : Below w.heap.size w w') => parse_any txt w' (by rw [← htxt]; unfold outOf; rw [hb0]; exact print_len hin hl) (henv.below hb)
  have HPE := Lib.hid fun (hb0 : badF f = false) => (show parseF txt = .ok f by rw [← htxt]; unfold outOf; rw [hb0]; exact parse_print f hin hb0)
  have HFS := Lib.hid fun o2 c2 w' (h1 : TrAt w' o f.trail) (h2 : TrAt w' o2 f.trail) => found_same f o o2 cap c2 w' h1 h2 (by omega)
  rw [htxt, hn] at HPR
  rw [hn] at HFS
  rw [hn]
  obtain ⟨W0, hW0⟩ : ∃ W0, w.alloc (.cells (fdCells f (.slice o n cap)) 25) = W0 := ⟨_, rfl⟩
  have HB0 : Hid (Below w.heap.size w W0) := Lib.hid (by rw [← hW0]; exact (Below.refl _ _).alloc (Nat.le_refl _) _)
  have HX0 : Hid (W0.heap[w.heap.size]? = some (.cells (fdCells f (.slice o n cap)) 25 (0, 0))) := Lib.hid (by rw [← hW0]; exact heap_alloc_new _ _)
  unfold fdV strV at HPR
  unfold fdV at HFS
  unfold fdV
  unfold fdCells at hW0
  have HN := Lib.hid hn
  clear henv hm hin hR htxt hn
  go_enter Tryd.func4, Tryd.ntmps4
  go_wp2_with fail
  refine (HSH.out _ HB0.out).mono ?_
  rintro e W1 ⟨rfl, hb1⟩
  have HB1 := Lib.hid (HB0.out.trans (hb1.mono HB0.out.size))
  have HX1 := Lib.hid ((hb1.block _ (lt_of_block HX0.out)).trans HX0.out)
  clear hb1 hW0
  obtain ⟨a0, a1, a2, a3, a4, a5, a6, a7⟩ := fd_cells HX1.out
  go_wp2_with fail
  refine (HPR.out _ HB1.out).mono ?_
  rintro e W2 ⟨rfl, hb2⟩
  have HB2 := Lib.hid (HB1.out.trans (hb2.mono HB1.out.size))
  have HX2 := Lib.hid ((hb2.block _ (lt_of_block HX1.out)).trans HX1.out)
  clear hb2 a0 a1 a2 a3 a4 a5 a6 a7
  cases hbf : badF f with
  | true =>
    have her : errOf f = 42 := by unfold errOf; rw [hbf]; rfl
    rw [her]
    have HBT := HB2
    clear her
    go_wp2_with fail
    refine (HP.out _ HBT.out).mono ?_
    intro e W8 hpar
    cases R with
    | bad q =>
      obtain ⟨hb8, he⟩ := hpar
      have he2 : e = .returned (.tuple #[fdV fdZ (.slice none 0 0), .int .i64 43, .int .i64 q]) := he
      subst he2
      have HB8 := Lib.hid ((HBT.out.trans (hb8.mono HBT.out.size)).alloc (Nat.le_trans HBT.out.size hb8.size) (.cells #[.int .i64 0, .int .i64 0, .int .i64 0, .int .i64 0, .slice none 0 0, .int .i64 0, .int .i64 0, .int .i64 0] 25))
      clear hb8 he
      unfold fdV fdZ
      go_wp2_with fail
      go_ret
      exact ⟨rfl, HB8.out⟩
    | ok g =>
      obtain ⟨hb8, o8, c8, he, ht8⟩ := hpar
      subst he
      have HBa := Lib.hid ((HBT.out.trans (hb8.mono HBT.out.size)).alloc (Nat.le_trans HBT.out.size hb8.size) (.cells (fdCells g (.slice o8 g.trail.length c8)) 25))
      have hXa := heap_alloc_new W8 (.cells (fdCells g (.slice o8 g.trail.length c8)) 25)
      have hTa := ht8.below ((Below.refl W8.heap.size W8).alloc (Nat.le_refl _) (.cells (fdCells g (.slice o8 g.trail.length c8)) 25))
      have hpg := HPG.out g rfl o8 c8 _ HBa.out hTa
      have HG1 := HTP.out
      have hot : outOf g = s := by unfold outOf; rw [HG1.2.1]; exact HG1.1
      have her : errOf g = 0 := by unfold errOf; rw [HG1.2.1]; rfl
      rw [hot, her] at hpg
      obtain ⟨gn, hgn⟩ : ∃ gn, g.trail.length = gn := ⟨_, rfl⟩
      rw [hgn] at hpg hXa HBa hTa ⊢
      unfold fdV strV at hpg
      unfold fdCells at hXa HBa hpg hTa
      obtain ⟨W9, hW9⟩ : ∃ W9, W8.alloc (.cells #[.int .i64 g.kind, .int .i64 g.what, .int .i64 g.err, .int .i64 g.at_, .slice o8 gn c8, .int .i64 g.cyc, .int .i64 g.states, .int .i64 g.steps] 25) = W9 := ⟨_, rfl⟩
      rw [hW9] at hpg hXa HBa hTa
      have HPGo := Lib.hid hpg
      obtain ⟨q0, q1, q2, q3, q4, q5, q6, q7⟩ := fd_cells (f := g) (tv := .slice o8 gn c8) hXa
      have HW9 := Lib.hid hW9
      rw [← hW9] at q0 q1 q2 q3 q4 q5 q6 q7
      clear hb8 ht8 hXa hTa hot her hpg HG1 hgn hW9
      unfold fdV
      go_wp2_with fail
      rw [HW9.out]
      refine HPGo.out.mono ?_
      rintro e W10 ⟨rfl, hb10⟩
      have HB10 := Lib.hid (HBa.out.trans (hb10.mono HBa.out.size))
      clear hb10 q0 q1 q2 q3 q4 q5 q6 q7
      go_wp2_with fail
      go_ret
      exact ⟨rfl, HB10.out⟩
  | false =>
    have her : errOf f = 0 := by unfold errOf; rw [hbf]; rfl
    rw [her]
    have HPX := Lib.hid (HPP.out hbf W2 HB2.out)
    rw [HPE.out hbf] at HPX
    clear her
    go_wp2_with fail
    refine HPX.out.mono ?_
    intro e W4 hpar
    obtain ⟨hb4, o4, c4, he, ht4⟩ := hpar
    subst he
    rw [HN.out]
    have HBT0 := Lib.hid ((HB2.out.trans (hb4.mono HB2.out.size)).alloc (Nat.le_trans HB2.out.size hb4.size) (.cells #[.int .i64 f.kind, .int .i64 f.what, .int .i64 f.err, .int .i64 f.at_, .slice o4 n c4, .int .i64 f.cyc, .int .i64 f.states, .int .i64 f.steps] 25))
    have hXa := heap_alloc_new W4 (.cells #[.int .i64 f.kind, .int .i64 f.what, .int .i64 f.err, .int .i64 f.at_, .slice o4 n c4, .int .i64 f.cyc, .int .i64 f.states, .int .i64 f.steps] 25)
    have hTa := ht4.below ((Below.refl W4.heap.size W4).alloc (Nat.le_refl _) (.cells #[.int .i64 f.kind, .int .i64 f.what, .int .i64 f.err, .int .i64 f.at_, .slice o4 n c4, .int .i64 f.cyc, .int .i64 f.states, .int .i64 f.steps] 25))
    have hXb := ((hb4.alloc (by exact hb4.size) (.cells #[.int .i64 f.kind, .int .i64 f.what, .int .i64 f.err, .int .i64 f.at_, .slice o4 n c4, .int .i64 f.cyc, .int .i64 f.states, .int .i64 f.steps] 25)).block _ (lt_of_block HX2.out)).trans HX2.out
    obtain ⟨W5, hW5⟩ : ∃ W5, W4.alloc (.cells #[.int .i64 f.kind, .int .i64 f.what, .int .i64 f.err, .int .i64 f.at_, .slice o4 n c4, .int .i64 f.cyc, .int .i64 f.states, .int .i64 f.steps] 25) = W5 := ⟨_, rfl⟩
    rw [hW5] at HBT0 hXa hTa hXb
    have HF := Lib.hid (HFS.out o4 c4 W5 (HM.out _ HBT0.out) hTa)
    obtain ⟨q0, q1, q2, q3, q4, q5, q6, q7⟩ := fd_cells (f := f) (tv := .slice o4 n c4) hXa
    obtain ⟨r0, r1, r2, r3, r4, r5, r6, r7⟩ := fd_cells (f := f) (tv := .slice o n cap) hXb
    have HW5 := Lib.hid hW5
    rw [← hW5] at q0 q1 q2 q3 q4 q5 q6 q7 r0 r1 r2 r3 r4 r5 r6 r7
    clear hb4 ht4 hXa hXb hTa hW5
    unfold fdV
    go_wp2_with fail
    rw [HW5.out]
    refine HF.out.mono ?_
    rintro e W6 ⟨rfl, hb6⟩
    have HBT := Lib.hid (HBT0.out.trans (hb6.mono HBT0.out.size))
    clear hb6 q0 q1 q2 q3 q4 q5 q6 q7 r0 r1 r2 r3 r4 r5 r6 r7
    go_wp2_with fail
    refine (HP.out _ HBT.out).mono ?_
    intro e W8 hpar
    cases R with
    | bad q =>
      obtain ⟨hb8, he⟩ := hpar
      have he2 : e = .returned (.tuple #[fdV fdZ (.slice none 0 0), .int .i64 43, .int .i64 q]) := he
      subst he2
      have HB8 := Lib.hid ((HBT.out.trans (hb8.mono HBT.out.size)).alloc (Nat.le_trans HBT.out.size hb8.size) (.cells #[.int .i64 0, .int .i64 0, .int .i64 0, .int .i64 0, .slice none 0 0, .int .i64 0, .int .i64 0, .int .i64 0] 25))
      clear hb8 he
      unfold fdV fdZ
      go_wp2_with fail
      go_ret
      exact ⟨rfl, HB8.out⟩
    | ok g =>
      obtain ⟨hb8, o8, c8, he, ht8⟩ := hpar
      subst he
      have HBa := Lib.hid ((HBT.out.trans (hb8.mono HBT.out.size)).alloc (Nat.le_trans HBT.out.size hb8.size) (.cells (fdCells g (.slice o8 g.trail.length c8)) 25))
      have hXa := heap_alloc_new W8 (.cells (fdCells g (.slice o8 g.trail.length c8)) 25)
      have hTa := ht8.below ((Below.refl W8.heap.size W8).alloc (Nat.le_refl _) (.cells (fdCells g (.slice o8 g.trail.length c8)) 25))
      have hpg := HPG.out g rfl o8 c8 _ HBa.out hTa
      have HG1 := HTP.out
      have hot : outOf g = s := by unfold outOf; rw [HG1.2.1]; exact HG1.1
      have her : errOf g = 0 := by unfold errOf; rw [HG1.2.1]; rfl
      rw [hot, her] at hpg
      obtain ⟨gn, hgn⟩ : ∃ gn, g.trail.length = gn := ⟨_, rfl⟩
      rw [hgn] at hpg hXa HBa hTa ⊢
      unfold fdV strV at hpg
      unfold fdCells at hXa HBa hpg hTa
      obtain ⟨W9, hW9⟩ : ∃ W9, W8.alloc (.cells #[.int .i64 g.kind, .int .i64 g.what, .int .i64 g.err, .int .i64 g.at_, .slice o8 gn c8, .int .i64 g.cyc, .int .i64 g.states, .int .i64 g.steps] 25) = W9 := ⟨_, rfl⟩
      rw [hW9] at hpg hXa HBa hTa
      have HPGo := Lib.hid hpg
      obtain ⟨q0, q1, q2, q3, q4, q5, q6, q7⟩ := fd_cells (f := g) (tv := .slice o8 gn c8) hXa
      have HW9 := Lib.hid hW9
      rw [← hW9] at q0 q1 q2 q3 q4 q5 q6 q7
      clear hb8 ht8 hXa hTa hot her hpg HG1 hgn hW9
      unfold fdV
      go_wp2_with fail
      rw [HW9.out]
      refine HPGo.out.mono ?_
      rintro e W10 ⟨rfl, hb10⟩
      have HB10 := Lib.hid (HBa.out.trans (hb10.mono HBa.out.size))
      clear hb10 q0 q1 q2 q3 q4 q5 q6 q7
      go_wp2_with fail
      go_ret
      exact ⟨rfl, HB10.out⟩
end Go.Proofs.YtifofhjfepkglaaDoor
