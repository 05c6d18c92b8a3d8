/- LexFirst: what is wrong at a place of any source is told whatever stands behind it, but for what a text or a comment without an end lacks. Conditions: none. -/
import Derived.Test.YtmkfcoeefopmiaaLoc
import Derived.Test.YtmkfcoeefopmiaaTokD
import Derived.Test.YtmkfcoeefopmiaaTokR
import Derived.Test.YtmkfcoeefopmiaaBig
import Derived.OpenShut
import Derived.ShutString
import Derived.ChangeOld
import Derived.HandedShaped
import Derived.Lib.SmallJoins
namespace Go.Proofs.Ytmkfcoeefopmiaa.lexFirst
open Go.ChangeShapes Go.WideShapes Go.ChangeAt Go.RowKit
open Go.ChangeMaps (open_string shut_string)
set_option linter.unusedVariables false
set_option linter.unusedSimpArgs false

theorem own : ownKnob Try.prog.godebug = none := by kernel_rfl
theorem laidOut : laidOutB Try.prog = true := by kernel_rfl

theorem tokD_as (u : ByteArray) (w0 : World) (hs : u.size ≤ 65535) (ts : List TK) (e p : Nat) (hL : Hid (Lx u 0 1 0 ts e p)) (mm : Int) (hm0 : w0.cell? ⟨0, 0, none⟩ = some (.int .i64 mm)) :
    Calls Try.prog 5 #[.string u] w0 fun x w' => ∃ v, x = .returned (.tuple #[v, .int .i64 e, .int .i64 p]) ∧ Below w0.heap.size w0 w' :=
  (tokensD u w0 hs ts e p hL.out mm hm0).mono fun x w' ⟨v, hx, hb, _, _⟩ => ⟨v, hx, hb⟩
theorem tokR_as (u : ByteArray) (w0 : World) (hs : u.size ≤ 65535) (ts : List TK) (e p : Nat) (hL : Hid (Lx u 0 1 0 ts e p)) :
    Calls Try.prog 6 #[.string u] w0 fun x w' => ∃ v, x = .returned (.tuple #[v, .int .i64 e, .int .i64 p]) ∧ Below w0.heap.size w0 w' :=
  (tokensR u w0 hs ts e p hL.out).mono fun x w' ⟨v, hx, hb, _, _⟩ => ⟨v, hx, hb⟩

theorem byt_app (a b : ByteArray) (i : Nat) : byt (a ++ b) i = if i < a.size then byt a i else byt b (i - a.size) := by
  have e : (a ++ b).data.toList = a.data.toList ++ b.data.toList := by simp
  have hl : a.data.toList.length = a.size := by simp
  unfold byt
  rw [e]
  split
  · rename_i h
    rw [List.getD_eq_getElem?_getD, List.getD_eq_getElem?_getD, List.getElem?_append_left (by omega)]
  · rename_i h
    rw [List.getD_eq_getElem?_getD, List.getD_eq_getElem?_getD, List.getElem?_append_right (by omega), hl]
theorem byt_cut (u : ByteArray) (n i : Nat) (h : i < n) : byt (u.extract 0 n) i = byt u i := by
  unfold byt
  rw [ByteArray.data_extract, Array.toList_extract, List.extract_eq_take_drop, List.drop_zero, List.getD_eq_getElem?_getD, List.getD_eq_getElem?_getD, List.getElem?_take_of_lt (by omega)]

theorem cell0 {w w' : World} {mm : Int} (hm : w.cell? ⟨0, 0, none⟩ = some (.int .i64 mm)) (hb : Below w.heap.size w w') : w'.cell? ⟨0, 0, none⟩ = some (.int .i64 mm) := by
  rw [hb.cell (p := ⟨0, 0, none⟩) (World.block_lt_of_cell? w _ hm)]; exact hm

set_option maxRecDepth 100000 in
set_option maxHeartbeats 1000000 in
theorem walk_big (u m : ByteArray) (w : World) (h : 65535 < u.size) :
    Calls Try.prog 4 #[.string u, .string m] w fun e w' => e = .returned (.bool true) ∧ Below w.heap.size w w' := by
  go_enter Try.func4, Try.ntmps4
  go_wp2_with (first | (go_at_call 5; refine (bigD _ _ h).mono ?_; rintro e w ⟨rfl, rfl⟩) | (go_at_call 6; refine (bigR _ _ h).mono ?_; rintro e w ⟨rfl, rfl⟩))
  go_ret
  exact ⟨rfl, Below.refl _ _⟩

set_option maxRecDepth 100000 in
set_option maxHeartbeats 1000000 in
theorem walk_other (u m : ByteArray) (w : World) (hs : u.size ≤ 65535) (ts : List TK) (e p : Nat) (HL : Hid (Lx u 0 1 0 ts e p)) (mm : Int) (HM : Hid (w.cell? ⟨0, 0, none⟩ = some (.int .i64 mm))) (he : e ≠ 2) :
    Calls Try.prog 4 #[.string u, .string m] w fun e w' => e = .returned (.bool true) ∧ Below w.heap.size w w' := by
  have he2 : ((e : Int) != 2) = true := by rw [bne_iff_ne]; omega
  clear he
  go_enter Try.func4, Try.ntmps4
  go_wp2_with fail
  refine (tokD_as u _ hs ts e p HL mm HM.out).mono ?_
  rintro x w1 ⟨v1, rfl, hb1⟩
  have HB1 := Lib.hid hb1
  clear hb1
  go_wp2_with fail
  refine (tokR_as u _ hs ts e p HL).mono ?_
  rintro x w2 ⟨v2, rfl, hb2⟩
  have HB2 := Lib.hid (HB1.out.trans (hb2.mono HB1.out.size))
  clear hb2
  go_wp2
  go_ret
  exact ⟨rfl, HB2.out⟩

set_option maxRecDepth 100000 in
set_option maxHeartbeats 1000000 in
theorem walk_far (u m : ByteArray) (w : World) (hs : u.size ≤ 65535) (ts : List TK) (p : Nat) (HL : Hid (Lx u 0 1 0 ts 2 p)) (mm : Int) (HM : Hid (w.cell? ⟨0, 0, none⟩ = some (.int .i64 mm))) (he : 60000 < u.size ∨ (¬ 60000 < u.size ∧ 5000 < m.size)) :
    Calls Try.prog 4 #[.string u, .string m] w fun e w' => e = .returned (.bool true) ∧ Below w.heap.size w w' := by
  rcases he with h1 | ⟨h1, h2⟩
  all_goals
    have g1 : (u.size : Int) ≤ 65535 := by omega
    first | (have g2 : 60000 < (u.size : Int) := by omega) | (have g2 : ¬ 60000 < (u.size : Int) := by omega)
    try (have g3 : 5000 < (m.size : Int) := by omega)
    go_enter Try.func4, Try.ntmps4
    go_wp2_with fail
    refine (tokD_as u _ hs ts 2 p HL mm HM.out).mono ?_
    rintro x w1 ⟨v1, rfl, hb1⟩
    have HB1 := Lib.hid hb1
    clear hb1
    go_wp2_with fail
    refine (tokR_as u _ hs ts 2 p HL).mono ?_
    rintro x w2 ⟨v2, rfl, hb2⟩
    have HB2 := Lib.hid (HB1.out.trans (hb2.mono HB1.out.size))
    clear hb2
    go_wp2
    go_ret
    exact ⟨rfl, HB2.out⟩

set_option maxRecDepth 100000 in
set_option maxHeartbeats 1000000 in
theorem walk_main (u m : ByteArray) (w : World) (ts : List TK) (p : Nat) (HL : Hid (Lx u 0 1 0 ts 2 p)) (mm : Int) (HM : Hid (w.cell? ⟨0, 0, none⟩ = some (.int .i64 mm))) (h1 : ¬ 60000 < u.size) (h2 : ¬ 5000 < m.size) :
    Calls Try.prog 4 #[.string u, .string m] w fun e w' => e = .returned (.bool true) ∧ Below w.heap.size w w' := by
  have hs : u.size ≤ 65535 := by omega
  have g1 : (u.size : Int) ≤ 60000 := by omega
  have g2 : ¬ 60000 < (u.size : Int) := by omega
  have g3 : ¬ 5000 < (m.size : Int) := by omega
  obtain ⟨_, hp⟩ := HL.out.ge (by omega)
  have g4 : (p : Int) < (u.size : Int) := by omega
  have g5 : ¬ (u.size : Int) ≤ (p : Int) := by omega
  obtain ⟨x1, hx1⟩ : ∃ x, u.extract 0 (p + 1) = x := ⟨_, rfl⟩
  obtain ⟨x2, hx2⟩ : ∃ x, x1 ++ (⟨#[32]⟩ : ByteArray) = x := ⟨_, rfl⟩
  obtain ⟨x3, hx3⟩ : ∃ x, x2 ++ m = x := ⟨_, rfl⟩
  have z1 : x1.size = p + 1 := by rw [← hx1]; simp; omega
  have z2 : x2.size = p + 2 := by rw [← hx2, ByteArray.size_append, z1]; rfl
  have z3 : x3.size = p + 2 + m.size := by rw [← hx3, ByteArray.size_append, z2]
  have hsame : Same u x3 p := by
    refine ⟨hp, by omega, fun i hi => ?_, ?_⟩
    · rw [← hx3, byt_app, if_pos (by omega), ← hx2, byt_app, if_pos (by omega), ← hx1, byt_cut u _ i (by omega)]
    · rw [← hx3, byt_app, if_pos (by omega), ← hx2, byt_app, if_neg (by omega), z1, Nat.sub_self]; rfl
  obtain ⟨ts', hl'⟩ := HL.out.local_ rfl hsame
  have HL' := Lib.hid hl'
  have hs3 : x3.size ≤ 65535 := by omega
  have hsl : ∀ w : World, (Instr.slice 9 (.string u) none (some (.int .i64 ((p : Int) + 1))) none).run Try.prog w = .ok (.string x1) w := fun w => by
    have := run_slice_string_h (P := Try.prog) (w := w) (t := 9) (s := u) Try.underlying9 .i64 ((p : Int) + 1) (by omega) (by omega)
    rw [this, show ((p : Int) + 1).toNat = p + 1 by omega, hx1]
  have ha1 : ∀ w : World, (Op.stringOp .add x1 (⟨#[32]⟩ : ByteArray)).run Try.prog w = .ok (.string x2) w := fun w => by
    rw [run_string_add_sum w x1 _ (by rw [z1]; show p + 1 + 1 ≤ _; omega), hx2]
  have ha2 : ∀ w : World, (Op.stringOp .add x2 m).run Try.prog w = .ok (.string x3) w := fun w => by
    rw [run_string_add_sum w x2 _ (by rw [z2]; omega), hx3]
  clear hl' hsame z1 z2 z3 hx1 hx2 hx3 h1 h2
  go_enter Try.func4, Try.ntmps4
  go_wp2_with fail
  refine (tokD_as u _ hs ts 2 p HL mm HM.out).mono ?_
  rintro x w1 ⟨v1, rfl, hb1⟩
  have HB1 := Lib.hid hb1
  clear hb1
  go_wp2_with fail
  refine (tokR_as u _ hs ts 2 p HL).mono ?_
  rintro x w2 ⟨v2, rfl, hb2⟩
  have HB2 := Lib.hid (HB1.out.trans (hb2.mono HB1.out.size))
  clear hb2
  have HM2 := Lib.hid (cell0 HM.out HB2.out)
  go_wp2_with fail
  refine (tokD_as x3 _ hs3 ts' 2 p HL' mm HM2.out).mono ?_
  rintro x w3 ⟨v3, rfl, hb3⟩
  have HB3 := Lib.hid (HB2.out.trans (hb3.mono HB2.out.size))
  clear hb3
  go_wp2
  go_ret
  exact ⟨rfl, HB3.out⟩

theorem walk (u m : ByteArray) (w : World) (mm : Int) (hm : w.cell? ⟨0, 0, none⟩ = some (.int .i64 mm)) :
    Calls Try.prog 4 #[.string u, .string m] w fun e w' => e = .returned (.bool true) ∧ Below w.heap.size w w' := by
  by_cases hs : 65535 < u.size
  · exact walk_big u m w hs
  obtain ⟨ts, e, p, hL⟩ := Lx.all u _ 0 1 0 (Nat.le_refl _)
  by_cases he : e = 2
  · subst he
    by_cases h1 : 60000 < u.size
    · exact walk_far u m w (by omega) ts p (Lib.hid hL) mm (Lib.hid hm) (.inl h1)
    by_cases h2 : 5000 < m.size
    · exact walk_far u m w (by omega) ts p (Lib.hid hL) mm (Lib.hid hm) (.inr ⟨h1, h2⟩)
    exact walk_main u m w ts p (Lib.hid hL) mm (Lib.hid hm) h1 h2
  · exact walk_other u m w (by omega) ts e p (Lib.hid hL) mm (Lib.hid hm) he

set_option maxRecDepth 100000 in
theorem lifted (os : Os) (started : os.Started) (H : Type) (enc : TypeId × Value → H) :
    ReturnsInHanded {} Try.checked os 4 .any (Rows.lexFirstSpec.pre6 enc Try.prog Try.f4 Rows.lexFirstRow.domain false) (Rows.lexFirstSpec.post enc Try.prog Try.f4 false true false false) := by
  refine returnsInHanded_of_change_shaped (C := Try.checked) own started (by kernel_rfl) Try.func4
    (ChangeSpec.witness6 (enc := enc) (C := Try.checked) false ⟨#[], #[.string ByteArray.empty, .string ByteArray.empty], []⟩ 8 (by kernel_rfl) (by kernel_rfl) (by kernel_rfl) (by kernel_rfl)) ?_
  intro W base args ds gs before hval0 hW hcnd _ hsh _
  have hval : ∀ (j : Nat) t v, Try.f4.params[j]? = some t → args[j]? = some v → Value.okWide Try.prog W .any base t v := hval0
  have hW' := hW
  obtain ⟨p, q, hA0, hV, rfl, hfz, hnd⟩ := hW
  have hA : DataW.TrodAll enc Try.prog W 0 (fun _ => true) true Try.f4.params.toList args.toList ds p := hA0
  rw [Try.params4] at hA hval
  obtain ⟨v0, vs0, d0, ds0, p0, q0, hargs, rfl, rfl, h0, r0⟩ := trodAll_cons hA
  obtain ⟨v1, vs1, d1, ds1, p1, q1, rfl, rfl, rfl, h1, r1⟩ := trodAll_cons r0
  obtain ⟨rfl, rfl, rfl⟩ := trodAll_nil r1
  obtain rfl : args = #[v0, v1] := by cases args; simp_all
  obtain ⟨rfl, rfl⟩ := trodVars_none hV
  have k0 := h0
  have lt0 : ∀ x ∈ p0, x.block < W.heap.size := by obtain ⟨m, hm⟩ := k0; exact DataW.trod_lt m _ _ _ hm
  have k1 := h1
  have lt1 : ∀ x ∈ p1, x.block < W.heap.size := by obtain ⟨m, hm⟩ := k1; exact DataW.trod_lt m _ _ _ hm
  obtain ⟨s0, rfl, rfl, rfl, hs0⟩ := open_string Try.underlying9 (hval 0 9 v0 rfl rfl) h0
  obtain ⟨s1, rfl, rfl, rfl, hs1⟩ := open_string Try.underlying9 (hval 1 9 v1 rfl rfl) h1
  clear hA0 hval0
  obtain ⟨mm, hmm⟩ := Try.laysM143.s1_3 W hsh
  refine (walk s0 s1 W mm hmm).mono fun e W' ⟨he, bel⟩ => ?_
  subst he
  exact ⟨_, rfl, _, _, _, [], _, [], hW', trodAll_mk1 (shut_bool Try.underlying4 _), (trodAll_cons_mk (Below.trod laidOut (by kernel_rfl) (of_decide_eq_true (by kernel_rfl)) k0 bel lt0) (trodAll_cons_mk (Below.trod laidOut (by kernel_rfl) (of_decide_eq_true (by kernel_rfl)) k1 bel lt1) trodAll_mk0)), rfl, bel.frame _, fun h => by cases h⟩

theorem over : Rows.lexFirstRow.holds Try.pinned (OpenSpec.ofChange Rows.lexFirstSpec) :=
  OpenClaim.holds_of_wide 4 Try.f4 rfl rfl rfl rfl rfl rfl rfl ⟨rfl, rfl, rfl, rfl, rfl⟩ rfl rfl rfl rfl rfl (by kernel_rfl) Try.func4 (by kernel_rfl)
    (of_decide_eq_true (by kernel_rfl)) (by unfold Func.isWrapper; first | (rw [if_pos (by decide +kernel)]; kernel_rfl) | (rw [if_neg (by decide +kernel)]; exact ⟨rfl, rfl⟩))
    (fun os started H enc _ => lifted os started H enc)

theorem proved : Rows.LexFirstSaid := over
#print axioms proved
end Go.Proofs.Ytmkfcoeefopmiaa.lexFirst
namespace Go.Proofs.Ytmkfcoeefopmiaa
theorem lexFirst_holds : Rows.LexFirstSaid := lexFirst.proved
end Go.Proofs.Ytmkfcoeefopmiaa
