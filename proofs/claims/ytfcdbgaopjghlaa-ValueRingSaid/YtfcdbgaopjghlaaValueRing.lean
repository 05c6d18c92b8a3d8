/- ValueRing: numbers are added, taken away, multiplied and divided as the ring of 32 bits has it, compared as ints, and shifted to the left as to the right by the opposite. Conditions: none. -/
import Derived.Test.YtfcdbgaopjghlaaRows
import Derived.WalkKit
import Derived.ProofKit
import Derived.OpenShut
import Derived.ShutString
import Derived.ChangeOld
import Derived.Below
import Derived.Lib.SmallJoins
import Derived.Test.YtfcdbgaopjghlaaRef2
import Derived.Test.YtfcdbgaopjghlaaRingMath
import Derived.Outline
namespace Go.Proofs.Ytfcdbgaopjghlaa.valueRing
open Go.ChangeShapes Go.WideShapes Go.ChangeAt Go.RowKit
open Go.ChangeMaps (open_string shut_string)
set_option linter.unusedVariables false

theorem own : ownKnob Try.prog.godebug = none := by kernel_rfl
theorem laidOut : laidOutB Try.prog = true := by kernel_rfl

theorem bel_alloc {w0 w : World} {o : Obj} (h : Below w0.heap.size w0 w) : Below w0.heap.size w0 (w.alloc o) := h.alloc h.size o
theorem two_h (op a b x y : Int) (h : Hid (two op a b = (x, y))) (w0 w : World) (hb : Below w0.heap.size w0 w) :
    Calls Try.prog 12 #[.int .i64 op, .int .i64 a, .int .i64 b] w fun e w' => e = .returned (.tuple #[.int .i64 x, .int .i64 y]) ∧ Below w0.heap.size w0 w' :=
  Calls.mono (two_any op a b w) fun _ _ ⟨he, hb'⟩ => ⟨by rw [he, h.out], hb.trans (hb'.mono hb.size)⟩
theorem one_h (op a x y : Int) (h : Hid (one op a = (x, y))) (w0 w : World) (hb : Below w0.heap.size w0 w) :
    Calls Try.prog 14 #[.int .i64 op, .int .i64 a] w fun e w' => e = .returned (.tuple #[.int .i64 x, .int .i64 y]) ∧ Below w0.heap.size w0 w' :=
  Calls.mono (one_any op a w) fun _ _ ⟨he, hb'⟩ => ⟨by rw [he, h.out], hb.trans (hb'.mono hb.size)⟩
theorem fit_h (v F : Int) (h : Hid (wrap32 v = F)) (w : World) :
    Calls Try.prog 8 #[.agg #[.int .i64 32, .bool true], .int .i64 v] w fun e w' => e = .returned (.int .i64 F) ∧ w' = w.alloc (.cells #[.int .i64 32, .bool true] 23) :=
  (fit_x 32 v true w).mono fun _ _ ⟨he, hw⟩ => ⟨by rw [he, ← h.out, fit_32], hw⟩

set_option maxRecDepth 100000 in
set_option maxHeartbeats 4000000 in
theorem walk (a b c : Int) (w : World)  :
    Calls Try.prog 6 #[.int .i64 a, .int .i64 b, .int .i64 c] w fun e w' => e = .returned (.bool true) ∧ Below w.heap.size w w' := by
  have e1 := Lib.hid (two_9 a b)
  have e2 := Lib.hid (ring_back a b)
  have e3 := Lib.hid ((two_6 a (wrap32 (wrap32 a + wrap32 b))))
  have e4 := Lib.hid (two_6 a a)
  have e5 := Lib.hid (two_6 a b)
  have e6 := Lib.hid (ring_dist a b)
  have e7 := Lib.hid (two_13 a b)
  have e8 := Lib.hid (two_16 a b)
  have e9 := Lib.hid (one_3 a)
  have e10 := Lib.hid (ring_zero a)
  have e11 := Lib.hid (two_11 a c)
  have ra := wrap32_range a
  have rb := wrap32_range b
  have rc := wrap32_range c
  have hb0 := Below.refl w.heap.size w
  have hdz : Hid (wrap32 b = 0 → two 7 a b = (0, 48) ∧ two 8 a b = (0, 48)) := Lib.hid fun h => ⟨two_7z a b h, two_8z a b h⟩
  have hdv : Hid (¬ wrap32 b = 0 → two 7 a b = (wrap32 ((wrap32 a).tdiv (wrap32 b)), 0) ∧ two 8 a b = ((wrap32 a).tmod (wrap32 b), 0) ∧ two 6 (wrap32 ((wrap32 a).tdiv (wrap32 b))) b = (wrap32 (wrap32 (wrap32 ((wrap32 a).tdiv (wrap32 b))) * wrap32 b), 0) ∧ two 9 (wrap32 (wrap32 (wrap32 ((wrap32 a).tdiv (wrap32 b))) * wrap32 b)) ((wrap32 a).tmod (wrap32 b)) = (wrap32 a, 0)) :=
    Lib.hid fun h => ⟨two_7 a b h, two_8 a b h, two_6 _ b, ring_div a b h⟩
  have hsh : Hid (¬ wrap32 c = -2147483648 → two 12 a (- wrap32 c) = (wrap32 (shI (wrap32 a) (wrap32 c)), 0)) := Lib.hid fun h => ring_sh a c h
  have hse : Hid (two 12 a (- wrap32 c) = (wrap32 (shI (wrap32 a) (- wrap32 (- wrap32 c))), 0)) := Lib.hid (two_12 a _)
  obtain ⟨A, hA⟩ : ∃ X, wrap32 a = X := ⟨_, rfl⟩
  obtain ⟨B, hB⟩ : ∃ X, wrap32 b = X := ⟨_, rfl⟩
  obtain ⟨C, hC⟩ : ∃ X, wrap32 c = X := ⟨_, rfl⟩
  have HA := Lib.hid hA
  have HB := Lib.hid hB
  have HC := Lib.hid hC
  rw [hA] at e1 e2 e3 e4 e5 e6 e7 e8 e9 e10 e11 ra hdv hsh hse
  rw [hB] at e1 e2 e3 e5 e6 e7 e8 rb hdz hdv
  rw [hC] at e11 rc hsh hse
  clear hA hB hC
  generalize wrap32 (A + B) = S at *
  generalize wrap32 (A * wrap32 S) = PP at *
  generalize wrap32 (A * A) = Q at *
  generalize wrap32 (A * B) = R at *
  generalize wrap32 (-A) = G at *
  generalize hX : wrap32 (shI A C) = X at *
  clear hX
  by_cases hlt : A < B
  all_goals
    first
      | (rw [show b2i (decide (A < B)) = 1 by simp [b2i, hlt]] at e7; rw [show b2i (decide (B ≤ A)) = 0 by simp [b2i]; omega] at e8)
      | (rw [show b2i (decide (A < B)) = 0 by simp [b2i, hlt]] at e7; rw [show b2i (decide (B ≤ A)) = 1 by simp [b2i]; omega] at e8)
    by_cases hz : B = 0
    · obtain ⟨f1, f2⟩ := hdz.out hz
      have F1 := Lib.hid f1
      have F2 := Lib.hid f2
      have hbq : (B == 0) = true := by simp [hz]
      clear hz f1 f2 hdz hdv
      go_enter Try.func6, Try.ntmps6
      go_wp2_with (first | (go_at_call 12; refine (two_h _ _ _ _ _ (by assumption) _ _ (by repeat (first | assumption | apply bel_alloc))).mono ?_; rintro e w' ⟨rfl, hb1⟩) | (go_at_call 14; refine (one_h _ _ _ _ (by assumption) _ _ (by repeat (first | assumption | apply bel_alloc))).mono ?_; rintro e w' ⟨rfl, hb1⟩) | (go_at_call 8; refine (fit_h _ _ (by assumption) _).mono ?_; rintro e w' ⟨rfl, rfl⟩) | (go_at_call 16; refine (rint_as _ _ (by assumption) _ _ (by repeat (first | assumption | apply bel_alloc))).mono ?_; rintro e w' ⟨rfl, hb1⟩))
      go_ret
      exact ⟨rfl, by repeat (first | assumption | apply bel_alloc)⟩
    · obtain ⟨f1, f2, f3, f4⟩ := hdv.out hz
      have F1 := Lib.hid f1
      have F2 := Lib.hid f2
      have F3 := Lib.hid f3
      have F4 := Lib.hid f4
      clear f1 f2 f3 f4 hdv hdz
      have hbq : (B == 0) = false := by simp [hz]
      clear hz
      generalize A.tmod B = M at *
      generalize wrap32 (A.tdiv B) = D at *
      generalize wrap32 (wrap32 D * B) = DM at *
      by_cases hl : C = -2147483648
      · have hlq : (C == -2147483648) = true := by simp [hl]
        clear hl hsh
        go_enter Try.func6, Try.ntmps6
        go_wp2_with (first | (go_at_call 12; refine (two_h _ _ _ _ _ (by assumption) _ _ (by repeat (first | assumption | apply bel_alloc))).mono ?_; rintro e w' ⟨rfl, hb1⟩) | (go_at_call 14; refine (one_h _ _ _ _ (by assumption) _ _ (by repeat (first | assumption | apply bel_alloc))).mono ?_; rintro e w' ⟨rfl, hb1⟩) | (go_at_call 8; refine (fit_h _ _ (by assumption) _).mono ?_; rintro e w' ⟨rfl, rfl⟩) | (go_at_call 16; refine (rint_as _ _ (by assumption) _ _ (by repeat (first | assumption | apply bel_alloc))).mono ?_; rintro e w' ⟨rfl, hb1⟩))
        go_ret
        exact ⟨rfl, by repeat (first | assumption | apply bel_alloc)⟩
      · have hlq : (C == -2147483648) = false := by simp [hl]
        have hs2 := Lib.hid (hsh.out hl)
        clear hl hsh hse
        go_enter Try.func6, Try.ntmps6
        go_wp2_with (first | (go_at_call 12; refine (two_h _ _ _ _ _ (by assumption) _ _ (by repeat (first | assumption | apply bel_alloc))).mono ?_; rintro e w' ⟨rfl, hb1⟩) | (go_at_call 14; refine (one_h _ _ _ _ (by assumption) _ _ (by repeat (first | assumption | apply bel_alloc))).mono ?_; rintro e w' ⟨rfl, hb1⟩) | (go_at_call 8; refine (fit_h _ _ (by assumption) _).mono ?_; rintro e w' ⟨rfl, rfl⟩) | (go_at_call 16; refine (rint_as _ _ (by assumption) _ _ (by repeat (first | assumption | apply bel_alloc))).mono ?_; rintro e w' ⟨rfl, hb1⟩))
        go_ret
        exact ⟨rfl, by repeat (first | assumption | apply bel_alloc)⟩

set_option maxRecDepth 100000 in
theorem lifted (os : Os) (started : os.Started) (H : Type) (enc : TypeId × Value → H) :
    ReturnsInHanded {} Try.checked os 6 .any (Rows.valueRingSpec.pre6 enc Try.prog Try.f6 Rows.valueRingRow.domain false) (Rows.valueRingSpec.post enc Try.prog Try.f6 false true false false) := by
  refine returnsInHanded_of_change (C := Try.checked) own started (by kernel_rfl) Try.func6
    (ChangeSpec.witness6 (enc := enc) (C := Try.checked) false ⟨#[], #[.int .i64 0, .int .i64 0, .int .i64 0], []⟩ 8 (by kernel_rfl) (by kernel_rfl) (by kernel_rfl) (by kernel_rfl)) ?_
  intro W base args ds gs before hval0 hW hcnd _
  have hval : ∀ (j : Nat) t v, Try.f6.params[j]? = some t → args[j]? = some v → Value.okWide Try.prog W .any base t v := hval0
  have hW' := hW
  obtain ⟨p, q, hA0, hV, rfl, hfz, hnd⟩ := hW
  have hA : DataW.TrodAll enc Try.prog W 0 (fun _ => true) true Try.f6.params.toList args.toList ds p := hA0
  rw [Try.params6] at hA hval
  obtain ⟨v0, vs0, d0, ds0, p0, q0, hargs, rfl, rfl, h0, r0⟩ := trodAll_cons hA
  obtain ⟨v1, vs1, d1, ds1, p1, q1, rfl, rfl, rfl, h1, r1⟩ := trodAll_cons r0
  obtain ⟨v2, vs2, d2, ds2, p2, q2, rfl, rfl, rfl, h2, r2⟩ := trodAll_cons r1
  obtain ⟨rfl, rfl, rfl⟩ := trodAll_nil r2
  obtain rfl : args = #[v0, v1, v2] := by cases args; simp_all
  obtain ⟨rfl, rfl⟩ := trodVars_none hV
  have k0 := h0
  have lt0 : ∀ x ∈ p0, x.block < W.heap.size := by obtain ⟨m, hm⟩ := k0; exact DataW.trod_lt m _ _ _ hm
  have k1 := h1
  have lt1 : ∀ x ∈ p1, x.block < W.heap.size := by obtain ⟨m, hm⟩ := k1; exact DataW.trod_lt m _ _ _ hm
  have k2 := h2
  have lt2 : ∀ x ∈ p2, x.block < W.heap.size := by obtain ⟨m, hm⟩ := k2; exact DataW.trod_lt m _ _ _ hm
  obtain ⟨a0, rfl, rfl, rfl, w0⟩ := open_int Try.underlying2 (hval 0 2 v0 rfl rfl) h0
  obtain ⟨a1, rfl, rfl, rfl, w1⟩ := open_int Try.underlying2 (hval 1 2 v1 rfl rfl) h1
  obtain ⟨a2, rfl, rfl, rfl, w2⟩ := open_int Try.underlying2 (hval 2 2 v2 rfl rfl) h2
  clear hA0 hval0
  refine (walk a0 a1 a2 W).mono fun e W' ⟨he, bel⟩ => ?_
  subst he
  exact ⟨_, rfl, _, _, _, [], _, [], hW', trodAll_mk1 (shut_bool Try.underlying4 _), (trodAll_cons_mk (Below.trod laidOut (by kernel_rfl) (of_decide_eq_true (by kernel_rfl)) k0 bel lt0) (trodAll_cons_mk (Below.trod laidOut (by kernel_rfl) (of_decide_eq_true (by kernel_rfl)) k1 bel lt1) (trodAll_cons_mk (Below.trod laidOut (by kernel_rfl) (of_decide_eq_true (by kernel_rfl)) k2 bel lt2) trodAll_mk0))), rfl, bel.frame _, fun h => by cases h⟩

theorem over : Rows.valueRingRow.holds Try.pinned (OpenSpec.ofChange Rows.valueRingSpec) :=
  OpenClaim.holds_of_wide 6 Try.f6 rfl rfl rfl rfl rfl rfl rfl ⟨rfl, rfl, rfl, rfl, rfl⟩ rfl rfl rfl rfl rfl (by kernel_rfl) Try.func6 (by kernel_rfl)
    (of_decide_eq_true (by kernel_rfl)) (by unfold Func.isWrapper; first | (rw [if_pos (by decide +kernel)]; kernel_rfl) | (rw [if_neg (by decide +kernel)]; exact ⟨rfl, rfl⟩))
    (fun os started H enc _ => lifted os started H enc)

theorem proved : Rows.ValueRingSaid := over
#print axioms proved
end Go.Proofs.Ytfcdbgaopjghlaa.valueRing
namespace Go.Proofs.Ytfcdbgaopjghlaa
theorem valueRing_holds : Rows.ValueRingSaid := valueRing.proved
end Go.Proofs.Ytfcdbgaopjghlaa
