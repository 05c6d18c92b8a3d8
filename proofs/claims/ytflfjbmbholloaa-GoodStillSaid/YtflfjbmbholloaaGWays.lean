/- What the ways of a list do and use. -/
import Derived.Test.YtflfjbmbholloaaGUsed
namespace Go.Proofs.Ytflfjbmbholloaa
open Go.ChangeShapes Go.WideShapes Go.ChangeAt Go.RowKit
set_option linter.unusedVariables false
set_option linter.unusedSimpArgs false

theorem isExprB_of {m : ModelD} {x : Int} (h : isExprB m x = true) : 0 ≤ x ∧ x < m.exprs.length := by unfold isExprB at h; simpa using h
theorem stmtB_ok {m : ModelD} {s : StmtD} (h : stmtB m s = true) : s.a < m.exprs.length ∧ s.b < m.exprs.length ∧ ∀ q ∈ s.args, 0 ≤ q ∧ q < m.exprs.length := by
  unfold stmtB at h
  split at h
  · cases h
  · rename_i q hq
    simp only [Bool.and_eq_true] at h
    obtain ⟨⟨⟨⟨h1, h2⟩, h3⟩, h4⟩, h5⟩ := h
    unfold askAB at h1
    simp only [Bool.not_eq_true', Bool.or_eq_false_iff, decide_eq_false_iff_not, Bool.and_eq_false_iff] at h1
    obtain ⟨⟨⟨a1, a2⟩, b1⟩, b2⟩ := h1
    have key : ∀ (x : Int) (b : Bool), ¬ (b ≠ decide (x ≠ -1)) → (b = false ∨ (!isExprB m x) = false) → x < m.exprs.length := by
      intro x b e1 e2
      rcases e2 with e2 | e2
      · subst e2
        by_cases hx : x = -1
        · subst hx; omega
        · exact absurd (by rw [decide_eq_true hx]; decide) e1
      · have : isExprB m x = true := by simpa using e2
        exact (isExprB_of this).2
    refine ⟨key _ _ a1 a2, key _ _ b1 b2, fun q hq => isExprB_of ?_⟩
    rw [List.all_eq_true] at h3
    exact h3 q hq
/-- What is to be looked at still is R, and it comes to r. -/
def FJ {α : Type} (f : List Int → α → Bool × List Int) (B p sb : Nat) (h : MH) (m : ModelD) (r : Bool × List Int) (w0 : World) (R : List α) (W : World) : Prop :=
  ∃ seen left, stopF f R seen = r ∧ UJ B p sb h m seen left W ∧ Gn B w0 W
section
variable {α : Type} {f : List Int → α → Bool × List Int} {B p sb : Nat} {h : MH} {m : ModelD} {r : Bool × List Int} {w0 W : World}
theorem FJ.done (hv : FJ f B p sb h m r w0 [] W) : UsesP B p sb h m r w0 (.returned (.bool true)) W := by
  obtain ⟨seen, left, h1, h2, h3⟩ := hv
  rw [← h1]
  exact ⟨rfl, ⟨_, h2⟩, h3⟩
theorem FJ.ck {R : List α} (hv : FJ f B p sb h m r w0 R W) : Ck B W p h m := by
  obtain ⟨seen, left, h1, ⟨lv, h2⟩, h3⟩ := hv
  exact h2.ck
theorem FJ.gn {R : List α} (hv : FJ f B p sb h m r w0 R W) : Gn B w0 W := by
  obtain ⟨seen, left, h1, h2, h3⟩ := hv
  exact h3
theorem FJ.below {R : List α} {W' : World} (hv : FJ f B p sb h m r w0 R W) (hb : Below W.heap.size W W') : FJ f B p sb h m r w0 R W' := by
  obtain ⟨seen, left, h1, ⟨lv, h2⟩, h3⟩ := hv
  exact ⟨seen, left, h1, ⟨lv, h2.below hb⟩, h3.trans (Gn.of hb h2.leW)⟩
def FStep {α : Type} (f : List Int → α → Bool × List Int) (B p sb : Nat) (h : MH) (m : ModelD) (r : Bool × List Int) (w0 : World) (R : List α) (e : Ending) (W : World) : Prop :=
  ∃ u, e = .returned (.bool u) ∧ (u = true → FJ f B p sb h m r w0 R W) ∧ (u = false → UsesP B p sb h m r w0 (.returned (.bool false)) W)
/-- A call that looks at the first. -/
theorem FJ.call {F : Nat} {args : Array Value} {x : α} {R : List α} (hv : FJ f B p sb h m r w0 (x :: R) W)
    (hc : ∀ seen left, UJ B p sb h m seen left W → Calls Try.prog F args W (UsesP B p sb h m (f seen x) W)) : Calls Try.prog F args W (FStep f B p sb h m r w0 R) := by
  obtain ⟨seen, left, h1, h2, h3⟩ := hv
  refine (hc seen left h2).mono ?_
  rintro e W' ⟨rfl, ⟨left', h4⟩, h5⟩
  refine ⟨_, rfl, fun hu => ⟨_, _, ?_, h4, h3.trans h5⟩, fun hu => ?_⟩
  · rw [← h1, stopF_yes hu]
  · rw [stopF_no hu] at h1
    rw [← h1]
    exact ⟨rfl, ⟨_, h4⟩, h3.trans h5⟩
/-- The first does not hold, and what was seen stays. -/
theorem FJ.no {x : α} {R : List α} {W' : World} (hv : FJ f B p sb h m r w0 (x :: R) W) (hx : ∀ seen, f seen x = (false, seen)) (hb : Below W.heap.size W W') : UsesP B p sb h m r w0 (.returned (.bool false)) W' := by
  obtain ⟨seen, left, h1, ⟨lv, h2⟩, h3⟩ := hv
  rw [stopF_no (by rw [hx]), hx] at h1
  rw [← h1]
  exact ⟨rfl, ⟨_, lv, h2.below hb⟩, h3.trans (Gn.of hb h2.leW)⟩
/-- The first is the same as another's. -/
theorem FJ.call2 {F : Nat} {args : Array Value} {x : α} {R : List α} {g : List Int → Bool × List Int} (hv : FJ f B p sb h m r w0 (x :: R) W) (hx : ∀ seen, f seen x = g seen)
    (hc : ∀ seen left, UJ B p sb h m seen left W → Calls Try.prog F args W (UsesP B p sb h m (g seen) W)) : Calls Try.prog F args W (FStep f B p sb h m r w0 R) :=
  hv.call fun seen left hj => by rw [hx]; exact hc seen left hj
end

set_option maxHeartbeats 8000000 in
set_option maxRecDepth 100000 in
theorem waysC {B p sb : Nat} {h : MH} {m : ModelD} {seen left : List Int} (proc : Nat) (l : List TransD) (o : Option Addr) (cap : Nat) (w : World) (hj : UJ B p sb h m seen left w) (hx : EX m) (hproc : proc < m.procs.length) (hl : Row B o 9 (transAt B w) l) :
    Calls Try.prog 22 #[.pointer (some ⟨p, 0, none⟩), .int .i64 proc, .slice o l.length cap] w (UsesP B p sb h m (waysL m proc seen l) w) := by
  have HEX := Lib.hid hx
  have HL := Lib.hid hl
  obtain ⟨lv, k⟩ := hj
  have hB : B ≤ w.heap.size := k.leW
  obtain ⟨r, hr⟩ : ∃ r, waysL m proc seen l = r := ⟨_, rfl⟩
  have HV0 : Hid (FJ (wayL m proc) B p sb h m r w (l.drop 0) w) := Lib.hid ⟨seen, left, by rw [← hr]; rfl, ⟨lv, k⟩, Gn.refl _ _⟩
  rw [hr]
  have hpl : m.procs.length ≤ 140737488355328 := k.md.procs.1
  have hll := hl.1
  clear hr k hx hl
  go_enter Try.func22, Try.ntmps22
  go_wp2_with fail
  go_loopw [11] (fun iv W => ∃ j : Nat, iv = .int .i64 j ∧ j ≤ l.length ∧ Hid (FJ (wayL m proc) B p sb h m r w (l.drop j) W)) (fun iv _ => l.length - (intOf iv).toNat)
  case atStart => exact ⟨0, rfl, by omega, HV0⟩
  case round =>
    clear HV0
    obtain ⟨j, rfl, hj, HJ⟩ := hrel
    have hj0 : (0 : Int) ≤ j := by omega
    have hp0 : (0 : Int) ≤ proc := by omega
    by_cases hlt : j < l.length
    · have hlti : (j : Int) < l.length := by omega
      have HCK := Lib.hid HJ.out.ck
      have hrow : Row B o 9 (transAt B wr) l := HL.out.mono fun _ _ _ hg => transAt.below HJ.out.gn.bel hg
      obtain ⟨g, off, hog, hg, ht⟩ := hrow.cell hlt
      obtain ⟨t, hte⟩ : ∃ t, l[j] = t := ⟨_, rfl⟩
      rw [hte] at ht
      have HN1 : Hid (FJ (wayL m proc) B p sb h m r w (t :: l.drop (j + 1)) wr) := Lib.hid (by have := HJ.out; rw [drop_cons hlt, hte] at this; exact this)
      obtain ⟨a, ha⟩ : ∃ a, off + j * 9 = a := ⟨_, rfl⟩
      have HA := Lib.hid ha
      rw [ha] at ht
      have HT := Lib.hid ht
      subst hog
      clear hrow ht hte ha HJ
      go_wp2_with fail
      rw [HA.out]
      refine (stmtC wr HCK.out HT.out.s hg).mono ?_
      rintro e W2 ⟨rfl, hb2⟩
      have HB2 := Lib.hid hb2
      clear hb2
      obtain ⟨u, hu⟩ : ∃ u, stmtB m t.s = u := ⟨_, rfl⟩
      rw [hu]
      have HU := Lib.hid hu
      clear hu
      cases u
      · have HZ := Lib.hid (HN1.out.no (fun seen => by unfold wayL; rw [HU.out]; rfl) HB2.out)
        go_wp2_with fail
        go_ret
        exact HZ.out
      · have HV2 := Lib.hid (HN1.out.below HB2.out)
        have HS2 : Hid (stmtAt B W2 g a t.s) := Lib.hid (HT.out.s.below (HB2.out.mono (by have := HCK.out.le; have := HCK.out.lt; omega)) hg)
        have HOK := Lib.hid (stmtB_ok HU.out)
        have d5 : W2.cell? ⟨p, 5, none⟩ = some (.int .i64 m.claim) := HV2.out.ck.c5
        by_cases hcl : (proc : Int) = m.claim
        · have hcb : ((proc : Int) == m.claim) = true := by rw [beq_iff_eq]; exact hcl
          have HCL := Lib.hid hcl
          have e0 := HS2.out.c0
          clear hcl
          go_wp2_with fail
          clear d5 e0
          refine (claimsC t.s.kind W2).mono ?_
          rintro e W3 ⟨rfl, rfl⟩
          obtain ⟨u, hu⟩ : ∃ u, claimsB t.s.kind = u := ⟨_, rfl⟩
          rw [hu]
          have HU2 := Lib.hid hu
          clear hu
          cases u
          · have HZ := Lib.hid (HV2.out.no (fun seen => by unfold wayL; rw [HU.out, HU2.out, decide_eq_true HCL.out]; rfl) (Below.refl _ _))
            go_wp2_with fail
            go_ret
            exact HZ.out
          · have HC := Lib.hid (HV2.out.call2 (F := 30) (args := #[.pointer (some ⟨p, 0, none⟩), .int .i64 proc, .pointer (some ⟨g, a, none⟩)]) (g := fun seen => usedByL m proc seen t.s) (fun seen => by unfold wayL; rw [HU.out, HU2.out]; simp) (fun seen left hj => usedByC proc W2 hj HEX.out hproc HS2.out hg HOK.out.1 HOK.out.2.1 HOK.out.2.2))
            go_wp2_with fail
            refine HC.out.mono ?_
            rintro e W4 ⟨u, rfl, hy, hn⟩
            have HY := Lib.hid hy
            have HN := Lib.hid hn
            clear hy hn
            cases u
            · have HZ := Lib.hid (HN.out rfl)
              go_wp2_with fail
              go_ret
              exact HZ.out
            · have HZ := Lib.hid (HY.out rfl)
              go_wp2_with fail
              go_roundw
              case rel => exact ⟨j + 1, by go_num, by omega, HZ⟩
              case measure => simp [intOf]; omega
        · have hcb : ((proc : Int) == m.claim) = false := by rw [beq_eq_false_iff_ne]; exact hcl
          have HC := Lib.hid (HV2.out.call2 (F := 30) (args := #[.pointer (some ⟨p, 0, none⟩), .int .i64 proc, .pointer (some ⟨g, a, none⟩)]) (g := fun seen => usedByL m proc seen t.s) (fun seen => by unfold wayL; rw [HU.out, decide_eq_false hcl]; simp) (fun seen left hj => usedByC proc W2 hj HEX.out hproc HS2.out hg HOK.out.1 HOK.out.2.1 HOK.out.2.2))
          clear hcl
          go_wp2_with fail
          clear d5
          refine HC.out.mono ?_
          rintro e W4 ⟨u, rfl, hy, hn⟩
          have HY := Lib.hid hy
          have HN := Lib.hid hn
          clear hy hn
          cases u
          · have HZ := Lib.hid (HN.out rfl)
            go_wp2_with fail
            go_ret
            exact HZ.out
          · have HZ := Lib.hid (HY.out rfl)
            go_wp2_with fail
            go_roundw
            case rel => exact ⟨j + 1, by go_num, by omega, HZ⟩
            case measure => simp [intOf]; omega
    · have hlti : ¬ (j : Int) < l.length := by omega
      have HZ : Hid (FJ (wayL m proc) B p sb h m r w [] wr) := Lib.hid (by have := HJ.out; rw [List.drop_of_length_le (by omega)] at this; exact this)
      have HZ2 := Lib.hid HZ.out.done
      go_wp2_with fail
      go_ret
      exact HZ2.out
end Go.Proofs.Ytflfjbmbholloaa
