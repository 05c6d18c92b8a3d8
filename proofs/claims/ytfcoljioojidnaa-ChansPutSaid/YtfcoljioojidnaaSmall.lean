/- The document's Less; Numbers; a row cloned. -/
import Derived.Test.YtfcoljioojidnaaFit
import Derived.Lib.SliceRun
namespace Go.Proofs.Ytfcoljioojidnaa
open Go.ChangeShapes Go.WideShapes Go.ChangeAt Go.RowKit
set_option linter.unusedVariables false
set_option linter.unusedSimpArgs false

theorem drewN_add (w : World) (m n : Nat) : w.drewN (m + n) = (w.drewN m).drewN n := by
  simp [World.drewN, Nat.add_assoc]

set_option maxHeartbeats 1000000 in
set_option maxRecDepth 100000 in
theorem less13 (s t : SL) (a b : List Int) (w : World) (h1 : MsgAt w s a) (h2 : MsgAt w t b) (hl : a.length ≤ 9223372036854775806) (hl2 : b.length ≤ 9223372036854775806) :
    Calls Try.prog 13 #[slV s, slV t] w fun e w' => e = .returned (.bool (lessB a b)) ∧ ∃ n, w' = w.drewN n := by
  obtain ⟨so, sn, sc⟩ := s
  obtain ⟨t0, tn, tc⟩ := t
  obtain ⟨rfl, hA⟩ := h1
  obtain ⟨rfl, hB⟩ := h2
  have HA := Lib.hid hA
  have HB := Lib.hid hB
  clear hA hB
  unfold slV
  simp only
  obtain ⟨r, hr⟩ : ∃ r, lessB a b = r := ⟨_, rfl⟩
  rw [hr]
  have HR := Lib.hid hr
  clear hr
  go_enter Try.func13, Try.ntmps13
  go_wp2_with fail
  go_loopw [5] (fun iv wr => ∃ (i : Nat), iv = .int .i64 i ∧ i ≤ a.length ∧ i ≤ b.length ∧ Hid (∀ j (h1 : j < a.length) (h2 : j < b.length), j < i → a[j] = b[j]) ∧ Hid (∃ n, wr = w.drewN n)) (fun i _ => a.length - (intOf i).toNat)
  case atStart => exact ⟨0, rfl, by omega, by omega, Lib.hid fun j _ _ h => by omega, Lib.hid ⟨0, rfl⟩⟩
  case round =>
    obtain ⟨i, rfl, hia, hib, HS, HW⟩ := hrel
    have HL := Lib.hid (less_same a b i hia hib HS.out)
    have hi0 : (0 : Int) ≤ i := by omega
    by_cases hlt : i < a.length
    · have hlti : (i : Int) < a.length := by omega
      obtain ⟨g1, f1, rfl, hI1⟩ : ∃ g off, so = some ⟨g, off, none⟩ ∧ Ints w g off a := by
        rcases HA.out with h | h
        · omega
        · exact h
      obtain ⟨m, hm⟩ := HW.out
      have a0 : wr.cell? ⟨g1, f1 + i, none⟩ = some (.int .i64 a[i]) := by rw [hm]; exact hI1.2 i hlt
      obtain ⟨x, hx⟩ : ∃ x, a[i] = x := ⟨_, rfl⟩
      rw [hx] at a0
      by_cases hlb : i < b.length
      · have hlbi : (i : Int) < b.length := by omega
        obtain ⟨g2, f2, rfl, hI2⟩ : ∃ g off, t0 = some ⟨g, off, none⟩ ∧ Ints w g off b := by
          rcases HB.out with h | h
          · omega
          · exact h
        have b0 : wr.cell? ⟨g2, f2 + i, none⟩ = some (.int .i64 b[i]) := by rw [hm]; exact hI2.2 i hlb
        obtain ⟨y, hy⟩ : ∃ y, b[i] = y := ⟨_, rfl⟩
        rw [hy] at b0
        have HAT := Lib.hid (less_at hlt hlb)
        rw [hx, hy] at HAT
        have HX := Lib.hid (And.intro hx hy)
        clear hx hy hI1 hI2 hm
        by_cases he : x = y
        · have heb : (x != y) = false := by simp [he]
          have HE := Lib.hid he
          clear he
          go_wp2_with fail
          go_quiet (fail)
          have HW2 : Hid (∃ n, wr.drewN nq = w.drewN n) := Lib.hid (by obtain ⟨m, hm⟩ := HW.out; exact ⟨m + nq, by rw [hm, ← drewN_add]⟩)
          clear a0 b0
          simp only [Exit.then]
          go_wp2_with fail
          go_roundw
          case rel => exact ⟨i + 1, by go_num, by omega, by omega, Lib.hid fun j hj1 hj2 hji => by
            by_cases e : j = i
            · subst e
              rw [HX.out.1, HX.out.2, HE.out]
            · exact HS.out j hj1 hj2 (by omega), HW2⟩
          case measure => simp [intOf]; omega
        · have heb : (x != y) = true := by simp [he]
          have HR2 : Hid (r = decide (x < y)) := Lib.hid (by rw [← HR.out, HL.out, HAT.out, if_neg he])
          clear he
          go_wp2_with fail
          go_quiet (fail)
          simp only [Exit.then]
          go_wp2_with fail
          go_quiet (fail)
          simp only [Exit.then]
          go_wp2_with fail
          go_ret
          refine ⟨by rw [HR2.out]; rfl, ?_⟩
          obtain ⟨m, hm⟩ := HW.out
          exact ⟨_, by rw [hm, ← drewN_add, ← drewN_add]⟩
      · have hlbi : ¬ (i : Int) < b.length := by omega
        have HR2 : Hid (r = false) := Lib.hid (by rw [← HR.out, HL.out, List.drop_eq_getElem_cons hlt, show b.drop i = [] from List.drop_eq_nil_of_le (by omega)]; rfl)
        have hnl : ¬ a.length < b.length := by omega
        clear hI1 hm hx
        go_wp2_with fail
        go_ret
        exact ⟨by rw [HR2.out]; rfl, HW.out⟩
    · have hlti : ¬ (i : Int) < a.length := by omega
      have HR2 : Hid (r = decide (a.length < b.length)) := Lib.hid (by rw [← HR.out, HL.out, show a.drop i = [] from List.drop_eq_nil_of_le (by omega), less_end, List.length_drop]; congr 1; apply propext; omega)
      go_wp2_with fail
      go_ret
      exact ⟨by rw [HR2.out]; rfl, HW.out⟩

set_option maxHeartbeats 1000000 in
set_option maxRecDepth 100000 in
theorem numbers15 (s t : SL) (a b : List Int) (w : World) (h1 : MsgAt w s a) (h2 : MsgAt w t b) (hl : a.length ≤ 9223372036854775806) (hl2 : b.length ≤ 9223372036854775806) :
    Calls Try.prog 15 #[slV s, slV t] w fun e w' => e = .returned (.bool (decide (a = b))) ∧ ∃ n, w' = w.drewN n := by
  obtain ⟨so, sn, sc⟩ := s
  obtain ⟨t0, tn, tc⟩ := t
  obtain ⟨rfl, hA⟩ := h1
  obtain ⟨rfl, hB⟩ := h2
  have HA := Lib.hid hA
  have HB := Lib.hid hB
  clear hA hB
  unfold slV
  simp only
  obtain ⟨r, hr⟩ : ∃ r, decide (a = b) = r := ⟨_, rfl⟩
  rw [hr]
  have HR := Lib.hid hr
  clear hr
  by_cases hlen : a.length = b.length
  · have HLEN := Lib.hid hlen
    have hln : ((a.length : Int) != (b.length : Int)) = false := by simp [hlen]
    clear hlen
    go_enter Try.func15, Try.ntmps15
    go_wp2_with fail
    go_loopw [5] (fun iv wr => ∃ (i : Nat), iv = .int .i64 i ∧ i ≤ a.length ∧ Hid (∀ j (h1 : j < a.length) (h2 : j < b.length), j < i → a[j] = b[j]) ∧ Hid (∃ n, wr = w.drewN n)) (fun i _ => a.length - (intOf i).toNat)
    case atStart => exact ⟨0, rfl, by omega, Lib.hid fun j _ _ h => by omega, Lib.hid ⟨0, rfl⟩⟩
    case round =>
      obtain ⟨i, rfl, hia, HS, HW⟩ := hrel
      have hi0 : (0 : Int) ≤ i := by omega
      by_cases hlt : i < a.length
      · have hlti : (i : Int) < a.length := by omega
        have hlb : i < b.length := by have := HLEN.out; omega
        have hlbi : (i : Int) < b.length := by omega
        obtain ⟨g1, f1, rfl, hI1⟩ : ∃ g off, so = some ⟨g, off, none⟩ ∧ Ints w g off a := by
          rcases HA.out with h | h
          · omega
          · exact h
        obtain ⟨m, hm⟩ := HW.out
        have a0 : wr.cell? ⟨g1, f1 + i, none⟩ = some (.int .i64 a[i]) := by rw [hm]; exact hI1.2 i hlt
        obtain ⟨x, hx⟩ : ∃ x, a[i] = x := ⟨_, rfl⟩
        rw [hx] at a0
        obtain ⟨g2, f2, rfl, hI2⟩ : ∃ g off, t0 = some ⟨g, off, none⟩ ∧ Ints w g off b := by
          rcases HB.out with h | h
          · omega
          · exact h
        have b0 : wr.cell? ⟨g2, f2 + i, none⟩ = some (.int .i64 b[i]) := by rw [hm]; exact hI2.2 i hlb
        obtain ⟨y, hy⟩ : ∃ y, b[i] = y := ⟨_, rfl⟩
        rw [hy] at b0
        have HX := Lib.hid (And.intro hx hy)
        have HW2 : Hid (∀ q, ∃ n, wr.drewN q = w.drewN n) := Lib.hid fun q => ⟨m + q, by rw [hm, ← drewN_add]⟩
        clear hx hy hI1 hI2 hm
        by_cases he : x = y
        · have heb : (x != y) = false := by simp [he]
          have HE := Lib.hid he
          clear he
          go_wp2_with fail
          go_quiet (fail)
          have HW3 := Lib.hid (HW2.out nq)
          clear a0 b0
          simp only [Exit.then]
          go_wp2_with fail
          go_roundw
          case rel => exact ⟨i + 1, by go_num, by omega, Lib.hid fun j hj1 hj2 hji => by
            by_cases e : j = i
            · subst e
              rw [HX.out.1, HX.out.2, HE.out]
            · exact HS.out j hj1 hj2 (by omega), HW3⟩
          case measure => simp [intOf]; omega
        · have heb : (x != y) = true := by simp [he]
          have HR2 : Hid (r = false) := Lib.hid (by
            rw [← HR.out, decide_eq_false_iff_not]
            intro e
            subst e
            exact he (HX.out.1.symm.trans HX.out.2))
          clear he
          go_wp2_with fail
          go_quiet (fail)
          simp only [Exit.then]
          go_wp2_with fail
          go_ret
          exact ⟨by rw [HR2.out]; rfl, HW2.out _⟩
      · have hlti : ¬ (i : Int) < a.length := by omega
        have HR2 : Hid (r = true) := Lib.hid (by
          rw [← HR.out, decide_eq_true_iff]
          exact List.ext_getElem HLEN.out fun j hj1 hj2 => HS.out j hj1 hj2 (by omega))
        go_wp2_with fail
        go_ret
        exact ⟨by rw [HR2.out]; rfl, HW.out⟩
  · have hln : ((a.length : Int) != (b.length : Int)) = true := by rw [bne_iff_ne]; omega
    have HR2 : Hid (r = false) := Lib.hid (by
      rw [← HR.out, decide_eq_false_iff_not]
      intro e
      exact hlen (by rw [e]))
    clear hlen
    go_enter Try.func15, Try.ntmps15
    go_wp2_with fail
    go_ret
    exact ⟨by rw [HR2.out]; rfl, 0, rfl⟩
end Go.Proofs.Ytfcoljioojidnaa
