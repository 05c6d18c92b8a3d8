/- Contracts of the document's answers to Two and One. -/
import Derived.Test.YtfcdbgaopjghlaaTwo
namespace Go.Proofs.Ytfcdbgaopjghlaa
open Go.ChangeShapes Go.WideShapes Go.ChangeAt Go.RowKit

theorem rint_as (v A : Int) (h : Hid (wrap32 v = A)) (w0 w : World) (hb : Below w0.heap.size w0 w) :
    Calls Try.prog 16 #[.int .i64 v] w fun e w' => e = .returned (.int .i64 A) ∧ Below w0.heap.size w0 w' :=
  (rint_any v w).mono fun _ _ ⟨he, hb'⟩ => ⟨by rw [he, h.out], hb.trans (hb'.mono hb.size)⟩

set_option maxHeartbeats 1000000 in
theorem shift_left (a p : Int) (w0 w : World) (ha : -2147483648 ≤ a ∧ a ≤ 2147483647) (hp : 0 ≤ p ∧ p ≤ 2147483648) (hb : Below w0.heap.size w0 w) :
    Calls Try.prog 22 #[.int .i64 a, .int .i64 p] w fun e w' => e = .returned (.int .i64 (wrap32 (shI a p))) ∧ Below w0.heap.size w0 w' := by
  have HF := Lib.hid (sh_left a p hp.1)
  go_enter Try.func22, Try.ntmps22
  go_wp2
  go_loopw [0, 1] (fun x y wr => ∃ k : Nat, (k : Int) ≤ p ∧ y = .int .i64 (p - k) ∧ x = .int .i64 (wrap32 (a * 2 ^ k)) ∧ Below w0.heap.size w0 wr) (fun _ y _ => (intOf y).toNat)
  case atStart => exact ⟨0, hp.1, by simp, by simp [wrap32_in a ha], hb⟩
  case round =>
    obtain ⟨k, hk, rfl, rfl, hb⟩ := hrel
    have hs := Lib.hid (shl_step a k)
    have hr := wrap32_range (a * 2 ^ k)
    obtain ⟨X, hX⟩ : ∃ X, wrap32 (a * 2 ^ k) = X := ⟨_, rfl⟩
    have HX := Lib.hid hX
    rw [hX] at hr hs
    rw [hX]
    clear hX
    by_cases hc : 0 < p - k ∧ ¬ X = 0
    · obtain ⟨hc, hx⟩ := hc
      have hne : (X != 0) = true := by simp [hx]
      clear hx
      go_wp2_with (go_at_call 16; refine (rint_as _ _ hs _ _ hb).mono ?_; rintro e w' ⟨rfl, hb1⟩)
      go_roundw
      case rel => exact ⟨k + 1, by omega, by go_num, rfl, hb1⟩
      case measure => simp [intOf]; omega
    · have hz : Hid (X = wrap32 (shI a p)) := by
        by_cases hx : X = 0
        · exact Lib.hid (by rw [HF.out, shl_zero a k p.toNat (by rw [HX.out, hx]) (by omega), hx])
        · exact Lib.hid (by rw [HF.out, ← HX.out]; congr 3; omega)
      by_cases h1 : 0 < p - k
      all_goals
        first
          | (have hne : (X != 0) = false := by simp; omega)
          | skip
        clear hc
        go_wp2
        go_loopw [0, 1] (fun x y wx => x = .int .i64 X ∧ y = .int .i64 (p - k) ∧ wx = wr) (fun _ _ _ => 0)
        case atStart => exact ⟨rfl, rfl, rfl⟩
        case round =>
          obtain ⟨rfl, rfl, rfl⟩ := hrel
          have hge : ¬ p - k < 0 := by omega
          go_wp2
          go_ret
          exact ⟨ret_int hz.out, hb⟩

set_option maxHeartbeats 1000000 in
theorem shift_right (a p : Int) (w0 w : World) (ha : -2147483648 ≤ a ∧ a ≤ 2147483647) (hp : -2147483648 ≤ p ∧ p < 0) (hb : Below w0.heap.size w0 w) :
    Calls Try.prog 22 #[.int .i64 a, .int .i64 p] w fun e w' => e = .returned (.int .i64 (wrap32 (shI a p))) ∧ Below w0.heap.size w0 w' := by
  have HF := Lib.hid (sh_right a p hp.2 ha)
  go_enter Try.func22, Try.ntmps22
  go_wp2
  go_loopw [0, 1] (fun x y wx => x = .int .i64 a ∧ y = .int .i64 p ∧ wx = w) (fun _ _ _ => 0)
  case atStart => exact ⟨rfl, rfl, rfl⟩
  case round =>
    obtain ⟨rfl, rfl, rfl⟩ := hrel
    have hng : ¬ 0 < p := by omega
    go_wp2
    go_loopw [0, 1] (fun x y wx => ∃ k : Nat, p + k ≤ 0 ∧ y = .int .i64 (p + k) ∧ x = .int .i64 (a / 2 ^ k) ∧ wx = wr) (fun _ y _ => (- intOf y).toNat)
    case atStart => exact ⟨0, by omega, by simp, by simp, rfl⟩
    case round =>
      obtain ⟨k, hk, rfl, rfl, rfl⟩ := hrel
      have hs := Lib.hid (shr_step a k)
      have hr := shr_range a k ha
      have hst := Lib.hid (shr_stays a k (-p).toNat)
      obtain ⟨X, hX⟩ : ∃ X, a / 2 ^ k = X := ⟨_, rfl⟩
      have HX := Lib.hid hX
      rw [hX] at hr hs hst
      rw [hX]
      clear hX
      have hh := half X
      have hz : (p + k < 0 ∧ ¬ X = 0 ∧ ¬ X = -1) ∨ (¬ (p + k < 0 ∧ ¬ X = 0 ∧ ¬ X = -1) ∧ Hid (X = wrap32 (shI a p))) := by
        by_cases h1 : p + k < 0
        · by_cases h2 : X = 0 ∨ X = -1
          · exact .inr ⟨by omega, Lib.hid (by rw [HF.out, hst.out h2 (by omega)])⟩
          · exact .inl (by omega)
        · exact .inr ⟨by omega, Lib.hid (by rw [HF.out, ← HX.out]; congr 2; omega)⟩
      rcases hz with ⟨h1, h2, h3⟩ | ⟨hno, hz⟩
      · have hne : (X != 0) = true := by simp [h2]
        have hne1 : (X != -1) = true := by simp [h3]
        by_cases hneg : X < 0
        · have hd := Lib.hid (hh.1 hneg)
          clear hh h2 h3
          go_wp2
          go_roundw
          case rel => exact ⟨k + 1, by omega, by go_num, by rw [hs.out, hd.out], trivial⟩
          case measure => simp [intOf]; omega
        · have hd := Lib.hid (hh.2 (by omega))
          clear hh h2 h3
          go_wp2
          go_roundw
          case rel => exact ⟨k + 1, by omega, by go_num, by rw [hs.out], trivial⟩
          case measure => simp [intOf]; omega
      · clear hh
        by_cases h1 : p + k < 0
        · by_cases h2 : X = 0
          · have hne : (X != 0) = false := by simp [h2]
            have H2 := Lib.hid h2
            clear h2 hno
            go_wp2
            go_ret
            exact ⟨ret_int hz.out, hb⟩
          · have h3 : X = -1 := by omega
            have hne : (X != 0) = true := by simp [h2]
            have hne1 : (X != -1) = false := by simp [h3]
            have H3 := Lib.hid h3
            clear h2 h3 hno
            go_wp2
            go_ret
            exact ⟨ret_int hz.out, hb⟩
        · clear hno
          go_wp2
          go_ret
          exact ⟨ret_int hz.out, hb⟩

theorem shift_as (a p : Int) (w0 w : World) (ha : -2147483648 ≤ a ∧ a ≤ 2147483647) (hp : -2147483648 ≤ p ∧ p ≤ 2147483648) (hb : Below w0.heap.size w0 w) :
    Calls Try.prog 22 #[.int .i64 a, .int .i64 p] w fun e w' => e = .returned (.int .i64 (wrap32 (shI a p))) ∧ Below w0.heap.size w0 w' := by
  by_cases h : 0 ≤ p
  · exact shift_left a p w0 w ha ⟨h, hp.2⟩ hb
  · exact shift_right a p w0 w ha ⟨hp.1, by omega⟩ hb
end Go.Proofs.Ytfcdbgaopjghlaa
