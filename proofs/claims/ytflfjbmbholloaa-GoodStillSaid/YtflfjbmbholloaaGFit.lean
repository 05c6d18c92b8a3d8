/- Type, Fits, Reach. -/
import Derived.Test.YtflfjbmbholloaaSpec
namespace Go.Proofs.Ytflfjbmbholloaa
open Go.ChangeShapes Go.WideShapes Go.ChangeAt Go.RowKit

theorem typeC (b : Int) (s : Bool) (w : World) : Calls Try.prog 15 #[.agg #[.int .i64 b, .bool s]] w fun e w' => e = .returned (.bool (tyB b s)) ∧ Below w.heap.size w w' := by
  go_enter Try.func15, Try.ntmps15
  go_wp2
  all_goals (go_ret; refine ⟨retB ?_, Below.alloc (Below.refl _ _) (Nat.le_refl _) _⟩)
  all_goals (unfold tyB; rw [Bool.eq_iff_iff]; simp_all)
  all_goals omega
theorem fitsC (b : Int) (s : Bool) (v : Int) (w : World) : Calls Try.prog 7 #[.agg #[.int .i64 b, .bool s], .int .i64 v] w fun e w' => e = .returned (.bool (fitB b s v)) ∧ Below w.heap.size w w' := by
  have HB := Lib.hid (Below.alloc (Below.refl w.heap.size w) (Nat.le_refl _) (.cells #[.int .i64 b, .bool s] 41))
  have HS : Hid (w.heap.size < (w.alloc (.cells #[.int .i64 b, .bool s] 41)).heap.size) := Lib.hid (by simp)
  have HC := Lib.hid (heap_alloc_new w (.cells #[.int .i64 b, .bool s] 41))
  go_enter Try.func7, Try.ntmps7
  go_wp2_with fail
  refine (typeC b s _).mono ?_
  rintro e w1 ⟨rfl, hb⟩
  have HB1 := Lib.hid (HB.out.trans (hb.mono (Nat.le_of_lt HS.out)))
  have c0 : w1.cell? ⟨w.heap.size, 0, none⟩ = some (.int .i64 b) := by
    rw [hb.cell HS.out, cell_of_row _ _ _ _ _ _ HC.out]; rfl
  have c1 : w1.cell? ⟨w.heap.size, 1, none⟩ = some (.bool s) := by
    rw [hb.cell HS.out, cell_of_row _ _ _ _ _ _ HC.out]; rfl
  clear hb HB HS HC
  cases hty : tyB b s
  · have hf : fitB b s v = false := by unfold fitB; rw [hty]; rfl
    go_wp2
    go_ret
    exact ⟨retB hf.symm, HB1.out⟩
  · have h1 : 1 ≤ b ∧ b ≤ 32 ∧ (s = true → b = 16 ∨ b = 32) := by
      unfold tyB at hty; simp at hty; cases s <;> simp_all
    obtain ⟨h1, h2, h3⟩ := h1
    cases s
    · have hf : fitB b false v = (decide (0 ≤ v) && decide (v < 2 ^ b.toNat)) := by unfold fitB; rw [hty]; rfl
      have hp : (2 : Int) ^ b.toNat ≤ 2 ^ 32 := by
        have := Nat.pow_le_pow_right (n := 2) (by decide) (show b.toNat ≤ 32 by omega)
        exact_mod_cast this
      have hq : (0 : Int) < 2 ^ b.toNat := Int.pow_pos (by decide)
      have HWR : Hid (wrap64 (2 ^ b.toNat) = 2 ^ b.toNat) := Lib.hid (IntWalk.wrap64_in _ (by omega))
      have HF := Lib.hid hf
      clear hf hp hq
      go_wp2
      all_goals (go_ret; refine ⟨retB (Eq.trans ?_ HF.out.symm), HB1.out⟩)
      all_goals (have hwr := HWR.out; rw [Bool.eq_iff_iff]; simp_all)
      all_goals omega
    · rcases h3 rfl with rfl | rfl
      · have hf : fitB 16 true v = (decide (-32768 ≤ v) && decide (v < 32768)) := by unfold fitB; rw [hty]; rfl
        skip
        go_wp2
        all_goals (go_ret; refine ⟨retB (Eq.trans ?_ hf.symm), HB1.out⟩)
        all_goals (rw [Bool.eq_iff_iff]; simp_all)
        all_goals omega
      · have hf : fitB 32 true v = (decide (-2147483648 ≤ v) && decide (v < 2147483648)) := by unfold fitB; rw [hty]; rfl
        skip
        go_wp2
        all_goals (go_ret; refine ⟨retB (Eq.trans ?_ hf.symm), HB1.out⟩)
        all_goals (rw [Bool.eq_iff_iff]; simp_all)
        all_goals omega

theorem mul_small (a b : Int) (h1 : 0 ≤ a) (h2 : a ≤ 1073741824) (h3 : 0 ≤ b) (h4 : b ≤ 1073741824) : 0 ≤ a * b ∧ a * b ≤ 1152921504606846976 :=
  ⟨Int.mul_nonneg h1 h3, Int.le_trans (Int.mul_le_mul h2 h4 h3 (by decide)) (by decide)⟩
set_option maxRecDepth 100000 in
theorem reachC (v : VarD) (o : Option Addr) (cap B : Nat) (w : World) (hin : Row B o 3 (dimAt w) v.dims) (hB : B ≤ w.heap.size) :
    Calls Try.prog 8 #[.agg #[.int .i64 v.scope, .int .i64 v.slot, .int .i64 v.who, .int .i64 v.type, .slice o v.dims.length cap]] w fun e w' => e = .returned (.int .i64 (reachL v)) ∧ Below w.heap.size w w' := by
  have HIN := Lib.hid hin
  have hn : v.dims.length ≤ 140737488355328 := hin.1
  have HBB := Lib.hid hB
  clear hin hB
  obtain ⟨sc, sl, wh, ty, dims⟩ := v
  simp only at HIN hn ⊢
  by_cases hbad : 4 < dims.length ∨ sl < 0 ∨ 1073741824 < sl
  · have hv : reachL ⟨sc, sl, wh, ty, dims⟩ = 0 := if_pos hbad
    have HV := Lib.hid hv
    clear hv
    go_enter Try.func8, Try.ntmps8
    go_wp2
    all_goals first | (exfalso; omega) | (go_ret; exact ⟨retI HV.out.symm, Below.alloc (Below.refl _ _) (Nat.le_refl _) _⟩)
  · have HV : Hid (reachR dims (sl + 1) = reachL ⟨sc, sl, wh, ty, dims⟩) := Lib.hid (if_neg hbad).symm
    generalize reachL ⟨sc, sl, wh, ty, dims⟩ = R at HV
    have h1 : ¬ 4 < dims.length := fun h => hbad (.inl h)
    have h2 : ¬ sl < 0 := fun h => hbad (.inr (.inl h))
    have h3 : ¬ 1073741824 < sl := fun h => hbad (.inr (.inr h))
    clear hbad
    have hs1 : IntKind.i64.wrap (sl + 1) = sl + 1 := IntWalk.i64_in _ (by omega)
    have HB : Hid (Below w.heap.size w (w.alloc (.cells #[.int .i64 sc, .int .i64 sl, .int .i64 wh, .int .i64 ty, .slice o dims.length cap] 47))) := Lib.hid (Below.alloc (Below.refl _ _) (Nat.le_refl _) _)
    go_enter Try.func8, Try.ntmps8
    go_wp2
    go_loopw [3, 26] (fun a i wr => ∃ (k : Nat) (x : Int), i = .int .i64 k ∧ k ≤ dims.length ∧ a = .int .i64 x ∧ 0 ≤ x ∧ x ≤ 1073741825 + k * 1152921504606846976 ∧ Hid (reachR (dims.drop k) x = R) ∧ Hid (Below w.heap.size w wr)) (fun _ i _ => dims.length - (intOf i).toNat)
    case atStart => exact ⟨0, sl + 1, rfl, by omega, rfl, by omega, by omega, HV, HB⟩
    case round =>
      clear HV HB
      obtain ⟨k, x, rfl, hk, rfl, hx0, hx1, HR, HBR⟩ := hrel
      by_cases hlt : k < dims.length
      · obtain ⟨g, off, rfl, hg, e0, e1, e2⟩ := HIN.out.cell hlt
        have HDR : Hid (dims.drop k = dims[k] :: dims.drop (k + 1)) := Lib.hid (List.drop_eq_getElem_cons hlt)
        obtain ⟨⟨I, L, S⟩, hd⟩ : ∃ d, dims[k] = d := ⟨_, rfl⟩
        rw [hd] at e0 e1 e2 HDR
        simp only at e0 e1 e2
        have hgw : g < w.heap.size := Nat.lt_of_lt_of_le hg HBB.out
        have c0 := (HBR.out.cell (p := ⟨g, off + k * 3, none⟩) hgw).trans e0
        have c1 := (HBR.out.cell (p := ⟨g, off + k * 3 + 1, none⟩) hgw).trans e1
        have c2 := (HBR.out.cell (p := ⟨g, off + k * 3 + 2, none⟩) hgw).trans e2
        clear e0 e1 e2 hd
        have hsz := HBR.out.size
        by_cases hb : L < 1 ∨ 1073741825 < L ∨ S < 0 ∨ 1073741824 < S
        · have HZ : Hid (R = 0) := Lib.hid (by rw [← HR.out, HDR.out]; exact if_pos hb)
          clear HR HDR
          go_wp2
          all_goals first | (exfalso; omega) | (go_ret; exact ⟨retI HZ.out.symm, HBR.out.alloc hsz _⟩)
        · have hm := mul_small (L - 1) S (by omega) (by omega) (by omega) (by omega)
          have HN : Hid (reachR (dims.drop (k + 1)) (x + (L - 1) * S) = R) := Lib.hid (by rw [← HR.out, HDR.out]; exact (if_neg hb).symm)
          have i1 : ¬ L < 1 := fun h => hb (.inl h)
          have i2 : ¬ 1073741825 < L := fun h => hb (.inr (.inl h))
          have i3 : ¬ S < 0 := fun h => hb (.inr (.inr (.inl h)))
          have i4 : ¬ 1073741824 < S := fun h => hb (.inr (.inr (.inr h)))
          have j1 : IntKind.i64.wrap (L - 1) = L - 1 := IntWalk.i64_in _ (by omega)
          have j2 : IntKind.i64.wrap ((L - 1) * S) = (L - 1) * S := IntWalk.i64_in _ (by omega)
          have j3 : IntKind.i64.wrap (x + (L - 1) * S) = x + (L - 1) * S := IntWalk.i64_in _ (by omega)
          have HM := Lib.hid hm
          clear hm hb HR HDR
          go_wp2
          go_round
          case rel =>
            have hm := HM.out
            exact ⟨k + 1, x + (L - 1) * S, by go_num, by omega, by go_num, by omega, by go_num, HN, Lib.hid (HBR.out.alloc hsz _)⟩
          case measure => simp [intOf]; omega
      · obtain rfl : k = dims.length := by omega
        have HX : Hid (x = R) := Lib.hid (by have h := HR.out; rw [List.drop_length] at h; exact h)
        go_wp2
        go_ret
        exact ⟨retI HX.out, HBR.out⟩
end Go.Proofs.Ytflfjbmbholloaa
