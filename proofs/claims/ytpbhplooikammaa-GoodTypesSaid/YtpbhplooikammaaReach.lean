/- Reach, the program's and the document's. -/
import Derived.Test.YtpbhplooikammaaFit
namespace Go.Proofs.Ytpbhplooikammaa
open Go.ChangeShapes Go.WideShapes Go.ChangeAt Go.RowKit

theorem retI {k : IntKind} {a b : Int} (h : a = b) : Ending.returned (.int k a) = .returned (.int k b) := by rw [h]
/-- The number at a place. -/
def rd (w : World) (o : Option Addr) (j : Nat) : Int := intOf ((w.cell? ⟨(o.getD ⟨0, 0, none⟩).block, (o.getD ⟨0, 0, none⟩).off + j, none⟩).getD undef)
/-- n dimensions in memory. -/
def IsDims (w : World) (o : Option Addr) (n : Nat) : Prop := ∀ i, i < n → ∃ g off, o = some ⟨g, off, none⟩ ∧ g < w.heap.size ∧
  w.cell? ⟨g, off + i * 3, none⟩ = some (.int .i64 (rd w o (i * 3))) ∧ w.cell? ⟨g, off + i * 3 + 1, none⟩ = some (.int .i64 (rd w o (i * 3 + 1))) ∧ w.cell? ⟨g, off + i * 3 + 2, none⟩ = some (.int .i64 (rd w o (i * 3 + 2))) ∧ rd w o (i * 3 + 1) ≤ 9223372036854775807
/-- What is left of a reach, from dimension k on, n of them. -/
def reachR (f : Nat → Int) : Nat → Nat → Int → Int
  | 0, _, a => a
  | n + 1, k, a => if f (k * 3 + 1) < 1 ∨ 1073741825 < f (k * 3 + 1) ∨ f (k * 3 + 2) < 0 ∨ 1073741824 < f (k * 3 + 2) then 0 else reachR f n (k + 1) (a + (f (k * 3 + 1) - 1) * f (k * 3 + 2))
def reachV (w : World) (sl : Int) (o : Option Addr) (n : Nat) : Int := if 4 < n ∨ sl < 0 ∨ 1073741824 < sl then 0 else reachR (rd w o) n 0 (sl + 1)

theorem mul_small (a b : Int) (h1 : 0 ≤ a) (h2 : a ≤ 1073741824) (h3 : 0 ≤ b) (h4 : b ≤ 1073741824) : 0 ≤ a * b ∧ a * b ≤ 1152921504606846976 :=
  ⟨Int.mul_nonneg h1 h3, Int.le_trans (Int.mul_le_mul h2 h4 h3 (by decide)) (by decide)⟩

set_option maxRecDepth 100000 in
theorem reach9 (sc sl wh ty : Int) (o : Option Addr) (n cap : Nat) (w : World) (hn : n ≤ maxLen) (hin : IsDims w o n) :
    Calls Try.prog 9 #[.agg #[.int .i64 sc, .int .i64 sl, .int .i64 wh, .int .i64 ty, .slice o n cap]] w fun e w' => e = .returned (.int .i64 (reachV w sl o n)) ∧ Below w.heap.size w w' := by
  have HIN := Lib.hid hin
  clear hin
  by_cases hbad : 4 < n ∨ sl < 0 ∨ 1073741824 < sl
  · have hv : reachV w sl o n = 0 := if_pos hbad
    have HV := Lib.hid hv
    clear hv
    go_enter Try.func9, Try.ntmps9
    go_wp2
    all_goals first | (exfalso; omega) | (go_ret; exact ⟨retI HV.out.symm, Below.alloc (Below.refl _ _) (Nat.le_refl _) _⟩)
  · have HV : Hid (reachR (rd w o) n 0 (sl + 1) = reachV w sl o n) := Lib.hid (if_neg hbad).symm
    generalize reachV w sl o n = R at HV
    have h1 : ¬ 4 < n := fun h => hbad (.inl h)
    have h2 : ¬ sl < 0 := fun h => hbad (.inr (.inl h))
    have h3 : ¬ 1073741824 < sl := fun h => hbad (.inr (.inr h))
    clear hbad
    have hs1 : IntKind.i64.wrap (sl + 1) = sl + 1 := IntWalk.i64_in _ (by omega)
    have HB : Hid (Below w.heap.size w (w.alloc (.cells #[.int .i64 sc, .int .i64 sl, .int .i64 wh, .int .i64 ty, .slice o n cap] 26))) := Lib.hid (Below.alloc (Below.refl _ _) (Nat.le_refl _) _)
    go_enter Try.func9, Try.ntmps9
    go_wp2
    go_loopw [3, 26] (fun a i wr => ∃ (k : Nat) (x : Int), i = .int .i64 k ∧ k ≤ n ∧ a = .int .i64 x ∧ 0 ≤ x ∧ x ≤ 1073741825 + k * 1152921504606846976 ∧ reachR (rd w o) (n - k) k x = R ∧ Hid (Below w.heap.size w wr)) (fun _ i _ => n - (intOf i).toNat)
    case atStart => exact ⟨0, sl + 1, rfl, by omega, rfl, by omega, by omega, HV.out, HB⟩
    case round =>
      clear HV HB
      obtain ⟨k, x, rfl, hk, rfl, hx0, hx1, hr, HBR⟩ := hrel
      have HR := Lib.hid hr
      clear hr
      by_cases hlt : k < n
      · obtain ⟨g, off, rfl, hg, e0, e1, e2, hmax⟩ := HIN.out k hlt
        have c0 := (HBR.out.cell (p := ⟨g, off + k * 3, none⟩) hg).trans e0
        have c1 := (HBR.out.cell (p := ⟨g, off + k * 3 + 1, none⟩) hg).trans e1
        have c2 := (HBR.out.cell (p := ⟨g, off + k * 3 + 2, none⟩) hg).trans e2
        clear e0 e1 e2
        have hsz := HBR.out.size
        have HR2 : Hid (reachR (rd w (some ⟨g, off, none⟩)) (n - k) k x = if rd w (some ⟨g, off, none⟩) (k * 3 + 1) < 1 ∨ 1073741825 < rd w (some ⟨g, off, none⟩) (k * 3 + 1) ∨ rd w (some ⟨g, off, none⟩) (k * 3 + 2) < 0 ∨ 1073741824 < rd w (some ⟨g, off, none⟩) (k * 3 + 2) then 0 else reachR (rd w (some ⟨g, off, none⟩)) (n - (k + 1)) (k + 1) (x + (rd w (some ⟨g, off, none⟩) (k * 3 + 1) - 1) * rd w (some ⟨g, off, none⟩) (k * 3 + 2))) := Lib.hid (by
          obtain ⟨m, hm⟩ : ∃ m, n - k = m + 1 := ⟨n - k - 1, by omega⟩
          have hm2 : n - (k + 1) = m := by omega
          rw [hm, hm2]; rfl)
        generalize hL : rd w (some ⟨g, off, none⟩) (k * 3 + 1) = L at *
        generalize hS : rd w (some ⟨g, off, none⟩) (k * 3 + 2) = S at *
        generalize hI : rd w (some ⟨g, off, none⟩) (k * 3) = I at *
        clear hL hS hI
        by_cases hb : L < 1 ∨ 1073741825 < L ∨ S < 0 ∨ 1073741824 < S
        · have HZ : Hid (R = 0) := Lib.hid (by rw [← HR.out, HR2.out, if_pos hb])
          clear HR HR2
          go_wp2
          all_goals first | (exfalso; omega) | (go_ret; exact ⟨retI HZ.out.symm, HBR.out.alloc hsz _⟩)
        · have hm := mul_small (L - 1) S (by omega) (by omega) (by omega) (by omega)
          have HN : Hid (reachR (rd w (some ⟨g, off, none⟩)) (n - (k + 1)) (k + 1) (x + (L - 1) * S) = R) := Lib.hid (by rw [← HR.out, HR2.out, if_neg hb])
          have i1 : ¬ L < 1 := fun h => hb (.inl h)
          have i2 : ¬ 1073741825 < L := fun h => hb (.inr (.inl h))
          have i3 : ¬ S < 0 := fun h => hb (.inr (.inr (.inl h)))
          have i4 : ¬ 1073741824 < S := fun h => hb (.inr (.inr (.inr h)))
          have j1 : IntKind.i64.wrap (L - 1) = L - 1 := IntWalk.i64_in _ (by omega)
          have j2 : IntKind.i64.wrap ((L - 1) * S) = (L - 1) * S := IntWalk.i64_in _ (by omega)
          have j3 : IntKind.i64.wrap (x + (L - 1) * S) = x + (L - 1) * S := IntWalk.i64_in _ (by omega)
          have HM := Lib.hid hm
          clear hm hb HR HR2
          go_wp2
          go_round
          case rel =>
            have hm := HM.out
            exact ⟨k + 1, x + (L - 1) * S, by go_num, by omega, by go_num, by omega, by go_num, HN.out, Lib.hid (HBR.out.alloc hsz _)⟩
          case measure => simp [intOf]; omega
      · obtain rfl : k = n := by omega
        have HX : Hid (x = R) := Lib.hid (by have h := HR.out; rw [Nat.sub_self] at h; exact h)
        go_wp2
        go_ret
        exact ⟨retI HX.out, HBR.out⟩
set_option maxRecDepth 100000 in
theorem reach10 (sc sl wh ty : Int) (o : Option Addr) (n cap : Nat) (w : World) (hn : n ≤ maxLen) (hin : IsDims w o n) :
    Calls Try.prog 10 #[.agg #[.int .i64 sc, .int .i64 sl, .int .i64 wh, .int .i64 ty, .slice o n cap]] w fun e w' => e = .returned (.int .i64 (reachV w sl o n)) ∧ Below w.heap.size w w' := by
  have HIN := Lib.hid hin
  clear hin
  by_cases hbad : 4 < n ∨ sl < 0 ∨ 1073741824 < sl
  · have hv : reachV w sl o n = 0 := if_pos hbad
    have HV := Lib.hid hv
    clear hv
    go_enter Try.func10, Try.ntmps10
    go_wp2
    all_goals first | (exfalso; omega) | (go_ret; exact ⟨retI HV.out.symm, Below.alloc (Below.refl _ _) (Nat.le_refl _) _⟩)
  · have HV : Hid (reachR (rd w o) n 0 (sl + 1) = reachV w sl o n) := Lib.hid (if_neg hbad).symm
    generalize reachV w sl o n = R at HV
    have h1 : ¬ 4 < n := fun h => hbad (.inl h)
    have h2 : ¬ sl < 0 := fun h => hbad (.inr (.inl h))
    have h3 : ¬ 1073741824 < sl := fun h => hbad (.inr (.inr h))
    clear hbad
    have hs1 : IntKind.i64.wrap (sl + 1) = sl + 1 := IntWalk.i64_in _ (by omega)
    have HB : Hid (Below w.heap.size w (w.alloc (.cells #[.int .i64 sc, .int .i64 sl, .int .i64 wh, .int .i64 ty, .slice o n cap] 26))) := Lib.hid (Below.alloc (Below.refl _ _) (Nat.le_refl _) _)
    go_enter Try.func10, Try.ntmps10
    go_wp2
    go_loopw [3, 4] (fun a i wr => ∃ (k : Nat) (x : Int), i = .int .i64 k ∧ k ≤ n ∧ a = .int .i64 x ∧ 0 ≤ x ∧ x ≤ 1073741825 + k * 1152921504606846976 ∧ reachR (rd w o) (n - k) k x = R ∧ Hid (Below (w.heap.size + 1) (w.alloc (.cells #[.int .i64 sc, .int .i64 sl, .int .i64 wh, .int .i64 ty, .slice o n cap] 26)) wr)) (fun _ i _ => n - (intOf i).toNat)
    case atStart => exact ⟨0, sl + 1, rfl, by omega, rfl, by omega, by omega, HV.out, Lib.hid (Below.refl _ _)⟩
    case round =>
      clear HV
      obtain ⟨k, x, rfl, hk, rfl, hx0, hx1, hr, HQ⟩ := hrel
      have HBR : Hid (Below w.heap.size w wr) := Lib.hid (HB.out.trans (HQ.out.mono (Nat.le_succ _)))
      have c4 : wr.cell? ⟨w.heap.size, 4, none⟩ = some (.slice o n cap) := by
        rw [HQ.out.cell (by simp), cell_of_row _ _ _ _ _ _ (heap_alloc_new w _)]; rfl
      have HR := Lib.hid hr
      clear hr
      by_cases hlt : k < n
      · obtain ⟨g, off, rfl, hg, e0, e1, e2, hmax⟩ := HIN.out k hlt
        have c0 := (HBR.out.cell (p := ⟨g, off + k * 3, none⟩) hg).trans e0
        have c1 := (HBR.out.cell (p := ⟨g, off + k * 3 + 1, none⟩) hg).trans e1
        have c2 := (HBR.out.cell (p := ⟨g, off + k * 3 + 2, none⟩) hg).trans e2
        clear e0 e1 e2
        have hsz := HBR.out.size
        have hsz2 : w.heap.size + 1 ≤ wr.heap.size := by have := HQ.out.size; simpa using this
        have HR2 : Hid (reachR (rd w (some ⟨g, off, none⟩)) (n - k) k x = if rd w (some ⟨g, off, none⟩) (k * 3 + 1) < 1 ∨ 1073741825 < rd w (some ⟨g, off, none⟩) (k * 3 + 1) ∨ rd w (some ⟨g, off, none⟩) (k * 3 + 2) < 0 ∨ 1073741824 < rd w (some ⟨g, off, none⟩) (k * 3 + 2) then 0 else reachR (rd w (some ⟨g, off, none⟩)) (n - (k + 1)) (k + 1) (x + (rd w (some ⟨g, off, none⟩) (k * 3 + 1) - 1) * rd w (some ⟨g, off, none⟩) (k * 3 + 2))) := Lib.hid (by
          obtain ⟨m, hm⟩ : ∃ m, n - k = m + 1 := ⟨n - k - 1, by omega⟩
          have hm2 : n - (k + 1) = m := by omega
          rw [hm, hm2]; rfl)
        generalize hL : rd w (some ⟨g, off, none⟩) (k * 3 + 1) = L at *
        generalize hS : rd w (some ⟨g, off, none⟩) (k * 3 + 2) = S at *
        generalize hI : rd w (some ⟨g, off, none⟩) (k * 3) = I at *
        clear hL hS hI
        by_cases hb : L < 1 ∨ 1073741825 < L ∨ S < 0 ∨ 1073741824 < S
        · have j0 : 1 ≤ L → IntKind.i64.wrap (L - 1) = L - 1 := fun h => IntWalk.i64_in _ (by omega)
          have HZ : Hid (R = 0) := Lib.hid (by rw [← HR.out, HR2.out, if_pos hb])
          clear HR HR2
          by_cases hL1 : L < 1
          · go_wp2
            go_ret
            exact ⟨retI HZ.out.symm, HBR.out.alloc hsz _⟩
          have j1 := j0 (by omega)
          clear j0
          go_wp2
          all_goals first | (exfalso; omega) | (go_ret; exact ⟨retI HZ.out.symm, HBR.out.alloc hsz _⟩)
        · have hm := mul_small (L - 1) S (by omega) (by omega) (by omega) (by omega)
          have HN : Hid (reachR (rd w (some ⟨g, off, none⟩)) (n - (k + 1)) (k + 1) (x + (L - 1) * S) = R) := Lib.hid (by rw [← HR.out, HR2.out, if_neg hb])
          have i1 : ¬ L < 1 := fun h => hb (.inl h)
          have i2 : ¬ 1073741824 < L - 1 := fun h => hb (.inr (.inl (by omega)))
          have i3 : ¬ S < 0 := fun h => hb (.inr (.inr (.inl h)))
          have i4 : ¬ 1073741824 < S := fun h => hb (.inr (.inr (.inr h)))
          have j1 : IntKind.i64.wrap (L - 1) = L - 1 := IntWalk.i64_in _ (by omega)
          have j2 : IntKind.i64.wrap ((L - 1) * S) = (L - 1) * S := IntWalk.i64_in _ (by omega)
          have j3 : IntKind.i64.wrap (x + (L - 1) * S) = x + (L - 1) * S := IntWalk.i64_in _ (by omega)
          have HM := Lib.hid hm
          clear hm hb HR HR2
          go_wp2
          go_round
          case rel =>
            have hm := HM.out
            exact ⟨k + 1, x + (L - 1) * S, by go_num, by omega, by go_num, by omega, by go_num, HN.out, Lib.hid (HQ.out.alloc hsz2 _)⟩
          case measure => simp [intOf]; omega
      · obtain rfl : k = n := by omega
        have HX : Hid (x = R) := Lib.hid (by have h := HR.out; rw [Nat.sub_self] at h; exact h)
        go_wp2
        go_ret
        exact ⟨retI HX.out, HBR.out⟩
end Go.Proofs.Ytpbhplooikammaa
