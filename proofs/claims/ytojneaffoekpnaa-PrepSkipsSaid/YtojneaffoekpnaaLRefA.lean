/- Contracts of the document's char and quoted. -/
import Derived.Test.YtojneaffoekpnaaLBlankD
namespace Go.Proofs.Ytojneaffoekpnaa.lx
set_option linter.unusedVariables false
set_option linter.unusedSimpArgs false
open Go.ChangeShapes Go.WideShapes Go.ChangeAt Go.RowKit

def charV (x : Option (Nat × Nat)) : Value := match x with
  | none => .tuple #[.int .i64 0, .int .i64 0]
  | some (v, n) => .tuple #[.int .i64 v, .int .i64 n]
def byteAt (u : ByteArray) (k : Nat) : Option (Nat × Nat) :=
  if u.size < k + 3 then none else if byt u (k + 1) = 39 ∨ byt u (k + 1) = 10 then none else
  if byt u (k + 1) = 92 then (if u.size < k + 4 then none else if byt u (k + 3) = 39 then (esc (byt u (k + 2))).map (fun v => (v, 4)) else none)
  else if byt u (k + 2) = 39 then some (byt u (k + 1), 3) else none
def quotV (x : Option Nat) : Value := match x with
  | none => .int .i64 0
  | some n => .int .i64 ((n : Int) + 1)
theorem ret_val {a b : Value} (h : a = b) : Ending.returned a = .returned b := by rw [h]

theorem char_short (u : ByteArray) (k : Nat) (w : World) (hs : u.size ≤ 65535) (hk : k < u.size) (h : u.size < k + 3) :
    Calls Try.prog 38 #[.string u, .int .i64 k] w fun e w' => e = .returned (charV (byteAt u k)) ∧ w' = w := by
  have HN := Lib.hid (show byteAt u k = none by unfold byteAt; rw [if_pos h])
  have g2 : decide ((k : Int) + 2 < (u.size : Int)) = false := by simp; omega
  have g3 : decide ((k : Int) + 3 < (u.size : Int)) = false := by simp; omega
  go_enter Try.func38, Try.ntmps38
  go_wp2
  go_ret2
  exact ⟨by rw [HN.out]; rfl, rfl⟩

set_option maxRecDepth 100000 in
set_option maxHeartbeats 1000000 in
theorem char_three (u : ByteArray) (k : Nat) (w : World) (hs : u.size ≤ 65535) (h : u.size = k + 3) :
    Calls Try.prog 38 #[.string u, .int .i64 k] w fun e w' => e = .returned (charV (byteAt u k)) ∧ w' = w := by
  have g2 : (k : Int) + 2 < (u.size : Int) := by omega
  have g3 : decide ((k : Int) + 3 < (u.size : Int)) = false := by simp; omega
  have k1 : k + 1 < u.size := by omega
  have k2 : k + 2 < u.size := by omega
  have e1 := byt_at u (k + 1) k1
  have e2 := byt_at u (k + 2) k2
  have HB := Lib.hid (show byteAt u k = if byt u (k + 1) = 39 ∨ byt u (k + 1) = 10 ∨ byt u (k + 1) = 92 then none else if byt u (k + 2) = 39 then some (byt u (k + 1), 3) else none by
    unfold byteAt
    rw [if_neg (by omega)]
    by_cases c : byt u (k + 1) = 39 ∨ byt u (k + 1) = 10
    · rw [if_pos c, if_pos (show byt u (k + 1) = 39 ∨ byt u (k + 1) = 10 ∨ byt u (k + 1) = 92 by omega)]
    · rw [if_neg c]
      by_cases c2 : byt u (k + 1) = 92
      · rw [if_pos c2, if_pos (show u.size < k + 4 by omega), if_pos (show byt u (k + 1) = 39 ∨ byt u (k + 1) = 10 ∨ byt u (k + 1) = 92 from .inr (.inr c2))]
      · rw [if_neg c2, if_neg (show ¬ (byt u (k + 1) = 39 ∨ byt u (k + 1) = 10 ∨ byt u (k + 1) = 92) by omega)])
  have b1 := byt_lt u (k + 1)
  generalize byt u (k + 1) = c1 at *
  generalize byt u (k + 2) = c2 at *
  clear h
  go_enter Try.func38, Try.ntmps38
  go_wp2
  all_goals
    go_ret2
    refine ⟨ret_val ?_, rfl⟩
    try simp only [bne_iff_ne, ne_eq, bne_eq_false_iff_eq, beq_iff_eq, beq_eq_false_iff_ne] at *
    rw [HB.out]
    repeat (first | rw [if_pos (by omega)] | rw [if_neg (by omega)])
    first | rfl | (exfalso; omega) | ((repeat' split) <;> first | rfl | (exfalso; omega))

def pick4 (c1 c2 c3 : Nat) : Option (Nat × Nat) :=
  if c1 = 39 then none else if c1 = 10 then none else
  if c1 = 92 then (if c3 = 39 then (if c2 = 110 then some (10, 4) else if c2 = 116 then some (9, 4) else if c2 = 48 then some (0, 4) else if c2 = 92 then some (92, 4) else if c2 = 39 then some (39, 4) else none) else none)
  else if c2 = 39 then some (c1, 3) else none
theorem byteAt_pick (u : ByteArray) (k : Nat) (h : k + 3 < u.size) : byteAt u k = pick4 (byt u (k + 1)) (byt u (k + 2)) (byt u (k + 3)) := by
  unfold byteAt pick4
  rw [if_neg (show ¬ u.size < k + 3 by omega)]
  by_cases c : byt u (k + 1) = 39
  · rw [if_pos (.inl c), if_pos c]
  rw [if_neg c]
  by_cases c' : byt u (k + 1) = 10
  · rw [if_pos (.inr c'), if_pos c']
  rw [if_neg c', if_neg (show ¬ (byt u (k + 1) = 39 ∨ byt u (k + 1) = 10) by omega)]
  by_cases c2 : byt u (k + 1) = 92
  · rw [if_pos c2, if_pos c2, if_neg (show ¬ u.size < k + 4 by omega)]
    by_cases c3 : byt u (k + 3) = 39
    · rw [if_pos c3, if_pos c3]
      unfold esc
      repeat (split; (first | rfl | skip))
      all_goals first | rfl | skip
    · rw [if_neg c3, if_neg c3]
  · rw [if_neg c2, if_neg c2]

set_option maxRecDepth 100000 in
set_option maxHeartbeats 2000000 in
theorem char_four (u : ByteArray) (k : Nat) (w : World) (hs : u.size ≤ 65535) (h : k + 3 < u.size) :
    Calls Try.prog 38 #[.string u, .int .i64 k] w fun e w' => e = .returned (charV (byteAt u k)) ∧ w' = w := by
  have g2 : (k : Int) + 2 < (u.size : Int) := by omega
  have g3 : (k : Int) + 3 < (u.size : Int) := by omega
  have k1 : k + 1 < u.size := by omega
  have k2 : k + 2 < u.size := by omega
  have e1 := byt_at u (k + 1) k1
  have e2 := byt_at u (k + 2) k2
  have e3 := byt_at u (k + 3) h
  have HB := Lib.hid (byteAt_pick u k h)
  have b1 := byt_lt u (k + 1)
  generalize byt u (k + 1) = c1 at *
  generalize byt u (k + 2) = c2 at *
  generalize byt u (k + 3) = c3 at *
  go_enter Try.func38, Try.ntmps38
  go_wp2
  all_goals
    go_ret2
    refine ⟨ret_val ?_, rfl⟩
    try simp only [bne_iff_ne, ne_eq, bne_eq_false_iff_eq, beq_iff_eq, beq_eq_false_iff_ne] at *
    rw [HB.out]
    unfold pick4
    repeat (first | rw [if_pos (by omega)] | rw [if_neg (by omega)])
    first | rfl | (exfalso; omega) | ((repeat' split) <;> first | rfl | (exfalso; omega))

theorem char_any (u : ByteArray) (k : Nat) (w : World) (hs : u.size ≤ 65535) (hk : k < u.size) :
    Calls Try.prog 38 #[.string u, .int .i64 k] w fun e w' => e = .returned (charV (byteAt u k)) ∧ w' = w := by
  by_cases h : u.size < k + 3
  · exact char_short u k w hs hk h
  by_cases h3 : u.size = k + 3
  · exact char_three u k w hs h3
  · exact char_four u k w hs (by omega)

set_option maxRecDepth 100000 in
set_option maxHeartbeats 1000000 in
theorem quoted_any (u : ByteArray) (k : Nat) (w : World) (hs : u.size ≤ 65535) (hk : k < u.size) :
    Calls Try.prog 39 #[.string u, .int .i64 k] w fun e w' => e = .returned (quotV (quotAt u (k + 1))) ∧ w' = w := by
  go_enter Try.func39, Try.ntmps39
  go_wp2
  go_loop [5] (fun n => ∃ i : Nat, n = .int .i64 i ∧ k + 1 ≤ i ∧ i ≤ u.size + 1 ∧ Hid (quotAt u (k + 1) = (quotAt u i).map (· + (i - (k + 1))))) (fun n => u.size + 2 - (intOf n).toNat)
  case atStart => exact ⟨k + 1, by go_num, by omega, by omega, Lib.hid (by cases quotAt u (k + 1) <;> simp)⟩
  case round =>
    obtain ⟨i, rfl, hi0, hi, HA⟩ := hrel
    have fin0 : quotAt u i = none → Hid (quotAt u (k + 1) = none) := fun h => Lib.hid (by rw [HA.out, h]; rfl)
    by_cases hlt : i < u.size
    · have hi2 : (i : Int) < u.size := by omega
      obtain ⟨c, hc⟩ : ∃ c, byt u i = c := ⟨_, rfl⟩
      have e0 := byt_at u i hlt
      rw [hc] at e0
      by_cases c34 : c = 34
      · have HN := Lib.hid (show quotAt u (k + 1) = some (1 + (i - (k + 1))) by rw [HA.out, quotAt_34 u i hlt (by rw [hc, c34])]; rfl)
        subst c34
        clear hc fin0
        go_wp2
        go_ret
        exact ⟨ret_val (by rw [HN.out]; simp [quotV]; omega), rfl⟩
      have m34 : ((c : Int) == 34) = false := by rw [beq_eq_false_iff_ne]; omega
      by_cases c10 : c = 10
      · have HN := fin0 (quotAt_10 u i hlt (by rw [hc, c10]))
        subst c10
        clear hc fin0
        go_wp2
        go_ret
        exact ⟨ret_val (by rw [HN.out]; rfl), rfl⟩
      have m10 : ((c : Int) == 10) = false := by rw [beq_eq_false_iff_ne]; omega
      by_cases c92 : c = 92
      · by_cases hlt2 : i + 1 < u.size
        · have hi3 : (i : Int) + 1 < u.size := by omega
          obtain ⟨d, hd⟩ : ∃ d, byt u (i + 1) = d := ⟨_, rfl⟩
          have e1 := byt_at u (i + 1) hlt2
          rw [hd] at e1
          by_cases d10 : d = 10
          · have HN := fin0 (quotAt_92_10 u i hlt (by rw [hc, c92]) hlt2 (by rw [hd, d10]))
            subst c92 d10
            clear hc hd fin0
            go_wp2
            go_ret
            exact ⟨ret_val (by rw [HN.out]; rfl), rfl⟩
          · have HN := Lib.hid (show quotAt u (k + 1) = (quotAt u (i + 2)).map (· + (i + 2 - (k + 1))) by
              rw [HA.out, quotAt_92 u i hlt (by rw [hc, c92]) hlt2 (by rw [hd]; exact d10)]
              cases quotAt u (i + 2) with
              | none => rfl
              | some q => simp; omega)
            have n10 : ((d : Int) == 10) = false := by rw [beq_eq_false_iff_ne]; omega
            subst c92
            clear hc hd fin0 HA d10
            go_wp2
            go_round
            case rel => exact ⟨i + 2, by go_num, by omega, by omega, HN⟩
            case measure => simp [intOf]; omega
        · have HN := fin0 (quotAt_92_end u i hlt (by rw [hc, c92]) (by omega))
          have hi3 : decide ((i : Int) + 1 < (u.size : Int)) = false := by simp; omega
          have hi4 : decide ((i : Int) + 1 + 1 < (u.size : Int)) = false := by simp; omega
          have HS := Lib.hid (show quotAt u (i + 2) = none from quotAt_end u _ (by omega))
          subst c92
          clear hc fin0
          go_wp2
          go_round
          case rel => exact ⟨i + 2, by go_num, by omega, by omega, Lib.hid (by rw [HN.out, HS.out]; rfl)⟩
          case measure => simp [intOf]; omega
      · have HN := Lib.hid (show quotAt u (k + 1) = (quotAt u (i + 1)).map (· + (i + 1 - (k + 1))) by
          rw [HA.out, quotAt_else u i hlt (by rw [hc]; exact c34) (by rw [hc]; exact c10) (by rw [hc]; exact c92)]
          cases quotAt u (i + 1) with
          | none => rfl
          | some q => simp; omega)
        have m92 : ((c : Int) == 92) = false := by rw [beq_eq_false_iff_ne]; omega
        clear hc fin0 c34 c10 c92
        go_wp2
        go_round
        case rel => exact ⟨i + 1, by go_num, by omega, by omega, HN⟩
        case measure => simp [intOf]; omega
    · have HN := fin0 (quotAt_end u i (by omega))
      have hi2 : ¬ (i : Int) < u.size := by omega
      clear fin0
      go_wp2
      go_ret
      exact ⟨ret_val (by rw [HN.out]; rfl), rfl⟩
end Go.Proofs.Ytojneaffoekpnaa.lx
