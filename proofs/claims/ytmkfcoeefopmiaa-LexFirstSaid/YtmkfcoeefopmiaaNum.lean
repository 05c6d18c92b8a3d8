/- The contract of readNumber. -/
import Derived.Test.YtmkfcoeefopmiaaName
import Derived.WalkLawsBesides
namespace Go.Proofs.Ytmkfcoeefopmiaa
open Go.ChangeShapes Go.WideShapes Go.ChangeAt Go.RowKit

theorem take_snoc (s : ByteArray) (k : Nat) (h : k < s.size) : s.data.toList.take (k + 1) = s.data.toList.take k ++ [s[k]] := by
  rw [List.take_succ_eq_append_getElem (by simpa using h)]; rfl
theorem cap_le (M : Nat) (u : List UInt8) : ∀ v, v ≤ M → cap M u v ≤ M := by
  induction u with
  | nil => intro v h; exact h
  | cons c u ih => intro v _; exact ih _ (by omega)

set_option maxRecDepth 1000000 in
set_option maxHeartbeats 1000000 in
theorem num_any (u : ByteArray) (w : World) (h2 : u.size ≤ 65535) (n : Nat) (hn : Hid (run isD u.data.toList = n)) :
    Calls Try.prog 17 #[.string u] w fun e w' => e = .returned (if cap 2147483648 (u.data.toList.take n) 0 ≤ 2147483647 then .tuple #[Tok 2 0 0 (u.extract 0 n) (cap 2147483648 (u.data.toList.take n) 0 : Nat), .int .i64 n, .int .i64 0] else .tuple #[zeroTok, .int .i64 0, .int .i64 4]) ∧ Below w.heap.size w w' := by
  go_enter Try.func17, Try.ntmps17
  go_wp2
  refine wp_scope_ghost 0 (fun m a' w' => w' = w.alloc (.cells #[.int .i64 0, .int .i64 0, .int .i64 0, .string ⟨#[]⟩, .int .i64 0] 27) ∧ ∃ k : Nat, m = u.size - k ∧ k ≤ u.size ∧ (∀ i, i < k → isD (byt u i) = true) ∧ ∃ x7 x8 x9 x10 x11 x12 x13 x14 x15 x16 x17 x18 x19 x20 x21 x22 x23 x24 x25 x26 x27 x28 x29 x30 x31 x32 x33 x34 x35 x36 : Value, a' = { tmps := #[.string u, undef, .pointer (some ⟨w.heap.size, 0, none⟩), .int .i64 0, .int .i64 0, .int .i64 k, .int .i64 (cap 2147483648 (u.data.toList.take k) 0 : Nat), x7, x8, x9, x10, x11, x12, x13, x14, x15, x16, x17, x18, x19, x20, x21, x22, x23, x24, x25, x26, x27, x28, x29, x30, x31, x32, x33, x34, x35, x36], defers := [] }) rfl ?_ ?_
  · go_wp2
    go_step3
    obtain ⟨k, hk, hkc, hk2, HA⟩ : ∃ k : Nat, 0 = k ∧ 0 = cap 2147483648 (u.data.toList.take k) 0 ∧ k ≤ u.size ∧ Hid (∀ i, i < k → isD (byt u i) = true) := ⟨0, rfl, rfl, Nat.zero_le _, Lib.hid fun i hi => by omega⟩
    rw [show ({ tmps := #[.string u, undef, .pointer (some ⟨w.heap.size, 0, none⟩), .int .i64 0, .int .i64 0, .int .i64 0, .int .i64 0, undef, undef, undef, undef, undef, undef, undef, undef, undef, undef, undef, undef, undef, undef, undef, undef, undef, undef, undef, undef, undef, undef, undef, undef, undef, undef, undef, undef, undef, undef], defers := [] } : Act) = { tmps := #[.string u, undef, .pointer (some ⟨w.heap.size, 0, none⟩), .int .i64 0, .int .i64 0, .int .i64 k, .int .i64 (cap 2147483648 (u.data.toList.take k) 0 : Nat), undef, undef, undef, undef, undef, undef, undef, undef, undef, undef, undef, undef, undef, undef, undef, undef, undef, undef, undef, undef, undef, undef, undef, undef, undef, undef, undef, undef, undef, undef], defers := [] } from by subst hk; rfl]
    clear hk hkc
    have hex : Hid (∀ he : (∀ hk' : k < u.size, isD (byt u k) = false), n = k ∧ cap 2147483648 (u.data.toList.take n) 0 = cap 2147483648 (u.data.toList.take k) 0) := Lib.hid fun he => by
      have hnk : n = k := by
        rw [← hn.out]
        exact run_eq isD u.data.toList k (by simpa using hk2) (fun i hi hik => by rw [byt_get u i hi]; exact HA.out i hik) (fun hk' => by rw [byt_get u k hk']; exact he (by simpa using hk'))
      exact ⟨hnk, by rw [hnk]⟩
    obtain ⟨V, hV⟩ : ∃ V, cap 2147483648 (u.data.toList.take k) 0 = V := ⟨_, rfl⟩
    have hVb : V ≤ 2147483648 := by rw [← hV]; exact cap_le _ _ _ (by decide)
    have hVi : (V : Int) ≤ 2147483648 := by omega
    have hV0 : 0 ≤ (V : Int) := by omega
    rw [hV] at hex ⊢
    have HV := Lib.hid hV
    clear hV hVb
    by_cases hlt : k < u.size
    · obtain ⟨c, hc⟩ : ∃ c, byt u k = c := ⟨_, rfl⟩
      have hcu := byt_at u k hlt
      rw [hc] at hcu hex
      have HC := Lib.hid hc
      clear hc
      by_cases hd : isD c = true
      · have hnx : Hid (∀ i, i < k + 1 → isD (byt u i) = true) := Lib.hid fun i hi => by
          by_cases hik : i < k
          · exact HA.out i hik
          · rw [show i = k by omega, HC.out]; exact hd
        have hc48 : 48 ≤ (c : Int) ∧ (c : Int) ≤ 57 := by unfold isD at hd; simp at hd; omega
        have hstep : Hid ((cap 2147483648 (u.data.toList.take (k + 1)) 0 : Nat) = min (10 * V + (c - 48)) 2147483648) := Lib.hid (by
          rw [take_snoc u k hlt, cap_snoc, HV.out, byt_at u k hlt, HC.out])
        clear hex
        go_wp2_with (first | (go_at_call 16; refine (isD_any _ _).mono ?_; rintro e w' ⟨rfl, rfl⟩))
        all_goals
          go_step3
          first | (rw [show (V : Int) * 10 + ((c : Int) - 48) = ((cap 2147483648 (u.data.toList.take (k + 1)) 0 : Nat) : Int) from by rw [hstep.out]; omega]; exact ⟨rfl, u.size - (k + 1), rfl, k + 1, rfl, by omega, hnx.out, _, _, _, _, _, _, _, _, _, _, _, _, _, _, _, _, _, _, _, _, _, _, _, _, _, _, _, _, _, _, rfl⟩) | (rw [show (2147483648 : Int) = ((cap 2147483648 (u.data.toList.take (k + 1)) 0 : Nat) : Int) from by rw [hstep.out]; omega]; exact ⟨rfl, u.size - (k + 1), rfl, k + 1, rfl, by omega, hnx.out, _, _, _, _, _, _, _, _, _, _, _, _, _, _, _, _, _, _, _, _, _, _, _, _, _, _, _, _, _, _, rfl⟩)
      · have hd2 : isD c = false := by simpa using hd
        have hnk := hex.out fun _ => hd2
        have HN := Lib.hid hnk
        clear hd hex hnk
        by_cases hgt : 2147483647 < (V : Int)
        · go_wp2_with (first | (go_at_call 16; refine (isD_any _ _).mono ?_; rintro e w' ⟨rfl, rfl⟩))
          try simp only [Exit.jump]
          exact bodyPost_ret (v := .tuple #[zeroTok, .int .i64 0, .int .i64 4]) (by simp [results, Try.results17, go_sem, zeroTok]) rfl ⟨by rw [HN.out.1, HV.out, if_neg (by omega)], (by repeat (first | exact Below.refl _ _ | (refine Below.setCell ?_ (by simp) _) | (refine Below.alloc ?_ (by simp) _)))⟩
        · go_wp2_with (first | (go_at_call 16; refine (isD_any _ _).mono ?_; rintro e w' ⟨rfl, rfl⟩))
          try simp only [Exit.jump]
          exact bodyPost_ret (v := .tuple #[Tok 2 0 0 (u.extract 0 k) (V : Nat), .int .i64 k, .int .i64 0]) (by simp [results, Try.results17, go_sem, Tok]) rfl ⟨by rw [HN.out.1, HV.out, if_pos (by omega)], (by repeat (first | exact Below.refl _ _ | (refine Below.setCell ?_ (by simp) _) | (refine Below.alloc ?_ (by simp) _)))⟩
    · have hnk := hex.out fun h => absurd h hlt
      have HN := Lib.hid hnk
      clear hex hnk
      by_cases hgt : 2147483647 < (V : Int)
      · go_wp2
        try simp only [Exit.jump]
        exact bodyPost_ret (v := .tuple #[zeroTok, .int .i64 0, .int .i64 4]) (by simp [results, Try.results17, go_sem, zeroTok]) rfl ⟨by rw [HN.out.1, HV.out, if_neg (by omega)], (by repeat (first | exact Below.refl _ _ | (refine Below.setCell ?_ (by simp) _) | (refine Below.alloc ?_ (by simp) _)))⟩
      · go_wp2
        try simp only [Exit.jump]
        exact bodyPost_ret (v := .tuple #[Tok 2 0 0 (u.extract 0 k) (V : Nat), .int .i64 k, .int .i64 0]) (by simp [results, Try.results17, go_sem, Tok]) rfl ⟨by rw [HN.out.1, HV.out, if_pos (by omega)], (by repeat (first | exact Below.refl _ _ | (refine Below.setCell ?_ (by simp) _) | (refine Below.alloc ?_ (by simp) _)))⟩

  · rintro m a' w' ⟨rfl, k, rfl, hk2, hA, x7, x8, x9, x10, x11, x12, x13, x14, x15, x16, x17, x18, x19, x20, x21, x22, x23, x24, x25, x26, x27, x28, x29, x30, x31, x32, x33, x34, x35, x36, rfl⟩
    have HA := Lib.hid hA
    clear hA
    have hex : Hid (∀ he : (∀ hk' : k < u.size, isD (byt u k) = false), n = k ∧ cap 2147483648 (u.data.toList.take n) 0 = cap 2147483648 (u.data.toList.take k) 0) := Lib.hid fun he => by
      have hnk : n = k := by
        rw [← hn.out]
        exact run_eq isD u.data.toList k (by simpa using hk2) (fun i hi hik => by rw [byt_get u i hi]; exact HA.out i hik) (fun hk' => by rw [byt_get u k hk']; exact he (by simpa using hk'))
      exact ⟨hnk, by rw [hnk]⟩
    obtain ⟨V, hV⟩ : ∃ V, cap 2147483648 (u.data.toList.take k) 0 = V := ⟨_, rfl⟩
    have hVb : V ≤ 2147483648 := by rw [← hV]; exact cap_le _ _ _ (by decide)
    have hVi : (V : Int) ≤ 2147483648 := by omega
    have hV0 : 0 ≤ (V : Int) := by omega
    rw [hV] at hex ⊢
    have HV := Lib.hid hV
    clear hV hVb
    by_cases hlt : k < u.size
    · obtain ⟨c, hc⟩ : ∃ c, byt u k = c := ⟨_, rfl⟩
      have hcu := byt_at u k hlt
      rw [hc] at hcu hex
      have HC := Lib.hid hc
      clear hc
      by_cases hd : isD c = true
      · have hnx : Hid (∀ i, i < k + 1 → isD (byt u i) = true) := Lib.hid fun i hi => by
          by_cases hik : i < k
          · exact HA.out i hik
          · rw [show i = k by omega, HC.out]; exact hd
        have hc48 : 48 ≤ (c : Int) ∧ (c : Int) ≤ 57 := by unfold isD at hd; simp at hd; omega
        have hstep : Hid ((cap 2147483648 (u.data.toList.take (k + 1)) 0 : Nat) = min (10 * V + (c - 48)) 2147483648) := Lib.hid (by
          rw [take_snoc u k hlt, cap_snoc, HV.out, byt_at u k hlt, HC.out])
        clear hex
        go_wp2_with (first | (go_at_call 16; refine (isD_any _ _).mono ?_; rintro e w' ⟨rfl, rfl⟩))
        all_goals
          go_step3
          first | (rw [show (V : Int) * 10 + ((c : Int) - 48) = ((cap 2147483648 (u.data.toList.take (k + 1)) 0 : Nat) : Int) from by rw [hstep.out]; omega]; exact ⟨rfl, u.size - (k + 1), by omega, rfl, k + 1, rfl, by omega, hnx.out, _, _, _, _, _, _, _, _, _, _, _, _, _, _, _, _, _, _, _, _, _, _, _, _, _, _, _, _, _, _, rfl⟩) | (rw [show (2147483648 : Int) = ((cap 2147483648 (u.data.toList.take (k + 1)) 0 : Nat) : Int) from by rw [hstep.out]; omega]; exact ⟨rfl, u.size - (k + 1), by omega, rfl, k + 1, rfl, by omega, hnx.out, _, _, _, _, _, _, _, _, _, _, _, _, _, _, _, _, _, _, _, _, _, _, _, _, _, _, _, _, _, _, rfl⟩)
      · have hd2 : isD c = false := by simpa using hd
        have hnk := hex.out fun _ => hd2
        have HN := Lib.hid hnk
        clear hd hex hnk
        by_cases hgt : 2147483647 < (V : Int)
        · go_wp2_with (first | (go_at_call 16; refine (isD_any _ _).mono ?_; rintro e w' ⟨rfl, rfl⟩))
          try simp only [Exit.jump]
          exact bodyPost_ret (v := .tuple #[zeroTok, .int .i64 0, .int .i64 4]) (by simp [results, Try.results17, go_sem, zeroTok]) rfl ⟨by rw [HN.out.1, HV.out, if_neg (by omega)], (by repeat (first | exact Below.refl _ _ | (refine Below.setCell ?_ (by simp) _) | (refine Below.alloc ?_ (by simp) _)))⟩
        · go_wp2_with (first | (go_at_call 16; refine (isD_any _ _).mono ?_; rintro e w' ⟨rfl, rfl⟩))
          try simp only [Exit.jump]
          exact bodyPost_ret (v := .tuple #[Tok 2 0 0 (u.extract 0 k) (V : Nat), .int .i64 k, .int .i64 0]) (by simp [results, Try.results17, go_sem, Tok]) rfl ⟨by rw [HN.out.1, HV.out, if_pos (by omega)], (by repeat (first | exact Below.refl _ _ | (refine Below.setCell ?_ (by simp) _) | (refine Below.alloc ?_ (by simp) _)))⟩
    · have hnk := hex.out fun h => absurd h hlt
      have HN := Lib.hid hnk
      clear hex hnk
      by_cases hgt : 2147483647 < (V : Int)
      · go_wp2
        try simp only [Exit.jump]
        exact bodyPost_ret (v := .tuple #[zeroTok, .int .i64 0, .int .i64 4]) (by simp [results, Try.results17, go_sem, zeroTok]) rfl ⟨by rw [HN.out.1, HV.out, if_neg (by omega)], (by repeat (first | exact Below.refl _ _ | (refine Below.setCell ?_ (by simp) _) | (refine Below.alloc ?_ (by simp) _)))⟩
      · go_wp2
        try simp only [Exit.jump]
        exact bodyPost_ret (v := .tuple #[Tok 2 0 0 (u.extract 0 k) (V : Nat), .int .i64 k, .int .i64 0]) (by simp [results, Try.results17, go_sem, Tok]) rfl ⟨by rw [HN.out.1, HV.out, if_pos (by omega)], (by repeat (first | exact Below.refl _ _ | (refine Below.setCell ?_ (by simp) _) | (refine Below.alloc ?_ (by simp) _)))⟩

end Go.Proofs.Ytmkfcoeefopmiaa
