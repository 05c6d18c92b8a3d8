/- The contract of skip: all blanks passed. -/
import Derived.Test.YtmkfcoeefopmiaaSkipA
namespace Go.Proofs.Ytmkfcoeefopmiaa
open Go.ChangeShapes Go.WideShapes Go.ChangeAt Go.RowKit

def skF (u : ByteArray) (k l : Int) (X : Nat → Value) : Act := { tmps := #[.string u, .int .i64 (k : Int), undef, undef, .int .i64 0, .int .i64 0, .bool false, .int .i64 (l : Int), X 8, X 9, X 10, X 11, X 12, X 13, X 14, X 15, X 16, X 17, X 18, X 19, X 20, X 21, X 22, X 23, X 24, X 25, X 26, X 27, X 28, X 29, X 30, X 31, X 32, X 33, X 34, X 35, X 36, X 37, X 38, X 39, X 40, X 41, X 42, X 43, X 44, X 45, X 46, X 47, X 48, X 49, X 50, X 51, X 52, X 53, X 54, X 55, X 56, X 57, X 58, X 59, X 60, X 61, X 62, X 63, X 64, X 65, X 66, X 67, X 68, X 69, X 70, X 71, X 72, X 73], defers := [] }
theorem skF_of {u : ByteArray} {k l : Int} (t : Array Value) (h : t = (skF u k l (fun i => t.getD i undef)).tmps) : ∃ X, ({ tmps := t, defers := [] } : Act) = skF u k l X :=
  ⟨fun i => t.getD i undef, by rw [show skF u k l (fun i => t.getD i undef) = { tmps := (skF u k l (fun i => t.getD i undef)).tmps, defers := [] } from rfl, ← h]⟩

set_option maxRecDepth 1000000 in
set_option maxHeartbeats 1000000 in
theorem skip_any (u : ByteArray) (k0 kf lf : Nat) (bf : Bool) (w : World) (hs : u.size ≤ 65535) (hk0 : k0 ≤ u.size) (HS0 : Hid (Skip u k0 0 kf lf bf)) (mm : Int) (hm : w.cell? ⟨0, 0, none⟩ = some (.int .i64 mm)) :
    Calls Try.prog 8 #[.string u, .int .i64 k0] w fun e w' => e = .returned (.tuple #[.int .i64 kf, .int .i64 lf, .bool bf]) ∧ w' = w := by
  have HM := Lib.hid hm
  clear hm
  obtain ⟨M, hMM⟩ : ∃ M, 2 * (u.size - k0) + 2 ≤ M := ⟨_, Nat.le_refl _⟩
  go_enter Try.func8, Try.ntmps8
  go_wp2
  refine wp_scope_both2 M 0 1 (fun m a' w' => w' = w ∧ ∃ k l : Nat, m = 2 * (u.size - k) + 2 ∧ k ≤ u.size ∧ l ≤ k ∧ Skip u k l kf lf bf ∧ ∃ X, a' = skF u k l X) (fun m a' w' => w' = w ∧ ∃ k l n : Nat, m = 2 * (u.size - (k + n)) + n + 3 ∧ k + n ≤ u.size ∧ l ≤ k ∧ run (fun c => c != 10) (u.data.toList.drop k) = n ∧ Skip u (k + n) l kf lf bf ∧ ∃ X, a' = skF u k l X) rfl rfl ?_ ?_ ?_
  rotate_right 1
  · rintro m a' w' ⟨rfl, k, l, n, rfl, hkn, hlk, hrun, hsk, X, rfl⟩
    unfold skF
    by_cases hk : k < u.size
    · obtain ⟨c, hc⟩ : ∃ c, byt u k = c := ⟨_, rfl⟩
      have e0 := byt_at u k hk
      rw [hc] at e0
      have hr := run_cons (fun c => c != 10) u k hk
      rw [hrun, hc] at hr
      have hki : (k : Int) < u.size := by omega
      clear hc hrun
      by_cases h10 : c = 10
      · have hn0 : n = 0 := by rw [hr, h10]; rfl
        subst hn0
        have HSK := Lib.hid hsk
        have m10 : ((c : Int) != 10) = false := by rw [h10]; rfl
        clear hr hsk h10
        go_wp2
        go_step3
        exact .inl ⟨rfl, 2 * (u.size - (k)) + 2, by omega, rfl, k, l, rfl, by omega, by omega, HSK.out, skF_of _ rfl⟩
      · have hr2 : n = run (fun c => c != 10) (u.data.toList.drop (k + 1)) + 1 := by rw [hr, if_pos (by simpa using h10)]
        obtain ⟨j, hj⟩ : ∃ j, run (fun c => c != 10) (u.data.toList.drop (k + 1)) = j := ⟨_, rfl⟩
        have HJ := Lib.hid hj
        rw [hj] at hr2
        subst hr2
        have HSK := Lib.hid hsk
        have m10 : ((c : Int) != 10) = true := by rw [bne_iff_ne]; omega
        clear hr hsk h10 hj
        go_wp2
        go_step3
        rw [show (k : Int) + 1 = ((k + 1 : Nat) : Int) from by simp]
        exact .inr ⟨rfl, 2 * (u.size - (k + 1 + j)) + j + 3, by omega, rfl, k + 1, l, j, rfl, by omega, by omega, HJ.out, by rw [show k + 1 + j = k + (j + 1) by omega]; exact HSK.out, skF_of _ rfl⟩
    · have hn0 : n = 0 := by rw [← hrun, run_end _ u k (by omega)]
      subst hn0
      have HSK := Lib.hid hsk
      have hki : ¬ (k : Int) < u.size := by omega
      clear hrun hsk
      go_wp2
      go_step3
      exact .inl ⟨rfl, 2 * (u.size - (k)) + 2, by omega, rfl, k, l, rfl, by omega, by omega, HSK.out, skF_of _ rfl⟩

  · go_wp2
    go_step3
    obtain ⟨k, l, hk, hl, hkl, hlk, HSK, hm⟩ : ∃ k l : Nat, (k0 : Int) = (k : Int) ∧ (0 : Int) = (l : Int) ∧ k ≤ u.size ∧ l ≤ k ∧ Hid (Skip u k l kf lf bf) ∧ 2 * (u.size - k) + 2 ≤ M := ⟨k0, 0, rfl, rfl, hk0, Nat.zero_le _, HS0, hMM⟩
    rw [show ({ tmps := #[.string u, .int .i64 (k0 : Int), undef, undef, .int .i64 0, .int .i64 0, .bool false, .int .i64 0, undef, undef, undef, undef, undef, undef, undef, undef, undef, undef, undef, undef, undef, undef, undef, undef, undef, undef, undef, undef, undef, undef, undef, undef, undef, undef, undef, undef, undef, undef, undef, undef, undef, undef, undef, undef, undef, undef, undef, undef, undef, undef, undef, undef, undef, undef, undef, undef, undef, undef, undef, undef, undef, undef, undef, undef, undef, undef, undef, undef, undef, undef, undef, undef, undef, undef], defers := [] } : Act) = { tmps := #[.string u, .int .i64 (k : Int), undef, undef, .int .i64 0, .int .i64 0, .bool false, .int .i64 (l : Int), undef, undef, undef, undef, undef, undef, undef, undef, undef, undef, undef, undef, undef, undef, undef, undef, undef, undef, undef, undef, undef, undef, undef, undef, undef, undef, undef, undef, undef, undef, undef, undef, undef, undef, undef, undef, undef, undef, undef, undef, undef, undef, undef, undef, undef, undef, undef, undef, undef, undef, undef, undef, undef, undef, undef, undef, undef, undef, undef, undef, undef, undef, undef, undef, undef, undef], defers := [] } from by rw [hk, hl]]
    clear hk hl hk0 HS0
    by_cases hk : k < u.size
    · obtain ⟨c, hc⟩ : ∃ c, byt u k = c := ⟨_, rfl⟩
      have e0 := byt_at u k hk
      rw [hc] at e0
      have HC := Lib.hid hc
      have hki : (k : Int) < u.size := by omega
      have hkn : ((k : Int) == (u.size : Int)) = false := by rw [beq_eq_false_iff_ne]; omega
      clear hc
      by_cases q10 : c = 10
      · have HN := Lib.hid (HSK.out.at_go hk (n := 1) (j := 1) (by unfold blankAt; rw [HC.out, if_pos q10]) (by omega))
        subst q10
        clear HSK
        go_wp2
        go_step3
        rw [show (k : Int) + 1 = ((k + 1 : Nat) : Int) from by simp, show (l : Int) + 1 = ((l + 1 : Nat) : Int) from by simp]
        exact .inl ⟨rfl, 2 * (u.size - (k + 1)) + 2, by omega, rfl, k + 1, l + 1, rfl, by omega, by omega, HN.out, skF_of _ rfl⟩
      have m10 : ((c : Int) == 10) = false := by rw [beq_eq_false_iff_ne]; omega
      by_cases q32 : c = 32
      · have HN := Lib.hid (HSK.out.at_go hk (n := 1) (j := 0) (by unfold blankAt; rw [HC.out, if_neg q10, if_pos (by omega)]) (by omega))
        subst q32
        clear HSK m10 q10
        go_wp2
        go_step3
        rw [show (k : Int) + 1 = ((k + 1 : Nat) : Int) from by simp]
        exact .inl ⟨rfl, 2 * (u.size - (k + 1)) + 2, by omega, rfl, k + 1, l, rfl, by omega, by omega, HN.out, skF_of _ rfl⟩
      have m32 : ((c : Int) == 32) = false := by rw [beq_eq_false_iff_ne]; omega
      by_cases q9 : c = 9
      · have HN := Lib.hid (HSK.out.at_go hk (n := 1) (j := 0) (by unfold blankAt; rw [HC.out, if_neg q10, if_pos (by omega)]) (by omega))
        subst q9
        clear HSK m10 q10 q32 m32
        go_wp2
        go_step3
        rw [show (k : Int) + 1 = ((k + 1 : Nat) : Int) from by simp]
        exact .inl ⟨rfl, 2 * (u.size - (k + 1)) + 2, by omega, rfl, k + 1, l, rfl, by omega, by omega, HN.out, skF_of _ rfl⟩
      have m9 : ((c : Int) == 9) = false := by rw [beq_eq_false_iff_ne]; omega
      by_cases q12 : c = 12
      · have HN := Lib.hid (HSK.out.at_go hk (n := 1) (j := 0) (by unfold blankAt; rw [HC.out, if_neg q10, if_pos (by omega)]) (by omega))
        subst q12
        clear HSK m10 q10 q32 m32 q9 m9
        go_wp2
        go_step3
        rw [show (k : Int) + 1 = ((k + 1 : Nat) : Int) from by simp]
        exact .inl ⟨rfl, 2 * (u.size - (k + 1)) + 2, by omega, rfl, k + 1, l, rfl, by omega, by omega, HN.out, skF_of _ rfl⟩
      have m12 : ((c : Int) == 12) = false := by rw [beq_eq_false_iff_ne]; omega
      by_cases q13 : c = 13
      · have HN := Lib.hid (HSK.out.at_go hk (n := 1) (j := 0) (by unfold blankAt; rw [HC.out, if_neg q10, if_pos (by omega)]) (by omega))
        subst q13
        clear HSK m10 q10 q32 m32 q9 m9 q12 m12
        go_wp2
        go_step3
        rw [show (k : Int) + 1 = ((k + 1 : Nat) : Int) from by simp]
        exact .inl ⟨rfl, 2 * (u.size - (k + 1)) + 2, by omega, rfl, k + 1, l, rfl, by omega, by omega, HN.out, skF_of _ rfl⟩
      have m13 : ((c : Int) == 13) = false := by rw [beq_eq_false_iff_ne]; omega
      have hkl : k ≤ u.size := by omega
      by_cases q92 : c = 92
      · by_cases hf : k + 1 < u.size ∧ byt u (k + 1) = 10
        · have HN := Lib.hid (HSK.out.at_go hk (n := 2) (j := 0) (by unfold blankAt; rw [HC.out, if_neg q10, if_neg (by omega), if_pos ⟨q92, hf⟩]) (by omega))
          have h1 : Hid (two u k (92 : UInt8).toNat (10 : UInt8).toNat = true) := Lib.hid (by unfold two; rw [HC.out, q92, hf.2]; simp [hf.1])
          have hf1 := hf.1
          subst q92
          clear HSK hf q10 q32 q9 q12 q13 m10 m32 m9 m12 m13
          go_wp2_with (go_at_call 12; refine (pre_as u k 92 10 _ h1 _).mono ?_; rintro e w ⟨rfl, rfl⟩)
          go_step3
          rw [show (k : Int) + 2 = ((k + 2 : Nat) : Int) from by simp]
          exact .inl ⟨rfl, 2 * (u.size - (k + 2)) + 2, by omega, rfl, k + 2, l, rfl, by omega, by omega, HN.out, skF_of _ rfl⟩
        · have hE := Lib.hid (HSK.out.at_stop hk (by unfold blankAt; rw [HC.out, if_neg q10, if_neg (by omega), if_neg (by rintro ⟨_, h⟩; exact hf h), if_neg (by omega), if_neg (by omega)]))
          have h1 : Hid (two u k (92 : UInt8).toNat (10 : UInt8).toNat = false) := Lib.hid (by unfold two; rw [Bool.eq_false_iff]; intro h; simp at h; exact hf ⟨h.1.1, h.2⟩)
          subst q92
          clear HSK hf q10 q32 q9 q12 q13 m10 m32 m9 m12 m13
          go_wp2_with (go_at_call 12; refine (pre_as u k 92 10 _ h1 _).mono ?_; rintro e w ⟨rfl, rfl⟩)
          simp only [jump2]; go_ret3; exact ⟨by simp [hE.out.1, hE.out.2.1, hE.out.2.2], rfl⟩
      have m92 : ((c : Int) == 92) = false := by rw [beq_eq_false_iff_ne]; omega
      by_cases q47 : c = 47
      · by_cases hg : k + 1 < u.size ∧ byt u (k + 1) = 47
        · obtain ⟨n, hn⟩ : ∃ n, run (fun c => c != 10) (u.data.toList.drop k) = n := ⟨_, rfl⟩
          have hn2 : 2 ≤ n := by
            rw [← hn, run_cons _ u k hk, run_cons _ u (k + 1) hg.1, HC.out, hg.2, q47]; simp
          have hb : blankAt u k = some (n, 0) := by unfold blankAt; rw [HC.out, if_neg q10, if_neg (by omega), if_neg (by rintro ⟨h, _⟩; exact q92 h), if_neg (by rintro ⟨_, _, h⟩; rw [hg.2] at h; cases h), if_pos ⟨q47, hg⟩, hn]
          have HN := Lib.hid (HSK.out.at_go hk hb (by omega))
          have hle := blankAt_le u k n 0 hk hb
          have HR := Lib.hid hn
          have h2 : Hid (two u k (47 : UInt8).toNat (47 : UInt8).toNat = true) := Lib.hid (by unfold two; rw [HC.out, q47, hg.2]; simp [hg.1])
          subst q47
          clear HSK hg hb hn q10 q32 q9 q12 q13 m10 m32 m9 m12 m13 q92 m92
          go_wp2_with (go_at_call 12; refine (pre_as u k 47 47 _ h2 _).mono ?_; rintro e w ⟨rfl, rfl⟩)
          go_step3
          exact .inr ⟨rfl, 2 * (u.size - (k + n)) + n + 3, by omega, rfl, k, l, n, rfl, by omega, by omega, HR.out, HN.out, skF_of _ rfl⟩
        have h2 : Hid (two u k (47 : UInt8).toNat (47 : UInt8).toNat = false) := Lib.hid (by unfold two; rw [Bool.eq_false_iff]; intro h; simp at h; exact hg ⟨h.1.1, h.2⟩)
        by_cases hf : k + 1 < u.size ∧ byt u (k + 1) = 42
        · have h1 : Hid (two u k (47 : UInt8).toNat (42 : UInt8).toNat = true) := Lib.hid (by unfold two; rw [HC.out, q47, hf.2]; simp [hf.1])
          have hb : blankAt u k = (find2 42 47 (u.data.toList.drop (k + 2))).map fun j => (j + 4, 0) := by unfold blankAt; rw [HC.out, if_neg q10, if_neg (by omega), if_neg (by rintro ⟨h, _⟩; exact q92 h), if_pos ⟨q47, hf⟩]
          have hf1 := hf.1
          cases hx : find2 42 47 (u.data.toList.drop (k + 2)) with
          | none =>
            have hE := Lib.hid (HSK.out.at_bad hk (by rw [hb, hx]; rfl))
            have HI : Hid ((match find2 42 47 (u.data.toList.drop (k + 2)) with | none => (-1 : Int) | some i => (i : Int)) = -1) := Lib.hid (by rw [hx])
            subst q47
            clear HSK hg hf hb hx q10 q32 q9 q12 q13 m10 m32 m9 m12 m13 q92 m92
            go_wp2_with fail
            refine (pre_as u k 47 47 _ h2 _).mono ?_
            rintro e w ⟨rfl, rfl⟩
            go_wp2_with fail
            refine (pre_as u k 47 42 _ h1 _).mono ?_
            rintro e w ⟨rfl, rfl⟩
            go_wp2_with fail
            refine (ind_as u (k + 2) hs _ HI _ _ HM.out).mono ?_
            rintro e w ⟨rfl, rfl⟩
            go_wp2
            simp only [jump2]; go_ret3; exact ⟨by simp [hE.out.1, hE.out.2.1, hE.out.2.2], rfl⟩
          | some i =>
            have hb2 : blankAt u k = some (i + 4, 0) := by rw [hb, hx]; rfl
            have HN := Lib.hid (HSK.out.at_go hk hb2 (by omega))
            have hle := blankAt_le u k (i + 4) 0 hk hb2
            have HI : Hid ((match find2 42 47 (u.data.toList.drop (k + 2)) with | none => (-1 : Int) | some i => (i : Int)) = (i : Int)) := Lib.hid (by rw [hx])
            subst q47
            clear HSK hg hf hb hb2 hx q10 q32 q9 q12 q13 m10 m32 m9 m12 m13 q92 m92
            go_wp2_with fail
            refine (pre_as u k 47 47 _ h2 _).mono ?_
            rintro e w ⟨rfl, rfl⟩
            go_wp2_with fail
            refine (pre_as u k 47 42 _ h1 _).mono ?_
            rintro e w ⟨rfl, rfl⟩
            go_wp2_with fail
            refine (ind_as u (k + 2) hs _ HI _ _ HM.out).mono ?_
            rintro e w ⟨rfl, rfl⟩
            go_wp2
            go_step3
            rw [show (k : Int) + ((i : Int) + 4) = ((k + (i + 4) : Nat) : Int) from by omega]
            exact .inl ⟨rfl, 2 * (u.size - (k + (i + 4))) + 2, by omega, rfl, k + (i + 4), l, rfl, by omega, by omega, HN.out, skF_of _ rfl⟩
        · have hE := Lib.hid (HSK.out.at_stop hk (by unfold blankAt; rw [HC.out, if_neg q10, if_neg (by omega), if_neg (by rintro ⟨h, _⟩; exact q92 h), if_neg (by rintro ⟨_, h⟩; exact hf h), if_neg (by rintro ⟨_, h⟩; exact hg h)]))
          have h1 : Hid (two u k (47 : UInt8).toNat (42 : UInt8).toNat = false) := Lib.hid (by unfold two; rw [Bool.eq_false_iff]; intro h; simp at h; exact hf ⟨h.1.1, h.2⟩)
          subst q47
          clear HSK hg hf q10 q32 q9 q12 q13 m10 m32 m9 m12 m13 q92 m92
          go_wp2_with fail
          refine (pre_as u k 47 47 _ h2 _).mono ?_
          rintro e w ⟨rfl, rfl⟩
          go_wp2_with fail
          refine (pre_as u k 47 42 _ h1 _).mono ?_
          rintro e w ⟨rfl, rfl⟩
          go_wp2
          simp only [jump2]; go_ret3; exact ⟨by simp [hE.out.1, hE.out.2.1, hE.out.2.2], rfl⟩
      have m47 : ((c : Int) == 47) = false := by rw [beq_eq_false_iff_ne]; omega
      have hE := Lib.hid (HSK.out.at_stop hk (by unfold blankAt; rw [HC.out, if_neg q10, if_neg (by omega), if_neg (by rintro ⟨h, _⟩; exact q92 h), if_neg (by rintro ⟨h, _⟩; exact q47 h), if_neg (by rintro ⟨h, _⟩; exact q47 h)]))
      clear HSK q10 q32 q9 q12 q13 q92 q47
      go_wp2
      simp only [jump2]; go_ret3; exact ⟨by simp [hE.out.1, hE.out.2.1, hE.out.2.2], rfl⟩
    · have hE := Lib.hid (HSK.out.at_end (by omega))
      have hkn : ((k : Int) == (u.size : Int)) = true := by rw [beq_iff_eq]; omega
      clear HSK
      go_wp2
      simp only [jump2]; go_ret3; exact ⟨by simp [hE.out.1, hE.out.2.1, hE.out.2.2], rfl⟩


  · rintro m a' w' ⟨rfl, k, l, rfl, hkl, hlk, hsk, X, rfl⟩
    unfold skF
    have HSK := Lib.hid hsk
    clear hsk HS0 hk0
    by_cases hk : k < u.size
    · obtain ⟨c, hc⟩ : ∃ c, byt u k = c := ⟨_, rfl⟩
      have e0 := byt_at u k hk
      rw [hc] at e0
      have HC := Lib.hid hc
      have hki : (k : Int) < u.size := by omega
      have hkn : ((k : Int) == (u.size : Int)) = false := by rw [beq_eq_false_iff_ne]; omega
      clear hc
      by_cases q10 : c = 10
      · have HN := Lib.hid (HSK.out.at_go hk (n := 1) (j := 1) (by unfold blankAt; rw [HC.out, if_pos q10]) (by omega))
        subst q10
        clear HSK
        go_wp2
        go_step3
        rw [show (k : Int) + 1 = ((k + 1 : Nat) : Int) from by simp, show (l : Int) + 1 = ((l + 1 : Nat) : Int) from by simp]
        exact .inl ⟨rfl, 2 * (u.size - (k + 1)) + 2, by omega, rfl, k + 1, l + 1, rfl, by omega, by omega, HN.out, skF_of _ rfl⟩
      have m10 : ((c : Int) == 10) = false := by rw [beq_eq_false_iff_ne]; omega
      by_cases q32 : c = 32
      · have HN := Lib.hid (HSK.out.at_go hk (n := 1) (j := 0) (by unfold blankAt; rw [HC.out, if_neg q10, if_pos (by omega)]) (by omega))
        subst q32
        clear HSK m10 q10
        go_wp2
        go_step3
        rw [show (k : Int) + 1 = ((k + 1 : Nat) : Int) from by simp]
        exact .inl ⟨rfl, 2 * (u.size - (k + 1)) + 2, by omega, rfl, k + 1, l, rfl, by omega, by omega, HN.out, skF_of _ rfl⟩
      have m32 : ((c : Int) == 32) = false := by rw [beq_eq_false_iff_ne]; omega
      by_cases q9 : c = 9
      · have HN := Lib.hid (HSK.out.at_go hk (n := 1) (j := 0) (by unfold blankAt; rw [HC.out, if_neg q10, if_pos (by omega)]) (by omega))
        subst q9
        clear HSK m10 q10 q32 m32
        go_wp2
        go_step3
        rw [show (k : Int) + 1 = ((k + 1 : Nat) : Int) from by simp]
        exact .inl ⟨rfl, 2 * (u.size - (k + 1)) + 2, by omega, rfl, k + 1, l, rfl, by omega, by omega, HN.out, skF_of _ rfl⟩
      have m9 : ((c : Int) == 9) = false := by rw [beq_eq_false_iff_ne]; omega
      by_cases q12 : c = 12
      · have HN := Lib.hid (HSK.out.at_go hk (n := 1) (j := 0) (by unfold blankAt; rw [HC.out, if_neg q10, if_pos (by omega)]) (by omega))
        subst q12
        clear HSK m10 q10 q32 m32 q9 m9
        go_wp2
        go_step3
        rw [show (k : Int) + 1 = ((k + 1 : Nat) : Int) from by simp]
        exact .inl ⟨rfl, 2 * (u.size - (k + 1)) + 2, by omega, rfl, k + 1, l, rfl, by omega, by omega, HN.out, skF_of _ rfl⟩
      have m12 : ((c : Int) == 12) = false := by rw [beq_eq_false_iff_ne]; omega
      by_cases q13 : c = 13
      · have HN := Lib.hid (HSK.out.at_go hk (n := 1) (j := 0) (by unfold blankAt; rw [HC.out, if_neg q10, if_pos (by omega)]) (by omega))
        subst q13
        clear HSK m10 q10 q32 m32 q9 m9 q12 m12
        go_wp2
        go_step3
        rw [show (k : Int) + 1 = ((k + 1 : Nat) : Int) from by simp]
        exact .inl ⟨rfl, 2 * (u.size - (k + 1)) + 2, by omega, rfl, k + 1, l, rfl, by omega, by omega, HN.out, skF_of _ rfl⟩
      have m13 : ((c : Int) == 13) = false := by rw [beq_eq_false_iff_ne]; omega
      have hkl : k ≤ u.size := by omega
      by_cases q92 : c = 92
      · by_cases hf : k + 1 < u.size ∧ byt u (k + 1) = 10
        · have HN := Lib.hid (HSK.out.at_go hk (n := 2) (j := 0) (by unfold blankAt; rw [HC.out, if_neg q10, if_neg (by omega), if_pos ⟨q92, hf⟩]) (by omega))
          have h1 : Hid (two u k (92 : UInt8).toNat (10 : UInt8).toNat = true) := Lib.hid (by unfold two; rw [HC.out, q92, hf.2]; simp [hf.1])
          have hf1 := hf.1
          subst q92
          clear HSK hf q10 q32 q9 q12 q13 m10 m32 m9 m12 m13
          go_wp2_with (go_at_call 12; refine (pre_as u k 92 10 _ h1 _).mono ?_; rintro e w ⟨rfl, rfl⟩)
          go_step3
          rw [show (k : Int) + 2 = ((k + 2 : Nat) : Int) from by simp]
          exact .inl ⟨rfl, 2 * (u.size - (k + 2)) + 2, by omega, rfl, k + 2, l, rfl, by omega, by omega, HN.out, skF_of _ rfl⟩
        · have hE := Lib.hid (HSK.out.at_stop hk (by unfold blankAt; rw [HC.out, if_neg q10, if_neg (by omega), if_neg (by rintro ⟨_, h⟩; exact hf h), if_neg (by omega), if_neg (by omega)]))
          have h1 : Hid (two u k (92 : UInt8).toNat (10 : UInt8).toNat = false) := Lib.hid (by unfold two; rw [Bool.eq_false_iff]; intro h; simp at h; exact hf ⟨h.1.1, h.2⟩)
          subst q92
          clear HSK hf q10 q32 q9 q12 q13 m10 m32 m9 m12 m13
          go_wp2_with (go_at_call 12; refine (pre_as u k 92 10 _ h1 _).mono ?_; rintro e w ⟨rfl, rfl⟩)
          simp only [jump2]; go_ret3; exact ⟨by simp [hE.out.1, hE.out.2.1, hE.out.2.2], rfl⟩
      have m92 : ((c : Int) == 92) = false := by rw [beq_eq_false_iff_ne]; omega
      by_cases q47 : c = 47
      · by_cases hg : k + 1 < u.size ∧ byt u (k + 1) = 47
        · obtain ⟨n, hn⟩ : ∃ n, run (fun c => c != 10) (u.data.toList.drop k) = n := ⟨_, rfl⟩
          have hn2 : 2 ≤ n := by
            rw [← hn, run_cons _ u k hk, run_cons _ u (k + 1) hg.1, HC.out, hg.2, q47]; simp
          have hb : blankAt u k = some (n, 0) := by unfold blankAt; rw [HC.out, if_neg q10, if_neg (by omega), if_neg (by rintro ⟨h, _⟩; exact q92 h), if_neg (by rintro ⟨_, _, h⟩; rw [hg.2] at h; cases h), if_pos ⟨q47, hg⟩, hn]
          have HN := Lib.hid (HSK.out.at_go hk hb (by omega))
          have hle := blankAt_le u k n 0 hk hb
          have HR := Lib.hid hn
          have h2 : Hid (two u k (47 : UInt8).toNat (47 : UInt8).toNat = true) := Lib.hid (by unfold two; rw [HC.out, q47, hg.2]; simp [hg.1])
          subst q47
          clear HSK hg hb hn q10 q32 q9 q12 q13 m10 m32 m9 m12 m13 q92 m92
          go_wp2_with (go_at_call 12; refine (pre_as u k 47 47 _ h2 _).mono ?_; rintro e w ⟨rfl, rfl⟩)
          go_step3
          exact .inr ⟨rfl, 2 * (u.size - (k + n)) + n + 3, by omega, rfl, k, l, n, rfl, by omega, by omega, HR.out, HN.out, skF_of _ rfl⟩
        have h2 : Hid (two u k (47 : UInt8).toNat (47 : UInt8).toNat = false) := Lib.hid (by unfold two; rw [Bool.eq_false_iff]; intro h; simp at h; exact hg ⟨h.1.1, h.2⟩)
        by_cases hf : k + 1 < u.size ∧ byt u (k + 1) = 42
        · have h1 : Hid (two u k (47 : UInt8).toNat (42 : UInt8).toNat = true) := Lib.hid (by unfold two; rw [HC.out, q47, hf.2]; simp [hf.1])
          have hb : blankAt u k = (find2 42 47 (u.data.toList.drop (k + 2))).map fun j => (j + 4, 0) := by unfold blankAt; rw [HC.out, if_neg q10, if_neg (by omega), if_neg (by rintro ⟨h, _⟩; exact q92 h), if_pos ⟨q47, hf⟩]
          have hf1 := hf.1
          cases hx : find2 42 47 (u.data.toList.drop (k + 2)) with
          | none =>
            have hE := Lib.hid (HSK.out.at_bad hk (by rw [hb, hx]; rfl))
            have HI : Hid ((match find2 42 47 (u.data.toList.drop (k + 2)) with | none => (-1 : Int) | some i => (i : Int)) = -1) := Lib.hid (by rw [hx])
            subst q47
            clear HSK hg hf hb hx q10 q32 q9 q12 q13 m10 m32 m9 m12 m13 q92 m92
            go_wp2_with fail
            refine (pre_as u k 47 47 _ h2 _).mono ?_
            rintro e w ⟨rfl, rfl⟩
            go_wp2_with fail
            refine (pre_as u k 47 42 _ h1 _).mono ?_
            rintro e w ⟨rfl, rfl⟩
            go_wp2_with fail
            refine (ind_as u (k + 2) hs _ HI _ _ HM.out).mono ?_
            rintro e w ⟨rfl, rfl⟩
            go_wp2
            simp only [jump2]; go_ret3; exact ⟨by simp [hE.out.1, hE.out.2.1, hE.out.2.2], rfl⟩
          | some i =>
            have hb2 : blankAt u k = some (i + 4, 0) := by rw [hb, hx]; rfl
            have HN := Lib.hid (HSK.out.at_go hk hb2 (by omega))
            have hle := blankAt_le u k (i + 4) 0 hk hb2
            have HI : Hid ((match find2 42 47 (u.data.toList.drop (k + 2)) with | none => (-1 : Int) | some i => (i : Int)) = (i : Int)) := Lib.hid (by rw [hx])
            subst q47
            clear HSK hg hf hb hb2 hx q10 q32 q9 q12 q13 m10 m32 m9 m12 m13 q92 m92
            go_wp2_with fail
            refine (pre_as u k 47 47 _ h2 _).mono ?_
            rintro e w ⟨rfl, rfl⟩
            go_wp2_with fail
            refine (pre_as u k 47 42 _ h1 _).mono ?_
            rintro e w ⟨rfl, rfl⟩
            go_wp2_with fail
            refine (ind_as u (k + 2) hs _ HI _ _ HM.out).mono ?_
            rintro e w ⟨rfl, rfl⟩
            go_wp2
            go_step3
            rw [show (k : Int) + ((i : Int) + 4) = ((k + (i + 4) : Nat) : Int) from by omega]
            exact .inl ⟨rfl, 2 * (u.size - (k + (i + 4))) + 2, by omega, rfl, k + (i + 4), l, rfl, by omega, by omega, HN.out, skF_of _ rfl⟩
        · have hE := Lib.hid (HSK.out.at_stop hk (by unfold blankAt; rw [HC.out, if_neg q10, if_neg (by omega), if_neg (by rintro ⟨h, _⟩; exact q92 h), if_neg (by rintro ⟨_, h⟩; exact hf h), if_neg (by rintro ⟨_, h⟩; exact hg h)]))
          have h1 : Hid (two u k (47 : UInt8).toNat (42 : UInt8).toNat = false) := Lib.hid (by unfold two; rw [Bool.eq_false_iff]; intro h; simp at h; exact hf ⟨h.1.1, h.2⟩)
          subst q47
          clear HSK hg hf q10 q32 q9 q12 q13 m10 m32 m9 m12 m13 q92 m92
          go_wp2_with fail
          refine (pre_as u k 47 47 _ h2 _).mono ?_
          rintro e w ⟨rfl, rfl⟩
          go_wp2_with fail
          refine (pre_as u k 47 42 _ h1 _).mono ?_
          rintro e w ⟨rfl, rfl⟩
          go_wp2
          simp only [jump2]; go_ret3; exact ⟨by simp [hE.out.1, hE.out.2.1, hE.out.2.2], rfl⟩
      have m47 : ((c : Int) == 47) = false := by rw [beq_eq_false_iff_ne]; omega
      have hE := Lib.hid (HSK.out.at_stop hk (by unfold blankAt; rw [HC.out, if_neg q10, if_neg (by omega), if_neg (by rintro ⟨h, _⟩; exact q92 h), if_neg (by rintro ⟨h, _⟩; exact q47 h), if_neg (by rintro ⟨h, _⟩; exact q47 h)]))
      clear HSK q10 q32 q9 q12 q13 q92 q47
      go_wp2
      simp only [jump2]; go_ret3; exact ⟨by simp [hE.out.1, hE.out.2.1, hE.out.2.2], rfl⟩
    · have hE := Lib.hid (HSK.out.at_end (by omega))
      have hkn : ((k : Int) == (u.size : Int)) = true := by rw [beq_iff_eq]; omega
      clear HSK
      go_wp2
      simp only [jump2]; go_ret3; exact ⟨by simp [hE.out.1, hE.out.2.1, hE.out.2.2], rfl⟩


end Go.Proofs.Ytmkfcoeefopmiaa
