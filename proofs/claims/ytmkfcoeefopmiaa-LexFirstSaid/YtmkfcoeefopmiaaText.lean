/- The contract of readText. -/
import Derived.Test.YtmkfcoeefopmiaaByte
namespace Go.Proofs.Ytmkfcoeefopmiaa
open Go.ChangeShapes Go.WideShapes Go.ChangeAt Go.RowKit

/-- How many bytes a quoted text has from a place on, with its last quote. -/
def quotAt (u : ByteArray) (k : Nat) : Option Nat := quot (u.data.toList.drop k)

theorem drop_at (u : ByteArray) (k : Nat) (h : k < u.size) : ∃ c : UInt8, c.toNat = byt u k ∧ u.data.toList.drop k = c :: u.data.toList.drop (k + 1) := by
  have h' : k < u.data.toList.length := by simpa using h
  exact ⟨u.data.toList[k], byt_get u k h', List.drop_eq_getElem_cons h'⟩
theorem quotAt_end (u : ByteArray) (k : Nat) (h : u.size ≤ k) : quotAt u k = none := by
  unfold quotAt; rw [List.drop_eq_nil_of_le (by simpa using h)]; rfl
theorem quotAt_34 (u : ByteArray) (k : Nat) (h : k < u.size) (hc : byt u k = 34) : quotAt u k = some 1 := by
  obtain ⟨c, e, hd⟩ := drop_at u k h
  unfold quotAt; rw [hd, quot_step, if_pos (by omega)]
theorem quotAt_10 (u : ByteArray) (k : Nat) (h : k < u.size) (hc : byt u k = 10) : quotAt u k = none := by
  obtain ⟨c, e, hd⟩ := drop_at u k h
  unfold quotAt; rw [hd, quot_step, if_neg (by omega), if_pos (by omega)]
theorem quotAt_92_end (u : ByteArray) (k : Nat) (h : k < u.size) (hc : byt u k = 92) (h2 : u.size ≤ k + 1) : quotAt u k = none := by
  obtain ⟨c, e, hd⟩ := drop_at u k h
  unfold quotAt; rw [hd, quot_step, if_neg (by omega), if_neg (by omega), if_pos (by omega), List.drop_eq_nil_of_le (by simpa using h2)]
theorem quotAt_92_10 (u : ByteArray) (k : Nat) (h : k < u.size) (hc : byt u k = 92) (h2 : k + 1 < u.size) (hd2 : byt u (k + 1) = 10) : quotAt u k = none := by
  obtain ⟨c, e, hd⟩ := drop_at u k h
  obtain ⟨d, e2, hd'⟩ := drop_at u (k + 1) h2
  unfold quotAt; rw [hd, quot_step, if_neg (by omega), if_neg (by omega), if_pos (by omega), hd']
  simp only
  rw [if_pos (by omega)]
theorem quotAt_92 (u : ByteArray) (k : Nat) (h : k < u.size) (hc : byt u k = 92) (h2 : k + 1 < u.size) (hd2 : ¬ byt u (k + 1) = 10) : quotAt u k = (quotAt u (k + 2)).map (· + 2) := by
  obtain ⟨c, e, hd⟩ := drop_at u k h
  obtain ⟨d, e2, hd'⟩ := drop_at u (k + 1) h2
  unfold quotAt; rw [hd, quot_step, if_neg (by omega), if_neg (by omega), if_pos (by omega), hd']
  simp only
  rw [if_neg (by omega)]
theorem quotAt_else (u : ByteArray) (k : Nat) (h : k < u.size) (n1 : ¬ byt u k = 34) (n2 : ¬ byt u k = 10) (n3 : ¬ byt u k = 92) : quotAt u k = (quotAt u (k + 1)).map (· + 1) := by
  obtain ⟨c, e, hd⟩ := drop_at u k h
  unfold quotAt; rw [hd, quot_step, if_neg (by omega), if_neg (by omega), if_neg (by omega)]
theorem quot_go1 (u : ByteArray) (k : Nat) (hk : 1 ≤ k) (h : quotAt u 1 = (quotAt u k).map (· + (k - 1))) (hs : quotAt u k = (quotAt u (k + 1)).map (· + 1)) : quotAt u 1 = (quotAt u (k + 1)).map (· + (k + 1 - 1)) := by
  rw [h, hs]
  cases quotAt u (k + 1) with
  | none => rfl
  | some q => simp; omega
theorem quot_go2 (u : ByteArray) (k : Nat) (hk : 1 ≤ k) (h : quotAt u 1 = (quotAt u k).map (· + (k - 1))) (hs : quotAt u k = (quotAt u (k + 2)).map (· + 2)) : quotAt u 1 = (quotAt u (k + 2)).map (· + (k + 2 - 1)) := by
  rw [h, hs]
  cases quotAt u (k + 2) with
  | none => rfl
  | some q => simp; omega

def textR (u : ByteArray) (x : Option Nat) : Value := match x with
  | none => .tuple #[zeroTok, .int .i64 0, .int .i64 3]
  | some k => if 201 < k then .tuple #[zeroTok, .int .i64 0, .int .i64 5] else .tuple #[Tok 3 0 0 (u.extract 1 k) 0, .int .i64 ((k : Int) + 1), .int .i64 0]

theorem slice_1 (u : ByteArray) (k : Nat) (h1 : 1 ≤ k) (h2 : k ≤ u.size) (w : World) : (Instr.slice 9 (.string u) (some (.int .i64 1)) (some (.int .i64 (k : Int))) none).run Try.prog w = .ok (.string (u.extract 1 k)) w := by
  have := run_slice_string (P := Try.prog) (w := w) 9 u .i64 .i64 1 (k : Int) Try.underlying9 (by omega) (by omega) (by omega)
  simpa using this

set_option maxRecDepth 1000000 in
set_option maxHeartbeats 2000000 in
theorem text_any (u : ByteArray) (w : World) (h1 : 1 ≤ u.size) (h2 : u.size ≤ 65535) :
    Calls Try.prog 19 #[.string u] w fun e w' => e = .returned (textR u (quotAt u 1)) ∧ Below w.heap.size w w' := by
  go_enter Try.func19, Try.ntmps19
  go_wp2
  refine wp_scope_ghost 0 (fun m a' w' => w' = w.alloc (.cells #[.int .i64 0, .int .i64 0, .int .i64 0, .string ⟨#[]⟩, .int .i64 0] 27) ∧ ∃ k : Nat, m = u.size + 1 - k ∧ 1 ≤ k ∧ k ≤ u.size ∧ quotAt u 1 = (quotAt u k).map (· + (k - 1)) ∧ ∃ x6 x7 x8 x9 x10 x11 x12 x13 x14 x15 x16 x17 x18 x19 x20 x21 x22 x23 x24 x25 x26 x27 x28 x29 x30 x31 x32 x33 x34 x35 x36 x37 x38 x39 x40 x41 x42 x43 x44 x45 x46 x47 x48 x49 x50 x51 x52 x53 x54 x55 x56 : Value, a' = { tmps := #[.string u, undef, .pointer (some ⟨w.heap.size, 0, none⟩), .int .i64 0, .int .i64 0, .int .i64 k, x6, x7, x8, x9, x10, x11, x12, x13, x14, x15, x16, x17, x18, x19, x20, x21, x22, x23, x24, x25, x26, x27, x28, x29, x30, x31, x32, x33, x34, x35, x36, x37, x38, x39, x40, x41, x42, x43, x44, x45, x46, x47, x48, x49, x50, x51, x52, x53, x54, x55, x56], defers := [] }) rfl ?_ ?_
  · go_wp2
    go_step3
    obtain ⟨k, hk, hk1, hk2, HQ⟩ : ∃ k : Nat, 1 = k ∧ 1 ≤ k ∧ k ≤ u.size ∧ Hid (quotAt u 1 = (quotAt u k).map (· + (k - 1))) := ⟨1, rfl, Nat.le_refl _, h1, Lib.hid (by cases quotAt u 1 <;> simp)⟩
    rw [show ({ tmps := #[.string u, undef, .pointer (some ⟨w.heap.size, 0, none⟩), .int .i64 0, .int .i64 0, .int .i64 1, undef, undef, undef, undef, undef, undef, undef, undef, undef, undef, undef, undef, undef, undef, undef, undef, undef, undef, undef, undef, undef, undef, undef, undef, undef, undef, undef, undef, undef, undef, undef, undef, undef, undef, undef, undef, undef, undef, undef, undef, undef, undef, undef, undef, undef, undef, undef, undef, undef, undef, undef], defers := [] } : Act) = { tmps := #[.string u, undef, .pointer (some ⟨w.heap.size, 0, none⟩), .int .i64 0, .int .i64 0, .int .i64 k, undef, undef, undef, undef, undef, undef, undef, undef, undef, undef, undef, undef, undef, undef, undef, undef, undef, undef, undef, undef, undef, undef, undef, undef, undef, undef, undef, undef, undef, undef, undef, undef, undef, undef, undef, undef, undef, undef, undef, undef, undef, undef, undef, undef, undef, undef, undef, undef, undef, undef, undef], defers := [] } from by subst hk; rfl]
    clear hk
    by_cases hlt : k < u.size
    · obtain ⟨c, hc⟩ : ∃ c, byt u k = c := ⟨_, rfl⟩
      have hcu := byt_at u k hlt
      rw [hc] at hcu
      have HC := Lib.hid hc
      clear hc
      by_cases h92 : c = 92
      · subst h92
        by_cases hl2 : k + 1 < u.size
        · obtain ⟨d, hd⟩ : ∃ d, byt u (k + 1) = d := ⟨_, rfl⟩
          have hdu := byt_at u (k + 1) hl2
          rw [hd] at hdu
          have HD := Lib.hid hd
          clear hd
          by_cases h10 : d = 10
          · subst h10
            have HN := Lib.hid ((HQ.out.trans (congrArg _ (quotAt_92_10 u k hlt HC.out hl2 HD.out))))
            go_wp2
            try simp only [Exit.jump]
            exact bodyPost_ret (v := .tuple #[zeroTok, .int .i64 0, .int .i64 3]) (by simp [results, Try.results19, go_sem, zeroTok]) rfl ⟨by rw [HN.out]; rfl, (by repeat (first | exact Below.refl _ _ | (refine Below.setCell ?_ (by simp) _) | (refine Below.alloc ?_ (by simp) _)))⟩
          · have hnx : Hid (quotAt u 1 = (quotAt u (k + 2)).map (· + (k + 2 - 1))) := Lib.hid (quot_go2 u k hk1 HQ.out (quotAt_92 u k hlt HC.out hl2 (by rw [HD.out]; exact h10)))
            have hne : ((d : Int) != 10) = true := by simp; omega
            go_wp2
            go_step3
            (rw [show (k : Int) + 1 + 1 = ((k + 2 : Nat) : Int) from by simp; omega]); exact ⟨rfl, u.size + 1 - (k + 2), rfl, k + 2, rfl, by omega, by omega, hnx.out, _, _, _, _, _, _, _, _, _, _, _, _, _, _, _, _, _, _, _, _, _, _, _, _, _, _, _, _, _, _, _, _, _, _, _, _, _, _, _, _, _, _, _, _, _, _, _, _, _, _, _, rfl⟩
        · have HN := Lib.hid ((HQ.out.trans (congrArg _ (quotAt_92_end u k hlt HC.out (by omega)))))
          go_wp2
          try simp only [Exit.jump]
          exact bodyPost_ret (v := .tuple #[zeroTok, .int .i64 0, .int .i64 3]) (by simp [results, Try.results19, go_sem, zeroTok]) rfl ⟨by rw [HN.out]; rfl, (by repeat (first | exact Below.refl _ _ | (refine Below.setCell ?_ (by simp) _) | (refine Below.alloc ?_ (by simp) _)))⟩
      · have hq92 : ((c : Int) == 92) = false := by simp; omega
        by_cases h10 : c = 10
        · subst h10
          have HN := Lib.hid ((HQ.out.trans (congrArg _ (quotAt_10 u k hlt HC.out))))
          go_wp2
          try simp only [Exit.jump]
          exact bodyPost_ret (v := .tuple #[zeroTok, .int .i64 0, .int .i64 3]) (by simp [results, Try.results19, go_sem, zeroTok]) rfl ⟨by rw [HN.out]; rfl, (by repeat (first | exact Below.refl _ _ | (refine Below.setCell ?_ (by simp) _) | (refine Below.alloc ?_ (by simp) _)))⟩
        · have hq10 : ((c : Int) == 10) = false := by simp; omega
          by_cases h34 : c = 34
          · subst h34
            have HN : Hid (quotAt u 1 = some k) := Lib.hid ((HQ.out.trans (congrArg _ (quotAt_34 u k hlt HC.out))).trans (by simp; omega))
            by_cases hbig : 200 < (k : Int) - 1
            · go_wp2
              try simp only [Exit.jump]
              exact bodyPost_ret (v := .tuple #[zeroTok, .int .i64 0, .int .i64 5]) (by simp [results, Try.results19, go_sem, zeroTok]) rfl ⟨by rw [HN.out]; simp only [textR]; rw [if_pos (by omega)], (by repeat (first | exact Below.refl _ _ | (refine Below.setCell ?_ (by simp) _) | (refine Below.alloc ?_ (by simp) _)))⟩
            · have i1 : (1 : Int) ≤ (k : Int) := by omega
              have i2 : (k : Int) ≤ (u.size : Int) := by omega
              have hsl : ∀ wx : World, (Instr.slice 9 (.string u) (some (.int .i64 1)) (some (.int .i64 (k : Int))) none).run Try.prog wx = .ok (.string (u.extract 1 k)) wx := fun wx => slice_1 u k hk1 hk2 wx
              go_wp2
              try simp only [Exit.jump]
              exact bodyPost_ret (v := .tuple #[Tok 3 0 0 (u.extract 1 k) 0, .int .i64 ((k : Int) + 1), .int .i64 0]) (by simp [results, Try.results19, go_sem, Tok]) rfl ⟨by rw [HN.out]; simp only [textR]; rw [if_neg (by omega)], (by repeat (first | exact Below.refl _ _ | (refine Below.setCell ?_ (by simp) _) | (refine Below.alloc ?_ (by simp) _)))⟩
          · have hne : ((c : Int) != 34) = true := by simp; omega
            have hnx : Hid (quotAt u 1 = (quotAt u (k + 1)).map (· + (k + 1 - 1))) := Lib.hid (quot_go1 u k hk1 HQ.out (quotAt_else u k hlt (by rw [HC.out]; exact h34) (by rw [HC.out]; exact h10) (by rw [HC.out]; exact h92)))
            go_wp2
            go_step3
            (rw [show (k : Int) + 1 = ((k + 1 : Nat) : Int) from by simp]); exact ⟨rfl, u.size + 1 - (k + 1), rfl, k + 1, rfl, by omega, by omega, hnx.out, _, _, _, _, _, _, _, _, _, _, _, _, _, _, _, _, _, _, _, _, _, _, _, _, _, _, _, _, _, _, _, _, _, _, _, _, _, _, _, _, _, _, _, _, _, _, _, _, _, _, _, rfl⟩
    · have HN := Lib.hid ((HQ.out.trans (congrArg _ (quotAt_end u k (by omega)))))
      go_wp2
      try simp only [Exit.jump]
      exact bodyPost_ret (v := .tuple #[zeroTok, .int .i64 0, .int .i64 3]) (by simp [results, Try.results19, go_sem, zeroTok]) rfl ⟨by rw [HN.out]; rfl, (by repeat (first | exact Below.refl _ _ | (refine Below.setCell ?_ (by simp) _) | (refine Below.alloc ?_ (by simp) _)))⟩

  · rintro m a' w' ⟨rfl, k, rfl, hk1, hk2, hQ, x6, x7, x8, x9, x10, x11, x12, x13, x14, x15, x16, x17, x18, x19, x20, x21, x22, x23, x24, x25, x26, x27, x28, x29, x30, x31, x32, x33, x34, x35, x36, x37, x38, x39, x40, x41, x42, x43, x44, x45, x46, x47, x48, x49, x50, x51, x52, x53, x54, x55, x56, rfl⟩
    have HQ := Lib.hid hQ
    clear hQ
    by_cases hlt : k < u.size
    · obtain ⟨c, hc⟩ : ∃ c, byt u k = c := ⟨_, rfl⟩
      have hcu := byt_at u k hlt
      rw [hc] at hcu
      have HC := Lib.hid hc
      clear hc
      by_cases h92 : c = 92
      · subst h92
        by_cases hl2 : k + 1 < u.size
        · obtain ⟨d, hd⟩ : ∃ d, byt u (k + 1) = d := ⟨_, rfl⟩
          have hdu := byt_at u (k + 1) hl2
          rw [hd] at hdu
          have HD := Lib.hid hd
          clear hd
          by_cases h10 : d = 10
          · subst h10
            have HN := Lib.hid ((HQ.out.trans (congrArg _ (quotAt_92_10 u k hlt HC.out hl2 HD.out))))
            go_wp2
            try simp only [Exit.jump]
            exact bodyPost_ret (v := .tuple #[zeroTok, .int .i64 0, .int .i64 3]) (by simp [results, Try.results19, go_sem, zeroTok]) rfl ⟨by rw [HN.out]; rfl, (by repeat (first | exact Below.refl _ _ | (refine Below.setCell ?_ (by simp) _) | (refine Below.alloc ?_ (by simp) _)))⟩
          · have hnx : Hid (quotAt u 1 = (quotAt u (k + 2)).map (· + (k + 2 - 1))) := Lib.hid (quot_go2 u k hk1 HQ.out (quotAt_92 u k hlt HC.out hl2 (by rw [HD.out]; exact h10)))
            have hne : ((d : Int) != 10) = true := by simp; omega
            go_wp2
            go_step3
            (rw [show (k : Int) + 1 + 1 = ((k + 2 : Nat) : Int) from by simp; omega]); exact ⟨rfl, u.size + 1 - (k + 2), by omega, rfl, k + 2, rfl, by omega, by omega, hnx.out, _, _, _, _, _, _, _, _, _, _, _, _, _, _, _, _, _, _, _, _, _, _, _, _, _, _, _, _, _, _, _, _, _, _, _, _, _, _, _, _, _, _, _, _, _, _, _, _, _, _, _, rfl⟩
        · have HN := Lib.hid ((HQ.out.trans (congrArg _ (quotAt_92_end u k hlt HC.out (by omega)))))
          go_wp2
          try simp only [Exit.jump]
          exact bodyPost_ret (v := .tuple #[zeroTok, .int .i64 0, .int .i64 3]) (by simp [results, Try.results19, go_sem, zeroTok]) rfl ⟨by rw [HN.out]; rfl, (by repeat (first | exact Below.refl _ _ | (refine Below.setCell ?_ (by simp) _) | (refine Below.alloc ?_ (by simp) _)))⟩
      · have hq92 : ((c : Int) == 92) = false := by simp; omega
        by_cases h10 : c = 10
        · subst h10
          have HN := Lib.hid ((HQ.out.trans (congrArg _ (quotAt_10 u k hlt HC.out))))
          go_wp2
          try simp only [Exit.jump]
          exact bodyPost_ret (v := .tuple #[zeroTok, .int .i64 0, .int .i64 3]) (by simp [results, Try.results19, go_sem, zeroTok]) rfl ⟨by rw [HN.out]; rfl, (by repeat (first | exact Below.refl _ _ | (refine Below.setCell ?_ (by simp) _) | (refine Below.alloc ?_ (by simp) _)))⟩
        · have hq10 : ((c : Int) == 10) = false := by simp; omega
          by_cases h34 : c = 34
          · subst h34
            have HN : Hid (quotAt u 1 = some k) := Lib.hid ((HQ.out.trans (congrArg _ (quotAt_34 u k hlt HC.out))).trans (by simp; omega))
            by_cases hbig : 200 < (k : Int) - 1
            · go_wp2
              try simp only [Exit.jump]
              exact bodyPost_ret (v := .tuple #[zeroTok, .int .i64 0, .int .i64 5]) (by simp [results, Try.results19, go_sem, zeroTok]) rfl ⟨by rw [HN.out]; simp only [textR]; rw [if_pos (by omega)], (by repeat (first | exact Below.refl _ _ | (refine Below.setCell ?_ (by simp) _) | (refine Below.alloc ?_ (by simp) _)))⟩
            · have i1 : (1 : Int) ≤ (k : Int) := by omega
              have i2 : (k : Int) ≤ (u.size : Int) := by omega
              have hsl : ∀ wx : World, (Instr.slice 9 (.string u) (some (.int .i64 1)) (some (.int .i64 (k : Int))) none).run Try.prog wx = .ok (.string (u.extract 1 k)) wx := fun wx => slice_1 u k hk1 hk2 wx
              go_wp2
              try simp only [Exit.jump]
              exact bodyPost_ret (v := .tuple #[Tok 3 0 0 (u.extract 1 k) 0, .int .i64 ((k : Int) + 1), .int .i64 0]) (by simp [results, Try.results19, go_sem, Tok]) rfl ⟨by rw [HN.out]; simp only [textR]; rw [if_neg (by omega)], (by repeat (first | exact Below.refl _ _ | (refine Below.setCell ?_ (by simp) _) | (refine Below.alloc ?_ (by simp) _)))⟩
          · have hne : ((c : Int) != 34) = true := by simp; omega
            have hnx : Hid (quotAt u 1 = (quotAt u (k + 1)).map (· + (k + 1 - 1))) := Lib.hid (quot_go1 u k hk1 HQ.out (quotAt_else u k hlt (by rw [HC.out]; exact h34) (by rw [HC.out]; exact h10) (by rw [HC.out]; exact h92)))
            go_wp2
            go_step3
            (rw [show (k : Int) + 1 = ((k + 1 : Nat) : Int) from by simp]); exact ⟨rfl, u.size + 1 - (k + 1), by omega, rfl, k + 1, rfl, by omega, by omega, hnx.out, _, _, _, _, _, _, _, _, _, _, _, _, _, _, _, _, _, _, _, _, _, _, _, _, _, _, _, _, _, _, _, _, _, _, _, _, _, _, _, _, _, _, _, _, _, _, _, _, _, _, _, rfl⟩
    · have HN := Lib.hid ((HQ.out.trans (congrArg _ (quotAt_end u k (by omega)))))
      go_wp2
      try simp only [Exit.jump]
      exact bodyPost_ret (v := .tuple #[zeroTok, .int .i64 0, .int .i64 3]) (by simp [results, Try.results19, go_sem, zeroTok]) rfl ⟨by rw [HN.out]; rfl, (by repeat (first | exact Below.refl _ _ | (refine Below.setCell ?_ (by simp) _) | (refine Below.alloc ?_ (by simp) _)))⟩

end Go.Proofs.Ytmkfcoeefopmiaa
