/- The contract of readName. -/
import Derived.Test.YtmkfcoeefopmiaaSmall
import Derived.Test.YtmkfcoeefopmiaaScope
namespace Go.Proofs.Ytmkfcoeefopmiaa
open Go.ChangeShapes Go.WideShapes Go.ChangeAt Go.RowKit

def isLD (c : Nat) : Bool := isL c || isD c

/-- Byte i of a text. -/
def byt (u : ByteArray) (i : Nat) : Nat := (u.data.toList.getD i 0).toNat
theorem byt_at (u : ByteArray) (i : Nat) (h : i < u.size) : u[i].toNat = byt u i := by
  unfold byt
  have h' : i < u.data.toList.length := by simpa using h
  rw [List.getD_eq_getElem?_getD, List.getElem?_eq_getElem h']
  rfl
theorem byt_get (u : ByteArray) (i : Nat) (h : i < u.data.toList.length) : u.data.toList[i].toNat = byt u i := by
  unfold byt; rw [List.getD_eq_getElem?_getD, List.getElem?_eq_getElem h]; rfl

def zeroTok : Value := .agg #[.int .i64 0, .int .i64 0, .int .i64 0, .string ⟨#[]⟩, .int .i64 0]
def Tok (kind at' line : Int) (text : ByteArray) (n : Int) : Value := .agg #[.int .i64 kind, .int .i64 at', .int .i64 line, .string text, .int .i64 n]

set_option maxRecDepth 1000000 in
set_option maxHeartbeats 1000000 in
theorem name_any (u : ByteArray) (w : World) (h1 : 1 ≤ u.size) (h2 : u.size ≤ 65535) (h0 : isLD (byt u 0) = true) (n : Nat) (hn : Hid (run isLD u.data.toList = n)) :
    Calls Try.prog 15 #[.string u] w fun e w' => e = .returned (if n ≤ 32 then .tuple #[Tok 1 0 0 (u.extract 0 n) 0, .int .i64 n, .int .i64 0] else .tuple #[zeroTok, .int .i64 0, .int .i64 5]) ∧ Below w.heap.size w w' := by
  have H0 := Lib.hid h0
  clear h0
  go_enter Try.func15, Try.ntmps15
  go_wp2
  refine wp_scope_ghost 0 (fun m a' w' => w' = w.alloc (.cells #[.int .i64 0, .int .i64 0, .int .i64 0, .string ⟨#[]⟩, .int .i64 0] 27) ∧ ∃ k : Nat, m = u.size - k ∧ 1 ≤ k ∧ k ≤ u.size ∧ (∀ i, i < k → isLD (byt u i) = true) ∧ ∃ x6 x7 x8 x9 x10 x11 x12 x13 x14 x15 x16 x17 x18 x19 x20 x21 x22 x23 x24 x25 x26 x27 x28 x29 x30 x31 : Value, a' = { tmps := #[.string u, undef, .pointer (some ⟨w.heap.size, 0, none⟩), .int .i64 0, .int .i64 0, .int .i64 k, x6, x7, x8, x9, x10, x11, x12, x13, x14, x15, x16, x17, x18, x19, x20, x21, x22, x23, x24, x25, x26, x27, x28, x29, x30, x31], defers := [] }) rfl ?_ ?_
  · go_wp2
    go_step3
    obtain ⟨k, hk, hk1, hk2, HA⟩ : ∃ k : Nat, 1 = k ∧ 1 ≤ k ∧ k ≤ u.size ∧ Hid (∀ i, i < k → isLD (byt u i) = true) := ⟨1, rfl, Nat.le_refl _, h1, Lib.hid fun i hi => by rw [show i = 0 by omega]; exact H0.out⟩
    rw [show Value.int IntKind.i64 1 = Value.int IntKind.i64 (k : Int) from by rw [← hk]; rfl]
    clear hk
    have hex : Hid (∀ he : (∀ hk' : k < u.size, isLD (byt u k) = false), n = k) := Lib.hid fun he => by
      rw [← hn.out]
      exact run_eq isLD u.data.toList k (by simpa using hk2) (fun i hi hik => by rw [byt_get u i hi]; exact HA.out i hik) (fun hk' => by rw [byt_get u k hk']; exact he (by simpa using hk'))
    by_cases hlt : k < u.size
    · obtain ⟨c, hc⟩ : ∃ c, byt u k = c := ⟨_, rfl⟩
      have hcu := byt_at u k hlt
      rw [hc] at hcu hex
      have HC := Lib.hid hc
      clear hc
      by_cases hld : isLD c = true
      · have hnx : Hid (∀ i, i < k + 1 → isLD (byt u i) = true) := Lib.hid fun i hi => by
          by_cases hik : i < k
          · exact HA.out i hik
          · rw [show i = k by omega, HC.out]; exact hld
        by_cases hl : isL c = true
        · clear hld hex
          go_wp2_with (first | (go_at_call 14; refine (isL_any _ _).mono ?_; rintro e w' ⟨rfl, rfl⟩) | (go_at_call 16; refine (isD_any _ _).mono ?_; rintro e w' ⟨rfl, rfl⟩))
          go_step3
          (rw [show (k : Int) + 1 = ((k + 1 : Nat) : Int) from by simp]); exact ⟨rfl, u.size - (k + 1), rfl, k + 1, rfl, by omega, by omega, hnx.out, _, _, _, _, _, _, _, _, _, _, _, _, _, _, _, _, _, _, _, _, _, _, _, _, _, _, by rfl⟩
        · have hl2 : isL c = false := by simpa using hl
          have hd : isD c = true := by unfold isLD at hld; rw [hl2] at hld; simpa using hld
          clear hld hl hex
          go_wp2_with (first | (go_at_call 14; refine (isL_any _ _).mono ?_; rintro e w' ⟨rfl, rfl⟩) | (go_at_call 16; refine (isD_any _ _).mono ?_; rintro e w' ⟨rfl, rfl⟩))
          go_step3
          (rw [show (k : Int) + 1 = ((k + 1 : Nat) : Int) from by simp]); exact ⟨rfl, u.size - (k + 1), rfl, k + 1, rfl, by omega, by omega, hnx.out, _, _, _, _, _, _, _, _, _, _, _, _, _, _, _, _, _, _, _, _, _, _, _, _, _, _, by rfl⟩
      · have hl2 : isL c = false := by unfold isLD at hld; simp at hld; exact hld.1
        have hd : isD c = false := by unfold isLD at hld; simp at hld; exact hld.2
        have hnk := hex.out fun _ => by simpa using hld
        have HN := Lib.hid hnk
        clear hld hex hnk
        by_cases h32 : 32 < (k : Int)
        all_goals
          go_wp2_with (first | (go_at_call 14; refine (isL_any _ _).mono ?_; rintro e w' ⟨rfl, rfl⟩) | (go_at_call 16; refine (isD_any _ _).mono ?_; rintro e w' ⟨rfl, rfl⟩))
          (try simp only [Exit.jump]); first | exact bodyPost_ret (v := .tuple #[zeroTok, .int .i64 0, .int .i64 5]) (by simp [results, Try.results15, go_sem, zeroTok]) rfl ⟨by rw [HN.out, if_neg (by omega)], (by repeat (first | exact Below.refl _ _ | (refine Below.setCell ?_ (by simp) _) | (refine Below.alloc ?_ (by simp) _)))⟩ | exact bodyPost_ret (v := .tuple #[Tok 1 0 0 (u.extract 0 k) 0, .int .i64 k, .int .i64 0]) (by simp [results, Try.results15, go_sem, Tok]) rfl ⟨by rw [HN.out, if_pos (by omega)], (by repeat (first | exact Below.refl _ _ | (refine Below.setCell ?_ (by simp) _) | (refine Below.alloc ?_ (by simp) _)))⟩
    · have hnk := hex.out fun h => absurd h hlt
      have HN := Lib.hid hnk
      clear hex hnk
      by_cases h32 : 32 < (k : Int)
      all_goals
        go_wp2
        (try simp only [Exit.jump]); first | exact bodyPost_ret (v := .tuple #[zeroTok, .int .i64 0, .int .i64 5]) (by simp [results, Try.results15, go_sem, zeroTok]) rfl ⟨by rw [HN.out, if_neg (by omega)], (by repeat (first | exact Below.refl _ _ | (refine Below.setCell ?_ (by simp) _) | (refine Below.alloc ?_ (by simp) _)))⟩ | exact bodyPost_ret (v := .tuple #[Tok 1 0 0 (u.extract 0 k) 0, .int .i64 k, .int .i64 0]) (by simp [results, Try.results15, go_sem, Tok]) rfl ⟨by rw [HN.out, if_pos (by omega)], (by repeat (first | exact Below.refl _ _ | (refine Below.setCell ?_ (by simp) _) | (refine Below.alloc ?_ (by simp) _)))⟩

  · rintro m a' w' ⟨rfl, k, rfl, hk1, hk2, hA, x6, x7, x8, x9, x10, x11, x12, x13, x14, x15, x16, x17, x18, x19, x20, x21, x22, x23, x24, x25, x26, x27, x28, x29, x30, x31, rfl⟩
    have HA := Lib.hid hA
    clear hA
    have hex : Hid (∀ he : (∀ hk' : k < u.size, isLD (byt u k) = false), n = k) := Lib.hid fun he => by
      rw [← hn.out]
      exact run_eq isLD u.data.toList k (by simpa using hk2) (fun i hi hik => by rw [byt_get u i hi]; exact HA.out i hik) (fun hk' => by rw [byt_get u k hk']; exact he (by simpa using hk'))
    by_cases hlt : k < u.size
    · obtain ⟨c, hc⟩ : ∃ c, byt u k = c := ⟨_, rfl⟩
      have hcu := byt_at u k hlt
      rw [hc] at hcu hex
      have HC := Lib.hid hc
      clear hc
      by_cases hld : isLD c = true
      · have hnx : Hid (∀ i, i < k + 1 → isLD (byt u i) = true) := Lib.hid fun i hi => by
          by_cases hik : i < k
          · exact HA.out i hik
          · rw [show i = k by omega, HC.out]; exact hld
        by_cases hl : isL c = true
        · clear hld hex
          go_wp2_with (first | (go_at_call 14; refine (isL_any _ _).mono ?_; rintro e w' ⟨rfl, rfl⟩) | (go_at_call 16; refine (isD_any _ _).mono ?_; rintro e w' ⟨rfl, rfl⟩))
          go_step3
          exact ⟨rfl, u.size - (k + 1), by omega, rfl, k + 1, rfl, by omega, by omega, hnx.out, _, _, _, _, _, _, _, _, _, _, _, _, _, _, _, _, _, _, _, _, _, _, _, _, _, _, rfl⟩
        · have hl2 : isL c = false := by simpa using hl
          have hd : isD c = true := by unfold isLD at hld; rw [hl2] at hld; simpa using hld
          clear hld hl hex
          go_wp2_with (first | (go_at_call 14; refine (isL_any _ _).mono ?_; rintro e w' ⟨rfl, rfl⟩) | (go_at_call 16; refine (isD_any _ _).mono ?_; rintro e w' ⟨rfl, rfl⟩))
          go_step3
          exact ⟨rfl, u.size - (k + 1), by omega, rfl, k + 1, rfl, by omega, by omega, hnx.out, _, _, _, _, _, _, _, _, _, _, _, _, _, _, _, _, _, _, _, _, _, _, _, _, _, _, rfl⟩
      · have hl2 : isL c = false := by unfold isLD at hld; simp at hld; exact hld.1
        have hd : isD c = false := by unfold isLD at hld; simp at hld; exact hld.2
        have hnk := hex.out fun _ => by simpa using hld
        have HN := Lib.hid hnk
        clear hld hex hnk
        by_cases h32 : 32 < (k : Int)
        all_goals
          go_wp2_with (first | (go_at_call 14; refine (isL_any _ _).mono ?_; rintro e w' ⟨rfl, rfl⟩) | (go_at_call 16; refine (isD_any _ _).mono ?_; rintro e w' ⟨rfl, rfl⟩))
          (try simp only [Exit.jump]); first | exact bodyPost_ret (v := .tuple #[zeroTok, .int .i64 0, .int .i64 5]) (by simp [results, Try.results15, go_sem, zeroTok]) rfl ⟨by rw [HN.out, if_neg (by omega)], (by repeat (first | exact Below.refl _ _ | (refine Below.setCell ?_ (by simp) _) | (refine Below.alloc ?_ (by simp) _)))⟩ | exact bodyPost_ret (v := .tuple #[Tok 1 0 0 (u.extract 0 k) 0, .int .i64 k, .int .i64 0]) (by simp [results, Try.results15, go_sem, Tok]) rfl ⟨by rw [HN.out, if_pos (by omega)], (by repeat (first | exact Below.refl _ _ | (refine Below.setCell ?_ (by simp) _) | (refine Below.alloc ?_ (by simp) _)))⟩
    · have hnk := hex.out fun h => absurd h hlt
      have HN := Lib.hid hnk
      clear hex hnk
      by_cases h32 : 32 < (k : Int)
      all_goals
        go_wp2
        (try simp only [Exit.jump]); first | exact bodyPost_ret (v := .tuple #[zeroTok, .int .i64 0, .int .i64 5]) (by simp [results, Try.results15, go_sem, zeroTok]) rfl ⟨by rw [HN.out, if_neg (by omega)], (by repeat (first | exact Below.refl _ _ | (refine Below.setCell ?_ (by simp) _) | (refine Below.alloc ?_ (by simp) _)))⟩ | exact bodyPost_ret (v := .tuple #[Tok 1 0 0 (u.extract 0 k) 0, .int .i64 k, .int .i64 0]) (by simp [results, Try.results15, go_sem, Tok]) rfl ⟨by rw [HN.out, if_pos (by omega)], (by repeat (first | exact Below.refl _ _ | (refine Below.setCell ?_ (by simp) _) | (refine Below.alloc ?_ (by simp) _)))⟩

end Go.Proofs.Ytmkfcoeefopmiaa
