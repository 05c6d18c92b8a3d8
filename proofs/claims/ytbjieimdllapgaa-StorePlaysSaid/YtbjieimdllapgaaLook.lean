/- Contracts of store.place and store's look. -/
import Derived.Test.YtbjieimdllapgaaRows
import Derived.Test.YtbjieimdllapgaaMath
import Derived.WalkKit
import Derived.ProofKit
import Derived.Below
import Derived.Outline
import Derived.Lib.Hide
import Derived.Test.YtbjieimdllapgaaScope
namespace Go.Proofs.Ytbjieimdllapgaa
open Go.ChangeShapes Go.WideShapes Go.ChangeAt Go.RowKit

theorem ret_int {k : IntKind} {a b : Int} (h : a = b) : Ending.returned (.int k a) = .returned (.int k b) := by rw [h]
theorem take_snoc (s : ByteArray) (k : Nat) (h : k < s.size) : s.data.toList.take (k + 1) = s.data.toList.take k ++ [s[k]] := by
  rw [List.take_succ_eq_append_getElem (by simpa using h)]; rfl

set_option maxHeartbeats 400000 in
theorem place_any (key : ByteArray) (sb : Addr) (L : Nat) (w : World) (hs : key.size ≤ maxLen) (hL : 1 ≤ L) (hL2 : L ≤ 65536) :
    Calls Try.prog 55 #[.string key, .slice (some sb) L L] w fun e w' => e = .returned (.int .i64 (place key L)) ∧ w = w' := by
  unfold maxLen at hs
  have hr := place_range key L hL hL2
  go_enter Try.func55, Try.ntmps55
  go_wp2
  go_loop [5, 6, 9] (fun h _ i => ∃ k : Nat, k ≤ key.size ∧ i = .int .i64 k ∧ h = .int .u64 (fnv (key.data.toList.take k) 14695981039346656037)) (fun _ _ i => key.size - (intOf i).toNat)
  case atStart => exact ⟨0, Nat.zero_le _, rfl, rfl⟩
  case round =>
    obtain ⟨k, hk, rfl, rfl⟩ := hrel
    by_cases hlt : k < key.size
    · have hsn := Lib.hid (fnv_snoc (key.data.toList.take k) key[k] 14695981039346656037)
      have hts := Lib.hid (take_snoc key k hlt)
      go_wp2
      go_round
      case rel => exact ⟨k + 1, by omega, by go_num, by rw [hts.out, hsn.out]⟩
      case measure => simp [intOf]; omega
    · have hfull : Hid (key.data.toList.take k = key.data.toList) := Lib.hid (List.take_of_length_le (by simp; omega))
      have hw := Lib.hid (show wrap64 (place key L) = place key L by unfold wrap64; omega)
      go_wp2
      go_ret
      exact ⟨ret_int (by rw [hfull.out]; exact hw.out), rfl⟩

theorem place_as (key : ByteArray) (sb : Addr) (L x : Nat) (h : Hid (place key L = (x : Int))) (w : World) (hs : key.size ≤ maxLen) (hL : 1 ≤ L) (hL2 : L ≤ 65536) :
    Calls Try.prog 55 #[.string key, .slice (some sb) L L] w fun e w' => e = .returned (.int .i64 x) ∧ w = w' := by
  rw [← h.out]; exact place_any key sb L w hs hL hL2

theorem bytes_eq {a b : ByteArray} (h : a.toList = b.toList) : a = b := by
  rw [ByteArray.toList_eq, ByteArray.toList_eq] at h
  exact ByteArray.ext (Array.toList_inj.mp h)

/-- What look needs of memory. -/
structure Sees (w : World) (b sb : Nat) (L : Nat) (kv : Value) (keys : List ByteArray) (slots : List Int) : Prop where
  f1 : w.cell? ⟨b, 1, none⟩ = some kv
  f3 : w.cell? ⟨b, 3, none⟩ = some (.slice (some ⟨sb, 0, none⟩) L L)
  slot : ∀ i, i < L → w.cell? ⟨sb, i, none⟩ = some (.int .i32 (slots.getD i 0))
  key : keys = [] ∨ ∃ kb cap, kv = .slice (some ⟨kb, 0, none⟩) keys.length cap ∧ ∀ i, i < keys.length → w.cell? ⟨kb, i, none⟩ = some (.string (keys.getD i ByteArray.empty))

theorem mod_step (x n : Nat) (h : n ≤ 16) : bits .and .i64 (((x % 2 ^ n : Nat) : Int) + 1) (((2 ^ n : Nat) : Int) - 1) = (((x + 1) % 2 ^ n : Nat) : Int) := by
  have := bits_low n (by omega) (((x % 2 ^ n : Nat) : Int) + 1)
  rw [show (((2 ^ n : Nat) : Int) - 1) = 2 ^ n - 1 by simp, this]
  rw [show ((2 : Int) ^ n) = ((2 ^ n : Nat) : Int) by simp, show (((x % 2 ^ n : Nat) : Int) + 1) = ((x % 2 ^ n + 1 : Nat) : Int) by simp, ← Int.natCast_emod]
  congr 1
  exact Nat.mod_add_mod x (2 ^ n) 1

theorem next_stop (key : ByteArray) (n d D : Nat) (S : Nat → Prop) (hS : S ((pl key n + D) % 2 ^ n)) (hd : d ≤ D) (hno : ¬ S ((pl key n + d) % 2 ^ n)) : d + 1 ≤ D := by
  rcases Nat.lt_or_ge d D with h | h
  · exact h
  · have : d = D := by omega
    subst this
    exact absurd hS hno

set_option maxRecDepth 1000000 in
set_option maxHeartbeats 1000000 in
theorem look_any (b sb : Nat) (kv : Value) (keys : List ByteArray) (j n L : Nat) (slots : List Int) (key : ByteArray) (w : World) (hs : key.size ≤ maxLen)
    (hj : j ≤ keys.length) (h : Tab keys j slots n) (hfree : j < 2 ^ n) (hL : Hid (L = 2 ^ n)) (hsee : Sees w b sb L kv keys slots) :
    Calls Try.prog 48 #[.pointer (some ⟨b, 0, none⟩), .string key] w fun e w' => (∃ at' : Nat, at' < L ∧ Looked keys slots n key at' ∧ e = .returned (.int .i64 at')) ∧ w = w' := by
  obtain ⟨d0, hd0, hs0⟩ := h.stops hfree key
  obtain ⟨D, hD, hst, hno⟩ := first_stop (fun d => Stop keys slots key ((pl key n + d) % 2 ^ n)) d0 hs0
  clear hs0 hd0 hD
  have hn := h.hi
  have h2 : 1 ≤ L ∧ L ≤ 65536 := by rw [hL.out]; exact two_pow_le n hn
  have hP := Lib.hid (place_pl key n hn)
  have hplt : pl key n < L := by rw [hL.out]; exact pl_lt key n hn
  have hrange := Lib.hid h.range
  have hmod : Hid (∀ x : Nat, bits .and .i64 (((x % 2 ^ n : Nat) : Int) + 1) ((L : Int) - 1) = (((x + 1) % 2 ^ n : Nat) : Int)) := Lib.hid (by rw [hL.out]; exact fun x => mod_step x n hn)
  have hlt : Hid (∀ x : Nat, x % 2 ^ n < L) := Lib.hid (by rw [hL.out]; exact fun x => Nat.mod_lt _ (Nat.two_pow_pos n))
  have hst := Lib.hid hst
  have hno := Lib.hid hno
  have h0 : Hid ((pl key n + 0) % 2 ^ n = pl key n) := Lib.hid (Nat.mod_eq_of_lt (by rw [← hL.out]; exact hplt))
  obtain ⟨f1, f3, fs, fk⟩ := hsee
  have FS := Lib.hid fs
  have FK := Lib.hid fk
  have HjL : Hid (j < L) := Lib.hid (by rw [hL.out]; exact hfree)
  have hjL : j < L := by rw [hL.out]; exact hfree
  clear fs fk h hfree
  obtain ⟨x0, hx0⟩ : ∃ x, pl key n = x := ⟨_, rfl⟩
  have HX0 := Lib.hid hx0
  have HP : Hid (place key L = (x0 : Int)) := Lib.hid (by rw [hL.out, hP.out, hx0])
  clear hx0
  go_enter Try.func48, Try.ntmps48
  go_wp2
  refine wp_scope_ghost 0 (fun m a' w' => w' = w ∧ ∃ (d x : Nat), m = D - d ∧ d ≤ D ∧ x = (pl key n + d) % 2 ^ n ∧ ∃ u6 u7 u8 u9 u10 u11 u12 u13 u14 u15 u16 u17 u18 u19 u20 u21 u22 u23 u24 u25 u26 u27 u28 u29 u30 u31 u32 u33 u34 u35 u36 u37 u38 u39 u40 u41 u42 u43 : Value, a' = { tmps := #[.pointer (some ⟨b, 0, none⟩), .string key, undef, undef, .int .i64 0, .int .i64 x, u6, u7, u8, u9, u10, u11, u12, u13, u14, u15, u16, u17, u18, u19, u20, u21, u22, u23, u24, u25, u26, u27, u28, u29, u30, u31, u32, u33, u34, u35, u36, u37, u38, u39, u40, u41, u42, u43], defers := [] }) rfl ?_ ?_
  · go_wp2_with (go_at_call 55; refine (place_as _ _ _ _ HP _ hs h2.1 h2.2).mono ?_; rintro e w' ⟨rfl, rfl⟩)
    go_step3
    obtain ⟨d, hd, hx⟩ : ∃ d, d ≤ D ∧ Hid (x0 = (pl key n + d) % 2 ^ n) := ⟨0, Nat.zero_le _, Lib.hid (by rw [h0.out, HX0.out])⟩
    clear HP HX0 h0 hP hplt
    generalize x0 = x at *
    have hxL : x < L := by rw [hx.out]; exact hlt.out _
    have fx := FS.out x hxL
    have hr := hrange.out x
    have hgo : Hid (∀ h : ¬ Stop keys slots key x, d + 1 ≤ D) := Lib.hid fun h => next_stop key n d D _ hst.out hd (by rw [← hx.out]; exact h)
    have hnext : Hid (bits .and .i64 ((x : Int) + 1) ((L : Int) - 1) = (((pl key n + (d + 1)) % 2 ^ n : Nat) : Int)) := Lib.hid (by rw [hx.out, hmod.out]; rfl)
    have hdone : Hid (∀ h : Stop keys slots key x, Looked keys slots n key x) := Lib.hid fun h => ⟨d, hx.out, h, fun d' hd' => hno.out d' (by omega)⟩
    have hS : Hid (Stop keys slots key x ↔ (slots.getD x 0 = 0 ∨ keyAt keys (slots.getD x 0) = key)) := Lib.hid Iff.rfl
    obtain ⟨V, hV⟩ : ∃ V, slots.getD x 0 = V := ⟨_, rfl⟩
    rw [hV] at fx hr hS
    have HV := Lib.hid hV
    clear hV
    by_cases hz : V = 0
    · have hzq : (V == 0) = true := by simp [hz]
      have hd1 := Lib.hid (hdone.out (hS.out.2 (.inl hz)))
      clear hz
      go_wp2
      first | go_ret | (show bodyPost Try.prog Try.f48 _ Exit.ret _ _; go_ret) | (simp only [Exit.jump]; show bodyPost Try.prog Try.f48 _ Exit.ret _ _; go_ret)
      exact ⟨⟨x, hxL, hd1.out, rfl⟩, rfl⟩
    · obtain ⟨v, rfl⟩ : ∃ v : Nat, V = v + 1 := ⟨(V - 1).toNat, by omega⟩
      have hzq : (((v : Int) + 1) == 0) = false := by simp; omega
      clear hz
      rcases FK.out with hk | ⟨kb, cap, hkv, hkc⟩
      · rw [hk] at hj; simp at hj; omega
      · have f1' := f1
        rw [hkv] at f1'
        have hkeyc := hkc v (by omega)
        have hvK : v < keys.length := by omega
        have hka : keyAt keys ((v : Int) + 1) = keys.getD v ByteArray.empty := by unfold keyAt; congr 1; omega
        rw [← hka] at hkeyc
        obtain ⟨K, hK⟩ : ∃ K, keyAt keys ((v : Int) + 1) = K := ⟨_, rfl⟩
        rw [hK] at hkeyc hS
        have hv0 : 0 ≤ (v : Int) := by omega
        have hv1 : (v : Int) ≤ 65536 := by omega
        clear hka hK hkc f1
        by_cases hke : K = key
        · have hd1 := Lib.hid (hdone.out (hS.out.2 (.inr hke)))
          subst hke
          go_wp2
          first | go_ret | (show bodyPost Try.prog Try.f48 _ Exit.ret _ _; go_ret) | (simp only [Exit.jump]; show bodyPost Try.prog Try.f48 _ Exit.ret _ _; go_ret)
          exact ⟨⟨x, hxL, hd1.out, rfl⟩, rfl⟩
        · have hkq : (K.toList == key.toList) = false := by
            rw [beq_eq_false_iff_ne]; exact fun he => hke (bytes_eq he)
          have hg1 := hgo.out fun h => by
            rcases hS.out.1 h with h | h
            · omega
            · exact hke h
          go_wp2
          go_step3
          rw [hnext.out]
          exact ⟨rfl, D - (d + 1), rfl, d + 1, _, rfl, hg1, rfl, _, _, _, _, _, _, _, _, _, _, _, _, _, _, _, _, _, _, _, _, _, _, _, _, _, _, _, _, _, _, _, _, _, _, _, _, _, _, rfl⟩

  · rintro m a' w' ⟨rfl, d, x, rfl, hd, hxo, u6, u7, u8, u9, u10, u11, u12, u13, u14, u15, u16, u17, u18, u19, u20, u21, u22, u23, u24, u25, u26, u27, u28, u29, u30, u31, u32, u33, u34, u35, u36, u37, u38, u39, u40, u41, u42, u43, rfl⟩
    have hx := Lib.hid hxo
    clear hxo
    clear HP HX0 h0 hP hplt
    have hxL : x < L := by rw [hx.out]; exact hlt.out _
    have fx := FS.out x hxL
    have hr := hrange.out x
    have hgo : Hid (∀ h : ¬ Stop keys slots key x, d + 1 ≤ D) := Lib.hid fun h => next_stop key n d D _ hst.out hd (by rw [← hx.out]; exact h)
    have hnext : Hid (bits .and .i64 ((x : Int) + 1) ((L : Int) - 1) = (((pl key n + (d + 1)) % 2 ^ n : Nat) : Int)) := Lib.hid (by rw [hx.out, hmod.out]; rfl)
    have hdone : Hid (∀ h : Stop keys slots key x, Looked keys slots n key x) := Lib.hid fun h => ⟨d, hx.out, h, fun d' hd' => hno.out d' (by omega)⟩
    have hS : Hid (Stop keys slots key x ↔ (slots.getD x 0 = 0 ∨ keyAt keys (slots.getD x 0) = key)) := Lib.hid Iff.rfl
    obtain ⟨V, hV⟩ : ∃ V, slots.getD x 0 = V := ⟨_, rfl⟩
    rw [hV] at fx hr hS
    have HV := Lib.hid hV
    clear hV
    by_cases hz : V = 0
    · have hzq : (V == 0) = true := by simp [hz]
      have hd1 := Lib.hid (hdone.out (hS.out.2 (.inl hz)))
      clear hz
      go_wp2
      first | go_ret | (show bodyPost Try.prog Try.f48 _ Exit.ret _ _; go_ret) | (simp only [Exit.jump]; show bodyPost Try.prog Try.f48 _ Exit.ret _ _; go_ret)
      exact ⟨⟨x, hxL, hd1.out, rfl⟩, rfl⟩
    · obtain ⟨v, rfl⟩ : ∃ v : Nat, V = v + 1 := ⟨(V - 1).toNat, by omega⟩
      have hzq : (((v : Int) + 1) == 0) = false := by simp; omega
      clear hz
      rcases FK.out with hk | ⟨kb, cap, hkv, hkc⟩
      · rw [hk] at hj; simp at hj; omega
      · have f1' := f1
        rw [hkv] at f1'
        have hkeyc := hkc v (by omega)
        have hvK : v < keys.length := by omega
        have hka : keyAt keys ((v : Int) + 1) = keys.getD v ByteArray.empty := by unfold keyAt; congr 1; omega
        rw [← hka] at hkeyc
        obtain ⟨K, hK⟩ : ∃ K, keyAt keys ((v : Int) + 1) = K := ⟨_, rfl⟩
        rw [hK] at hkeyc hS
        have hv0 : 0 ≤ (v : Int) := by omega
        have hv1 : (v : Int) ≤ 65536 := by omega
        clear hka hK hkc f1
        by_cases hke : K = key
        · have hd1 := Lib.hid (hdone.out (hS.out.2 (.inr hke)))
          subst hke
          go_wp2
          first | go_ret | (show bodyPost Try.prog Try.f48 _ Exit.ret _ _; go_ret) | (simp only [Exit.jump]; show bodyPost Try.prog Try.f48 _ Exit.ret _ _; go_ret)
          exact ⟨⟨x, hxL, hd1.out, rfl⟩, rfl⟩
        · have hkq : (K.toList == key.toList) = false := by
            rw [beq_eq_false_iff_ne]; exact fun he => hke (bytes_eq he)
          have hg1 := hgo.out fun h => by
            rcases hS.out.1 h with h | h
            · omega
            · exact hke h
          go_wp2
          go_step3
          rw [hnext.out]
          exact ⟨rfl, D - (d + 1), by omega, rfl, d + 1, _, rfl, hg1, rfl, _, _, _, _, _, _, _, _, _, _, _, _, _, _, _, _, _, _, _, _, _, _, _, _, _, _, _, _, _, _, _, _, _, _, _, _, _, _, rfl⟩

end Go.Proofs.Ytbjieimdllapgaa
