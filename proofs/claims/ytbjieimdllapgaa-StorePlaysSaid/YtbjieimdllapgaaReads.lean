/- Contracts of what only reads a store: Find, has, Key, Bits, Len. -/
import Derived.Test.YtbjieimdllapgaaSto
namespace Go.Proofs.Ytbjieimdllapgaa
open Go.ChangeShapes Go.WideShapes Go.ChangeAt Go.RowKit

theorem looked_one {keys : List ByteArray} {slots : List Int} {n : Nat} {key : ByteArray} {a a' : Nat} (h : Looked keys slots n key a) (h' : Looked keys slots n key a') : a = a' := by
  obtain ⟨d, e, hs, hn⟩ := h
  obtain ⟨d', e', hs', hn'⟩ := h'
  rcases Nat.lt_trichotomy d d' with hlt | heq | hgt
  · exact absurd (e ▸ hs) (hn' d hlt)
  · rw [e, e', heq]
  · exact absurd (e' ▸ hs') (hn d' hgt)

open Classical in
/-- The slot at which the search for a text ends. -/
noncomputable def lookN (keys : List ByteArray) (slots : List Int) (n : Nat) (key : ByteArray) : Nat := if h : ∃ a, Looked keys slots n key a then Classical.choose h else 0

theorem lookN_of {keys : List ByteArray} {slots : List Int} {n : Nat} {key : ByteArray} {a : Nat} (h : Looked keys slots n key a) : lookN keys slots n key = a := by
  unfold lookN
  have hx : ∃ a, Looked keys slots n key a := ⟨a, h⟩
  rw [dif_pos hx]
  exact looked_one (Classical.choose_spec hx) h

theorem Tab.looked {keys : List ByteArray} {j n : Nat} {slots : List Int} (h : Tab keys j slots n) (hj : j < 2 ^ n) (key : ByteArray) :
    Looked keys slots n key (lookN keys slots n key) ∧ lookN keys slots n key < 2 ^ n := by
  obtain ⟨d0, hd0, hs0⟩ := h.stops hj key
  obtain ⟨D, hD, hst, hno⟩ := first_stop (fun d => Stop keys slots key ((pl key n + d) % 2 ^ n)) d0 hs0
  have hl : Looked keys slots n key ((pl key n + D) % 2 ^ n) := ⟨D, rfl, hst, hno⟩
  rw [lookN_of hl]
  exact ⟨hl, Nat.mod_lt _ (Nat.two_pow_pos n)⟩

theorem look_q (b sb : Nat) (kv : Value) (keys : List ByteArray) (j n L : Nat) (slots : List Int) (key : ByteArray) (w : World) (hs : key.size ≤ maxLen)
    (hj : j ≤ keys.length) (h : Tab keys j slots n) (hfree : j < 2 ^ n) (hL : Hid (L = 2 ^ n)) (hsee : Sees w b sb L kv keys slots) (m at' : Nat) (hat : Hid (lookN keys slots n key = at')) :
    Calls Try.prog 48 #[.pointer (some ⟨b, 0, none⟩), .string key] (w.drewN m) fun e w' => e = .returned (.int .i64 at') ∧ ∃ k, w' = w.drewN k :=
  (look_any b sb kv keys j n L slots key (w.drewN m) hs hj h hfree hL ⟨hsee.f1, hsee.f3, hsee.slot, hsee.key⟩).mono fun e w' ⟨⟨a, _, hl, he⟩, hw⟩ => ⟨by rw [he, ← lookN_of hl, hat.out], m, hw.symm⟩

section
variable {w : World} {B b sb n L : Nat} {most : Int} {keys : List ByteArray} {bts slots : List Int} {kv bv : Value}

theorem Sto.look (h : Sto w B b sb most keys bts slots n kv bv L) (key : ByteArray) (hs : key.size ≤ maxLen) (m at' : Nat) (hat : Hid (lookN keys slots n key = at')) :
    Calls Try.prog 48 #[.pointer (some ⟨b, 0, none⟩), .string key] (w.drewN m) fun e w' => e = .returned (.int .i64 at') ∧ ∃ k, w' = w.drewN k :=
  look_q b sb kv keys keys.length n L slots key w hs (Nat.le_refl _) h.sane h.bound.2.2 (Lib.hid h.hL) h.sees m at' hat

set_option maxHeartbeats 1000000 in
theorem find_no_any (h : Sto w B b sb most keys bts slots n kv bv L) (key : ByteArray) (hs : key.size ≤ maxLen) (hat : Hid (slots.getD (lookN keys slots n key) 0 = 0)) :
    Calls Try.prog 27 #[.pointer (some ⟨b, 0, none⟩), .string key] w fun e w' => e = .returned (.tuple #[.int .i64 0, .bool false]) ∧ ∃ k, w' = w.drewN k := by
  have hbd := h.bound
  obtain ⟨at', ha⟩ : ∃ a, lookN keys slots n key = a := ⟨_, rfl⟩
  have hal := (h.sane.looked hbd.2.2 key).2
  have hsl := h.slot (lookN keys slots n key) (by rw [h.hL]; exact hal)
  rw [hat.out] at hsl
  rw [← h.hL] at hal
  rw [ha] at hal hsl
  have HA := Lib.hid ha
  have hlook := Lib.hid fun m => h.look key hs m at' HA
  have f3 := h.f.2.2.2.1
  have g1 := hbd.1
  have g2 := hbd.2.1
  have hlq : ((L : Int) == 0) = false := by simp; omega
  have hi : (at' : Int) < (L : Int) := by omega
  have hi0 : (0 : Int) ≤ at' := by omega
  clear ha hbd hat h hs
  go_enter Try.func27, Try.ntmps27
  go_wp2
  go_quiet ((go_at_call 48; exact hlook.out _))
  go_wp2
  go_ret2
  exact ⟨rfl, _, rfl⟩

set_option maxHeartbeats 1000000 in
theorem find_yes_any (h : Sto w B b sb most keys bts slots n kv bv L) (key : ByteArray) (hs : key.size ≤ maxLen) (V : Nat) (hV : V < 65536) (hat : Hid (slots.getD (lookN keys slots n key) 0 = V + 1)) :
    Calls Try.prog 27 #[.pointer (some ⟨b, 0, none⟩), .string key] w fun e w' => e = .returned (.tuple #[.int .i64 V, .bool true]) ∧ ∃ k, w' = w.drewN k := by
  have hbd := h.bound
  obtain ⟨at', ha⟩ : ∃ a, lookN keys slots n key = a := ⟨_, rfl⟩
  have hal := (h.sane.looked hbd.2.2 key).2
  have hsl := h.slot (lookN keys slots n key) (by rw [h.hL]; exact hal)
  rw [hat.out] at hsl
  rw [← h.hL] at hal
  rw [ha] at hal hsl
  have HA := Lib.hid ha
  have hlook := Lib.hid fun m => h.look key hs m at' HA
  have f3 := h.f.2.2.2.1
  have g1 := hbd.1
  have g2 := hbd.2.1
  have hlq : ((L : Int) == 0) = false := by simp; omega
  have hi : (at' : Int) < (L : Int) := by omega
  have hi0 : (0 : Int) ≤ at' := by omega
  clear ha hbd hat h hs
  go_enter Try.func27, Try.ntmps27
  go_wp2
  go_quiet ((go_at_call 48; exact hlook.out _))
  go_wp2
  go_ret2
  exact ⟨rfl, _, rfl⟩

theorem Sto.find_no (h : Sto w B b sb most keys bts slots n kv bv L) (key : ByteArray) (hs : key.size ≤ maxLen) (hno : ∀ i, i < keys.length → keys.getD i ByteArray.empty ≠ key) :
    Calls Try.prog 27 #[.pointer (some ⟨b, 0, none⟩), .string key] w fun e w' => e = .returned (.tuple #[.int .i64 0, .bool false]) ∧ ∃ k, w' = w.drewN k :=
  find_no_any h key hs (Lib.hid (Go.Proofs.Ytbjieimdllapgaa.find_no h.sane hno (h.sane.looked h.bound.2.2 key).1))

theorem Sto.find_yes (h : Sto w B b sb most keys bts slots n kv bv L) (key : ByteArray) (hs : key.size ≤ maxLen) (i : Nat) (hi : i < keys.length) (hk : keys.getD i ByteArray.empty = key) :
    Calls Try.prog 27 #[.pointer (some ⟨b, 0, none⟩), .string key] w fun e w' => e = .returned (.tuple #[.int .i64 i, .bool true]) ∧ ∃ k, w' = w.drewN k :=
  find_yes_any h key hs i (by have := h.bound; have := h.half; omega) (Lib.hid (Go.Proofs.Ytbjieimdllapgaa.find_yes h.sane h.nodup hi hk (h.sane.looked h.bound.2.2 key).1))

theorem row_form {α : Type} {e : Nat} {v : Value} {xs : List α} {f : α → Value} (h : w.ownsRow B e 1 v xs.length (xs.map f)) : ∃ o cap, v = .slice o xs.length cap := by
  rcases h.2 with ⟨hv, h0⟩ | ⟨g, cap, cur, hv, _⟩
  · exact ⟨none, 0, by rw [hv, h0]⟩
  · exact ⟨_, _, hv⟩

theorem Sto.has_yes (h : Sto w B b sb most keys bts slots n kv bv L) (i : Int) (h0 : 0 ≤ i) (h1 : i < keys.length) :
    Calls Try.prog 49 #[.pointer (some ⟨b, 0, none⟩), .int .i64 i] w fun e w' => e = .returned (.bool true) ∧ w' = w := by
  have f1 := h.f.2.1
  obtain ⟨o, cap, hkv⟩ := row_form h.krow
  rw [hkv] at f1
  clear h hkv
  go_enter Try.func49, Try.ntmps49
  go_wp2
  go_ret
  exact ⟨rfl, rfl⟩

theorem Sto.has_no (h : Sto w B b sb most keys bts slots n kv bv L) (i : Int) (h0 : i < 0 ∨ keys.length ≤ i) :
    Calls Try.prog 49 #[.pointer (some ⟨b, 0, none⟩), .int .i64 i] w fun e w' => e = .returned (.bool false) ∧ w' = w := by
  have f1 := h.f.2.1
  obtain ⟨o, cap, hkv⟩ := row_form h.krow
  rw [hkv] at f1
  clear h hkv
  by_cases hn : i < 0
  · clear h0
    go_enter Try.func49, Try.ntmps49
    go_wp2
    go_ret
    exact ⟨rfl, rfl⟩
  · have h1 : (keys.length : Int) ≤ i := by omega
    have hd : decide (i < (keys.length : Int)) = false := by simp; omega
    clear h0
    go_enter Try.func49, Try.ntmps49
    go_wp2
    go_ret
    exact ⟨rfl, rfl⟩

theorem has_nil (i : Int) (w : World) : Calls Try.prog 49 #[.pointer none, .int .i64 i] w fun e w' => e = .returned (.bool false) ∧ w' = w := by
  go_enter Try.func49, Try.ntmps49
  go_wp2
  go_ret
  exact ⟨rfl, rfl⟩

theorem Sto.len (h : Sto w B b sb most keys bts slots n kv bv L) :
    Calls Try.prog 24 #[.pointer (some ⟨b, 0, none⟩)] w fun e w' => e = .returned (.int .i64 keys.length) ∧ w' = w := by
  have f1 := h.f.2.1
  obtain ⟨o, cap, hkv⟩ := row_form h.krow
  rw [hkv] at f1
  clear h hkv
  go_enter Try.func24, Try.ntmps24
  go_wp2
  go_ret
  exact ⟨rfl, rfl⟩

theorem len_nil (w : World) : Calls Try.prog 24 #[.pointer none] w fun e w' => e = .returned (.int .i64 0) ∧ w' = w := by
  go_enter Try.func24, Try.ntmps24
  go_wp2
  go_ret
  exact ⟨rfl, rfl⟩

theorem Sto.key_yes (h : Sto w B b sb most keys bts slots n kv bv L) (i : Nat) (hi : i < keys.length) (K : ByteArray) (hK : Hid (keys.getD i ByteArray.empty = K)) :
    Calls Try.prog 26 #[.pointer (some ⟨b, 0, none⟩), .int .i64 i] w fun e w' => e = .returned (.tuple #[.string K, .int .i64 0]) ∧ w' = w := by
  have f1 := h.f.2.1
  rcases row_cells ByteArray.empty h.krow with h0 | ⟨g, cap, hv, _, _, hc, hm, hcell, _⟩
  · rw [h0] at hi; simp at hi
  have hk := hcell i hi
  rw [hK.out] at hk
  rw [hv] at f1
  have hh := Lib.hid (h.has_yes i (by omega) (by omega))
  have hi0 : (0 : Int) ≤ i := by omega
  have hi1 : (i : Int) < keys.length := by omega
  clear h hcell hv
  go_enter Try.func26, Try.ntmps26
  go_wp2_with (go_at_call 49; refine hh.out.mono ?_; rintro e w' ⟨rfl, rfl⟩)
  go_ret2
  exact ⟨rfl, rfl⟩

theorem Sto.key_no (h : Sto w B b sb most keys bts slots n kv bv L) (i : Int) (h0 : i < 0 ∨ keys.length ≤ i) :
    Calls Try.prog 26 #[.pointer (some ⟨b, 0, none⟩), .int .i64 i] w fun e w' => e = .returned (.tuple #[.string ByteArray.empty, .int .i64 46]) ∧ w' = w := by
  have hh := Lib.hid (h.has_no i h0)
  clear h h0
  go_enter Try.func26, Try.ntmps26
  go_wp2_with (go_at_call 49; refine hh.out.mono ?_; rintro e w' ⟨rfl, rfl⟩)
  go_ret2
  exact ⟨rfl, rfl⟩

theorem key_nil (i : Int) (w : World) : Calls Try.prog 26 #[.pointer none, .int .i64 i] w fun e w' => e = .returned (.tuple #[.string ByteArray.empty, .int .i64 42]) ∧ w' = w := by
  go_enter Try.func26, Try.ntmps26
  go_wp2
  go_ret2
  exact ⟨rfl, rfl⟩

theorem Sto.bits_yes (h : Sto w B b sb most keys bts slots n kv bv L) (i : Nat) (hi : i < keys.length) (X : Int) (hX : Hid (bts.getD i 0 = X)) :
    Calls Try.prog 30 #[.pointer (some ⟨b, 0, none⟩), .int .i64 i] w fun e w' => e = .returned (.int .u64 X) ∧ w' = w := by
  have f2 := h.f.2.2.1
  have hlen := h.lens
  rcases row_cells (0 : Int) h.brow with h0 | ⟨g, cap, hv, _, _, hc, hm, hcell, _⟩
  · rw [h0] at hlen; simp at hlen; omega
  have hk := hcell i (by omega)
  rw [hX.out] at hk
  rw [hv] at f2
  have hh := Lib.hid (h.has_yes i (by omega) (by omega))
  have hi0 : (0 : Int) ≤ i := by omega
  have hi1 : (i : Int) < bts.length := by omega
  clear h hcell hv hlen
  go_enter Try.func30, Try.ntmps30
  go_wp2_with (go_at_call 49; refine hh.out.mono ?_; rintro e w' ⟨rfl, rfl⟩)
  go_ret
  exact ⟨rfl, rfl⟩

theorem Sto.bits_no (h : Sto w B b sb most keys bts slots n kv bv L) (i : Int) (h0 : i < 0 ∨ keys.length ≤ i) :
    Calls Try.prog 30 #[.pointer (some ⟨b, 0, none⟩), .int .i64 i] w fun e w' => e = .returned (.int .u64 0) ∧ w' = w := by
  have hh := Lib.hid (h.has_no i h0)
  clear h h0
  go_enter Try.func30, Try.ntmps30
  go_wp2_with (go_at_call 49; refine hh.out.mono ?_; rintro e w' ⟨rfl, rfl⟩)
  go_ret
  exact ⟨rfl, rfl⟩

theorem bits_nil (i : Int) (w : World) : Calls Try.prog 30 #[.pointer none, .int .i64 i] w fun e w' => e = .returned (.int .u64 0) ∧ w' = w := by
  have hh := Lib.hid (has_nil i w)
  go_enter Try.func30, Try.ntmps30
  go_wp2_with (go_at_call 49; refine hh.out.mono ?_; rintro e w' ⟨rfl, rfl⟩)
  go_ret
  exact ⟨rfl, rfl⟩

theorem put_nil (key : ByteArray) (w : World) : Calls Try.prog 25 #[.pointer none, .string key] w fun e w' => e = .returned (.tuple #[.int .i64 0, .bool false, .int .i64 42]) ∧ w' = w := by
  go_enter Try.func25, Try.ntmps25
  go_wp2
  go_ret3
  exact ⟨rfl, rfl⟩

theorem find_nil (key : ByteArray) (w : World) : Calls Try.prog 27 #[.pointer none, .string key] w fun e w' => e = .returned (.tuple #[.int .i64 0, .bool false]) ∧ w' = w := by
  go_enter Try.func27, Try.ntmps27
  go_wp2
  go_ret2
  exact ⟨rfl, rfl⟩

theorem mark_nil (i x : Int) (w : World) : Calls Try.prog 28 #[.pointer none, .int .i64 i, .int .u64 x] w fun e w' => e = .returned (.int .i64 42) ∧ w' = w := by
  go_enter Try.func28, Try.ntmps28
  go_wp2
  go_ret
  exact ⟨rfl, rfl⟩

theorem clear_nil (i x : Int) (w : World) : Calls Try.prog 29 #[.pointer none, .int .i64 i, .int .u64 x] w fun e w' => e = .returned (.int .i64 42) ∧ w' = w := by
  go_enter Try.func29, Try.ntmps29
  go_wp2
  go_ret
  exact ⟨rfl, rfl⟩
end
end Go.Proofs.Ytbjieimdllapgaa
