/- A store by what it holds: its texts and their bits; each method's contract in these words; the document's example. -/
import Derived.Test.YtbjieimdllapgaaPut2
namespace Go.Proofs.Ytbjieimdllapgaa
open Go.ChangeShapes Go.WideShapes Go.ChangeAt Go.RowKit

/-- There is a store at block b with these texts and bits. -/
def Has (w : World) (B b : Nat) (most : Int) (keys : List ByteArray) (bts : List Int) : Prop := ∃ sb slots n kv bv L, Sto w B b sb most keys bts slots n kv bv L

theorem Has.of_heap {w w' : World} {B b : Nat} {most : Int} {keys : List ByteArray} {bts : List Int} (h : Has w B b most keys bts) (hh : w'.heap = w.heap) : Has w' B b most keys bts := by
  obtain ⟨sb, slots, n, kv, bv, L, h⟩ := h
  exact ⟨sb, slots, n, kv, bv, L, h.of_heap hh⟩

/-- What every call that is handed a store leaves: a store with these texts and bits; and all else as it was. -/
def Left (w : World) (B b : Nat) (most : Int) (keys : List ByteArray) (bts : List Int) (w' : World) : Prop := Off B w w' ∧ Has w' B b most keys bts

section
variable {w : World} {B b : Nat} {most : Int} {keys : List ByteArray} {bts : List Int}

theorem Has.drawn (h : Has w B b most keys bts) {w' : World} (hw : ∃ k, w' = w.drewN k) : Left w B b most keys bts w' := by
  obtain ⟨k, rfl⟩ := hw
  exact ⟨(Off.refl B w).drewN k, h.of_heap rfl⟩

theorem Has.same (h : Has w B b most keys bts) : Left w B b most keys bts w := ⟨Off.refl B w, h⟩

theorem Has.room (h : Has w B b most keys bts) : (keys.length : Int) ≤ most ∧ bts.length = keys.length := by
  obtain ⟨sb, slots, n, kv, bv, L, h⟩ := h
  exact ⟨h.room, h.lens⟩

theorem Has.put_yes (h : Has w B b most keys bts) (key : ByteArray) (hs : key.size ≤ maxLen) (i : Nat) (hi : i < keys.length) (hk : keys.getD i ByteArray.empty = key) :
    Calls Try.prog 25 #[.pointer (some ⟨b, 0, none⟩), .string key] w fun e w' => e = .returned (.tuple #[.int .i64 i, .bool false, .int .i64 0]) ∧ Left w B b most keys bts w' := by
  obtain ⟨sb, slots, n, kv, bv, L, hh⟩ := h
  exact (hh.put_yes key hs i hi hk).mono fun _ _ ⟨he, hw⟩ => ⟨he, Has.drawn ⟨sb, slots, n, kv, bv, L, hh⟩ hw⟩

theorem Has.put_full (h : Has w B b most keys bts) (key : ByteArray) (hs : key.size ≤ maxLen) (hno : ∀ i, i < keys.length → keys.getD i ByteArray.empty ≠ key) (hfull : (keys.length : Int) = most) :
    Calls Try.prog 25 #[.pointer (some ⟨b, 0, none⟩), .string key] w fun e w' => e = .returned (.tuple #[.int .i64 0, .bool false, .int .i64 45]) ∧ Left w B b most keys bts w' := by
  obtain ⟨sb, slots, n, kv, bv, L, hh⟩ := h
  exact (hh.put_full key hs hno hfull).mono fun _ _ ⟨he, hw⟩ => ⟨he, Has.drawn ⟨sb, slots, n, kv, bv, L, hh⟩ hw⟩

theorem Has.put_new (h : Has w B b most keys bts) (key : ByteArray) (hs : key.size ≤ maxLen) (hno : ∀ i, i < keys.length → keys.getD i ByteArray.empty ≠ key) (hroom : (keys.length : Int) < most) :
    Calls Try.prog 25 #[.pointer (some ⟨b, 0, none⟩), .string key] w fun e w' => e = .returned (.tuple #[.int .i64 keys.length, .bool true, .int .i64 0]) ∧ Left w B b most (keys ++ [key]) (bts ++ [0]) w' := by
  obtain ⟨sb, slots, n, kv, bv, L, hh⟩ := h
  rcases Nat.lt_or_ge (2 * keys.length) L with hl | hl
  · exact (hh.put_new key hs hno hroom hl).mono fun _ _ ⟨he, ho, hw⟩ => ⟨he, ho, hw⟩
  · exact (hh.put_grow key hs hno hroom hl).mono fun _ _ ⟨he, ho, hw⟩ => ⟨he, ho, hw⟩

theorem Has.find_yes (h : Has w B b most keys bts) (key : ByteArray) (hs : key.size ≤ maxLen) (i : Nat) (hi : i < keys.length) (hk : keys.getD i ByteArray.empty = key) :
    Calls Try.prog 27 #[.pointer (some ⟨b, 0, none⟩), .string key] w fun e w' => e = .returned (.tuple #[.int .i64 i, .bool true]) ∧ Left w B b most keys bts w' := by
  obtain ⟨sb, slots, n, kv, bv, L, hh⟩ := h
  exact (hh.find_yes key hs i hi hk).mono fun _ _ ⟨he, hw⟩ => ⟨he, Has.drawn ⟨sb, slots, n, kv, bv, L, hh⟩ hw⟩

theorem Has.find_no (h : Has w B b most keys bts) (key : ByteArray) (hs : key.size ≤ maxLen) (hno : ∀ i, i < keys.length → keys.getD i ByteArray.empty ≠ key) :
    Calls Try.prog 27 #[.pointer (some ⟨b, 0, none⟩), .string key] w fun e w' => e = .returned (.tuple #[.int .i64 0, .bool false]) ∧ Left w B b most keys bts w' := by
  obtain ⟨sb, slots, n, kv, bv, L, hh⟩ := h
  exact (hh.find_no key hs hno).mono fun _ _ ⟨he, hw⟩ => ⟨he, Has.drawn ⟨sb, slots, n, kv, bv, L, hh⟩ hw⟩

theorem Has.len (h : Has w B b most keys bts) :
    Calls Try.prog 24 #[.pointer (some ⟨b, 0, none⟩)] w fun e w' => e = .returned (.int .i64 keys.length) ∧ w' = w := by
  obtain ⟨sb, slots, n, kv, bv, L, hh⟩ := h
  exact hh.len

theorem Has.key_yes (h : Has w B b most keys bts) (i : Nat) (hi : i < keys.length) (K : ByteArray) (hK : Hid (keys.getD i ByteArray.empty = K)) :
    Calls Try.prog 26 #[.pointer (some ⟨b, 0, none⟩), .int .i64 i] w fun e w' => e = .returned (.tuple #[.string K, .int .i64 0]) ∧ w' = w := by
  obtain ⟨sb, slots, n, kv, bv, L, hh⟩ := h
  exact hh.key_yes i hi K hK

theorem Has.key_no (h : Has w B b most keys bts) (i : Int) (h0 : i < 0 ∨ keys.length ≤ i) :
    Calls Try.prog 26 #[.pointer (some ⟨b, 0, none⟩), .int .i64 i] w fun e w' => e = .returned (.tuple #[.string ByteArray.empty, .int .i64 46]) ∧ w' = w := by
  obtain ⟨sb, slots, n, kv, bv, L, hh⟩ := h
  exact hh.key_no i h0

theorem Has.bits_yes (h : Has w B b most keys bts) (i : Nat) (hi : i < keys.length) (X : Int) (hX : Hid (bts.getD i 0 = X)) :
    Calls Try.prog 30 #[.pointer (some ⟨b, 0, none⟩), .int .i64 i] w fun e w' => e = .returned (.int .u64 X) ∧ w' = w := by
  obtain ⟨sb, slots, n, kv, bv, L, hh⟩ := h
  exact hh.bits_yes i hi X hX

theorem Has.bits_no (h : Has w B b most keys bts) (i : Int) (h0 : i < 0 ∨ keys.length ≤ i) :
    Calls Try.prog 30 #[.pointer (some ⟨b, 0, none⟩), .int .i64 i] w fun e w' => e = .returned (.int .u64 0) ∧ w' = w := by
  obtain ⟨sb, slots, n, kv, bv, L, hh⟩ := h
  exact hh.bits_no i h0

theorem Has.mark_yes (h : Has w B b most keys bts) (i : Nat) (hi : i < keys.length) (x : Int) :
    Calls Try.prog 28 #[.pointer (some ⟨b, 0, none⟩), .int .i64 i, .int .u64 x] w fun e w' => e = .returned (.int .i64 0) ∧ Left w B b most keys (bts.set i (bits .or .u64 (bts.getD i 0) x)) w' := by
  obtain ⟨sb, slots, n, kv, bv, L, hh⟩ := h
  exact (hh.mark_yes i hi x).mono fun _ _ ⟨he, ho, hw⟩ => ⟨he, ho, sb, slots, n, kv, bv, L, hw⟩

theorem Has.mark_no (h : Has w B b most keys bts) (i x : Int) (h0 : i < 0 ∨ keys.length ≤ i) :
    Calls Try.prog 28 #[.pointer (some ⟨b, 0, none⟩), .int .i64 i, .int .u64 x] w fun e w' => e = .returned (.int .i64 46) ∧ w' = w := by
  obtain ⟨sb, slots, n, kv, bv, L, hh⟩ := h
  exact hh.mark_no i x h0

theorem Has.clear_yes (h : Has w B b most keys bts) (i : Nat) (hi : i < keys.length) (x : Int) :
    Calls Try.prog 29 #[.pointer (some ⟨b, 0, none⟩), .int .i64 i, .int .u64 x] w fun e w' => e = .returned (.int .i64 0) ∧ Left w B b most keys (bts.set i (bits .andNot .u64 (bts.getD i 0) x)) w' := by
  obtain ⟨sb, slots, n, kv, bv, L, hh⟩ := h
  exact (hh.clear_yes i hi x).mono fun _ _ ⟨he, ho, hw⟩ => ⟨he, ho, sb, slots, n, kv, bv, L, hw⟩

theorem Has.clear_no (h : Has w B b most keys bts) (i x : Int) (h0 : i < 0 ∨ keys.length ≤ i) :
    Calls Try.prog 29 #[.pointer (some ⟨b, 0, none⟩), .int .i64 i, .int .u64 x] w fun e w' => e = .returned (.int .i64 46) ∧ w' = w := by
  obtain ⟨sb, slots, n, kv, bv, L, hh⟩ := h
  exact hh.clear_no i x h0
end

theorem new_has (m : Int) (w : World) (B : Nat) (hB : B ≤ w.heap.size) (h1 : 1 ≤ m) (h2 : m ≤ 20000) : Calls Try.prog 21 #[.int .i64 m] w fun e w' => ∃ b, e = .returned (.tuple #[.pointer (some ⟨b, 0, none⟩), .int .i64 0]) ∧ Left w B b m [] [] w' :=
  (new_yes m w B hB h1 h2).mono fun _ _ ⟨⟨b, _, he, hs⟩, ho⟩ => ⟨b, he, ho, _, _, _, _, _, _, hs⟩

set_option maxRecDepth 100000 in
set_option maxHeartbeats 2000000 in
theorem shown_any (w : World) : Calls Try.prog 20 #[] w fun e w' => e = .returned (.bool true) ∧ Below w.heap.size w w' := by
  have e1 : bits .andNot .u64 (bits .or .u64 0 6) 2 = 4 := by decide
  have E1 := Lib.hid e1
  clear e1
  go_enter Try.func20, Try.ntmps20
  go_wp2_with fail
  refine (new_has 2 w w.heap.size (Nat.le_refl _) (by decide) (by decide)).mono ?_
  rintro e w1 ⟨b, rfl, hoff, hhas⟩
  have HO := Lib.hid hoff
  have HH := Lib.hid hhas
  clear hoff hhas
  go_wp2_with fail
  refine (HH.out.put_new ⟨#[97]⟩ (by decide) (fun i hi => by simp at hi) (by decide)).mono ?_
  rintro e w2 ⟨rfl, hoff, hhas⟩
  have HO := Lib.hid (HO.out.trans hoff)
  have HH := Lib.hid hhas
  clear hoff hhas
  go_wp2_with fail
  refine (HH.out.put_new ⟨#[98]⟩ (by decide) (fun i hi => by simp at hi; subst hi; decide) (by decide)).mono ?_
  rintro e w3 ⟨rfl, hoff, hhas⟩
  have HO := Lib.hid (HO.out.trans hoff)
  have HH := Lib.hid hhas
  clear hoff hhas
  go_wp2_with fail
  refine (HH.out.put_yes ⟨#[97]⟩ (by decide) 0 (by decide) rfl).mono ?_
  rintro e w4 ⟨rfl, hoff, hhas⟩
  have HO := Lib.hid (HO.out.trans hoff)
  have HH := Lib.hid hhas
  clear hoff hhas
  go_wp2_with fail
  refine (HH.out.put_full ⟨#[99]⟩ (by decide) (fun i hi => by simp at hi; have h : i = 0 ∨ i = 1 := (by omega); rcases h with h | h <;> subst h <;> decide) (by decide)).mono ?_
  rintro e w5 ⟨rfl, hoff, hhas⟩
  have HO := Lib.hid (HO.out.trans hoff)
  have HH := Lib.hid hhas
  clear hoff hhas
  go_wp2_with fail
  refine (HH.out.mark_yes 1 (by decide) 6).mono ?_
  rintro e w6 ⟨rfl, hoff, hhas⟩
  have HO := Lib.hid (HO.out.trans hoff)
  have HH := Lib.hid hhas
  clear hoff hhas
  go_wp2_with fail
  refine (HH.out.clear_yes 1 (by decide) 2).mono ?_
  rintro e w7 ⟨rfl, hoff, hhas⟩
  have HO := Lib.hid (HO.out.trans hoff)
  have HH := Lib.hid hhas
  clear hoff hhas
  go_wp2_with fail
  refine (HH.out.bits_yes 1 (by decide) 4 (Lib.hid E1.out)).mono ?_
  rintro e w8 ⟨rfl, rfl⟩
  go_wp2_with fail
  refine (HH.out.key_no 2 (by decide)).mono ?_
  rintro e w9 ⟨rfl, rfl⟩
  go_wp2
  go_ret
  exact ⟨rfl, HO.out.below (Below.refl _ _) (Nat.le_refl _)⟩
end Go.Proofs.Ytbjieimdllapgaa
