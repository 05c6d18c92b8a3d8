/- The contract of readByte. -/
import Derived.Test.YtmkfcoeefopmiaaNum
import Derived.Test.YtmkfcoeefopmiaaGoto
namespace Go.Proofs.Ytmkfcoeefopmiaa
open Go.ChangeShapes Go.WideShapes Go.ChangeAt Go.RowKit

def esc (b : Nat) : Option Nat := if b = 110 then some 10 else if b = 116 then some 9 else if b = 48 then some 0 else if b = 92 then some 92 else if b = 39 then some 39 else none
/-- A number that is written as a byte: its value, and how many bytes it takes. -/
def byteB (u : ByteArray) : Option (Nat × Nat) :=
  if u.size < 3 then none else if byt u 1 = 39 ∨ byt u 1 = 10 then none else
  if byt u 1 = 92 then (if u.size < 4 then none else if byt u 3 = 39 then (esc (byt u 2)).map (fun v => (v, 4)) else none)
  else if byt u 2 = 39 then some (byt u 1, 3) else none
def byteR (u : ByteArray) (x : Option (Nat × Nat)) : Value := match x with
  | none => .tuple #[zeroTok, .int .i64 0, .int .i64 3]
  | some (v, n) => .tuple #[Tok 2 0 0 (u.extract 0 n) v, .int .i64 n, .int .i64 0]
theorem byt_lt (u : ByteArray) (i : Nat) : byt u i < 256 := UInt8.toNat_lt _
def ByteC (u : ByteArray) (w : World) (x : Option (Nat × Nat)) : Prop := Calls Try.prog 18 #[.string u] w fun e w' => e = .returned (byteR u x) ∧ Below w.heap.size w w'

set_option maxRecDepth 100000 in
theorem byte_short (u : ByteArray) (w : World) (hs : u.size ≤ 65535) (h : u.size < 3) : ByteC u w (none) := by
  unfold ByteC
  have hq : (u.size : Int) < 3 := by omega
  go_enter Try.func18, Try.ntmps18
  go_wp2
  refine wp_scope_goes 1 ?_
  go_wp2
  go_step3
  simp only [Exit.then]
  refine goes_goto rfl ?_
  go_wp2
  refine goes_ret ?_
  exact bodyPost_ret (v := .tuple #[zeroTok, .int .i64 0, .int .i64 3]) (by simp [results, Try.results18, go_sem, zeroTok]) rfl ⟨rfl, (by repeat (first | exact Below.refl _ _ | (refine Below.setCell ?_ (by simp) _) | (refine Below.alloc ?_ (by simp) _)))⟩

set_option maxRecDepth 100000 in
theorem byte_quote (u : ByteArray) (w : World) (hs : u.size ≤ 65535) (h : 3 ≤ u.size) (ha : byt u 1 = 39) : ByteC u w (none) := by
  unfold ByteC
  have hq : 3 ≤ (u.size : Int) := by omega
  have e1 := byt_at u 1 (by omega)
  generalize byt u 1 = c1 at *
  subst ha
  go_enter Try.func18, Try.ntmps18
  go_wp2
  refine wp_scope_goes 1 ?_
  go_wp2
  go_step3
  simp only [Exit.inBlock, Exit.then]
  refine goes_goto rfl ?_
  go_wp2
  refine goes_ret ?_
  exact bodyPost_ret (v := .tuple #[zeroTok, .int .i64 0, .int .i64 3]) (by simp [results, Try.results18, go_sem, zeroTok]) rfl ⟨rfl, (by repeat (first | exact Below.refl _ _ | (refine Below.setCell ?_ (by simp) _) | (refine Below.alloc ?_ (by simp) _)))⟩

set_option maxRecDepth 100000 in
theorem byte_line (u : ByteArray) (w : World) (hs : u.size ≤ 65535) (h : 3 ≤ u.size) (ha : byt u 1 = 10) : ByteC u w (none) := by
  unfold ByteC
  have hq : 3 ≤ (u.size : Int) := by omega
  have e1 := byt_at u 1 (by omega)
  generalize byt u 1 = c1 at *
  subst ha
  go_enter Try.func18, Try.ntmps18
  go_wp2
  refine wp_scope_goes 1 ?_
  go_wp2
  go_step3
  simp only [Exit.inBlock, Exit.then]
  refine goes_goto rfl ?_
  go_wp2
  refine goes_ret ?_
  exact bodyPost_ret (v := .tuple #[zeroTok, .int .i64 0, .int .i64 3]) (by simp [results, Try.results18, go_sem, zeroTok]) rfl ⟨rfl, (by repeat (first | exact Below.refl _ _ | (refine Below.setCell ?_ (by simp) _) | (refine Below.alloc ?_ (by simp) _)))⟩

set_option maxRecDepth 100000 in
theorem byte_esc_short (u : ByteArray) (w : World) (hs : u.size ≤ 65535) (h : 3 ≤ u.size) (h4 : u.size < 4) (ha : byt u 1 = 92) : ByteC u w (none) := by
  unfold ByteC
  have hq : 3 ≤ (u.size : Int) := by omega
  have hq4 : (u.size : Int) < 4 := by omega
  have e1 := byt_at u 1 (by omega)
  generalize byt u 1 = c1 at *
  subst ha
  go_enter Try.func18, Try.ntmps18
  go_wp2
  refine wp_scope_goes 1 ?_
  go_wp2
  go_step3
  simp only [Exit.inBlock, Exit.then]
  refine goes_goto rfl ?_
  go_wp2
  refine goes_ret ?_
  exact bodyPost_ret (v := .tuple #[zeroTok, .int .i64 0, .int .i64 3]) (by simp [results, Try.results18, go_sem, zeroTok]) rfl ⟨rfl, (by repeat (first | exact Below.refl _ _ | (refine Below.setCell ?_ (by simp) _) | (refine Below.alloc ?_ (by simp) _)))⟩

set_option maxRecDepth 100000 in
theorem byte_esc_none (u : ByteArray) (w : World) (hs : u.size ≤ 65535) (h4 : 4 ≤ u.size) (ha : byt u 1 = 92) (n1 : ¬ byt u 2 = 110) (n2 : ¬ byt u 2 = 116) (n3 : ¬ byt u 2 = 48) (n4 : ¬ byt u 2 = 92) (n5 : ¬ byt u 2 = 39) : ByteC u w (none) := by
  unfold ByteC
  have hq : 4 ≤ (u.size : Int) := by omega
  have e1 := byt_at u 1 (by omega)
  generalize byt u 1 = c1 at *
  have e2 := byt_at u 2 (by omega)
  generalize byt u 2 = c2 at *
  subst ha
  go_enter Try.func18, Try.ntmps18
  go_wp2
  refine wp_scope_goes 1 ?_
  go_wp2
  go_step3
  simp only [Exit.inBlock, Exit.then]
  refine goes_goto rfl ?_
  go_wp2
  refine goes_ret ?_
  exact bodyPost_ret (v := .tuple #[zeroTok, .int .i64 0, .int .i64 3]) (by simp [results, Try.results18, go_sem, zeroTok]) rfl ⟨rfl, (by repeat (first | exact Below.refl _ _ | (refine Below.setCell ?_ (by simp) _) | (refine Below.alloc ?_ (by simp) _)))⟩

set_option maxRecDepth 100000 in
theorem byte_esc_110_no (u : ByteArray) (w : World) (hs : u.size ≤ 65535) (h4 : 4 ≤ u.size) (ha : byt u 1 = 92) (hb : byt u 2 = 110) (hd : ¬ byt u 3 = 39) : ByteC u w (none) := by
  unfold ByteC
  have hq : 4 ≤ (u.size : Int) := by omega
  have e1 := byt_at u 1 (by omega)
  generalize byt u 1 = c1 at *
  have e2 := byt_at u 2 (by omega)
  generalize byt u 2 = c2 at *
  have e3 := byt_at u 3 (by omega)
  generalize byt u 3 = c3 at *
  subst ha hb
  go_enter Try.func18, Try.ntmps18
  go_wp2
  refine wp_scope_goes 1 ?_
  go_wp2
  go_step3
  simp only [Exit.then]
  refine goes_goto rfl ?_
  go_wp2
  refine goes_ret ?_
  exact bodyPost_ret (v := .tuple #[zeroTok, .int .i64 0, .int .i64 3]) (by simp [results, Try.results18, go_sem, zeroTok]) rfl ⟨rfl, (by repeat (first | exact Below.refl _ _ | (refine Below.setCell ?_ (by simp) _) | (refine Below.alloc ?_ (by simp) _)))⟩

set_option maxRecDepth 100000 in
theorem byte_esc_110_yes (u : ByteArray) (w : World) (hs : u.size ≤ 65535) (h4 : 4 ≤ u.size) (ha : byt u 1 = 92) (hb : byt u 2 = 110) (hd : byt u 3 = 39) : ByteC u w (some (10, 4)) := by
  unfold ByteC
  have hq : 4 ≤ (u.size : Int) := by omega
  have e1 := byt_at u 1 (by omega)
  generalize byt u 1 = c1 at *
  have e2 := byt_at u 2 (by omega)
  generalize byt u 2 = c2 at *
  have e3 := byt_at u 3 (by omega)
  generalize byt u 3 = c3 at *
  subst ha hb hd
  go_enter Try.func18, Try.ntmps18
  go_wp2
  refine wp_scope_goes 1 ?_
  go_wp2
  refine goes_ret ?_
  exact bodyPost_ret (v := .tuple #[Tok 2 0 0 (u.extract 0 4) 10, .int .i64 4, .int .i64 0]) (by simp [results, Try.results18, go_sem, Tok]) rfl ⟨rfl, (by repeat (first | exact Below.refl _ _ | (refine Below.setCell ?_ (by simp) _) | (refine Below.alloc ?_ (by simp) _)))⟩

set_option maxRecDepth 100000 in
theorem byte_esc_116_no (u : ByteArray) (w : World) (hs : u.size ≤ 65535) (h4 : 4 ≤ u.size) (ha : byt u 1 = 92) (hb : byt u 2 = 116) (hd : ¬ byt u 3 = 39) : ByteC u w (none) := by
  unfold ByteC
  have hq : 4 ≤ (u.size : Int) := by omega
  have e1 := byt_at u 1 (by omega)
  generalize byt u 1 = c1 at *
  have e2 := byt_at u 2 (by omega)
  generalize byt u 2 = c2 at *
  have e3 := byt_at u 3 (by omega)
  generalize byt u 3 = c3 at *
  subst ha hb
  go_enter Try.func18, Try.ntmps18
  go_wp2
  refine wp_scope_goes 1 ?_
  go_wp2
  go_step3
  simp only [Exit.then]
  refine goes_goto rfl ?_
  go_wp2
  refine goes_ret ?_
  exact bodyPost_ret (v := .tuple #[zeroTok, .int .i64 0, .int .i64 3]) (by simp [results, Try.results18, go_sem, zeroTok]) rfl ⟨rfl, (by repeat (first | exact Below.refl _ _ | (refine Below.setCell ?_ (by simp) _) | (refine Below.alloc ?_ (by simp) _)))⟩

set_option maxRecDepth 100000 in
theorem byte_esc_116_yes (u : ByteArray) (w : World) (hs : u.size ≤ 65535) (h4 : 4 ≤ u.size) (ha : byt u 1 = 92) (hb : byt u 2 = 116) (hd : byt u 3 = 39) : ByteC u w (some (9, 4)) := by
  unfold ByteC
  have hq : 4 ≤ (u.size : Int) := by omega
  have e1 := byt_at u 1 (by omega)
  generalize byt u 1 = c1 at *
  have e2 := byt_at u 2 (by omega)
  generalize byt u 2 = c2 at *
  have e3 := byt_at u 3 (by omega)
  generalize byt u 3 = c3 at *
  subst ha hb hd
  go_enter Try.func18, Try.ntmps18
  go_wp2
  refine wp_scope_goes 1 ?_
  go_wp2
  refine goes_ret ?_
  exact bodyPost_ret (v := .tuple #[Tok 2 0 0 (u.extract 0 4) 9, .int .i64 4, .int .i64 0]) (by simp [results, Try.results18, go_sem, Tok]) rfl ⟨rfl, (by repeat (first | exact Below.refl _ _ | (refine Below.setCell ?_ (by simp) _) | (refine Below.alloc ?_ (by simp) _)))⟩

set_option maxRecDepth 100000 in
theorem byte_esc_48_no (u : ByteArray) (w : World) (hs : u.size ≤ 65535) (h4 : 4 ≤ u.size) (ha : byt u 1 = 92) (hb : byt u 2 = 48) (hd : ¬ byt u 3 = 39) : ByteC u w (none) := by
  unfold ByteC
  have hq : 4 ≤ (u.size : Int) := by omega
  have e1 := byt_at u 1 (by omega)
  generalize byt u 1 = c1 at *
  have e2 := byt_at u 2 (by omega)
  generalize byt u 2 = c2 at *
  have e3 := byt_at u 3 (by omega)
  generalize byt u 3 = c3 at *
  subst ha hb
  go_enter Try.func18, Try.ntmps18
  go_wp2
  refine wp_scope_goes 1 ?_
  go_wp2
  go_step3
  simp only [Exit.then]
  refine goes_goto rfl ?_
  go_wp2
  refine goes_ret ?_
  exact bodyPost_ret (v := .tuple #[zeroTok, .int .i64 0, .int .i64 3]) (by simp [results, Try.results18, go_sem, zeroTok]) rfl ⟨rfl, (by repeat (first | exact Below.refl _ _ | (refine Below.setCell ?_ (by simp) _) | (refine Below.alloc ?_ (by simp) _)))⟩

set_option maxRecDepth 100000 in
theorem byte_esc_48_yes (u : ByteArray) (w : World) (hs : u.size ≤ 65535) (h4 : 4 ≤ u.size) (ha : byt u 1 = 92) (hb : byt u 2 = 48) (hd : byt u 3 = 39) : ByteC u w (some (0, 4)) := by
  unfold ByteC
  have hq : 4 ≤ (u.size : Int) := by omega
  have e1 := byt_at u 1 (by omega)
  generalize byt u 1 = c1 at *
  have e2 := byt_at u 2 (by omega)
  generalize byt u 2 = c2 at *
  have e3 := byt_at u 3 (by omega)
  generalize byt u 3 = c3 at *
  subst ha hb hd
  go_enter Try.func18, Try.ntmps18
  go_wp2
  refine wp_scope_goes 1 ?_
  go_wp2
  refine goes_ret ?_
  exact bodyPost_ret (v := .tuple #[Tok 2 0 0 (u.extract 0 4) 0, .int .i64 4, .int .i64 0]) (by simp [results, Try.results18, go_sem, Tok]) rfl ⟨rfl, (by repeat (first | exact Below.refl _ _ | (refine Below.setCell ?_ (by simp) _) | (refine Below.alloc ?_ (by simp) _)))⟩

set_option maxRecDepth 100000 in
theorem byte_esc_92_no (u : ByteArray) (w : World) (hs : u.size ≤ 65535) (h4 : 4 ≤ u.size) (ha : byt u 1 = 92) (hb : byt u 2 = 92) (hd : ¬ byt u 3 = 39) : ByteC u w (none) := by
  unfold ByteC
  have hq : 4 ≤ (u.size : Int) := by omega
  have e1 := byt_at u 1 (by omega)
  generalize byt u 1 = c1 at *
  have e2 := byt_at u 2 (by omega)
  generalize byt u 2 = c2 at *
  have e3 := byt_at u 3 (by omega)
  generalize byt u 3 = c3 at *
  subst ha hb
  go_enter Try.func18, Try.ntmps18
  go_wp2
  refine wp_scope_goes 1 ?_
  go_wp2
  go_step3
  simp only [Exit.then]
  refine goes_goto rfl ?_
  go_wp2
  refine goes_ret ?_
  exact bodyPost_ret (v := .tuple #[zeroTok, .int .i64 0, .int .i64 3]) (by simp [results, Try.results18, go_sem, zeroTok]) rfl ⟨rfl, (by repeat (first | exact Below.refl _ _ | (refine Below.setCell ?_ (by simp) _) | (refine Below.alloc ?_ (by simp) _)))⟩

set_option maxRecDepth 100000 in
theorem byte_esc_92_yes (u : ByteArray) (w : World) (hs : u.size ≤ 65535) (h4 : 4 ≤ u.size) (ha : byt u 1 = 92) (hb : byt u 2 = 92) (hd : byt u 3 = 39) : ByteC u w (some (92, 4)) := by
  unfold ByteC
  have hq : 4 ≤ (u.size : Int) := by omega
  have e1 := byt_at u 1 (by omega)
  generalize byt u 1 = c1 at *
  have e2 := byt_at u 2 (by omega)
  generalize byt u 2 = c2 at *
  have e3 := byt_at u 3 (by omega)
  generalize byt u 3 = c3 at *
  subst ha hb hd
  go_enter Try.func18, Try.ntmps18
  go_wp2
  refine wp_scope_goes 1 ?_
  go_wp2
  refine goes_ret ?_
  exact bodyPost_ret (v := .tuple #[Tok 2 0 0 (u.extract 0 4) 92, .int .i64 4, .int .i64 0]) (by simp [results, Try.results18, go_sem, Tok]) rfl ⟨rfl, (by repeat (first | exact Below.refl _ _ | (refine Below.setCell ?_ (by simp) _) | (refine Below.alloc ?_ (by simp) _)))⟩

set_option maxRecDepth 100000 in
theorem byte_esc_39_no (u : ByteArray) (w : World) (hs : u.size ≤ 65535) (h4 : 4 ≤ u.size) (ha : byt u 1 = 92) (hb : byt u 2 = 39) (hd : ¬ byt u 3 = 39) : ByteC u w (none) := by
  unfold ByteC
  have hq : 4 ≤ (u.size : Int) := by omega
  have e1 := byt_at u 1 (by omega)
  generalize byt u 1 = c1 at *
  have e2 := byt_at u 2 (by omega)
  generalize byt u 2 = c2 at *
  have e3 := byt_at u 3 (by omega)
  generalize byt u 3 = c3 at *
  subst ha hb
  go_enter Try.func18, Try.ntmps18
  go_wp2
  refine wp_scope_goes 1 ?_
  go_wp2
  go_step3
  simp only [Exit.then]
  refine goes_goto rfl ?_
  go_wp2
  refine goes_ret ?_
  exact bodyPost_ret (v := .tuple #[zeroTok, .int .i64 0, .int .i64 3]) (by simp [results, Try.results18, go_sem, zeroTok]) rfl ⟨rfl, (by repeat (first | exact Below.refl _ _ | (refine Below.setCell ?_ (by simp) _) | (refine Below.alloc ?_ (by simp) _)))⟩

set_option maxRecDepth 100000 in
theorem byte_esc_39_yes (u : ByteArray) (w : World) (hs : u.size ≤ 65535) (h4 : 4 ≤ u.size) (ha : byt u 1 = 92) (hb : byt u 2 = 39) (hd : byt u 3 = 39) : ByteC u w (some (39, 4)) := by
  unfold ByteC
  have hq : 4 ≤ (u.size : Int) := by omega
  have e1 := byt_at u 1 (by omega)
  generalize byt u 1 = c1 at *
  have e2 := byt_at u 2 (by omega)
  generalize byt u 2 = c2 at *
  have e3 := byt_at u 3 (by omega)
  generalize byt u 3 = c3 at *
  subst ha hb hd
  go_enter Try.func18, Try.ntmps18
  go_wp2
  refine wp_scope_goes 1 ?_
  go_wp2
  refine goes_ret ?_
  exact bodyPost_ret (v := .tuple #[Tok 2 0 0 (u.extract 0 4) 39, .int .i64 4, .int .i64 0]) (by simp [results, Try.results18, go_sem, Tok]) rfl ⟨rfl, (by repeat (first | exact Below.refl _ _ | (refine Below.setCell ?_ (by simp) _) | (refine Below.alloc ?_ (by simp) _)))⟩

set_option maxRecDepth 100000 in
theorem byte_no (u : ByteArray) (w : World) (hs : u.size ≤ 65535) (h : 3 ≤ u.size) (c : Nat) (hc : byt u 1 = c) (n1 : ¬ c = 39) (n2 : ¬ c = 10) (n3 : ¬ c = 92) (hb : ¬ byt u 2 = 39) : ByteC u w (none) := by
  unfold ByteC
  have hq : 3 ≤ (u.size : Int) := by omega
  have e1 := byt_at u 1 (by omega)
  generalize byt u 1 = c1 at *
  have e2 := byt_at u 2 (by omega)
  generalize byt u 2 = c2 at *
  subst hc
  go_enter Try.func18, Try.ntmps18
  go_wp2
  refine wp_scope_goes 1 ?_
  go_wp2
  go_step3
  simp only [Exit.then]
  refine goes_goto rfl ?_
  go_wp2
  refine goes_ret ?_
  exact bodyPost_ret (v := .tuple #[zeroTok, .int .i64 0, .int .i64 3]) (by simp [results, Try.results18, go_sem, zeroTok]) rfl ⟨rfl, (by repeat (first | exact Below.refl _ _ | (refine Below.setCell ?_ (by simp) _) | (refine Below.alloc ?_ (by simp) _)))⟩

set_option maxRecDepth 100000 in
theorem byte_yes (u : ByteArray) (w : World) (hs : u.size ≤ 65535) (h : 3 ≤ u.size) (c : Nat) (hc : byt u 1 = c) (n1 : ¬ c = 39) (n2 : ¬ c = 10) (n3 : ¬ c = 92) (hb : byt u 2 = 39) : ByteC u w (some (c, 3)) := by
  unfold ByteC
  have hq : 3 ≤ (u.size : Int) := by omega
  have b1 := byt_lt u 1
  have e1 := byt_at u 1 (by omega)
  generalize byt u 1 = c1 at *
  have e2 := byt_at u 2 (by omega)
  generalize byt u 2 = c2 at *
  subst hc hb
  go_enter Try.func18, Try.ntmps18
  go_wp2
  refine wp_scope_goes 1 ?_
  go_wp2
  refine goes_ret ?_
  exact bodyPost_ret (v := .tuple #[Tok 2 0 0 (u.extract 0 3) c1, .int .i64 3, .int .i64 0]) (by simp [results, Try.results18, go_sem, Tok]) rfl ⟨rfl, (by repeat (first | exact Below.refl _ _ | (refine Below.setCell ?_ (by simp) _) | (refine Below.alloc ?_ (by simp) _)))⟩

theorem byte_any (u : ByteArray) (w : World) (hs : u.size ≤ 65535) : ByteC u w (byteB u) := by
  unfold byteB
  by_cases h : u.size < 3
  · rw [if_pos h]; exact byte_short u w hs h
  rw [if_neg h]
  by_cases h1 : byt u 1 = 39
  · rw [if_pos (.inl h1)]; exact byte_quote u w hs (by omega) h1
  by_cases h2 : byt u 1 = 10
  · rw [if_pos (.inr h2)]; exact byte_line u w hs (by omega) h2
  rw [if_neg (by omega)]
  by_cases h3 : byt u 1 = 92
  · rw [if_pos h3]
    by_cases h4 : u.size < 4
    · rw [if_pos h4]; exact byte_esc_short u w hs (by omega) h4 h3
    rw [if_neg h4]
    by_cases n : byt u 2 = 110 ∨ byt u 2 = 116 ∨ byt u 2 = 48 ∨ byt u 2 = 92 ∨ byt u 2 = 39
    · rcases n with n | n | n | n | n
      all_goals by_cases hd : byt u 3 = 39
      all_goals first
        | rw [if_pos hd, n]
        | rw [if_neg hd]
      · exact byte_esc_110_yes u w hs (by omega) h3 n hd
      · exact byte_esc_110_no u w hs (by omega) h3 n hd
      · exact byte_esc_116_yes u w hs (by omega) h3 n hd
      · exact byte_esc_116_no u w hs (by omega) h3 n hd
      · exact byte_esc_48_yes u w hs (by omega) h3 n hd
      · exact byte_esc_48_no u w hs (by omega) h3 n hd
      · exact byte_esc_92_yes u w hs (by omega) h3 n hd
      · exact byte_esc_92_no u w hs (by omega) h3 n hd
      · exact byte_esc_39_yes u w hs (by omega) h3 n hd
      · exact byte_esc_39_no u w hs (by omega) h3 n hd
    · have he : esc (byt u 2) = none := by unfold esc; rw [if_neg (by omega), if_neg (by omega), if_neg (by omega), if_neg (by omega), if_neg (by omega)]
      have hx : (if byt u 3 = 39 then (esc (byt u 2)).map (fun v => (v, 4)) else none) = none := by rw [he]; simp
      rw [hx]
      exact byte_esc_none u w hs (by omega) h3 (by omega) (by omega) (by omega) (by omega) (by omega)
  · rw [if_neg h3]
    by_cases hb : byt u 2 = 39
    · rw [if_pos hb]; exact byte_yes u w hs (by omega) _ rfl h1 h2 h3 hb
    · rw [if_neg hb]; exact byte_no u w hs (by omega) _ rfl h1 h2 h3 hb

end Go.Proofs.Ytmkfcoeefopmiaa
