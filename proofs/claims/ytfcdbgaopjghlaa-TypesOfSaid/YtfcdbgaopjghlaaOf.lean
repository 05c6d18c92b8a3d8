/- Contracts of types.Of and of the document's answer to it. -/
import Derived.Test.YtfcdbgaopjghlaaRows
import Derived.WalkKit
import Derived.ProofKit
import Derived.Below
import Derived.Outline
import Derived.Lib.Hide
namespace Go.Proofs.Ytfcdbgaopjghlaa
open Go.ChangeShapes Go.WideShapes Go.ChangeAt Go.RowKit

/-- The type of values of each type of variables. -/
def ofT (ty bits : Int) : Int × Bool × Int :=
  if ty = 1 ∨ ty = 2 then (1, false, 0) else if ty = 3 ∨ ty = 7 ∨ ty = 8 ∨ ty = 9 then (8, false, 0) else if ty = 4 then (16, true, 0) else
  if ty = 5 then (32, true, 0) else if ty = 6 ∧ 1 ≤ bits ∧ bits ≤ 32 then (bits, false, 0) else (0, false, 16)

theorem bel_alloc {w0 w : World} {o : Obj} (h : Below w0.heap.size w0 w) : Below w0.heap.size w0 (w.alloc o) := h.alloc h.size o
theorem bcell {W w1 : World} (hb : Below W.heap.size W w1) : (∀ b o, b < W.heap.size → w1.cell? ⟨b, o, none⟩ = W.cell? ⟨b, o, none⟩) ∧ (∀ b o, b < W.heap.size → w1.frozen? ⟨b, o, none⟩ = W.frozen? ⟨b, o, none⟩) :=
  ⟨fun b o h => hb.cell (p := ⟨b, o, none⟩) h, fun b o h => hb.frozen (p := ⟨b, o, none⟩) h⟩

theorem bsize {w w' : World} {o : Obj} (hb : Below (w.alloc o).heap.size (w.alloc o) w') : w.heap.size < w'.heap.size := by
  have := hb.size
  simp at this
  omega

def OfT (k : Nat) (ty bits : Int) (x : Int × Bool × Int) (w : World) : Prop :=
  Calls Try.prog k #[.int .i64 ty, .int .i64 bits] w fun e w' => e = .returned (.tuple #[.agg #[.int .i64 x.1, .bool x.2.1], .int .i64 x.2.2]) ∧ Below w.heap.size w w'

set_option maxHeartbeats 400000 in
theorem of_17_1 (bits : Int) (w : World) : OfT 17 1 bits (1,false,0) w := by
  unfold OfT
  go_enter Try.func17, Try.ntmps17
  go_wp2
  exact bodyPost_ret (v := .tuple #[.agg #[.int .i64 1, .bool false], .int .i64 0]) (by simp [results, Try.results17, go_sem]) rfl ⟨rfl, (Below.refl _ _).alloc (Nat.le_refl _) _⟩

set_option maxHeartbeats 400000 in
theorem of_17_2 (bits : Int) (w : World) : OfT 17 2 bits (1,false,0) w := by
  unfold OfT
  go_enter Try.func17, Try.ntmps17
  go_wp2
  exact bodyPost_ret (v := .tuple #[.agg #[.int .i64 1, .bool false], .int .i64 0]) (by simp [results, Try.results17, go_sem]) rfl ⟨rfl, (Below.refl _ _).alloc (Nat.le_refl _) _⟩

set_option maxHeartbeats 400000 in
theorem of_17_3 (bits : Int) (w : World) : OfT 17 3 bits (8,false,0) w := by
  unfold OfT
  go_enter Try.func17, Try.ntmps17
  go_wp2
  exact bodyPost_ret (v := .tuple #[.agg #[.int .i64 8, .bool false], .int .i64 0]) (by simp [results, Try.results17, go_sem]) rfl ⟨rfl, (Below.refl _ _).alloc (Nat.le_refl _) _⟩

set_option maxHeartbeats 400000 in
theorem of_17_7 (bits : Int) (w : World) : OfT 17 7 bits (8,false,0) w := by
  unfold OfT
  go_enter Try.func17, Try.ntmps17
  go_wp2
  exact bodyPost_ret (v := .tuple #[.agg #[.int .i64 8, .bool false], .int .i64 0]) (by simp [results, Try.results17, go_sem]) rfl ⟨rfl, (Below.refl _ _).alloc (Nat.le_refl _) _⟩

set_option maxHeartbeats 400000 in
theorem of_17_8 (bits : Int) (w : World) : OfT 17 8 bits (8,false,0) w := by
  unfold OfT
  go_enter Try.func17, Try.ntmps17
  go_wp2
  exact bodyPost_ret (v := .tuple #[.agg #[.int .i64 8, .bool false], .int .i64 0]) (by simp [results, Try.results17, go_sem]) rfl ⟨rfl, (Below.refl _ _).alloc (Nat.le_refl _) _⟩

set_option maxHeartbeats 400000 in
theorem of_17_9 (bits : Int) (w : World) : OfT 17 9 bits (8,false,0) w := by
  unfold OfT
  go_enter Try.func17, Try.ntmps17
  go_wp2
  exact bodyPost_ret (v := .tuple #[.agg #[.int .i64 8, .bool false], .int .i64 0]) (by simp [results, Try.results17, go_sem]) rfl ⟨rfl, (Below.refl _ _).alloc (Nat.le_refl _) _⟩

set_option maxHeartbeats 400000 in
theorem of_17_4 (bits : Int) (w : World) : OfT 17 4 bits (16,true,0) w := by
  unfold OfT
  go_enter Try.func17, Try.ntmps17
  go_wp2
  exact bodyPost_ret (v := .tuple #[.agg #[.int .i64 16, .bool true], .int .i64 0]) (by simp [results, Try.results17, go_sem]) rfl ⟨rfl, (Below.refl _ _).alloc (Nat.le_refl _) _⟩

set_option maxHeartbeats 400000 in
theorem of_17_5 (bits : Int) (w : World) : OfT 17 5 bits (32,true,0) w := by
  unfold OfT
  go_enter Try.func17, Try.ntmps17
  go_wp2
  exact bodyPost_ret (v := .tuple #[.agg #[.int .i64 32, .bool true], .int .i64 0]) (by simp [results, Try.results17, go_sem]) rfl ⟨rfl, (Below.refl _ _).alloc (Nat.le_refl _) _⟩

set_option maxHeartbeats 400000 in
theorem of_17_6y (bits : Int) (w : World) (h1 : 1 ≤ bits) (h2 : bits ≤ 32) : OfT 17 6 bits (bits,false,0) w := by
  unfold OfT
  go_enter Try.func17, Try.ntmps17
  go_wp2
  exact bodyPost_ret (v := .tuple #[.agg #[.int .i64 bits, .bool false], .int .i64 0]) (by simp [results, Try.results17, go_sem]) rfl ⟨rfl, (Below.refl _ _).alloc (Nat.le_refl _) _⟩

set_option maxHeartbeats 400000 in
theorem of_17_6a (bits : Int) (w : World) (h1 : bits < 1) : OfT 17 6 bits (0,false,16) w := by
  unfold OfT
  go_enter Try.func17, Try.ntmps17
  go_wp2
  exact bodyPost_ret (v := .tuple #[.agg #[.int .i64 0, .bool false], .int .i64 16]) (by simp [results, Try.results17, go_sem]) rfl ⟨rfl, (Below.refl _ _).alloc (Nat.le_refl _) _⟩

set_option maxHeartbeats 400000 in
theorem of_17_6b (bits : Int) (w : World) (h1 : 32 < bits) : OfT 17 6 bits (0,false,16) w := by
  unfold OfT
  have h2 : 1 ≤ bits := by omega
  go_enter Try.func17, Try.ntmps17
  go_wp2
  exact bodyPost_ret (v := .tuple #[.agg #[.int .i64 0, .bool false], .int .i64 16]) (by simp [results, Try.results17, go_sem]) rfl ⟨rfl, (Below.refl _ _).alloc (Nat.le_refl _) _⟩

set_option maxHeartbeats 400000 in
theorem of_17_lo (ty bits : Int) (w : World) (h1 : ty < 1) : OfT 17 ty bits (0,false,16) w := by
  unfold OfT
  go_enter Try.func17, Try.ntmps17
  go_wp2
  exact bodyPost_ret (v := .tuple #[.agg #[.int .i64 0, .bool false], .int .i64 16]) (by simp [results, Try.results17, go_sem]) rfl ⟨rfl, (Below.refl _ _).alloc (Nat.le_refl _) _⟩

set_option maxHeartbeats 400000 in
theorem of_17_hi (ty bits : Int) (w : World) (h1 : 9 < ty) : OfT 17 ty bits (0,false,16) w := by
  unfold OfT
  go_enter Try.func17, Try.ntmps17
  go_wp2
  exact bodyPost_ret (v := .tuple #[.agg #[.int .i64 0, .bool false], .int .i64 16]) (by simp [results, Try.results17, go_sem]) rfl ⟨rfl, (Below.refl _ _).alloc (Nat.le_refl _) _⟩

theorem of_17 (ty bits : Int) (w : World) : OfT 17 ty bits (ofT ty bits) w := by
  by_cases hlo : ty < 1
  · rw [show ofT ty bits = (0, false, 16) by unfold ofT; repeat (rw [if_neg (by omega)])]
    exact of_17_lo ty bits w hlo
  by_cases hhi : 9 < ty
  · rw [show ofT ty bits = (0, false, 16) by unfold ofT; repeat (rw [if_neg (by omega)])]
    exact of_17_hi ty bits w hhi
  have h : ty = 1 ∨ ty = 2 ∨ ty = 3 ∨ ty = 4 ∨ ty = 5 ∨ ty = 6 ∨ ty = 7 ∨ ty = 8 ∨ ty = 9 := by omega
  rcases h with rfl | rfl | rfl | rfl | rfl | rfl | rfl | rfl | rfl
  · exact of_17_1 bits w
  · exact of_17_2 bits w
  · exact of_17_3 bits w
  · exact of_17_4 bits w
  · exact of_17_5 bits w
  · by_cases h1 : bits < 1
    · rw [show ofT 6 bits = (0, false, 16) by unfold ofT; repeat (rw [if_neg (by omega)])]
      exact of_17_6a bits w h1
    · by_cases h2 : 32 < bits
      · rw [show ofT 6 bits = (0, false, 16) by unfold ofT; repeat (rw [if_neg (by omega)])]
        exact of_17_6b bits w h2
      · rw [show ofT 6 bits = (bits, false, 0) by unfold ofT; (repeat (rw [if_neg (by omega)])); rw [if_pos (by omega)]]
        exact of_17_6y bits w (by omega) (by omega)
  · exact of_17_7 bits w
  · exact of_17_8 bits w
  · exact of_17_9 bits w

theorem of_17_c (ty bits B E : Int) (S : Bool) (h : Hid (ofT ty bits = (B, S, E))) (w0 w : World) (hb : Below w0.heap.size w0 w) :
    Calls Try.prog 17 #[.int .i64 ty, .int .i64 bits] w fun e w' => e = .returned (.tuple #[.agg #[.int .i64 B, .bool S], .int .i64 E]) ∧ Below w0.heap.size w0 w' ∧ Below w.heap.size w w' :=
  Calls.mono (of_17 ty bits w) fun _ _ ⟨he, hb'⟩ => ⟨by rw [he, h.out], hb.trans (hb'.mono hb.size), hb'⟩

set_option maxHeartbeats 400000 in
theorem of_18_1 (bits : Int) (w : World) : OfT 18 1 bits (1,false,0) w := by
  unfold OfT
  go_enter Try.func18, Try.ntmps18
  go_wp2
  exact bodyPost_ret (v := .tuple #[.agg #[.int .i64 1, .bool false], .int .i64 0]) (by simp [results, Try.results18, go_sem]) rfl ⟨rfl, (Below.refl _ _).alloc (Nat.le_refl _) _⟩

set_option maxHeartbeats 400000 in
theorem of_18_2 (bits : Int) (w : World) : OfT 18 2 bits (1,false,0) w := by
  unfold OfT
  go_enter Try.func18, Try.ntmps18
  go_wp2
  exact bodyPost_ret (v := .tuple #[.agg #[.int .i64 1, .bool false], .int .i64 0]) (by simp [results, Try.results18, go_sem]) rfl ⟨rfl, (Below.refl _ _).alloc (Nat.le_refl _) _⟩

set_option maxHeartbeats 400000 in
theorem of_18_3 (bits : Int) (w : World) : OfT 18 3 bits (8,false,0) w := by
  unfold OfT
  go_enter Try.func18, Try.ntmps18
  go_wp2
  exact bodyPost_ret (v := .tuple #[.agg #[.int .i64 8, .bool false], .int .i64 0]) (by simp [results, Try.results18, go_sem]) rfl ⟨rfl, (Below.refl _ _).alloc (Nat.le_refl _) _⟩

set_option maxHeartbeats 400000 in
theorem of_18_7 (bits : Int) (w : World) : OfT 18 7 bits (8,false,0) w := by
  unfold OfT
  go_enter Try.func18, Try.ntmps18
  go_wp2
  exact bodyPost_ret (v := .tuple #[.agg #[.int .i64 8, .bool false], .int .i64 0]) (by simp [results, Try.results18, go_sem]) rfl ⟨rfl, (Below.refl _ _).alloc (Nat.le_refl _) _⟩

set_option maxHeartbeats 400000 in
theorem of_18_8 (bits : Int) (w : World) : OfT 18 8 bits (8,false,0) w := by
  unfold OfT
  go_enter Try.func18, Try.ntmps18
  go_wp2
  exact bodyPost_ret (v := .tuple #[.agg #[.int .i64 8, .bool false], .int .i64 0]) (by simp [results, Try.results18, go_sem]) rfl ⟨rfl, (Below.refl _ _).alloc (Nat.le_refl _) _⟩

set_option maxHeartbeats 400000 in
theorem of_18_9 (bits : Int) (w : World) : OfT 18 9 bits (8,false,0) w := by
  unfold OfT
  go_enter Try.func18, Try.ntmps18
  go_wp2
  exact bodyPost_ret (v := .tuple #[.agg #[.int .i64 8, .bool false], .int .i64 0]) (by simp [results, Try.results18, go_sem]) rfl ⟨rfl, (Below.refl _ _).alloc (Nat.le_refl _) _⟩

set_option maxHeartbeats 400000 in
theorem of_18_4 (bits : Int) (w : World) : OfT 18 4 bits (16,true,0) w := by
  unfold OfT
  go_enter Try.func18, Try.ntmps18
  go_wp2
  exact bodyPost_ret (v := .tuple #[.agg #[.int .i64 16, .bool true], .int .i64 0]) (by simp [results, Try.results18, go_sem]) rfl ⟨rfl, (Below.refl _ _).alloc (Nat.le_refl _) _⟩

set_option maxHeartbeats 400000 in
theorem of_18_5 (bits : Int) (w : World) : OfT 18 5 bits (32,true,0) w := by
  unfold OfT
  go_enter Try.func18, Try.ntmps18
  go_wp2
  exact bodyPost_ret (v := .tuple #[.agg #[.int .i64 32, .bool true], .int .i64 0]) (by simp [results, Try.results18, go_sem]) rfl ⟨rfl, (Below.refl _ _).alloc (Nat.le_refl _) _⟩

set_option maxHeartbeats 400000 in
theorem of_18_6y (bits : Int) (w : World) (h1 : 1 ≤ bits) (h2 : bits ≤ 32) : OfT 18 6 bits (bits,false,0) w := by
  unfold OfT
  go_enter Try.func18, Try.ntmps18
  go_wp2
  exact bodyPost_ret (v := .tuple #[.agg #[.int .i64 bits, .bool false], .int .i64 0]) (by simp [results, Try.results18, go_sem]) rfl ⟨rfl, (Below.refl _ _).alloc (Nat.le_refl _) _⟩

set_option maxHeartbeats 400000 in
theorem of_18_6a (bits : Int) (w : World) (h1 : bits < 1) : OfT 18 6 bits (0,false,16) w := by
  unfold OfT
  go_enter Try.func18, Try.ntmps18
  go_wp2
  exact bodyPost_ret (v := .tuple #[.agg #[.int .i64 0, .bool false], .int .i64 16]) (by simp [results, Try.results18, go_sem]) rfl ⟨rfl, (Below.refl _ _).alloc (Nat.le_refl _) _⟩

set_option maxHeartbeats 400000 in
theorem of_18_6b (bits : Int) (w : World) (h1 : 32 < bits) : OfT 18 6 bits (0,false,16) w := by
  unfold OfT
  have h2 : 1 ≤ bits := by omega
  go_enter Try.func18, Try.ntmps18
  go_wp2
  exact bodyPost_ret (v := .tuple #[.agg #[.int .i64 0, .bool false], .int .i64 16]) (by simp [results, Try.results18, go_sem]) rfl ⟨rfl, (Below.refl _ _).alloc (Nat.le_refl _) _⟩

set_option maxHeartbeats 400000 in
theorem of_18_lo (ty bits : Int) (w : World) (h1 : ty < 1) : OfT 18 ty bits (0,false,16) w := by
  unfold OfT
  go_enter Try.func18, Try.ntmps18
  go_wp2
  exact bodyPost_ret (v := .tuple #[.agg #[.int .i64 0, .bool false], .int .i64 16]) (by simp [results, Try.results18, go_sem]) rfl ⟨rfl, (Below.refl _ _).alloc (Nat.le_refl _) _⟩

set_option maxHeartbeats 400000 in
theorem of_18_hi (ty bits : Int) (w : World) (h1 : 9 < ty) : OfT 18 ty bits (0,false,16) w := by
  unfold OfT
  go_enter Try.func18, Try.ntmps18
  go_wp2
  exact bodyPost_ret (v := .tuple #[.agg #[.int .i64 0, .bool false], .int .i64 16]) (by simp [results, Try.results18, go_sem]) rfl ⟨rfl, (Below.refl _ _).alloc (Nat.le_refl _) _⟩

theorem of_18 (ty bits : Int) (w : World) : OfT 18 ty bits (ofT ty bits) w := by
  by_cases hlo : ty < 1
  · rw [show ofT ty bits = (0, false, 16) by unfold ofT; repeat (rw [if_neg (by omega)])]
    exact of_18_lo ty bits w hlo
  by_cases hhi : 9 < ty
  · rw [show ofT ty bits = (0, false, 16) by unfold ofT; repeat (rw [if_neg (by omega)])]
    exact of_18_hi ty bits w hhi
  have h : ty = 1 ∨ ty = 2 ∨ ty = 3 ∨ ty = 4 ∨ ty = 5 ∨ ty = 6 ∨ ty = 7 ∨ ty = 8 ∨ ty = 9 := by omega
  rcases h with rfl | rfl | rfl | rfl | rfl | rfl | rfl | rfl | rfl
  · exact of_18_1 bits w
  · exact of_18_2 bits w
  · exact of_18_3 bits w
  · exact of_18_4 bits w
  · exact of_18_5 bits w
  · by_cases h1 : bits < 1
    · rw [show ofT 6 bits = (0, false, 16) by unfold ofT; repeat (rw [if_neg (by omega)])]
      exact of_18_6a bits w h1
    · by_cases h2 : 32 < bits
      · rw [show ofT 6 bits = (0, false, 16) by unfold ofT; repeat (rw [if_neg (by omega)])]
        exact of_18_6b bits w h2
      · rw [show ofT 6 bits = (bits, false, 0) by unfold ofT; (repeat (rw [if_neg (by omega)])); rw [if_pos (by omega)]]
        exact of_18_6y bits w (by omega) (by omega)
  · exact of_18_7 bits w
  · exact of_18_8 bits w
  · exact of_18_9 bits w

theorem of_18_c (ty bits B E : Int) (S : Bool) (h : Hid (ofT ty bits = (B, S, E))) (w0 w : World) (hb : Below w0.heap.size w0 w) :
    Calls Try.prog 18 #[.int .i64 ty, .int .i64 bits] w fun e w' => e = .returned (.tuple #[.agg #[.int .i64 B, .bool S], .int .i64 E]) ∧ Below w0.heap.size w0 w' ∧ Below w.heap.size w w' :=
  Calls.mono (of_18 ty bits w) fun _ _ ⟨he, hb'⟩ => ⟨by rw [he, h.out], hb.trans (hb'.mono hb.size), hb'⟩

end Go.Proofs.Ytfcdbgaopjghlaa
