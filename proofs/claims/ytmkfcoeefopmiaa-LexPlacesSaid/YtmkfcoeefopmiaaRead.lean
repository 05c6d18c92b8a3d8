/- The contract of read: the token with which a text begins. -/
import Derived.Test.YtmkfcoeefopmiaaMark
namespace Go.Proofs.Ytmkfcoeefopmiaa
open Go.ChangeShapes Go.WideShapes Go.ChangeAt Go.RowKit

/-- The token with which a text begins, or what is wrong. -/
def readR (u : ByteArray) : Value :=
  if isL (byt u 0) then (if run isLD u.data.toList ≤ 32 then .tuple #[Tok 1 0 0 (u.extract 0 (run isLD u.data.toList)) 0, .int .i64 (run isLD u.data.toList : Nat), .int .i64 0] else .tuple #[zeroTok, .int .i64 0, .int .i64 5])
  else if isD (byt u 0) then
    (if cap 2147483648 (u.data.toList.take (run isD u.data.toList)) 0 ≤ 2147483647 then .tuple #[Tok 2 0 0 (u.extract 0 (run isD u.data.toList)) (cap 2147483648 (u.data.toList.take (run isD u.data.toList)) 0 : Nat), .int .i64 (run isD u.data.toList : Nat), .int .i64 0] else .tuple #[zeroTok, .int .i64 0, .int .i64 4])
  else if byt u 0 = 39 then byteR u (byteB u)
  else if byt u 0 = 34 then textR u (quotAt u 1)
  else if 1 < u.size ∧ long2 (byt u 0) (byt u 1) = true then .tuple #[Tok 4 0 0 (u.extract 0 2) 0, .int .i64 2, .int .i64 0]
  else if short1 (byt u 0) = true then .tuple #[Tok 4 0 0 (u.extract 0 1) 0, .int .i64 1, .int .i64 0]
  else .tuple #[zeroTok, .int .i64 0, .int .i64 2]

theorem bcell {W w1 : World} (hb : Below W.heap.size W w1) : (∀ b o, b < W.heap.size → w1.cell? ⟨b, o, none⟩ = W.cell? ⟨b, o, none⟩) ∧ (∀ b o, b < W.heap.size → w1.frozen? ⟨b, o, none⟩ = W.frozen? ⟨b, o, none⟩) :=
  ⟨fun b o h => hb.cell (p := ⟨b, o, none⟩) h, fun b o h => hb.frozen (p := ⟨b, o, none⟩) h⟩

def ReadC (u : ByteArray) (w : World) (v : Value) : Prop := Calls Try.prog 9 #[.string u] w fun e w' => e = .returned v ∧ Below w.heap.size w w'

/-- What each reader hands back: a token's five parts, a size, an error's number. -/
def Six (k a l : Int) (t : ByteArray) (n sz er : Int) : Value := .tuple #[.agg #[.int .i64 k, .int .i64 a, .int .i64 l, .string t, .int .i64 n], .int .i64 sz, .int .i64 er]

set_option maxRecDepth 100000 in
set_option maxHeartbeats 1000000 in
theorem read_name (u : ByteArray) (w : World) (h1 : 1 ≤ u.size) (k a l : Int) (t : ByteArray) (n sz er : Int) (hcal : ∀ w : World, Calls Try.prog 15 #[.string u] w fun e w' => e = .returned (Six k a l t n sz er) ∧ Below w.heap.size w w') (hl : isL (byt u 0) = true) :
    ReadC u w (Six k a l t n sz er) := by
  unfold ReadC
  unfold Six at *
  have e0 := byt_at u 0 (by omega)
  generalize byt u 0 = c at *
  have HCAL := Lib.hid hcal
  clear hcal
  have hq : 0 < (u.size : Int) := by omega
  go_enter Try.func9, Try.ntmps9
  go_wp2_with (first | (go_at_call 14; refine (isL_any _ _).mono ?_; rintro e w' ⟨rfl, rfl⟩) | (go_at_call 16; refine (isD_any _ _).mono ?_; rintro e w' ⟨rfl, rfl⟩) | (go_at_call 15; refine (HCAL.out _).mono ?_; rintro e w1 ⟨rfl, hb⟩; obtain ⟨hcc, hff⟩ := bcell hb; have hz := hb.size; simp at hz))
  exact bodyPost_ret (v := .tuple #[.agg #[.int .i64 k, .int .i64 a, .int .i64 l, .string t, .int .i64 n], .int .i64 sz, .int .i64 er]) (by simp [results, Try.results9, go_sem, hcc]) rfl ⟨rfl, (by repeat (first | exact ((Below.refl _ _).alloc (Nat.le_refl _) _).trans (hb.mono (by simp)) | (refine Below.setCell ?_ (by simp) _)))⟩

set_option maxRecDepth 100000 in
set_option maxHeartbeats 1000000 in
theorem read_num (u : ByteArray) (w : World) (h1 : 1 ≤ u.size) (k a l : Int) (t : ByteArray) (n sz er : Int) (hcal : ∀ w : World, Calls Try.prog 17 #[.string u] w fun e w' => e = .returned (Six k a l t n sz er) ∧ Below w.heap.size w w') (hl : isL (byt u 0) = false) (hd : isD (byt u 0) = true) :
    ReadC u w (Six k a l t n sz er) := by
  unfold ReadC
  unfold Six at *
  have e0 := byt_at u 0 (by omega)
  generalize byt u 0 = c at *
  have HCAL := Lib.hid hcal
  clear hcal
  have hq : 0 < (u.size : Int) := by omega
  go_enter Try.func9, Try.ntmps9
  go_wp2_with (first | (go_at_call 14; refine (isL_any _ _).mono ?_; rintro e w' ⟨rfl, rfl⟩) | (go_at_call 16; refine (isD_any _ _).mono ?_; rintro e w' ⟨rfl, rfl⟩) | (go_at_call 17; refine (HCAL.out _).mono ?_; rintro e w1 ⟨rfl, hb⟩; obtain ⟨hcc, hff⟩ := bcell hb; have hz := hb.size; simp at hz))
  exact bodyPost_ret (v := .tuple #[.agg #[.int .i64 k, .int .i64 a, .int .i64 l, .string t, .int .i64 n], .int .i64 sz, .int .i64 er]) (by simp [results, Try.results9, go_sem, hcc]) rfl ⟨rfl, (by repeat (first | exact ((Below.refl _ _).alloc (Nat.le_refl _) _).trans (hb.mono (by simp)) | (refine Below.setCell ?_ (by simp) _)))⟩

set_option maxRecDepth 100000 in
set_option maxHeartbeats 1000000 in
theorem read_byte (u : ByteArray) (w : World) (h1 : 1 ≤ u.size) (k a l : Int) (t : ByteArray) (n sz er : Int) (hcal : ∀ w : World, Calls Try.prog 18 #[.string u] w fun e w' => e = .returned (Six k a l t n sz er) ∧ Below w.heap.size w w') (hl : isL (byt u 0) = false) (hd : isD (byt u 0) = false) (hx : byt u 0 = 39) :
    ReadC u w (Six k a l t n sz er) := by
  unfold ReadC
  unfold Six at *
  have e0 := byt_at u 0 (by omega)
  generalize byt u 0 = c at *
  have HCAL := Lib.hid hcal
  clear hcal
  have hq : 0 < (u.size : Int) := by omega
  subst hx
  go_enter Try.func9, Try.ntmps9
  go_wp2_with (first | (go_at_call 14; refine (isL_any _ _).mono ?_; rintro e w' ⟨rfl, rfl⟩) | (go_at_call 16; refine (isD_any _ _).mono ?_; rintro e w' ⟨rfl, rfl⟩) | (go_at_call 18; refine (HCAL.out _).mono ?_; rintro e w1 ⟨rfl, hb⟩; obtain ⟨hcc, hff⟩ := bcell hb; have hz := hb.size; simp at hz))
  exact bodyPost_ret (v := .tuple #[.agg #[.int .i64 k, .int .i64 a, .int .i64 l, .string t, .int .i64 n], .int .i64 sz, .int .i64 er]) (by simp [results, Try.results9, go_sem, hcc]) rfl ⟨rfl, (by repeat (first | exact ((Below.refl _ _).alloc (Nat.le_refl _) _).trans (hb.mono (by simp)) | (refine Below.setCell ?_ (by simp) _)))⟩

set_option maxRecDepth 100000 in
set_option maxHeartbeats 1000000 in
theorem read_text (u : ByteArray) (w : World) (h1 : 1 ≤ u.size) (k a l : Int) (t : ByteArray) (n sz er : Int) (hcal : ∀ w : World, Calls Try.prog 19 #[.string u] w fun e w' => e = .returned (Six k a l t n sz er) ∧ Below w.heap.size w w') (hl : isL (byt u 0) = false) (hd : isD (byt u 0) = false) (hx : byt u 0 = 34) :
    ReadC u w (Six k a l t n sz er) := by
  unfold ReadC
  unfold Six at *
  have e0 := byt_at u 0 (by omega)
  generalize byt u 0 = c at *
  have HCAL := Lib.hid hcal
  clear hcal
  have hq : 0 < (u.size : Int) := by omega
  subst hx
  go_enter Try.func9, Try.ntmps9
  go_wp2_with (first | (go_at_call 14; refine (isL_any _ _).mono ?_; rintro e w' ⟨rfl, rfl⟩) | (go_at_call 16; refine (isD_any _ _).mono ?_; rintro e w' ⟨rfl, rfl⟩) | (go_at_call 19; refine (HCAL.out _).mono ?_; rintro e w1 ⟨rfl, hb⟩; obtain ⟨hcc, hff⟩ := bcell hb; have hz := hb.size; simp at hz))
  exact bodyPost_ret (v := .tuple #[.agg #[.int .i64 k, .int .i64 a, .int .i64 l, .string t, .int .i64 n], .int .i64 sz, .int .i64 er]) (by simp [results, Try.results9, go_sem, hcc]) rfl ⟨rfl, (by repeat (first | exact ((Below.refl _ _).alloc (Nat.le_refl _) _).trans (hb.mono (by simp)) | (refine Below.setCell ?_ (by simp) _)))⟩

end Go.Proofs.Ytmkfcoeefopmiaa
