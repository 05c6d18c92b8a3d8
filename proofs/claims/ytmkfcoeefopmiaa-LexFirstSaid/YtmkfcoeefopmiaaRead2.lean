/- The contract of read at marks. -/
import Derived.Test.YtmkfcoeefopmiaaMark
namespace Go.Proofs.Ytmkfcoeefopmiaa
open Go.ChangeShapes Go.WideShapes Go.ChangeAt Go.RowKit

theorem ext2 (u : ByteArray) (h : 1 < u.size) : ∃ a b : UInt8, (u.extract 0 2).data.toList = [a, b] ∧ a.toNat = byt u 0 ∧ b.toNat = byt u 1 := by
  have h0 : 0 < u.data.toList.length := by simp; omega
  have h1 : 1 < u.data.toList.length := by simpa using h
  refine ⟨u.data.toList[0], u.data.toList[1], ?_, byt_get u 0 h0, byt_get u 1 h1⟩
  rw [ByteArray.data_extract, Array.toList_extract]
  generalize u.data.toList = l at *
  match l, h1 with
  | a :: b :: l, _ => simp

theorem indexByte_nonneg (c : UInt8) : ∀ l : List UInt8, decide (0 ≤ Lib.indexByte l c) = l.contains c := by
  intro l
  induction l with
  | nil => rfl
  | cons b l ih =>
    rw [Lib.indexByte, List.contains_cons]
    by_cases h : b = c
    · subst h; simp
    · have h1 : (b == c) = false := by simpa using h
      have h2 : (c == b) = false := by simpa using Ne.symm h
      rw [h1, h2, Bool.false_or, ← ih]
      by_cases hm : Lib.indexByte l c = -1
      · simp [hm]
      · have : (Lib.indexByte l c == -1) = false := by simpa using hm
        rw [this]
        have hge : -1 ≤ Lib.indexByte l c := by
          clear ih hm this h h1 h2
          induction l with
          | nil => simp [Lib.indexByte]
          | cons x l ih2 => rw [Lib.indexByte]; split <;> (try split) <;> omega
        rw [Bool.eq_iff_iff]
        simp
        omega

def shorts : List UInt8 := [33, 63, 60, 62, 61, 43, 45, 42, 47, 37, 38, 124, 94, 126, 40, 41, 91, 93, 123, 125, 44, 59, 58, 46, 64, 35]
theorem shorts_is : ∀ c : Nat, c < 256 → shorts.contains c.toUInt8 = short1 c := by decide +kernel
theorem indexByte_as (c : Nat) (I : Int) (h : Hid (Lib.indexByte shorts c.toUInt8 = I)) (w : World) :
    Calls Try.prog 21 #[.string ⟨#[33, 63, 60, 62, 61, 43, 45, 42, 47, 37, 38, 124, 94, 126, 40, 41, 91, 93, 123, 125, 44, 59, 58, 46, 64, 35]⟩, .int .u8 (c : Int)] w fun e w' => e = .returned (.int .i64 I) ∧ w' = w :=
  (Try.strings_IndexByte _ (c : Int) w).mono fun e w' ⟨he, hw⟩ => ⟨by rw [he, ← h.out]; rfl, hw⟩

def Read2 (u : ByteArray) (w : World) (v : Value) : Prop := Calls Try.prog 9 #[.string u] w fun e w' => e = .returned v ∧ Below w.heap.size w w'

set_option maxRecDepth 100000 in
set_option maxHeartbeats 1000000 in
theorem read_long (u : ByteArray) (w : World) (_h1 : 1 ≤ u.size) (hl : isL (byt u 0) = false) (hd : isD (byt u 0) = false) (x1 : ¬ byt u 0 = 39) (x2 : ¬ byt u 0 = 34) (m : Int) (hm : w.cell? ⟨0, 0, none⟩ = some (.int .i64 m)) (h2 : 1 < u.size) (hk : long2 (byt u 0) (byt u 1) = true) :
    Read2 u w (.tuple #[Tok 4 0 0 (u.extract 0 2) 0, .int .i64 2, .int .i64 0]) := by
  unfold Read2
  have HM : Hid (∀ o, (w.alloc o).cell? ⟨0, 0, none⟩ = some (.int .i64 m)) := Lib.hid fun o => by
    have h0 := World.block_lt_of_cell? w _ hm
    rw [World.cell?_of_block (w := w) (Below.heap_alloc w o 0 h0)]; exact hm
  have e0 := byt_at u 0 (by omega)
  have hq : 0 < (u.size : Int) := by omega
  obtain ⟨a, b, hv, ha, hb⟩ := ext2 u h2
  have HV := Lib.hid hv
  rw [← ha, ← hb] at hk
  have h2i : 1 < (u.size : Int) := by omega
  clear hv
  rw [← ha] at e0 hl hd x1 x2
  obtain ⟨c, hc⟩ : ∃ c, a.toNat = c := ⟨_, rfl⟩
  have HI : Hid (Lib.indexByte shorts c.toUInt8 = Lib.indexByte shorts c.toUInt8) := Lib.hid rfl
  clear ha hb hc
  clear hm
  go_enter Try.func9, Try.ntmps9
  go_wp2_with (first | (go_at_call 14; refine (isL_any _ _).mono ?_; rintro e w' ⟨rfl, rfl⟩) | (go_at_call 16; refine (isD_any _ _).mono ?_; rintro e w' ⟨rfl, rfl⟩) | (go_at_call 20; refine (mark_any _ a b HV.out m _ (HM.out _)).mono ?_; rintro e w' ⟨rfl, rfl⟩) | (go_at_call 21; refine (indexByte_as c _ HI _).mono ?_; rintro e w' ⟨rfl, rfl⟩))
  exact bodyPost_ret (v := .tuple #[Tok 4 0 0 (u.extract 0 2) 0, .int .i64 2, .int .i64 0]) (by simp [results, Try.results9, go_sem, Tok]) rfl ⟨rfl, (by repeat (first | exact Below.refl _ _ | (refine Below.setCell ?_ (by simp) _) | (refine Below.alloc ?_ (by simp) _)))⟩

set_option maxRecDepth 100000 in
set_option maxHeartbeats 1000000 in
theorem read_short_one (u : ByteArray) (w : World) (h1 : 1 ≤ u.size) (hl : isL (byt u 0) = false) (hd : isD (byt u 0) = false) (x1 : ¬ byt u 0 = 39) (x2 : ¬ byt u 0 = 34) (m : Int) (hm : w.cell? ⟨0, 0, none⟩ = some (.int .i64 m)) (hs : short1 (byt u 0) = true) (h2 : ¬ 1 < u.size) :
    Read2 u w (.tuple #[Tok 4 0 0 (u.extract 0 1) 0, .int .i64 1, .int .i64 0]) := by
  unfold Read2
  have HM : Hid (∀ o, (w.alloc o).cell? ⟨0, 0, none⟩ = some (.int .i64 m)) := Lib.hid fun o => by
    have h0 := World.block_lt_of_cell? w _ hm
    rw [World.cell?_of_block (w := w) (Below.heap_alloc w o 0 h0)]; exact hm
  have e0 := byt_at u 0 (by omega)
  have hq : 0 < (u.size : Int) := by omega
  obtain ⟨c, hc⟩ : ∃ c, byt u 0 = c := ⟨_, rfl⟩
  have hc256 : c < 256 := by rw [← hc]; exact byt_lt u 0
  rw [hc] at e0 hl hd x1 x2 hs
  have hix := indexByte_nonneg c.toUInt8 shorts
  rw [shorts_is c hc256] at hix
  obtain ⟨I, hI⟩ : ∃ I, Lib.indexByte shorts c.toUInt8 = I := ⟨_, rfl⟩
  have HI := Lib.hid hI
  rw [hI] at hix
  rw [hs] at hix
  have hI0 : 0 ≤ I := by simpa using hix
  clear hI hix hs
  have h2i : ¬ 1 < (u.size : Int) := by omega
  clear hc
  clear hm
  go_enter Try.func9, Try.ntmps9
  go_wp2_with (first | (go_at_call 14; refine (isL_any _ _).mono ?_; rintro e w' ⟨rfl, rfl⟩) | (go_at_call 16; refine (isD_any _ _).mono ?_; rintro e w' ⟨rfl, rfl⟩) | (go_at_call 21; refine (indexByte_as c _ HI _).mono ?_; rintro e w' ⟨rfl, rfl⟩))
  exact bodyPost_ret (v := .tuple #[Tok 4 0 0 (u.extract 0 1) 0, .int .i64 1, .int .i64 0]) (by simp [results, Try.results9, go_sem, Tok]) rfl ⟨rfl, (by repeat (first | exact Below.refl _ _ | (refine Below.setCell ?_ (by simp) _) | (refine Below.alloc ?_ (by simp) _)))⟩

set_option maxRecDepth 100000 in
set_option maxHeartbeats 1000000 in
theorem read_short_two (u : ByteArray) (w : World) (_h1 : 1 ≤ u.size) (hl : isL (byt u 0) = false) (hd : isD (byt u 0) = false) (x1 : ¬ byt u 0 = 39) (x2 : ¬ byt u 0 = 34) (m : Int) (hm : w.cell? ⟨0, 0, none⟩ = some (.int .i64 m)) (hs : short1 (byt u 0) = true) (h2 : 1 < u.size) (hk : long2 (byt u 0) (byt u 1) = false) :
    Read2 u w (.tuple #[Tok 4 0 0 (u.extract 0 1) 0, .int .i64 1, .int .i64 0]) := by
  unfold Read2
  have HM : Hid (∀ o, (w.alloc o).cell? ⟨0, 0, none⟩ = some (.int .i64 m)) := Lib.hid fun o => by
    have h0 := World.block_lt_of_cell? w _ hm
    rw [World.cell?_of_block (w := w) (Below.heap_alloc w o 0 h0)]; exact hm
  have e0 := byt_at u 0 (by omega)
  have hq : 0 < (u.size : Int) := by omega
  obtain ⟨c, hc⟩ : ∃ c, byt u 0 = c := ⟨_, rfl⟩
  have hc256 : c < 256 := by rw [← hc]; exact byt_lt u 0
  obtain ⟨a, b, hv, ha, hb⟩ := ext2 u h2
  have HV := Lib.hid hv
  rw [← hb] at hk
  rw [hc] at e0 hl hd x1 x2 hs hk ha
  subst ha
  have h2i : 1 < (u.size : Int) := by omega
  clear hv hb hc
  have hix := indexByte_nonneg a.toNat.toUInt8 shorts
  rw [shorts_is a.toNat hc256] at hix
  obtain ⟨I, hI⟩ : ∃ I, Lib.indexByte shorts a.toNat.toUInt8 = I := ⟨_, rfl⟩
  have HI := Lib.hid hI
  rw [hI] at hix
  rw [hs] at hix
  have hI0 : 0 ≤ I := by simpa using hix
  clear hI hix hs
  clear hm
  go_enter Try.func9, Try.ntmps9
  go_wp2_with (first | (go_at_call 14; refine (isL_any _ _).mono ?_; rintro e w' ⟨rfl, rfl⟩) | (go_at_call 16; refine (isD_any _ _).mono ?_; rintro e w' ⟨rfl, rfl⟩) | (go_at_call 20; refine (mark_any _ a b HV.out m _ (HM.out _)).mono ?_; rintro e w' ⟨rfl, rfl⟩) | (go_at_call 21; refine (indexByte_as a.toNat _ HI _).mono ?_; rintro e w' ⟨rfl, rfl⟩))
  exact bodyPost_ret (v := .tuple #[Tok 4 0 0 (u.extract 0 1) 0, .int .i64 1, .int .i64 0]) (by simp [results, Try.results9, go_sem, Tok]) rfl ⟨rfl, (by repeat (first | exact Below.refl _ _ | (refine Below.setCell ?_ (by simp) _) | (refine Below.alloc ?_ (by simp) _)))⟩

set_option maxRecDepth 100000 in
set_option maxHeartbeats 1000000 in
theorem read_bad_one (u : ByteArray) (w : World) (h1 : 1 ≤ u.size) (hl : isL (byt u 0) = false) (hd : isD (byt u 0) = false) (x1 : ¬ byt u 0 = 39) (x2 : ¬ byt u 0 = 34) (m : Int) (hm : w.cell? ⟨0, 0, none⟩ = some (.int .i64 m)) (hs : short1 (byt u 0) = false) (h2 : ¬ 1 < u.size) :
    Read2 u w (.tuple #[zeroTok, .int .i64 0, .int .i64 2]) := by
  unfold Read2
  have HM : Hid (∀ o, (w.alloc o).cell? ⟨0, 0, none⟩ = some (.int .i64 m)) := Lib.hid fun o => by
    have h0 := World.block_lt_of_cell? w _ hm
    rw [World.cell?_of_block (w := w) (Below.heap_alloc w o 0 h0)]; exact hm
  have e0 := byt_at u 0 (by omega)
  have hq : 0 < (u.size : Int) := by omega
  obtain ⟨c, hc⟩ : ∃ c, byt u 0 = c := ⟨_, rfl⟩
  have hc256 : c < 256 := by rw [← hc]; exact byt_lt u 0
  rw [hc] at e0 hl hd x1 x2 hs
  have hix := indexByte_nonneg c.toUInt8 shorts
  rw [shorts_is c hc256] at hix
  obtain ⟨I, hI⟩ : ∃ I, Lib.indexByte shorts c.toUInt8 = I := ⟨_, rfl⟩
  have HI := Lib.hid hI
  rw [hI] at hix
  rw [hs] at hix
  have hI0 : I < 0 := by simpa using hix
  clear hI hix hs
  have h2i : ¬ 1 < (u.size : Int) := by omega
  clear hc
  clear hm
  go_enter Try.func9, Try.ntmps9
  go_wp2_with (first | (go_at_call 14; refine (isL_any _ _).mono ?_; rintro e w' ⟨rfl, rfl⟩) | (go_at_call 16; refine (isD_any _ _).mono ?_; rintro e w' ⟨rfl, rfl⟩) | (go_at_call 21; refine (indexByte_as c _ HI _).mono ?_; rintro e w' ⟨rfl, rfl⟩))
  exact bodyPost_ret (v := .tuple #[zeroTok, .int .i64 0, .int .i64 2]) (by simp [results, Try.results9, go_sem, zeroTok]) rfl ⟨rfl, (by repeat (first | exact Below.refl _ _ | (refine Below.setCell ?_ (by simp) _) | (refine Below.alloc ?_ (by simp) _)))⟩

set_option maxRecDepth 100000 in
set_option maxHeartbeats 1000000 in
theorem read_bad_two (u : ByteArray) (w : World) (_h1 : 1 ≤ u.size) (hl : isL (byt u 0) = false) (hd : isD (byt u 0) = false) (x1 : ¬ byt u 0 = 39) (x2 : ¬ byt u 0 = 34) (m : Int) (hm : w.cell? ⟨0, 0, none⟩ = some (.int .i64 m)) (hs : short1 (byt u 0) = false) (h2 : 1 < u.size) (hk : long2 (byt u 0) (byt u 1) = false) :
    Read2 u w (.tuple #[zeroTok, .int .i64 0, .int .i64 2]) := by
  unfold Read2
  have HM : Hid (∀ o, (w.alloc o).cell? ⟨0, 0, none⟩ = some (.int .i64 m)) := Lib.hid fun o => by
    have h0 := World.block_lt_of_cell? w _ hm
    rw [World.cell?_of_block (w := w) (Below.heap_alloc w o 0 h0)]; exact hm
  have e0 := byt_at u 0 (by omega)
  have hq : 0 < (u.size : Int) := by omega
  obtain ⟨c, hc⟩ : ∃ c, byt u 0 = c := ⟨_, rfl⟩
  have hc256 : c < 256 := by rw [← hc]; exact byt_lt u 0
  obtain ⟨a, b, hv, ha, hb⟩ := ext2 u h2
  have HV := Lib.hid hv
  rw [← hb] at hk
  rw [hc] at e0 hl hd x1 x2 hs hk ha
  subst ha
  have h2i : 1 < (u.size : Int) := by omega
  clear hv hb hc
  have hix := indexByte_nonneg a.toNat.toUInt8 shorts
  rw [shorts_is a.toNat hc256] at hix
  obtain ⟨I, hI⟩ : ∃ I, Lib.indexByte shorts a.toNat.toUInt8 = I := ⟨_, rfl⟩
  have HI := Lib.hid hI
  rw [hI] at hix
  rw [hs] at hix
  have hI0 : I < 0 := by simpa using hix
  clear hI hix hs
  clear hm
  go_enter Try.func9, Try.ntmps9
  go_wp2_with (first | (go_at_call 14; refine (isL_any _ _).mono ?_; rintro e w' ⟨rfl, rfl⟩) | (go_at_call 16; refine (isD_any _ _).mono ?_; rintro e w' ⟨rfl, rfl⟩) | (go_at_call 20; refine (mark_any _ a b HV.out m _ (HM.out _)).mono ?_; rintro e w' ⟨rfl, rfl⟩) | (go_at_call 21; refine (indexByte_as a.toNat _ HI _).mono ?_; rintro e w' ⟨rfl, rfl⟩))
  exact bodyPost_ret (v := .tuple #[zeroTok, .int .i64 0, .int .i64 2]) (by simp [results, Try.results9, go_sem, zeroTok]) rfl ⟨rfl, (by repeat (first | exact Below.refl _ _ | (refine Below.setCell ?_ (by simp) _) | (refine Below.alloc ?_ (by simp) _)))⟩

end Go.Proofs.Ytmkfcoeefopmiaa
