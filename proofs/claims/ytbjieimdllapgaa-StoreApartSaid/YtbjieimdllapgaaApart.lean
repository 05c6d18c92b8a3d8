/- StoreApart, walked: whatever texts are put, each has one number, each number one text. -/
import Derived.Test.YtbjieimdllapgaaHas
namespace Go.Proofs.Ytbjieimdllapgaa
open Go.ChangeShapes Go.WideShapes Go.ChangeAt Go.RowKit

/-- What is put stands among the texts. -/
def Met (ss keys : List ByteArray) (k : Nat) : Prop := ∀ i, i < k → ∃ j, j < keys.length ∧ keys.getD j ByteArray.empty = ss.getD i ByteArray.empty

theorem Met.old {ss keys : List ByteArray} {k j : Nat} (h : Met ss keys k) (hj : j < keys.length) (he : keys.getD j ByteArray.empty = ss.getD k ByteArray.empty) : Met ss keys (k + 1) := by
  intro i hi
  rcases Nat.lt_or_ge i k with h1 | h1
  · exact h i h1
  · rw [show i = k by omega]; exact ⟨j, hj, he⟩

theorem Met.fresh {ss keys : List ByteArray} {k : Nat} (h : Met ss keys k) : Met ss (keys ++ [ss.getD k ByteArray.empty]) (k + 1) := by
  intro i hi
  rcases Nat.lt_or_ge i k with h1 | h1
  · obtain ⟨j, hj, he⟩ := h i h1
    exact ⟨j, by simp; omega, by rw [getD_append _ _ _ hj]; exact he⟩
  · rw [show i = k by omega]; exact ⟨keys.length, by simp, getD_last _ _⟩

/-- A slice of texts that came in. -/
def IsTexts (w : World) (o : Option Addr) (len : Nat) (ss : List ByteArray) : Prop :=
  ∀ i, i < len → ∃ ab off, o = some ⟨ab, off, none⟩ ∧ ab < w.heap.size ∧ w.cell? ⟨ab, off + i, none⟩ = some (.string (ss.getD i ByteArray.empty)) ∧ (ss.getD i ByteArray.empty).size ≤ maxLen

/-- What stands after k texts were put. -/
def After (w wr : World) (b : Nat) (ss keys : List ByteArray) (bts : List Int) (k : Nat) : Prop :=
  Has wr w.heap.size b 20000 keys bts ∧ Below w.heap.size w wr ∧ Met ss keys k

theorem IsTexts.at {w wr : World} {o : Option Addr} {len : Nat} {ss : List ByteArray} (h : IsTexts w o len ss) (hb : Below w.heap.size w wr) (i : Nat) (hi : i < len) :
    ∃ ab off, o = some ⟨ab, off, none⟩ ∧ wr.cell? ⟨ab, off + i, none⟩ = some (.string (ss.getD i ByteArray.empty)) ∧ (ss.getD i ByteArray.empty).size ≤ maxLen := by
  obtain ⟨ab, off, ho, hlt, hc, hs⟩ := h i hi
  exact ⟨ab, off, ho, by rw [hb.cell (p := ⟨ab, off + i, none⟩) hlt]; exact hc, hs⟩

set_option maxRecDepth 100000 in
set_option maxHeartbeats 4000000 in
theorem apart_walk (o : Option Addr) (len cap : Nat) (ss : List ByteArray) (w : World) (hl : len ≤ maxLen) (hin : IsTexts w o len ss) :
    Calls Try.prog 7 #[.slice o len cap] w fun e w' => e = .returned (.bool true) ∧ Below w.heap.size w w' := by
  unfold maxLen at hl
  have HIN := Lib.hid hin
  clear hin
  go_enter Try.func7, Try.ntmps7
  go_wp2_with fail
  refine (shown_any w).mono ?_
  rintro e w1 ⟨rfl, hb1⟩
  have hsz := hb1.size
  have HB1 := Lib.hid hb1
  clear hb1
  go_wp2_with fail
  refine (new_has 20000 w1 w.heap.size hsz (by decide) (by decide)).mono ?_
  rintro e w2 ⟨b, rfl, hoff, hhas⟩
  have HA : Hid (After w w2 b ss [] [] 0) := Lib.hid ⟨hhas, hoff.below HB1.out hsz, fun i hi => by omega⟩
  clear hoff hhas HB1 hsz
  go_wp2_with fail
  go_loopw [6] (fun i wr => ∃ (k : Nat) (keys : List ByteArray) (bts : List Int), i = .int .i64 k ∧ k ≤ len ∧ k ≤ 3000 ∧ keys.length ≤ k ∧ Hid (After w wr b ss keys bts k)) (fun i _ => len - (intOf i).toNat)
  case atStart => exact ⟨0, [], [], rfl, Nat.zero_le _, by decide, Nat.zero_le _, HA⟩
  case round =>
    clear HA
    obtain ⟨k, keys, bts, rfl, hk1, hk2, hk3, HA⟩ := hrel
    by_cases hc : k < len ∧ k < 3000
    · obtain ⟨hc1, hc2⟩ := hc
      obtain ⟨ab, off, rfl, hab, hcw, hsize⟩ := HIN.out k hc1
      obtain ⟨key, hkey⟩ : ∃ key, ss.getD k ByteArray.empty = key := ⟨_, rfl⟩
      rw [hkey] at hcw hsize
      have HKEY := Lib.hid hkey
      have HSZ := Lib.hid hsize
      have HCW : Hid (∀ wx, Below w.heap.size w wx → wx.cell? ⟨ab, off + k, none⟩ = some (.string key)) := Lib.hid fun wx hb => (hb.cell (p := ⟨ab, off + k, none⟩) hab).trans hcw
      have hcell := HCW.out _ HA.out.2.1
      clear hkey hsize hcw hab
      by_cases hex : ∃ j, j < keys.length ∧ keys.getD j ByteArray.empty = key
      · obtain ⟨j, hj, hjk⟩ := hex
        have HJK := Lib.hid hjk
        have hjq : (((j : Nat) : Int) == (keys.length : Int)) = false := by simp; omega
        have hjq2 : ((keys.length : Int) == ((j : Nat) : Int)) = false := by simp; omega
        have hjn : ¬ keys.length < j := by omega
        clear hjk
        go_wp2_with fail
        refine HA.out.1.len.mono ?_
        rintro e w3 ⟨rfl, rfl⟩
        go_wp2_with fail
        refine (HA.out.1.put_yes key HSZ.out j hj HJK.out).mono ?_
        rintro e w4 ⟨rfl, hl4⟩
        have hb4 := hl4.1.below HA.out.2.1 (HA.out.2.1.size)
        have hcell4 := HCW.out _ hb4
        have HH4 := Lib.hid hl4.2
        have HB4 := Lib.hid hb4
        clear hl4 hb4 hcell
        go_wp2_with fail
        refine (HH4.out.key_yes j hj key HJK).mono ?_
        rintro e w5 ⟨rfl, rfl⟩
        go_wp2_with fail
        refine (HH4.out.find_yes key HSZ.out j hj HJK.out).mono ?_
        rintro e w6 ⟨rfl, hl6⟩
        have hb6 := hl6.1.below HB4.out (HB4.out.size)
        have hcell6 := HCW.out _ hb6
        have HA6 : Hid (After w w6 b ss keys bts (k + 1)) := Lib.hid ⟨hl6.2, hb6, HA.out.2.2.old hj (by rw [HJK.out, HKEY.out])⟩
        clear hl6 hb6 hcell4
        go_wp2
        go_roundw
        case rel => exact ⟨k + 1, keys, bts, by go_num, by omega, by omega, by omega, HA6⟩
        case measure => simp [intOf]; omega
      · have hno : Hid (∀ i, i < keys.length → keys.getD i ByteArray.empty ≠ key) := Lib.hid fun i hi he => hex ⟨i, hi, he⟩
        clear hex
        have hlq : ((keys.length : Int) == (keys.length : Int)) = true := by simp
        have hroom : (keys.length : Int) < 20000 := by omega
        have hlast : Hid ((keys ++ [key]).getD keys.length ByteArray.empty = key) := Lib.hid (getD_last _ _)
        have hlen1 : Hid (keys.length < (keys ++ [key]).length) := Lib.hid (by simp)
        go_wp2_with fail
        refine HA.out.1.len.mono ?_
        rintro e w3 ⟨rfl, rfl⟩
        go_wp2_with fail
        refine (HA.out.1.put_new key HSZ.out hno.out hroom).mono ?_
        rintro e w4 ⟨rfl, hl4⟩
        have hb4 := hl4.1.below HA.out.2.1 (HA.out.2.1.size)
        have hcell4 := HCW.out _ hb4
        have HH4 := Lib.hid hl4.2
        have HB4 := Lib.hid hb4
        clear hl4 hb4 hcell
        go_wp2_with fail
        refine (HH4.out.key_yes keys.length hlen1.out key hlast).mono ?_
        rintro e w5 ⟨rfl, rfl⟩
        go_wp2_with fail
        refine (HH4.out.find_yes key HSZ.out keys.length hlen1.out hlast.out).mono ?_
        rintro e w6 ⟨rfl, hl6⟩
        have hb6 := hl6.1.below HB4.out (HB4.out.size)
        have hcell6 := HCW.out _ hb6
        have HA6 : Hid (After w w6 b ss (keys ++ [key]) (bts ++ [0]) (k + 1)) := Lib.hid ⟨hl6.2, hb6, by rw [← HKEY.out]; exact HA.out.2.2.fresh⟩
        clear hl6 hb6 hcell4
        go_wp2
        go_roundw
        case rel => exact ⟨k + 1, _, _, by go_num, by omega, by omega, by simp; omega, HA6⟩
        case measure => simp [intOf]; omega
    · have hkk : Hid (∀ j, j < len → j < 3000 → j < k) := Lib.hid fun j h1 h2 => by omega
      by_cases hc1 : k < len
      all_goals
        first
          | (have hc2 : ¬ k < 3000 := by omega)
          | (have hc2 : ¬ k < len := hc1)
        clear hc
        go_wp2_with fail
        go_loopw [15] (fun i wx => ∃ j : Nat, i = .int .i64 j ∧ j ≤ len ∧ Hid (After w wx b ss keys bts k)) (fun i _ => len - (intOf i).toNat)
        case atStart => exact ⟨0, rfl, Nat.zero_le _, HA⟩
        case round =>
          clear HA
          obtain ⟨j, rfl, hj1, HA⟩ := hrel
          by_cases hd : j < len ∧ j < 3000
          · obtain ⟨hd1, hd2⟩ := hd
            obtain ⟨ab, off, rfl, hab, hcw, hsize⟩ := HIN.out j hd1
            obtain ⟨key, hkey⟩ : ∃ key, ss.getD j ByteArray.empty = key := ⟨_, rfl⟩
            obtain ⟨m, hm, hmk⟩ := HA.out.2.2 j (hkk.out j hd1 hd2)
            rw [hkey] at hcw hsize hmk
            have HMK := Lib.hid hmk
            have HSZ := Lib.hid hsize
            have HCW : Hid (∀ wx, Below w.heap.size w wx → wx.cell? ⟨ab, off + j, none⟩ = some (.string key)) := Lib.hid fun wx hb => (hb.cell (p := ⟨ab, off + j, none⟩) hab).trans hcw
            have hcell := HCW.out _ HA.out.2.1
            clear hkey hsize hcw hab hmk hc1 hc2
            go_wp2_with fail
            refine (HA.out.1.find_yes key HSZ.out m hm HMK.out).mono ?_
            rintro e w4 ⟨rfl, hl4⟩
            have hb4 := hl4.1.below HA.out.2.1 (HA.out.2.1.size)
            have hcell4 := HCW.out _ hb4
            have HH4 := Lib.hid hl4.2
            have HA4 : Hid (After w w4 b ss keys bts k) := Lib.hid ⟨hl4.2, hb4, HA.out.2.2⟩
            clear hl4 hb4 hcell
            go_wp2_with fail
            refine (HH4.out.key_yes m hm key HMK).mono ?_
            rintro e w5 ⟨rfl, rfl⟩
            go_wp2
            go_roundw
            case rel => exact ⟨j + 1, by go_num, by omega, HA4⟩
            case measure => simp [intOf]; omega
          · clear hc1 hc2
            by_cases hd1 : j < len
            all_goals
              first
                | (have hd2 : ¬ j < 3000 := by omega)
                | (have hd2 : ¬ j < len := hd1)
              clear hd
              go_wp2
              go_ret
              exact ⟨rfl, HA.out.2.1⟩
end Go.Proofs.Ytbjieimdllapgaa
