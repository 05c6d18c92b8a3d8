/- StorePlays, walked: whatever acts are done, both stores answer alike. -/
import Derived.Test.YtbjieimdllapgaaDoes
namespace Go.Proofs.Ytbjieimdllapgaa
open Go.ChangeShapes Go.WideShapes Go.ChangeAt Go.RowKit

/-- A slice of acts that came in. -/
def IsActs (w : World) (o : Option Addr) (len : Nat) : Prop :=
  ∀ i, i < len → ∃ ab off, o = some ⟨ab, off, none⟩ ∧ ab < w.heap.size ∧ ∃ (kind n : Int) (key : ByteArray) (bts : Int), w.cell? ⟨ab, off + i * 4, none⟩ = some (.int .i64 kind) ∧ w.cell? ⟨ab, off + i * 4 + 1, none⟩ = some (.int .i64 n) ∧
    w.cell? ⟨ab, off + i * 4 + 2, none⟩ = some (.string key) ∧ w.cell? ⟨ab, off + i * 4 + 3, none⟩ = some (.int .u64 bts) ∧ key.size ≤ maxLen

set_option maxRecDepth 100000 in
set_option maxHeartbeats 2000000 in
theorem plays_no (m : Int) (o : Option Addr) (len cap : Nat) (w : World) (hm : m < 1 ∨ 20000 < m) :
    Calls Try.prog 6 #[.int .i64 m, .slice o len cap] w fun e w' => e = .returned (.bool true) ∧ Below w.heap.size w w' := by
  have hnew := Lib.hid fun w => new_no m w hm
  rcases hm with hm | hm
  · have hd1 : decide (1 ≤ m) = false := by simp; omega
    go_enter Try.func6, Try.ntmps6
    go_wp2_with fail
    refine (shown_any w).mono ?_
    rintro e w1 ⟨rfl, hb1⟩
    go_wp2_with fail
    refine (hnew.out _).mono ?_
    rintro e w2 ⟨rfl, rfl⟩
    go_wp2_with go_in
    go_ret
    exact ⟨rfl, hb1⟩
  · have hd1 : decide (1 ≤ m) = true := by simp; omega
    have hd2 : decide (m ≤ 20000) = false := by simp; omega
    go_enter Try.func6, Try.ntmps6
    go_wp2_with fail
    refine (shown_any w).mono ?_
    rintro e w1 ⟨rfl, hb1⟩
    go_wp2_with fail
    refine (hnew.out _).mono ?_
    rintro e w2 ⟨rfl, rfl⟩
    go_wp2_with go_in
    go_ret
    exact ⟨rfl, hb1⟩

theorem takes_yes (m : Int) (w : World) (h1 : 1 ≤ m) (h2 : m ≤ 20000) : Calls Try.prog 22 #[.int .i64 m] w fun e w' => e = .returned (.bool true) ∧ w' = w := by
  go_enter Try.func22, Try.ntmps22
  go_wp2
  go_ret
  exact ⟨rfl, rfl⟩

set_option maxRecDepth 100000 in
set_option maxHeartbeats 2000000 in
theorem plays_yes (m : Int) (o : Option Addr) (len cap : Nat) (w : World) (h1 : 1 ≤ m) (h2 : m ≤ 20000) (hl : len ≤ maxLen) (hin : IsActs w o len) :
    Calls Try.prog 6 #[.int .i64 m, .slice o len cap] w fun e w' => e = .returned (.bool true) ∧ Below w.heap.size w w' := by
  unfold maxLen at hl
  have HIN := Lib.hid hin
  clear hin
  have hd1 : decide (1 ≤ m) = true := by simp; omega
  have hd2 : decide (m ≤ 20000) = true := by simp; omega
  go_enter Try.func6, Try.ntmps6
  go_wp2_with fail
  refine (shown_any w).mono ?_
  rintro e w1 ⟨rfl, hb1⟩
  have hsz := hb1.size
  have HB1 := Lib.hid hb1
  clear hb1
  go_wp2_with fail
  refine (new_has m w1 w.heap.size hsz h1 h2).mono ?_
  rintro e w2 ⟨b, rfl, hoff, hhas⟩
  have HO2 := Lib.hid hoff
  have HH2 := Lib.hid hhas
  have hz2 : w.heap.size ≤ w2.heap.size := Nat.le_trans hsz hoff.size
  have HD : Hid (Below w.heap.size w (w2.alloc (.cells #[.int .i64 m, .slice none 0 0] 56)) ∧ Both (w2.alloc (.cells #[.int .i64 m, .slice none 0 0] 56)) w.heap.size b w2.heap.size m []) := by
    refine Lib.hid ⟨(hoff.below HB1.out hsz).alloc hz2 _, hhas.offR ((OffR.refl _ w2).alloc _), .slice none 0 0, ?_, World.ownsRow_nil _ _ _ _, hz2, by simp; omega⟩
    exact heap_alloc_new w2 _
  have HT := Lib.hid (takes_yes m w2 h1 h2)
  clear hoff hhas HB1 hsz HO2 HH2
  go_wp2_with fail
  refine HT.out.mono ?_
  rintro e w2 ⟨rfl, rfl⟩
  go_wp2_with fail
  obtain ⟨r, hr⟩ : ∃ r, w2.heap.size = r := ⟨_, rfl⟩
  rw [hr] at HD
  have HR := Lib.hid hr
  rw [hr]
  clear hr hz2 hd1 hd2
  go_loopw [10] (fun i wr => ∃ (k : Nat) (rows : List (ByteArray × Int)), i = .int .i64 k ∧ k ≤ len ∧ Hid (Below w.heap.size w wr ∧ Both wr w.heap.size b r m rows)) (fun i _ => len - (intOf i).toNat)
  case atStart => exact ⟨0, [], rfl, Nat.zero_le _, HD⟩
  case round =>
    clear HD
    obtain ⟨k, rows, rfl, hk1, HA⟩ := hrel
    by_cases hlt : k < len
    · obtain ⟨ab, off, rfl, hab, kind, n, key, bts, c0, c1, c2, c3, hks⟩ := HIN.out k hlt
      have HC := Lib.hid fun (i : Nat) (v : Value) (hv : w.cell? ⟨ab, i, none⟩ = some v) => (HA.out.1.cell (p := ⟨ab, i, none⟩) hab).trans hv
      have e0 := HC.out _ _ c0
      have e1 := HC.out _ _ c1
      have e2 := HC.out _ _ c2
      have e3 := HC.out _ _ c3
      have HKS := Lib.hid hks
      clear c0 c1 c2 c3 hks hab HC
      go_wp2_with fail
      refine (does_any HA.out.2 w HA.out.1 HA.out.1.size kind n bts key HKS.out).mono ?_
      rintro e w3 ⟨rfl, hb3, rows3, hboth3⟩
      have HA3 := Lib.hid (And.intro hb3 hboth3)
      clear hb3 hboth3 e0 e1 e2 e3
      go_wp2_with fail
      refine HA3.out.2.1.len.mono ?_
      rintro e w4 ⟨rfl, rfl⟩
      obtain ⟨lv, hrt⟩ := HA3.out.2.2
      have f1 := hrt.f.2.1
      obtain ⟨o3, cap3, hlv⟩ := hrt.form
      rw [hlv] at f1
      have hle : Hid ((rows3.map Prod.fst).length = rows3.length) := Lib.hid (by simp)
      clear hrt hlv
      rw [hle.out]
      go_wp2
      go_roundw
      case rel => exact ⟨k + 1, rows3, by go_num, by omega, HA3⟩
      case measure => simp [intOf]; omega
    · go_wp2
      go_ret
      exact ⟨rfl, HA.out.1⟩

theorem add_at (b off : Nat) (i : Nat) : (⟨b, off, none⟩ : Addr).add i = ⟨b, off + i, none⟩ := by
  by_cases h : i = 0
  · subst h; simp [Addr.add]
  · simp [Addr.add, h]

end Go.Proofs.Ytbjieimdllapgaa
