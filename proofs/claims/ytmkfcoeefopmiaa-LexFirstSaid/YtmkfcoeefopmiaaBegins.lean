/- The contract of the document's begins, at two bytes. -/
import Derived.Test.YtmkfcoeefopmiaaBlank
namespace Go.Proofs.Ytmkfcoeefopmiaa
open Go.ChangeShapes Go.WideShapes Go.ChangeAt Go.RowKit

/-- Two bytes stand at place k. -/
def two (u : ByteArray) (k a b : Nat) : Bool := decide (k + 1 < u.size) && byt u k == a && byt u (k + 1) == b

theorem ext_two (u : ByteArray) (k : Nat) (h : k + 1 < u.size) : ∃ a b : UInt8, (u.extract k (k + 2)).data.toList = [a, b] ∧ a.toNat = byt u k ∧ b.toNat = byt u (k + 1) := by
  have h0 : k < u.data.toList.length := by simp; omega
  have h1 : k + 1 < u.data.toList.length := by simpa using h
  refine ⟨u.data.toList[k], u.data.toList[k + 1], ?_, byt_get u k h0, byt_get u (k + 1) h1⟩
  rw [ByteArray.data_extract, Array.toList_extract]
  generalize u.data.toList = l at *
  rw [List.extract_eq_take_drop, show k + 2 - k = 2 by omega]
  have e : l.drop k = l[k] :: l[k + 1] :: l.drop (k + 2) := by
    rw [List.drop_eq_getElem_cons h0, List.drop_eq_getElem_cons h1]
  rw [e]
  rfl

theorem slice_two (u : ByteArray) (k : Nat) (h : k + 1 < u.size) (w : World) : (Instr.slice 9 (.string u) (some (.int .i64 (k : Int))) (some (.int .i64 ((k : Int) + 2))) none).run Try.prog w = .ok (.string (u.extract k (k + 2))) w := by
  have := run_slice_string (P := Try.prog) (w := w) 9 u .i64 .i64 (k : Int) ((k : Int) + 2) Try.underlying9 (by omega) (by omega) (by omega)
  rw [this]
  congr 3

theorem begins_two (u : ByteArray) (k : Nat) (a b : UInt8) (w : World) (hs : u.size ≤ 65535) (hk : k ≤ u.size) :
    Calls Try.prog 11 #[.string u, .int .i64 k, .string ⟨#[a, b]⟩] w fun e w' => e = .returned (.bool (two u k a.toNat b.toNat)) ∧ w' = w := by
  by_cases h : k + 1 < u.size
  · have hsl := slice_two u k h
    obtain ⟨x, y, hv, hx, hy⟩ := ext_two u k h
    obtain ⟨v, hvv⟩ : ∃ v, u.extract k (k + 2) = v := ⟨_, rfl⟩
    rw [hvv] at hsl hv
    have hd : (k : Int) + 2 ≤ u.size := by omega
    have hR : Hid ((v.toList == [a, b]) = two u k a.toNat b.toNat) := Lib.hid (by
      unfold two
      rw [ByteArray.toList_eq, hv, ← hx, ← hy]
      rw [Bool.eq_iff_iff]
      simp [h, UInt8.toNat_inj])
    clear hv hx hy hvv
    go_enter Try.func11, Try.ntmps11
    go_wp2
    go_ret
    exact ⟨ret_bool hR.out, rfl⟩
  · have hR : Hid (false = two u k a.toNat b.toNat) := Lib.hid (by unfold two; simp [h])
    have hd : decide ((k : Int) + 2 ≤ (u.size : Int)) = false := by simp; omega
    go_enter Try.func11, Try.ntmps11
    go_wp2
    go_ret
    exact ⟨ret_bool hR.out, rfl⟩
end Go.Proofs.Ytmkfcoeefopmiaa
