/- The document's marks, and its begins. -/
import Derived.Test.YtojneaffoekpnaaLRefA
namespace Go.Proofs.Ytojneaffoekpnaa.lx
set_option linter.unusedVariables false
set_option linter.unusedSimpArgs false
open Go.ChangeShapes Go.WideShapes Go.ChangeAt Go.RowKit

def marksB : List ByteArray := [⟨#[33, 33]⟩, ⟨#[63, 63]⟩, ⟨#[45, 62]⟩, ⟨#[58, 58]⟩, ⟨#[43, 43]⟩, ⟨#[45, 45]⟩, ⟨#[60, 60]⟩, ⟨#[62, 62]⟩, ⟨#[60, 61]⟩, ⟨#[62, 61]⟩, ⟨#[61, 61]⟩, ⟨#[33, 61]⟩, ⟨#[38, 38]⟩, ⟨#[124, 124]⟩, ⟨#[46, 46]⟩, ⟨#[33]⟩, ⟨#[63]⟩, ⟨#[60]⟩, ⟨#[62]⟩, ⟨#[61]⟩, ⟨#[43]⟩, ⟨#[45]⟩, ⟨#[42]⟩, ⟨#[47]⟩, ⟨#[37]⟩, ⟨#[38]⟩, ⟨#[124]⟩, ⟨#[94]⟩, ⟨#[126]⟩, ⟨#[40]⟩, ⟨#[41]⟩, ⟨#[91]⟩, ⟨#[93]⟩, ⟨#[123]⟩, ⟨#[125]⟩, ⟨#[44]⟩, ⟨#[59]⟩, ⟨#[58]⟩, ⟨#[46]⟩, ⟨#[64]⟩, ⟨#[35]⟩]
def marksC : Array Value := #[.string ⟨#[33, 33]⟩, .string ⟨#[63, 63]⟩, .string ⟨#[45, 62]⟩, .string ⟨#[58, 58]⟩, .string ⟨#[43, 43]⟩, .string ⟨#[45, 45]⟩, .string ⟨#[60, 60]⟩, .string ⟨#[62, 62]⟩, .string ⟨#[60, 61]⟩, .string ⟨#[62, 61]⟩, .string ⟨#[61, 61]⟩, .string ⟨#[33, 61]⟩, .string ⟨#[38, 38]⟩, .string ⟨#[124, 124]⟩, .string ⟨#[46, 46]⟩, .string ⟨#[33]⟩, .string ⟨#[63]⟩, .string ⟨#[60]⟩, .string ⟨#[62]⟩, .string ⟨#[61]⟩, .string ⟨#[43]⟩, .string ⟨#[45]⟩, .string ⟨#[42]⟩, .string ⟨#[47]⟩, .string ⟨#[37]⟩, .string ⟨#[38]⟩, .string ⟨#[124]⟩, .string ⟨#[94]⟩, .string ⟨#[126]⟩, .string ⟨#[40]⟩, .string ⟨#[41]⟩, .string ⟨#[91]⟩, .string ⟨#[93]⟩, .string ⟨#[123]⟩, .string ⟨#[125]⟩, .string ⟨#[44]⟩, .string ⟨#[59]⟩, .string ⟨#[58]⟩, .string ⟨#[46]⟩, .string ⟨#[64]⟩, .string ⟨#[35]⟩]
theorem marksC_is : marksC = (marksB.map Value.string).toArray := rfl

/-- A text stands at place k. -/
def pre (u : ByteArray) (k : Nat) (p : ByteArray) : Bool := decide (k + p.size ≤ u.size) && ((u.extract k (k + p.size)).toList == p.toList)

theorem begins_gen (u : ByteArray) (k : Nat) (p : ByteArray) (b : Bool) (hb : Hid (pre u k p = b)) (w : World) (hs : u.size ≤ 65535) (hp : p.size ≤ 2) (hk : k ≤ u.size) :
    Calls Try.prog 35 #[.string u, .int .i64 k, .string p] w fun e w' => e = .returned (.bool b) ∧ w' = w := by
  by_cases h : k + p.size ≤ u.size
  · have hsl : ∀ w : World, (Instr.slice 9 (.string u) (some (.int .i64 (k : Int))) (some (.int .i64 ((k : Int) + (p.size : Int)))) none).run Try.prog w = .ok (.string (u.extract k (k + p.size))) w := fun w => by
      have := run_slice_string (P := Try.prog) (w := w) 9 u .i64 .i64 (k : Int) ((k : Int) + (p.size : Int)) Try.underlying9 (by omega) (by omega) (by omega)
      rw [this]
      congr 3
    obtain ⟨v, hvv⟩ : ∃ v, u.extract k (k + p.size) = v := ⟨_, rfl⟩
    have hR : Hid ((v.toList == p.toList) = b) := Lib.hid (by rw [← hb.out]; unfold pre; rw [hvv]; simp [h])
    rw [hvv] at hsl
    have hd : (k : Int) + (p.size : Int) ≤ u.size := by omega
    have h0 : (0 : Int) ≤ (p.size : Int) := by omega
    have h2 : (p.size : Int) ≤ 2 := by omega
    have h3 : (k : Int) ≤ 65535 := by omega
    clear hvv hb
    go_enter Try.func35, Try.ntmps35
    go_wp2
    go_ret
    exact ⟨ret_bool hR.out, rfl⟩
  · have hR : Hid (false = b) := Lib.hid (by rw [← hb.out]; unfold pre; simp [h])
    have hd : decide ((k : Int) + (p.size : Int) ≤ (u.size : Int)) = false := by simp; omega
    have h0 : (0 : Int) ≤ (p.size : Int) := by omega
    have h2 : (p.size : Int) ≤ 2 := by omega
    have h3 : (k : Int) ≤ 65535 := by omega
    clear hb
    go_enter Try.func35, Try.ntmps35
    go_wp2
    go_ret
    exact ⟨ret_bool hR.out, rfl⟩

set_option maxRecDepth 100000 in
theorem marks_any (w : World) : Calls Try.prog 40 #[] w fun e w' => e = .returned (.slice (some ⟨w.heap.size, 0, none⟩) 41 41) ∧ w' = w.alloc (.cells marksC 9) := by
  go_enter Try.func40, Try.ntmps40
  go_wp2
  go_ret
  exact ⟨rfl, rfl⟩

theorem pre_2 (u : ByteArray) (k : Nat) (a b : UInt8) : pre u k ⟨#[a, b]⟩ = two u k a.toNat b.toNat := by
  unfold pre
  by_cases h : k + 1 < u.size
  · obtain ⟨x, y, hv, hx, hy⟩ := ext_two u k h
    have he : u.extract k (k + (ByteArray.mk #[a, b]).size) = ⟨#[x, y]⟩ := by
      show u.extract k (k + 2) = _
      have : (u.extract k (k + 2)).data = #[x, y] := by rw [← Array.toList_inj, hv]
      cases hh : u.extract k (k + 2) with
      | mk d => rw [hh] at this; simp at this; rw [this]
    rw [he]
    unfold two
    rw [← hx, ← hy, Bool.eq_iff_iff]
    have h' : k + 2 ≤ u.size := by omega
    simp [h, show (ByteArray.mk #[a, b]).size = 2 from rfl, h', UInt8.toNat_inj, ByteArray.toList_eq]
  · unfold two
    have h' : ¬ k + (ByteArray.mk #[a, b]).size ≤ u.size := by show ¬ k + 2 ≤ u.size; omega
    simp [h, h']
theorem ext_one (u : ByteArray) (k : Nat) (h : k < u.size) : ∃ a : UInt8, u.extract k (k + 1) = ⟨#[a]⟩ ∧ a.toNat = byt u k := by
  have h0 : k < u.data.toList.length := by simpa using h
  refine ⟨u.data.toList[k], ?_, byt_get u k h0⟩
  have : (u.extract k (k + 1)).data = #[u.data.toList[k]] := by
    rw [← Array.toList_inj, ByteArray.data_extract, Array.toList_extract]
    generalize u.data.toList = l at *
    rw [List.extract_eq_take_drop, show k + 1 - k = 1 by omega, List.drop_eq_getElem_cons h0]
    rfl
  cases hh : u.extract k (k + 1) with
  | mk d => rw [hh] at this; simp only at this; rw [this]
theorem pre_1 (u : ByteArray) (k : Nat) (hk : k < u.size) (a : UInt8) : pre u k ⟨#[a]⟩ = (byt u k == a.toNat) := by
  unfold pre
  obtain ⟨x, he, hx⟩ := ext_one u k hk
  have he' : u.extract k (k + (ByteArray.mk #[a]).size) = ⟨#[x]⟩ := he
  rw [he', ← hx, Bool.eq_iff_iff]
  have h' : k + 1 ≤ u.size := by omega
  simp [show (ByteArray.mk #[a]).size = 1 from rfl, h', UInt8.toNat_inj, ByteArray.toList_eq]

theorem marks_long : ∀ p ∈ marksB.take 15, ∃ a b : UInt8, p = ⟨#[a, b]⟩ ∧ long2 a.toNat b.toNat = true := by
  intro p hp
  simp only [marksB, List.take, List.mem_cons, List.not_mem_nil, or_false] at hp
  rcases hp with rfl | rfl | rfl | rfl | rfl | rfl | rfl | rfl | rfl | rfl | rfl | rfl | rfl | rfl | rfl
  all_goals exact ⟨_, _, rfl, by decide⟩
theorem marks_short : ∀ p ∈ marksB.drop 15, ∃ a : UInt8, p = ⟨#[a]⟩ ∧ short1 a.toNat = true := by
  intro p hp
  simp only [marksB, List.drop, List.mem_cons, List.not_mem_nil, or_false] at hp
  rcases hp with rfl | rfl | rfl | rfl | rfl | rfl | rfl | rfl | rfl | rfl | rfl | rfl | rfl | rfl | rfl | rfl | rfl | rfl | rfl | rfl | rfl | rfl | rfl | rfl | rfl | rfl
  all_goals exact ⟨_, rfl, by decide⟩
theorem long_mark (a b : Nat) (h : long2 a b = true) : ∃ x y : UInt8, (⟨#[x, y]⟩ : ByteArray) ∈ marksB.take 15 ∧ x.toNat = a ∧ y.toNat = b := by
  simp only [long2, Bool.or_eq_true, Bool.and_eq_true, beq_iff_eq, or_assoc] at h
  rcases h with h | h | h | h | h | h | h | h | h | h | h | h | h | h | h
  · obtain ⟨rfl, rfl⟩ := h; exact ⟨33, 33, by simp [marksB], rfl, rfl⟩
  · obtain ⟨rfl, rfl⟩ := h; exact ⟨63, 63, by simp [marksB], rfl, rfl⟩
  · obtain ⟨rfl, rfl⟩ := h; exact ⟨45, 62, by simp [marksB], rfl, rfl⟩
  · obtain ⟨rfl, rfl⟩ := h; exact ⟨58, 58, by simp [marksB], rfl, rfl⟩
  · obtain ⟨rfl, rfl⟩ := h; exact ⟨43, 43, by simp [marksB], rfl, rfl⟩
  · obtain ⟨rfl, rfl⟩ := h; exact ⟨45, 45, by simp [marksB], rfl, rfl⟩
  · obtain ⟨rfl, rfl⟩ := h; exact ⟨60, 60, by simp [marksB], rfl, rfl⟩
  · obtain ⟨rfl, rfl⟩ := h; exact ⟨62, 62, by simp [marksB], rfl, rfl⟩
  · obtain ⟨rfl, rfl⟩ := h; exact ⟨60, 61, by simp [marksB], rfl, rfl⟩
  · obtain ⟨rfl, rfl⟩ := h; exact ⟨62, 61, by simp [marksB], rfl, rfl⟩
  · obtain ⟨rfl, rfl⟩ := h; exact ⟨61, 61, by simp [marksB], rfl, rfl⟩
  · obtain ⟨rfl, rfl⟩ := h; exact ⟨33, 61, by simp [marksB], rfl, rfl⟩
  · obtain ⟨rfl, rfl⟩ := h; exact ⟨38, 38, by simp [marksB], rfl, rfl⟩
  · obtain ⟨rfl, rfl⟩ := h; exact ⟨124, 124, by simp [marksB], rfl, rfl⟩
  · obtain ⟨rfl, rfl⟩ := h; exact ⟨46, 46, by simp [marksB], rfl, rfl⟩
theorem short_mark (a : Nat) (h : short1 a = true) : ∃ x : UInt8, (⟨#[x]⟩ : ByteArray) ∈ marksB.drop 15 ∧ x.toNat = a := by
  simp only [short1, List.contains_iff_mem, List.mem_cons, List.not_mem_nil, or_false] at h
  rcases h with rfl | rfl | rfl | rfl | rfl | rfl | rfl | rfl | rfl | rfl | rfl | rfl | rfl | rfl | rfl | rfl | rfl | rfl | rfl | rfl | rfl | rfl | rfl | rfl | rfl | rfl
  · exact ⟨33, by simp [marksB], rfl⟩
  · exact ⟨63, by simp [marksB], rfl⟩
  · exact ⟨60, by simp [marksB], rfl⟩
  · exact ⟨62, by simp [marksB], rfl⟩
  · exact ⟨61, by simp [marksB], rfl⟩
  · exact ⟨43, by simp [marksB], rfl⟩
  · exact ⟨45, by simp [marksB], rfl⟩
  · exact ⟨42, by simp [marksB], rfl⟩
  · exact ⟨47, by simp [marksB], rfl⟩
  · exact ⟨37, by simp [marksB], rfl⟩
  · exact ⟨38, by simp [marksB], rfl⟩
  · exact ⟨124, by simp [marksB], rfl⟩
  · exact ⟨94, by simp [marksB], rfl⟩
  · exact ⟨126, by simp [marksB], rfl⟩
  · exact ⟨40, by simp [marksB], rfl⟩
  · exact ⟨41, by simp [marksB], rfl⟩
  · exact ⟨91, by simp [marksB], rfl⟩
  · exact ⟨93, by simp [marksB], rfl⟩
  · exact ⟨123, by simp [marksB], rfl⟩
  · exact ⟨125, by simp [marksB], rfl⟩
  · exact ⟨44, by simp [marksB], rfl⟩
  · exact ⟨59, by simp [marksB], rfl⟩
  · exact ⟨58, by simp [marksB], rfl⟩
  · exact ⟨46, by simp [marksB], rfl⟩
  · exact ⟨64, by simp [marksB], rfl⟩
  · exact ⟨35, by simp [marksB], rfl⟩
theorem marks_size : ∀ p ∈ marksB, p.size ≤ 2 := by decide +kernel
end Go.Proofs.Ytojneaffoekpnaa.lx
