/- The contract of isLongMark. -/
import Derived.Test.YtmkfcoeefopmiaaText
import Derived.Test.YtmkfcoeefopmiaaShelf
namespace Go.Proofs.Ytmkfcoeefopmiaa
open Go.ChangeShapes Go.WideShapes Go.ChangeAt Go.RowKit

/-- Where a text of two bytes stands first. -/
def idxO (a b : Nat) : List UInt8 → Option Nat
  | [] => none
  | [_] => none
  | c :: d :: l => if c.toNat = a ∧ d.toNat = b then some 0 else (idxO a b (d :: l)).map (· + 1)

theorem index_idxO (a b : UInt8) : ∀ l : List UInt8, Lib.index l [a, b] = match idxO a.toNat b.toNat l with | none => -1 | some i => (i : Int) := by
  intro l
  induction l with
  | nil => rfl
  | cons c l ih =>
    cases l with
    | nil => simp [Lib.index, idxO, List.isPrefixOf]
    | cons d l =>
      rw [Lib.index, ih, idxO]
      by_cases h : c.toNat = a.toNat ∧ d.toNat = b.toNat
      · have h1 : a = c := UInt8.toNat_inj.1 h.1.symm
        have h2 : b = d := UInt8.toNat_inj.1 h.2.symm
        simp [h, h1, h2, List.isPrefixOf]
      · have hp : [a, b].isPrefixOf (c :: d :: l) = false := by
          simp [List.isPrefixOf]
          intro e1 e2
          exact h ⟨by rw [e1], by rw [e2]⟩
        rw [hp, if_neg h]
        cases idxO a.toNat b.toNat (d :: l) with
        | none => simp
        | some i =>
          have : ((i : Int) == -1) = false := by simp
          simp [this]

theorem idxO_mem (a b : Nat) : ∀ l : List UInt8, idxO a b l ≠ none → (∃ c ∈ l, c.toNat = a) ∧ (∃ c ∈ l, c.toNat = b) := by
  intro l
  induction l with
  | nil => intro h; exact absurd rfl h
  | cons c l ih =>
    cases l with
    | nil => intro h; exact absurd rfl h
    | cons d l =>
      intro h
      rw [idxO] at h
      by_cases hc : c.toNat = a ∧ d.toNat = b
      · exact ⟨⟨c, by simp, hc.1⟩, ⟨d, by simp, hc.2⟩⟩
      · rw [if_neg hc] at h
        have h2 : idxO a b (d :: l) ≠ none := fun e => h (by rw [e]; rfl)
        obtain ⟨⟨x, hx, ex⟩, ⟨y, hy, ey⟩⟩ := ih h2
        exact ⟨⟨x, by simp at hx ⊢; exact .inr hx, ex⟩, ⟨y, by simp at hy ⊢; exact .inr hy, ey⟩⟩

def longs : List UInt8 := [33, 33, 32, 63, 63, 32, 45, 62, 32, 58, 58, 32, 43, 43, 32, 45, 45, 32, 60, 60, 32, 62, 62, 32, 60, 61, 32, 62, 61, 32, 61, 61, 32, 33, 61, 32, 38, 38, 32, 124, 124, 32, 46, 46]

def longsAt (o : Option Nat) : Bool := match o with | none => false | some i => i % 3 == 0

theorem longs_in : ∀ a ∈ [33, 63, 45, 62, 58, 43, 60, 61, 38, 124, 46, 32], ∀ b ∈ [33, 63, 45, 62, 58, 43, 60, 61, 38, 124, 46, 32], longsAt (idxO a b longs) = long2 a b := by decide +kernel

theorem longs_mem (a : Nat) (h : ∃ c ∈ longs, c.toNat = a) : a ∈ [33, 63, 45, 62, 58, 43, 60, 61, 38, 124, 46, 32] := by
  obtain ⟨c, hc, rfl⟩ := h
  have : ∀ c ∈ longs, c.toNat ∈ [33, 63, 45, 62, 58, 43, 60, 61, 38, 124, 46, 32] := by decide +kernel
  exact this c hc

theorem long2_mem (a b : Nat) (h : long2 a b = true) : a ∈ [33, 63, 45, 62, 58, 43, 60, 61, 38, 124, 46, 32] ∧ b ∈ [33, 63, 45, 62, 58, 43, 60, 61, 38, 124, 46, 32] := by
  simp [long2] at h
  simp
  omega

theorem longs_is (a b : Nat) : longsAt (idxO a b longs) = long2 a b := by
  by_cases ha : a ∈ [33, 63, 45, 62, 58, 43, 60, 61, 38, 124, 46, 32]
  · by_cases hb : b ∈ [33, 63, 45, 62, 58, 43, 60, 61, 38, 124, 46, 32]
    · exact longs_in a ha b hb
    · have h1 : idxO a b longs = none := Classical.not_not.1 fun h => hb (longs_mem b (idxO_mem a b longs h).2)
      rw [h1]
      cases hl : long2 a b with
      | false => rfl
      | true => exact absurd (long2_mem a b hl).2 hb
  · have h1 : idxO a b longs = none := Classical.not_not.1 fun h => ha (longs_mem a (idxO_mem a b longs h).1)
    rw [h1]
    cases hl : long2 a b with
    | false => rfl
    | true => exact absurd (long2_mem a b hl).1 ha

theorem index_as (v : ByteArray) (a b : UInt8) (hv : v.data.toList = [a, b]) (I : Int) (hI : Hid ((match idxO a.toNat b.toNat longs with | none => (-1 : Int) | some i => (i : Int)) = I)) (m : Int) (w : World) (hm : w.cell? ⟨0, 0, none⟩ = some (.int .i64 m)) :
    Calls Try.prog 13 #[.string ⟨#[33, 33, 32, 63, 63, 32, 45, 62, 32, 58, 58, 32, 43, 43, 32, 45, 45, 32, 60, 60, 32, 62, 62, 32, 60, 61, 32, 62, 61, 32, 61, 61, 32, 33, 61, 32, 38, 38, 32, 124, 124, 32, 46, 46]⟩, .string v] w fun e w' => e = .returned (.int .i64 I) ∧ w' = w := by
  refine (Try.strings_Index _ v m w (by decide) hm).mono fun e w' ⟨he, hw⟩ => ⟨?_, hw⟩
  rw [he, hv, ← hI.out]
  exact ret_int (index_idxO a b longs)

theorem mark_any (v : ByteArray) (a b : UInt8) (hv : v.data.toList = [a, b]) (m : Int) (w : World) (hm : w.cell? ⟨0, 0, none⟩ = some (.int .i64 m)) :
    Calls Try.prog 20 #[.string v] w fun e w' => e = .returned (.bool (long2 a.toNat b.toNat)) ∧ w' = w := by
  have hl := longs_is a.toNat b.toNat
  have HM := Lib.hid hm
  have HV := Lib.hid hv
  cases ho : idxO a.toNat b.toNat longs with
  | none =>
    rw [ho] at hl
    have HL : Hid (false = long2 a.toNat b.toNat) := Lib.hid hl
    have HI : Hid ((match idxO a.toNat b.toNat longs with | none => (-1 : Int) | some i => (i : Int)) = -1) := Lib.hid (by rw [ho])
    clear hl ho hm hv
    go_enter Try.func20, Try.ntmps20
    go_wp2_with (go_at_call 13; refine (index_as v a b HV.out _ HI m _ HM.out).mono ?_; rintro e w' ⟨rfl, rfl⟩)
    go_ret
    exact ⟨ret_bool HL.out, rfl⟩
  | some i =>
    rw [ho] at hl
    have HL : Hid ((i % 3 == 0) = long2 a.toNat b.toNat) := Lib.hid hl
    have HI : Hid ((match idxO a.toNat b.toNat longs with | none => (-1 : Int) | some i => (i : Int)) = (i : Int)) := Lib.hid (by rw [ho])
    clear hl ho hm hv
    have h0 : 0 ≤ (i : Int) := by omega
    by_cases h3 : i % 3 = 0
    · have hq : ((i : Int) % 3 == 0) = true := by simp; omega
      have HE : Hid (true = (i % 3 == 0)) := Lib.hid (by simp [h3])
      clear h3
      go_enter Try.func20, Try.ntmps20
      go_wp2_with (go_at_call 13; refine (index_as v a b HV.out _ HI m _ HM.out).mono ?_; rintro e w' ⟨rfl, rfl⟩)
      go_ret
      exact ⟨ret_bool (HE.out.trans HL.out), rfl⟩
    · have hq : ((i : Int) % 3 == 0) = false := by simp; omega
      have HE : Hid (false = (i % 3 == 0)) := Lib.hid (by simp [h3])
      clear h3
      go_enter Try.func20, Try.ntmps20
      go_wp2_with (go_at_call 13; refine (index_as v a b HV.out _ HI m _ HM.out).mono ?_; rintro e w' ⟨rfl, rfl⟩)
      go_ret
      exact ⟨ret_bool (HE.out.trans HL.out), rfl⟩
end Go.Proofs.Ytmkfcoeefopmiaa
