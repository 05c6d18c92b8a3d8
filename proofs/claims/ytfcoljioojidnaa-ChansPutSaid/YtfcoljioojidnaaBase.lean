/- Messages and queues in memory; what the smallest functions answer. -/
import Derived.Test.YtfcoljioojidnaaRows
import Derived.WalkKit
import Derived.ProofKit
import Derived.Below
import Derived.Outline
import Derived.BigQuiet
import Derived.Deep.QuietTactic
import Derived.LoopN
import Derived.Lib.Hide
import Derived.Laws.Rows
import Derived.Laws.AppendOwn
import Derived.OwnWalk
import Derived.RegionTactic
import Derived.ChangeAlike
namespace Go.Proofs.Ytfcoljioojidnaa
open Go.ChangeShapes Go.WideShapes Go.ChangeAt Go.RowKit
set_option linter.unusedVariables false
set_option linter.unusedSimpArgs false

def intOf : Value → Int
  | .int _ q => q
  | _ => 0
theorem bdrew {B : Nat} {a w : World} (h : Below B a w) (n : Nat) : Below B a (w.drewN n) := ⟨h.os, h.tape, h.output, h.size, h.block⟩
/-- A row of numbers in memory. -/
def Ints (w : World) (g off : Nat) (l : List Int) : Prop := g < w.heap.size ∧ ∀ i (h : i < l.length), w.cell? ⟨g, off + i, none⟩ = some (.int .i64 l[i])
theorem Ints.below {w w' : World} {g off : Nat} {l : List Int} (h : Ints w g off l) (hb : Below w.heap.size w w') : Ints w' g off l :=
  ⟨Nat.lt_of_lt_of_le h.1 hb.size, fun i hi => (hb.cell h.1).trans (h.2 i hi)⟩
/-- A message. -/
def RowAt (w : World) (o : Option Addr) (q : List Int) : Prop := q.length = 0 ∨ ∃ g off, o = some ⟨g, off, none⟩ ∧ Ints w g off q
theorem RowAt.below {w w' : World} {o : Option Addr} {q : List Int} (h : RowAt w o q) (hb : Below w.heap.size w w') : RowAt w' o q :=
  h.imp id fun ⟨g, off, e, hi⟩ => ⟨g, off, e, hi.below hb⟩
/-- A message as a value. -/
structure SL where
  o : Option Addr
  n : Nat
  c : Nat
def slV (s : SL) : Value := .slice s.o s.n s.c
def MsgAt (w : World) (s : SL) (q : List Int) : Prop := s.n = q.length ∧ RowAt w s.o q
theorem MsgAt.below {w w' : World} {s : SL} {q : List Int} (h : MsgAt w s q) (hb : Below w.heap.size w w') : MsgAt w' s q := ⟨h.1, h.2.below hb⟩
/-- A queue: a row of messages. -/
def QueAt (w : World) (o : Option Addr) (Q : List (List Int)) : Prop :=
  Q.length = 0 ∨ ∃ g off, o = some ⟨g, off, none⟩ ∧ g < w.heap.size ∧ ∀ i (h : i < Q.length), ∃ s, w.cell? ⟨g, off + i, none⟩ = some (slV s) ∧ MsgAt w s Q[i]
theorem QueAt.below {w w' : World} {o : Option Addr} {Q : List (List Int)} (h : QueAt w o Q) (hb : Below w.heap.size w w') : QueAt w' o Q :=
  h.imp id fun ⟨g, off, e, hg, hi⟩ => ⟨g, off, e, Nat.lt_of_lt_of_le hg hb.size, fun i hl => by
    obtain ⟨s, h1, h2⟩ := hi i hl
    exact ⟨s, (hb.cell hg).trans h1, h2.below hb⟩⟩

def tyB (b : Int) (s : Bool) : Bool := decide (1 ≤ b) && decide (b ≤ 32) && (!s || decide (b = 16) || decide (b = 32))
def lessB : List Int → List Int → Bool
  | [], [] => false
  | [], _ :: _ => true
  | _ :: _, [] => false
  | x :: r, y :: s => if x = y then lessB r s else decide (x < y)
theorem less_same : ∀ (a b : List Int) (i : Nat), i ≤ a.length → i ≤ b.length → (∀ j (h1 : j < a.length) (h2 : j < b.length), j < i → a[j] = b[j]) → lessB a b = lessB (a.drop i) (b.drop i)
  | a, b, 0, _, _, _ => by simp
  | x :: r, y :: s, i + 1, h1, h2, h => by
    have e : x = y := h 0 (by simp) (by simp) (by omega)
    subst e
    rw [lessB, if_pos rfl]
    exact less_same r s i (by simpa using h1) (by simpa using h2) fun j hj1 hj2 hji => h (j + 1) (by simpa using hj1) (by simpa using hj2) (by omega)
  | [], _, i + 1, h1, _, _ => by simp at h1
  | _ :: _, [], i + 1, _, h2, _ => by simp at h2
theorem less_end (b : List Int) : lessB [] b = decide (0 < b.length) := by cases b <;> simp [lessB]
theorem less_long (x : Int) (r : List Int) : lessB (x :: r) [] = false := rfl
theorem less_at {a b : List Int} {i : Nat} (h1 : i < a.length) (h2 : i < b.length) : lessB (a.drop i) (b.drop i) = if a[i] = b[i] then lessB (a.drop (i + 1)) (b.drop (i + 1)) else decide (a[i] < b[i]) := by
  rw [List.drop_eq_getElem_cons h1, List.drop_eq_getElem_cons h2, lessB]

set_option maxHeartbeats 1000000 in
set_option maxRecDepth 100000 in
theorem less12 (s t : SL) (a b : List Int) (w : World) (h1 : MsgAt w s a) (h2 : MsgAt w t b) (hl : a.length ≤ 9223372036854775806) (hl2 : b.length ≤ 9223372036854775806) :
    Calls Try.prog 12 #[slV s, slV t] w fun e w' => e = .returned (.bool (lessB a b)) ∧ ∃ n, w' = w.drewN n := by
  obtain ⟨so, sn, sc⟩ := s
  obtain ⟨t0, tn, tc⟩ := t
  obtain ⟨rfl, hA⟩ := h1
  obtain ⟨rfl, hB⟩ := h2
  have HA := Lib.hid hA
  have HB := Lib.hid hB
  clear hA hB
  unfold slV
  simp only
  obtain ⟨r, hr⟩ : ∃ r, lessB a b = r := ⟨_, rfl⟩
  rw [hr]
  have HR := Lib.hid hr
  clear hr
  go_enter Try.func12, Try.ntmps12
  go_wp2_with fail
  go_step3
  go_wp2_with fail
  go_step3
  go_wp2_with fail
  go_loopw [9] (fun iv wr => ∃ (i : Nat), iv = .int .i64 i ∧ i ≤ a.length ∧ i ≤ b.length ∧ Hid (∀ j (h1 : j < a.length) (h2 : j < b.length), j < i → a[j] = b[j]) ∧ Hid (∃ n, wr = w.drewN n)) (fun i _ => a.length - (intOf i).toNat)
  case atStart => exact ⟨0, rfl, by omega, by omega, Lib.hid fun j _ _ h => by omega, Lib.hid ⟨0, rfl⟩⟩
  case round =>
    obtain ⟨i, rfl, hia, hib, HS, HW⟩ := hrel
    have HL := Lib.hid (less_same a b i hia hib HS.out)
    have hi0 : (0 : Int) ≤ i := by omega
    by_cases hlt : i < a.length
    · have hlti : (i : Int) < a.length := by omega
      obtain ⟨g1, f1, rfl, hI1⟩ : ∃ g off, so = some ⟨g, off, none⟩ ∧ Ints w g off a := by
        rcases HA.out with h | h
        · omega
        · exact h
      obtain ⟨m, hm⟩ := HW.out
      have a0 : wr.cell? ⟨g1, f1 + i, none⟩ = some (.int .i64 a[i]) := by rw [hm]; exact hI1.2 i hlt
      obtain ⟨x, hx⟩ : ∃ x, a[i] = x := ⟨_, rfl⟩
      rw [hx] at a0
      by_cases hlb : i < b.length
      · have hlbi : ¬ (b.length : Int) ≤ i := by omega
        obtain ⟨g2, f2, rfl, hI2⟩ : ∃ g off, t0 = some ⟨g, off, none⟩ ∧ Ints w g off b := by
          rcases HB.out with h | h
          · omega
          · exact h
        have b0 : wr.cell? ⟨g2, f2 + i, none⟩ = some (.int .i64 b[i]) := by rw [hm]; exact hI2.2 i hlb
        obtain ⟨y, hy⟩ : ∃ y, b[i] = y := ⟨_, rfl⟩
        rw [hy] at b0
        have HAT := Lib.hid (less_at hlt hlb)
        rw [hx, hy] at HAT
        have HX := Lib.hid (And.intro hx hy)
        clear hx hy hI1 hI2 hm
        by_cases he : x = y
        · have heb : (x != y) = false := by simp [he]
          have HE := Lib.hid he
          clear he
          go_wp2_with fail
          go_roundw
          case rel => exact ⟨i + 1, by go_num, by omega, by omega, Lib.hid fun j hj1 hj2 hji => by
            by_cases e : j = i
            · subst e
              rw [HX.out.1, HX.out.2, HE.out]
            · exact HS.out j hj1 hj2 (by omega), HW⟩
          case measure => simp [intOf]; omega
        · have heb : (x != y) = true := by simp [he]
          have HR2 : Hid (r = decide (x < y)) := Lib.hid (by rw [← HR.out, HL.out, HAT.out, if_neg he])
          clear he
          go_wp2_with fail
          go_ret
          exact ⟨by rw [HR2.out]; rfl, HW.out⟩
      · have hlbi : (b.length : Int) ≤ i := by omega
        have HR2 : Hid (r = false) := Lib.hid (by rw [← HR.out, HL.out, List.drop_eq_getElem_cons hlt, show b.drop i = [] from List.drop_eq_nil_of_le (by omega)]; rfl)
        have hnl : ¬ (a.length : Int) < b.length := by omega
        clear hI1 hm hx
        go_wp2_with fail
        go_ret
        exact ⟨by rw [HR2.out]; rfl, HW.out⟩
    · have hlti : ¬ (i : Int) < a.length := by omega
      have HR2 : Hid (r = decide (a.length < b.length)) := Lib.hid (by rw [← HR.out, HL.out, show a.drop i = [] from List.drop_eq_nil_of_le (by omega), less_end, List.length_drop]; congr 1; apply propext; omega)
      go_wp2_with fail
      go_ret
      exact ⟨by rw [HR2.out]; rfl, HW.out⟩
end Go.Proofs.Ytfcoljioojidnaa
