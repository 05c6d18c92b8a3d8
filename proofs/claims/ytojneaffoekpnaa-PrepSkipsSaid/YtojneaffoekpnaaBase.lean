/- Tokens in memory; and the contracts of the small functions that look at one. -/
import Derived.Test.YtojneaffoekpnaaRows
import Derived.WalkKit
import Derived.ProofKit
import Derived.Below
import Derived.Outline
import Derived.BigQuiet
import Derived.Deep.QuietTactic
import Derived.LoopN
import Derived.Lib.Hide
import Derived.Laws.Rows
import Derived.Deep.Cut
namespace Go.Proofs.Ytojneaffoekpnaa
open Go.ChangeShapes Go.WideShapes Go.ChangeAt Go.RowKit
set_option linter.unusedVariables false
set_option linter.unusedSimpArgs false

/-- The number in a value that is one. -/
def intOf : Value → Int
  | .int _ q => q
  | _ => 0
theorem retB {a b : Bool} (h : a = b) : Ending.returned (.bool a) = .returned (.bool b) := by rw [h]
theorem retI {k : IntKind} {a b : Int} (h : a = b) : Ending.returned (.int k a) = .returned (.int k b) := by rw [h]
theorem bdrew {B : Nat} {a w : World} (h : Below B a w) (n : Nat) : Below B a (w.drewN n) := ⟨h.os, h.tape, h.output, h.size, h.block⟩

structure TK where
  kind : Int
  pos : Int
  line : Int
  text : ByteArray
  num : Int
def tkV (t : TK) : Value := .agg #[.int .i64 t.kind, .int .i64 t.pos, .int .i64 t.line, .string t.text, .int .i64 t.num]
def tkCells (t : TK) : List Value := [.int .i64 t.kind, .int .i64 t.pos, .int .i64 t.line, .string t.text, .int .i64 t.num]
/-- The cells of one token. -/
def TkAt (w : World) (g j : Nat) (t : TK) : Prop :=
  w.cell? ⟨g, j, none⟩ = some (.int .i64 t.kind) ∧ w.cell? ⟨g, j + 1, none⟩ = some (.int .i64 t.pos) ∧ w.cell? ⟨g, j + 2, none⟩ = some (.int .i64 t.line) ∧ w.cell? ⟨g, j + 3, none⟩ = some (.string t.text) ∧ w.cell? ⟨g, j + 4, none⟩ = some (.int .i64 t.num)
/-- A row of tokens in memory. -/
def Toks (w : World) (g off : Nat) (ts : List TK) : Prop := g < w.heap.size ∧ ∀ i (h : i < ts.length), TkAt w g (off + i * 5) ts[i]
theorem Toks.below {w w' : World} {g off : Nat} {ts : List TK} (h : Toks w g off ts) (hb : Below w.heap.size w w') : Toks w' g off ts := by
  have hc : ∀ i, w'.cell? ⟨g, i, none⟩ = w.cell? ⟨g, i, none⟩ := fun i => hb.cell h.1
  refine ⟨Nat.lt_of_lt_of_le h.1 hb.size, fun i hi => ?_⟩
  obtain ⟨a, b, c, d, e⟩ := h.2 i hi
  exact ⟨(hc _).trans a, (hc _).trans b, (hc _).trans c, (hc _).trans d, (hc _).trans e⟩
theorem Toks.take {w : World} {g off : Nat} {ts : List TK} (h : Toks w g off ts) (n : Nat) : Toks w g off (ts.take n) := by
  refine ⟨h.1, fun i hi => ?_⟩
  have h1 : i < ts.length := by simp at hi; omega
  rw [List.getElem_take]
  exact h.2 i h1
def isMk (t : TK) (s : ByteArray) : Bool := decide (t.kind = 4) && decide (t.text = s)
def isNm (t : TK) (s : ByteArray) : Bool := decide (t.kind = 1) && decide (t.text = s)

theorem beq_text (a b : ByteArray) : (a.toList == b.toList) = decide (a = b) := by
  rw [Bool.eq_iff_iff]
  simp only [beq_iff_eq, decide_eq_true_eq, ByteArray.toList_eq]
  constructor
  · intro h
    cases a with | mk x => cases b with | mk y => simp at h; rw [h]
  · intro h; rw [h]

theorem mark_any (t : TK) (s : ByteArray) (w : World) : Calls Try.prog 20 #[tkV t, .string s] w fun e w' => e = .returned (.bool (isMk t s)) ∧ Below w.heap.size w w' := by
  unfold tkV
  go_enter Try.func20, Try.ntmps20
  go_wp2
  all_goals (go_ret; refine ⟨retB ?_, Below.alloc (Below.refl _ _) (Nat.le_refl _) _⟩)
  all_goals (unfold isMk; simp_all [beq_text])
theorem is_any (t : TK) (s : ByteArray) (w : World) : Calls Try.prog 6 #[tkV t, .string s] w fun e w' => e = .returned (.bool (isMk t s)) ∧ Below w.heap.size w w' := by
  unfold tkV
  go_enter Try.func6, Try.ntmps6
  go_wp2
  all_goals (go_ret; refine ⟨retB ?_, Below.alloc (Below.refl _ _) (Nat.le_refl _) _⟩)
  all_goals (unfold isMk; simp_all [beq_text])
theorem name_any (t : TK) (s : ByteArray) (w : World) : Calls Try.prog 47 #[tkV t, .string s] w fun e w' => e = .returned (.bool (isNm t s)) ∧ Below w.heap.size w w' := by
  unfold tkV
  go_enter Try.func47, Try.ntmps47
  go_wp2
  all_goals (go_ret; refine ⟨retB ?_, Below.alloc (Below.refl _ _) (Nat.le_refl _) _⟩)
  all_goals (unfold isNm; simp_all [beq_text])
/-- Just the last one is an end. -/
def Right (ts : List TK) : Prop := 0 < ts.length ∧ ∀ i (h : i < ts.length), ts[i].kind = 0 ↔ i + 1 = ts.length

theorem right_nil (o : Option Addr) (cap : Nat) (w : World) : Calls Try.prog 5 #[.slice o 0 cap] w fun e w' => e = .returned (.bool false) ∧ w' = w := by
  go_enter Try.func5, Try.ntmps5
  go_wp2
  refine wp_loop_rounds 1 ?_
  rw [rounds_succ]
  go_wp2
  go_ret
  exact ⟨rfl, rfl⟩

/-- What Right may answer. -/
def RightP (ts : List TK) (e : Ending) : Prop := ∃ b, e = .returned (.bool b) ∧ (b = true → Right ts)
theorem right_any (g off cap : Nat) (ts : List TK) (w : World) (hm : ts.length ≤ maxLen) (hz : 0 < ts.length) (ht : Toks w g off ts) :
    Calls Try.prog 5 #[.slice (some ⟨g, off, none⟩) ts.length cap] w fun e w' => RightP ts e ∧ w' = w := by
  have HT := Lib.hid ht
  clear ht
  have hm2 : (ts.length : Int) ≤ 9223372036854775807 := by unfold maxLen at hm; omega
  have hn1 : IntKind.i64.wrap ((ts.length : Int) - 1) = ts.length - 1 := IntWalk.i64_in _ (by omega)
  clear hm
  go_enter Try.func5, Try.ntmps5
  go_wp2
  go_loop [3] (fun i => ∃ k : Nat, i = .int .i64 k ∧ k ≤ ts.length ∧ Hid (∀ j (h : j < ts.length), j < k → (ts[j].kind = 0 ↔ j + 1 = ts.length))) (fun i => ts.length - (intOf i).toNat)
  case atStart => exact ⟨0, rfl, by omega, Lib.hid fun j _ hj => by omega⟩
  case round =>
    obtain ⟨k, rfl, hk, HA⟩ := hrel
    by_cases hlt : k < ts.length
    · have c0 := (HT.out.2 k hlt).1
      have HE1 : Hid ((ts[k].kind == 0) = true ↔ ts[k].kind = 0) := Lib.hid (by simp)
      have HE2 : Hid (((k : Int) == (ts.length : Int) - 1) = true ↔ k + 1 = ts.length) := Lib.hid (by rw [beq_iff_eq]; omega)
      cases h1 : (ts[k].kind == 0) with
      | true =>
        rw [h1] at HE1
        cases h2 : ((k : Int) == (ts.length : Int) - 1) with
        | true =>
          rw [h2] at HE2
          go_wp2
          go_round
          case rel => exact ⟨k + 1, by go_num, by omega, Lib.hid fun j hj hjk => by
            by_cases e : j = k
            · subst e; exact ⟨fun _ => HE2.out.1 rfl, fun _ => HE1.out.1 rfl⟩
            · exact HA.out j hj (by omega)⟩
          case measure => simp [intOf]; omega
        | false =>
          go_wp2
          go_ret
          exact ⟨⟨_, rfl, fun h => by simp at h⟩, rfl⟩
      | false =>
        rw [h1] at HE1
        cases h2 : ((k : Int) == (ts.length : Int) - 1) with
        | true =>
          go_wp2
          go_ret
          exact ⟨⟨_, rfl, fun h => by simp at h⟩, rfl⟩
        | false =>
          rw [h2] at HE2
          go_wp2
          go_round
          case rel => exact ⟨k + 1, by go_num, by omega, Lib.hid fun j hj hjk => by
            by_cases e : j = k
            · subst e; exact ⟨fun h => absurd (HE1.out.2 h) (by decide), fun h => absurd (HE2.out.2 h) (by decide)⟩
            · exact HA.out j hj (by omega)⟩
          case measure => simp [intOf]; omega
    · obtain rfl : k = ts.length := by omega
      go_wp2
      go_ret
      exact ⟨⟨_, rfl, fun _ => ⟨hz, fun j h => HA.out j h h⟩⟩, rfl⟩

theorem ends_any (g off cap : Nat) (ts : List TK) (w : World) (hm : ts.length ≤ maxLen) (ht : Toks w g off ts) (hr : Right ts) :
    Calls Try.prog 10 #[.slice (some ⟨g, off, none⟩) ts.length cap] w fun e w' => e = .returned (.bool true) ∧ Below w.heap.size w w' := by
  have HT := Lib.hid ht
  have HR := Lib.hid hr
  have hz := hr.1
  clear ht hr
  have hm2 : (ts.length : Int) ≤ 9223372036854775807 := by unfold maxLen at hm; omega
  have hn1 : IntKind.i64.wrap ((ts.length : Int) - 1) = ts.length - 1 := IntWalk.i64_in _ (by omega)
  clear hm
  go_enter Try.func10, Try.ntmps10
  go_wp2
  go_loopw [7] (fun i wr => ∃ k : Nat, i = .int .i64 k ∧ k < ts.length ∧ Hid (Below w.heap.size w wr)) (fun i _ => ts.length - (intOf i).toNat)
  case atStart => exact ⟨0, rfl, hz, Lib.hid (Below.refl _ _)⟩
  case round =>
    obtain ⟨k, rfl, hlt, HB⟩ := hrel
    obtain ⟨c0, c1, c2, c3, c4⟩ := (HT.out.below HB.out).2 k hlt
    have hsz := HB.out.size
    have HE1 : Hid ((ts[k].kind == 0) = true ↔ k + 1 = ts.length) := Lib.hid (by rw [beq_iff_eq]; exact HR.out.2 k hlt)
    have HE2 : Hid (((k : Int) == (ts.length : Int) - 1) = true ↔ k + 1 = ts.length) := Lib.hid (by rw [beq_iff_eq]; omega)
    cases h1 : (ts[k].kind == 0) with
    | true =>
      rw [h1] at HE1
      have h2 : ((k : Int) == (ts.length : Int) - 1) = true := HE2.out.2 (HE1.out.1 rfl)
      go_wp2
      go_ret
      exact ⟨rfl, HB.out.alloc hsz _⟩
    | false =>
      rw [h1] at HE1
      have HL : Hid (k + 1 < ts.length) := Lib.hid (by have : ¬ k + 1 = ts.length := fun h => absurd (HE1.out.2 h) (by decide); omega)
      go_wp2
      go_round
      case rel => exact ⟨k + 1, by go_num, HL.out, Lib.hid (HB.out.alloc hsz _)⟩
      case measure => simp [intOf]; omega
end Go.Proofs.Ytojneaffoekpnaa
