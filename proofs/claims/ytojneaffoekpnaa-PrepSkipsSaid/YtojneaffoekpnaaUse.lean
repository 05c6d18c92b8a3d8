/- The user of macros, of which there may be one; the names that are none. -/
import Derived.Test.YtojneaffoekpnaaBase
import Derived.OwnWalk
import Derived.Laws.EntriesVeiled
import Derived.RegionTactic
import Derived.ChangeAlike
namespace Go.Proofs.Ytojneaffoekpnaa
open Go.ChangeShapes Go.WideShapes Go.ChangeAt Go.RowKit
set_option linter.unusedVariables false
set_option linter.unusedSimpArgs false

/-- No macro. -/
def macroZ : Value := .agg #[.bool false, .slice none 0 0, .slice none 0 0]
theorem info63 : (Try.prog.info? 63).map (fun i => (i.zero, i.size, i.bytes)) = some (some macroZ, 3, 56) := by kernel_rfl
/-- The macros: none, or one, with its tokens. -/
def mapOf : Option (ByteArray × Option Addr × Nat × Nat) → Obj
  | none => .map #[] 0
  | some (z, o, n, c) => .map #[{ key := .string z, val := .agg #[.bool true, .slice none 0 0, .slice o n c], born := 0 }] 1
def lookV (mo : Option (ByteArray × Option Addr × Nat × Nat)) (s : ByteArray) : Value :=
  match mo with
  | none => .tuple #[macroZ, .bool false]
  | some (z, o, n, c) => if z = s then .tuple #[.agg #[.bool true, .slice none 0 0, .slice o n c], .bool true] else .tuple #[macroZ, .bool false]
theorem look (r : Nat) (mo : Option (ByteArray × Option Addr × Nat × Nat)) (s : ByteArray) (w : World) (h : w.heap[r]? = some (mapOf mo)) : (Instr.lookup 47 (.map (some r)) (.string s) true).run Try.prog w = .ok (lookV mo s) w := by
  obtain ⟨i0, hi, hz0, hz1, hz2⟩ := info_parts info63
  have hk : ∀ b, (Instr.checkKey b 10000 9 (.string s)).run Try.prog w = .ok () w := by
    intro b
    unfold Instr.checkKey
    simp [run_underlying Try.underlying9, go_sem]
  have hz : (zeroValue 63).run Try.prog w = .ok macroZ w := by simp [zeroValue, typeInfo, hi, hz0, go_sem]
  have hg : (getObj r).run Try.prog w = .ok (mapOf mo) w := by
    rcases mo with _ | ⟨z, o, n, c⟩ <;> simp [getObj, Sem.run, h, mapOf]
  have hsn : ∀ a b : ByteArray, Instr.sameNow .string (.string a) (.string b) = some (a == b) := fun _ _ => rfl
  have heq : ∀ a b : ByteArray, (a == b) = decide (a = b) := by
    intro a b
    rw [Bool.eq_iff_iff]
    cases a with
    | mk x =>
      cases b with
      | mk y =>
        show (x == y) = true ↔ _
        simp
  rcases mo with _ | ⟨z, o, n, c⟩
  · have hf : (Instr.findKey 9 (.string s) []).run Try.prog w = .ok none w := by
      simp [Instr.findKey, run_underlying Try.underlying9, Instr.findNow, go_sem]
    simp [Instr.lookup, run_underlying Try.underlying47, hg, hk, hz, hf, go_sem, mapOf, lookV]
  · by_cases e : z = s
    · subst e
      simp [Instr.lookup, Instr.findKey, Instr.findNow, run_underlying Try.underlying47, run_underlying Try.underlying9, hg, hk, hz, hsn, heq, go_sem, mapOf, lookV]
    · simp [Instr.lookup, Instr.findKey, Instr.findNow, run_underlying Try.underlying47, run_underlying Try.underlying9, hg, hk, hz, hsn, heq, go_sem, mapOf, lookV, e, show ¬ s = z from fun h => e (Eq.symm h)]
      rfl

abbrev Dic := Option (ByteArray × Option Addr × Nat × Nat)
/-- A user in memory. -/
structure Usr (w : World) (b r : Nat) (fl : Bool) (n : Int) (tv : Value) (mo : Dic) : Prop where
  obj : w.heap[b]? = some (.cells #[.bool fl, .map (some r), .int .i64 n, tv] 49 (0, 0))
  mp : w.heap[r]? = some (mapOf mo)
theorem Usr.below {w w' : World} {b r : Nat} {fl : Bool} {n : Int} {tv : Value} {mo : Dic} (h : Usr w b r fl n tv mo) (hb : Below w.heap.size w w') : Usr w' b r fl n tv mo :=
  ⟨(hb.block b (lt_of_block h.obj)).trans h.obj, (hb.block r (lt_of_block h.mp)).trans h.mp⟩
/-- Is a token a use? -/
def isUse (mo : Dic) (t : TK) : Bool := decide (t.kind = 1) && (match mo with | none => false | some (z, _) => decide (z = t.text))

set_option maxRecDepth 100000 in
theorem used_no (b r : Nat) (fl : Bool) (n : Int) (tv : Value) (mo : Dic) (g j m cap : Nat) (t : TK) (w : World) (hu : Usr w b r fl n tv mo) (ht : TkAt w g j t) (hm : 1 ≤ m) (hno : isUse mo t = false) :
    Calls Try.prog 31 #[.pointer (some ⟨b, 0, none⟩), .slice (some ⟨g, j, none⟩) m cap] w fun e w' => e = .returned (.tuple #[macroZ, .bool false]) ∧ Below w.heap.size w w' := by
  have HU := Lib.hid hu
  have hb : b < w.heap.size := lt_of_block hu.obj
  have hg : g < w.heap.size := World.block_lt_of_cell? w _ ht.1
  have n1 : b ≠ w.heap.size := by omega
  have n2 : g ≠ w.heap.size := by omega
  obtain ⟨t0, t1, t2, t3, t4⟩ := ht
  clear hu
  have hm1 : (1 : Int) ≤ m := by omega
  have HNO := Lib.hid hno
  clear hno
  go_enter Try.func31, Try.ntmps31
  by_cases hk : t.kind = 1
  · have hmp := HU.out.mp
    have f1 : w.cell? ⟨b, 1, none⟩ = some (.map (some r)) := (cell_of_row _ _ _ _ _ _ HU.out.obj).trans rfl
    have hlk : lookV mo t.text = .tuple #[.agg #[.bool false, .slice none 0 0, .slice none 0 0], .bool false] := by
      have h := HNO.out
      unfold isUse at h
      rcases mo with _ | ⟨z, o, k, c⟩
      · rfl
      · simp [hk] at h
        simp [lookV, h, macroZ]
    have HLK := Lib.hid hlk
    clear hlk
    rw [hk] at t0
    have HB : Hid (Below w.heap.size w (w.alloc (.cells #[.bool false, .slice none 0 0, .slice none 0 0] 63))) := Lib.hid ((Below.refl _ _).alloc (Nat.le_refl _) _)
    have HZ : Hid ((w.alloc (.cells #[.bool false, .slice none 0 0, .slice none 0 0] 63)).heap[w.heap.size]? = some (.cells #[.bool false, .slice none 0 0, .slice none 0 0] 63 (0, 0))) := Lib.hid (heap_alloc_new _ _)
    go_wp2_with fail
    clear n1 n2
    obtain ⟨z, hz⟩ : ∃ z, w.heap.size = z := ⟨_, rfl⟩
    rw [hz] at HB HZ hb hg ⊢
    obtain ⟨W, hW⟩ : ∃ W, w.alloc (.cells #[.bool false, .slice none 0 0, .slice none 0 0] 63) = W := ⟨_, rfl⟩
    rw [hW] at HB HZ ⊢
    have HW := Lib.hid hW
    have HZZ := Lib.hid hz
    clear hW
    have hz0 : z < W.heap.size := lt_of_block HZ.out
    have g1 : W.cell? ⟨b, 1, none⟩ = some (.map (some r)) := (HB.out.cell hb).trans f1
    have g3 : W.cell? ⟨g, j + 3, none⟩ = some (.string t.text) := (HB.out.cell hg).trans t3
    have gm : W.heap[r]? = some (mapOf mo) := (HB.out.block r (by rw [← hz]; exact lt_of_block HU.out.mp)).trans HU.out.mp
    have l1 : (Instr.lookup 47 (.map (some r)) (.string t.text) true).run Try.prog W.drew = .ok (.tuple #[.agg #[.bool false, .slice none 0 0, .slice none 0 0], .bool false]) W.drew := by rw [← HLK.out]; exact look r mo _ _ gm
    have l2 : (Instr.lookup 47 (.map (some r)) (.string t.text) true).run Try.prog (W.alloc (.cells #[.bool false, .slice none 0 0, .slice none 0 0] 63)).drew = .ok (.tuple #[.agg #[.bool false, .slice none 0 0, .slice none 0 0], .bool false]) (W.alloc (.cells #[.bool false, .slice none 0 0, .slice none 0 0] 63)).drew := by rw [← HLK.out]; exact look r mo _ _ ((Below.heap_alloc _ _ _ (lt_of_block gm)).trans gm)
    have a1 : (W.alloc (.cells #[.bool false, .slice none 0 0, .slice none 0 0] 63)).drew.cell? ⟨b, 1, none⟩ = some (.map (some r)) := ((Below.alloc (Below.refl W.heap.size W) (Nat.le_refl _) _).cell (by show b < W.heap.size; omega)).trans g1
    have a3 : (W.alloc (.cells #[.bool false, .slice none 0 0, .slice none 0 0] 63)).drew.cell? ⟨g, j + 3, none⟩ = some (.string t.text) := ((Below.alloc (Below.refl W.heap.size W) (Nat.le_refl _) _).cell (by show g < W.heap.size; omega)).trans g3
    have q1 : g ≠ W.heap.size := by omega
    have q2 : b ≠ W.heap.size := by omega
    have q3 : 0 < m := by omega
    have f4 : W.frozen? ⟨z, 0, none⟩ = false := frozen_of_row _ _ _ _ _ HZ.out
    clear f1 t1 t2 t4 hmp
    go_region
    all_goals (clear l1 l2 a1 a3 g1 g3 gm q1 q2 q3 f4 hz0)
    all_goals (have hW := HW.out; have hz2 := HZZ.out; subst hz2; subst hW)
    all_goals go_wp2
    all_goals refine bodyPost_ret (v := .tuple #[macroZ, .bool false]) (by simp [macroZ, results, Try.results31, go_sem]) rfl ⟨rfl, ?_⟩
    all_goals exact (((Below.refl _ _).alloc (Nat.le_refl _) _).alloc (by simp) _).drew
  · go_wp2
    refine bodyPost_ret (v := .tuple #[macroZ, .bool false]) (by simp [macroZ, results, Try.results31, go_sem]) rfl ⟨rfl, ?_⟩
    exact (Below.refl _ _).alloc (Nat.le_refl _) _

def plainV (o : Option Addr) (k c : Nat) : Value := .agg #[.bool true, .slice none 0 0, .slice o k c]
set_option maxRecDepth 100000 in
theorem used_yes (b r : Nat) (fl : Bool) (n : Int) (tv : Value) (s : ByteArray) (o : Option Addr) (k c : Nat) (g j m cap : Nat) (t : TK) (w : World) (hu : Usr w b r fl n tv (some (s, o, k, c))) (ht : TkAt w g j t) (hm : 1 ≤ m) (hk : t.kind = 1) (hs : s = t.text) :
    Calls Try.prog 31 #[.pointer (some ⟨b, 0, none⟩), .slice (some ⟨g, j, none⟩) m cap] w fun e w' => e = .returned (.tuple #[plainV o k c, .bool true]) ∧ Below w.heap.size w w' := by
  have HU := Lib.hid hu
  have hb : b < w.heap.size := lt_of_block hu.obj
  have hg : g < w.heap.size := World.block_lt_of_cell? w _ ht.1
  have n1 : b ≠ w.heap.size := by omega
  have n2 : g ≠ w.heap.size := by omega
  obtain ⟨t0, t1, t2, t3, t4⟩ := ht
  clear hu
  have hm1 : (1 : Int) ≤ m := by omega
  go_enter Try.func31, Try.ntmps31
  · have f1 : w.cell? ⟨b, 1, none⟩ = some (.map (some r)) := (cell_of_row _ _ _ _ _ _ HU.out.obj).trans rfl
    have hlk : lookV (some (s, o, k, c)) t.text = .tuple #[.agg #[.bool true, .slice none 0 0, .slice o k c], .bool true] := by
      simp [lookV, hs]
    have HLK := Lib.hid hlk
    clear hlk
    rw [hk] at t0
    have HB : Hid (Below w.heap.size w (w.alloc (.cells #[.bool false, .slice none 0 0, .slice none 0 0] 63))) := Lib.hid ((Below.refl _ _).alloc (Nat.le_refl _) _)
    have HZ : Hid ((w.alloc (.cells #[.bool false, .slice none 0 0, .slice none 0 0] 63)).heap[w.heap.size]? = some (.cells #[.bool false, .slice none 0 0, .slice none 0 0] 63 (0, 0))) := Lib.hid (heap_alloc_new _ _)
    clear hk hs
    go_wp2_with fail
    clear n1 n2
    obtain ⟨z, hz⟩ : ∃ z, w.heap.size = z := ⟨_, rfl⟩
    rw [hz] at HB HZ hb hg ⊢
    obtain ⟨W, hW⟩ : ∃ W, w.alloc (.cells #[.bool false, .slice none 0 0, .slice none 0 0] 63) = W := ⟨_, rfl⟩
    rw [hW] at HB HZ ⊢
    have HW := Lib.hid hW
    have HZZ := Lib.hid hz
    clear hW
    have hz0 : z < W.heap.size := lt_of_block HZ.out
    have g1 : W.cell? ⟨b, 1, none⟩ = some (.map (some r)) := (HB.out.cell hb).trans f1
    have g3 : W.cell? ⟨g, j + 3, none⟩ = some (.string t.text) := (HB.out.cell hg).trans t3
    have gm : W.heap[r]? = some (mapOf (some (s, o, k, c))) := (HB.out.block r (by rw [← hz]; exact lt_of_block HU.out.mp)).trans HU.out.mp
    have l1 : (Instr.lookup 47 (.map (some r)) (.string t.text) true).run Try.prog W.drew = .ok (.tuple #[.agg #[.bool true, .slice none 0 0, .slice o k c], .bool true]) W.drew := by rw [← HLK.out]; exact look r _ _ _ gm
    have l2 : (Instr.lookup 47 (.map (some r)) (.string t.text) true).run Try.prog (W.alloc (.cells #[.bool false, .slice none 0 0, .slice none 0 0] 63)).drew = .ok (.tuple #[.agg #[.bool true, .slice none 0 0, .slice o k c], .bool true]) (W.alloc (.cells #[.bool false, .slice none 0 0, .slice none 0 0] 63)).drew := by rw [← HLK.out]; exact look r _ _ _ ((Below.heap_alloc _ _ _ (lt_of_block gm)).trans gm)
    have a1 : (W.alloc (.cells #[.bool false, .slice none 0 0, .slice none 0 0] 63)).drew.cell? ⟨b, 1, none⟩ = some (.map (some r)) := ((Below.alloc (Below.refl W.heap.size W) (Nat.le_refl _) _).cell (by show b < W.heap.size; omega)).trans g1
    have a3 : (W.alloc (.cells #[.bool false, .slice none 0 0, .slice none 0 0] 63)).drew.cell? ⟨g, j + 3, none⟩ = some (.string t.text) := ((Below.alloc (Below.refl W.heap.size W) (Nat.le_refl _) _).cell (by show g < W.heap.size; omega)).trans g3
    have q1 : g ≠ W.heap.size := by omega
    have q2 : b ≠ W.heap.size := by omega
    have q3 : 0 < m := by omega
    have f4 : W.frozen? ⟨z, 0, none⟩ = false := frozen_of_row _ _ _ _ _ HZ.out
    clear f1 t1 t2 t4
    go_region
    all_goals (clear l1 l2 a1 a3 g1 g3 gm q1 q2 q3 f4 hz0)
    all_goals (have hW := HW.out; have hz2 := HZZ.out; subst hz2; subst hW)
    all_goals go_wp2
    all_goals refine bodyPost_ret (v := .tuple #[plainV o k c, .bool true]) (by simp [plainV, results, Try.results31, go_sem]) rfl ⟨rfl, ?_⟩
    all_goals exact (((Below.refl _ _).alloc (Nat.le_refl _) _).alloc (by simp) _).drew
end Go.Proofs.Ytojneaffoekpnaa
