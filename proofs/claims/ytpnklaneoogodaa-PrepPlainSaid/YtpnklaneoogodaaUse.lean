/- The user of macros over plain tokens: it has none. -/
import Derived.Test.YtpnklaneoogodaaBase
import Derived.OwnWalk
import Derived.Laws.EntriesVeiled
import Derived.RegionTactic
import Derived.ChangeAlike
namespace Go.Proofs.Ytpnklaneoogodaa
open Go.ChangeShapes Go.WideShapes Go.ChangeAt Go.RowKit

/-- No macro. -/
def macroZ : Value := .agg #[.bool false, .slice none 0 0, .slice none 0 0]
theorem info60 : (Try.prog.info? 60).map (fun i => (i.zero, i.size, i.bytes)) = some (some macroZ, 3, 56) := by kernel_rfl
theorem look (r c : Nat) (s : ByteArray) (w : World) (h : w.heap[r]? = some (.map #[] c)) : (Instr.lookup 46 (.map (some r)) (.string s) true).run Try.prog w = .ok (.tuple #[macroZ, .bool false]) w := by
  obtain ⟨i0, hi, hz0, hz1, hz2⟩ := info_parts info60
  have hk : (Instr.checkKey true 10000 9 (.string s)).run Try.prog w = .ok () w := by
    unfold Instr.checkKey
    simp [run_underlying Try.underlying9, go_sem]
  have hz : (zeroValue 60).run Try.prog w = .ok macroZ w := by simp [zeroValue, typeInfo, hi, hz0, go_sem]
  have hf : (Instr.findKey 9 (.string s) []).run Try.prog w = .ok none w := by
    simp [Instr.findKey, run_underlying Try.underlying9, Instr.findNow, go_sem]
  have hg : (getObj r).run Try.prog w = .ok (.map #[] c) w := by simp [getObj, Sem.run, h]
  simp [Instr.lookup, run_underlying Try.underlying46, hg, hk, hz, hf, go_sem]

/-- A user in memory, with no macros; what it has told stands in tv. -/
structure Usr (w : World) (b r c : Nat) (fl : Bool) (tv : Value) : Prop where
  obj : w.heap[b]? = some (.cells #[.bool fl, .map (some r), .int .i64 0, tv] 48 (0, 0))
  mp : w.heap[r]? = some (.map #[] c)
theorem Usr.below {w w' : World} {b r c : Nat} {fl : Bool} {tv : Value} (h : Usr w b r c fl tv) (hb : Below w.heap.size w w') : Usr w' b r c fl tv :=
  ⟨(hb.block b (lt_of_block h.obj)).trans h.obj, (hb.block r (lt_of_block h.mp)).trans h.mp⟩

set_option maxRecDepth 100000 in
theorem used_any (b r c : Nat) (fl : Bool) (tv : Value) (g j m cap : Nat) (t : TK) (w : World) (hu : Usr w b r c fl tv) (ht : TkAt w g j t) (hm : 1 ≤ m) :
    Calls Try.prog 31 #[.pointer (some ⟨b, 0, none⟩), .slice (some ⟨g, j, none⟩) m cap] w fun e w' => e = .returned (.tuple #[macroZ, .bool false]) ∧ Below w.heap.size w w' := by
  have HU := Lib.hid hu
  have hb : b < w.heap.size := lt_of_block hu.obj
  have hg : g < w.heap.size := World.block_lt_of_cell? w _ ht.1
  have n1 : b ≠ w.heap.size := by omega
  have n2 : g ≠ w.heap.size := by omega
  obtain ⟨t0, t1, t2, t3, t4⟩ := ht
  clear hu
  have hm1 : (1 : Int) ≤ m := by omega
  go_enter Try.func31, Try.ntmps31
  by_cases hk : t.kind = 1
  · have hmp := HU.out.mp
    have f1 : w.cell? ⟨b, 1, none⟩ = some (.map (some r)) := (cell_of_row _ _ _ _ _ _ HU.out.obj).trans rfl
    rw [hk] at t0
    have HB : Hid (Below w.heap.size w (w.alloc (.cells #[.bool false, .slice none 0 0, .slice none 0 0] 60))) := Lib.hid ((Below.refl _ _).alloc (Nat.le_refl _) _)
    have HZ : Hid ((w.alloc (.cells #[.bool false, .slice none 0 0, .slice none 0 0] 60)).heap[w.heap.size]? = some (.cells #[.bool false, .slice none 0 0, .slice none 0 0] 60 (0, 0))) := Lib.hid (heap_alloc_new _ _)
    go_wp2_with fail
    clear n1 n2
    obtain ⟨z, hz⟩ : ∃ z, w.heap.size = z := ⟨_, rfl⟩
    rw [hz] at HB HZ hb hg ⊢
    obtain ⟨W, hW⟩ : ∃ W, w.alloc (.cells #[.bool false, .slice none 0 0, .slice none 0 0] 60) = W := ⟨_, rfl⟩
    rw [hW] at HB HZ ⊢
    have HW := Lib.hid hW
    have HZZ := Lib.hid hz
    clear hW
    have hz0 : z < W.heap.size := lt_of_block HZ.out
    have g1 : W.cell? ⟨b, 1, none⟩ = some (.map (some r)) := (HB.out.cell hb).trans f1
    have g3 : W.cell? ⟨g, j + 3, none⟩ = some (.string t.text) := (HB.out.cell hg).trans t3
    have gm : W.heap[r]? = some (.map #[] c) := (HB.out.block r (by rw [← hz]; exact lt_of_block HU.out.mp)).trans HU.out.mp
    have l1 : (Instr.lookup 46 (.map (some r)) (.string t.text) true).run Try.prog W.drew = .ok (.tuple #[macroZ, .bool false]) W.drew := look r c _ _ gm
    have l2 : (Instr.lookup 46 (.map (some r)) (.string t.text) true).run Try.prog (W.alloc (.cells #[.bool false, .slice none 0 0, .slice none 0 0] 60)).drew = .ok (.tuple #[macroZ, .bool false]) (W.alloc (.cells #[.bool false, .slice none 0 0, .slice none 0 0] 60)).drew := look r c _ _ ((Below.heap_alloc _ _ _ (lt_of_block gm)).trans gm)
    have a1 : (W.alloc (.cells #[.bool false, .slice none 0 0, .slice none 0 0] 60)).drew.cell? ⟨b, 1, none⟩ = some (.map (some r)) := ((Below.alloc (Below.refl W.heap.size W) (Nat.le_refl _) _).cell (by show b < W.heap.size; omega)).trans g1
    have a3 : (W.alloc (.cells #[.bool false, .slice none 0 0, .slice none 0 0] 60)).drew.cell? ⟨g, j + 3, none⟩ = some (.string t.text) := ((Below.alloc (Below.refl W.heap.size W) (Nat.le_refl _) _).cell (by show g < W.heap.size; omega)).trans g3
    unfold macroZ at l1 l2
    have q1 : g ≠ W.heap.size := by omega
    have q2 : b ≠ W.heap.size := by omega
    have q3 : 0 < m := by omega
    have f4 : W.frozen? ⟨z, 0, none⟩ = false := frozen_of_row _ _ _ _ _ HZ.out
    clear f1 t1 t2 t4 hmp
    go_region
    all_goals (clear l1 l2 a1 a3 g1 g3 gm q1 q2 q3 f4 hz0)
    all_goals (have hW := HW.out; have hz2 := HZZ.out; subst hz2; subst hW)
    all_goals go_wp2
    all_goals refine bodyPost_ret (v := .tuple #[macroZ, .bool false]) (by simp [macroZ, results, Try.results31, go_sem]) rfl ⟨rfl, ?_⟩
    all_goals exact (((Below.refl _ _).alloc (Nat.le_refl _) _).alloc (by simp) _).drew
  · go_wp2
    refine bodyPost_ret (v := .tuple #[macroZ, .bool false]) (by simp [macroZ, results, Try.results31, go_sem]) rfl ⟨rfl, ?_⟩
    exact (Below.refl _ _).alloc (Nat.le_refl _) _

def cellsOf (ts : List TK) : List Value := ts.flatMap tkCells
theorem cellsOf_snoc (ts : List TK) (t : TK) : cellsOf (ts ++ [t]) = cellsOf ts ++ tkCells t := by simp [cellsOf]
def zeroTok : Value := .agg #[.int .i64 0, .int .i64 0, .int .i64 0, .string ⟨#[]⟩, .int .i64 0]
theorem info26 : (Try.prog.info? 26).map (fun i => (i.zero, i.size, i.bytes)) = some (some zeroTok, 5, 48) := by kernel_rfl
/-- A row of tokens that the call owns; all that was there when it began has stayed. -/
structure Row (w0 w : World) (v : Value) (acc : List TK) : Prop where
  own : w.ownsRow w0.heap.size 26 5 v acc.length (cellsOf acc)
  bel : Below w0.heap.size w0 w
section
variable {w0 w w1 w2 : World} {v v' : Value} {acc : List TK}
theorem Row.nil_ (w0 : World) : Row w0 w0 (.slice none 0 0) [] := ⟨World.ownsRow_nil _ _ _ _, Below.refl _ _⟩
theorem Row.below (h : Row w0 w v acc) (hb : Below w.heap.size w w1) : Row w0 w1 v acc := by
  refine ⟨?_, h.bel.trans (hb.mono h.bel.size)⟩
  refine h.own.kept (row := none) ⟨hb.os, hb.tape, hb.output, hb.size, fun i hi _ => hb.block i hi⟩ ?_
  cases hv : v.ownBlock with
  | none => exact .inl rfl
  | some g => exact .inr (by simp)
theorem Row.drew (h : Row w0 w v acc) : Row w0 w.drew v acc := h.below (Below.refl _ _).drew
theorem Row.alloc (h : Row w0 w v acc) (o : Obj) : Row w0 (w.alloc o) v acc := h.below ((Below.refl _ _).alloc (Nat.le_refl _) o)
theorem Row.push (h : Row w0 w v acc) (t : TK) (hg : w.grownBy w2 v.ownBlock) (hown : w2.ownsRow w0.heap.size 26 5 v' (acc.length + 1) (cellsOf acc ++ tkCells t)) : Row w0 w2 v' (acc ++ [t]) := by
  refine ⟨?_, h.bel.grown hg h.bel.size fun k hk => (h.own.lt k hk).1⟩
  rw [cellsOf_snoc, List.length_append]
  exact hown
end
end Go.Proofs.Ytpnklaneoogodaa
