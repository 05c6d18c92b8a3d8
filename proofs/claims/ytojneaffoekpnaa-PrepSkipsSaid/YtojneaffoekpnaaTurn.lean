/- The else of a condition that does not hold. -/
import Derived.Test.YtojneaffoekpnaaOpen
namespace Go.Proofs.Ytojneaffoekpnaa
open Go.ChangeShapes Go.WideShapes Go.ChangeAt Go.RowKit
set_option linter.unusedVariables false
set_option linter.unusedSimpArgs false

theorem cond_turned {w w1 : World} {mq b og oc : Nat} (h : Cond w mq b og oc false false) (hb : Below w.heap.size w w1) :
    w.grownBy ((w1.setCell ⟨og, 2, none⟩ (.bool true)).setCell ⟨og, 0, none⟩ (.bool true)) (some og) ∧ Cond ((w1.setCell ⟨og, 2, none⟩ (.bool true)).setCell ⟨og, 0, none⟩ (.bool true)) mq b og oc true true := by
  have h' := h.below hb
  have hlt := lt_of_block h.m
  have hne := h.ne
  obtain ⟨cs, h1, h2, h3, h4⟩ := h'.row
  have e1 : (w1.setCell ⟨og, 2, none⟩ (.bool true)).heap[og]? = some (.cells (cs.setIfInBounds 2 (.bool true)) 54 (0, 0)) := heap_setCell_same _ _ _ _ _ _ h1
  refine ⟨⟨hb.os, hb.tape, hb.output, ?_, fun k hk hkb => ?_⟩, ⟨?_, ⟨_, heap_setCell_same _ _ _ _ _ _ e1, ?_, ?_, ?_⟩, hne, h.cap⟩⟩
  · simp only [World.setCell, Array.size_modify]
    exact hb.size
  · rw [heap_setCell_other _ _ _ _ (fun e => hkb (by rw [e])), heap_setCell_other _ _ _ _ (fun e => hkb (by rw [e]))]
    exact hb.block k hk
  · rw [heap_setCell_other _ _ _ _ (fun e => hne e.symm), heap_setCell_other _ _ _ _ (fun e => hne e.symm)]
    exact h'.m
  · have z0 : 0 < cs.size := (Array.getElem?_eq_some_iff.1 h2).1
    simp [Array.getElem?_setIfInBounds, z0]
  · simp [Array.getElem?_setIfInBounds, h3]
  · have z2 : 2 < cs.size := (Array.getElem?_eq_some_iff.1 h4).1
    simp [Array.getElem?_setIfInBounds, z2]

set_option maxRecDepth 100000 in
set_option maxHeartbeats 1600000 in
theorem turn_any (mq b og oc : Nat) (p : Int) (x : Option Addr) (cap : Nat) (w : World) (h : Cond w mq b og oc false false) :
    Calls Try.prog 22 #[.pointer (some ⟨mq, 0, none⟩), .int .i64 p, .slice x 0 cap] w fun e w' => e = .returned (.tuple #[]) ∧ w.grownBy w' (some og) ∧ Cond w' mq b og oc true true := by
  have HC := Lib.hid h
  have HT := Lib.hid fun w1 => @cond_turned w w1 mq b og oc h
  obtain ⟨m0, m1, r0, r1, r2, rf, mf⟩ := h.cells
  have rf0 := rf 0
  have rf1 := rf 1
  have rf2 := rf 2
  clear h rf mf m0
  go_enter Try.func22, Try.ntmps22
  go_wp2_with fail
  go_quiet (fail)
  go_wp2_with fail
  go_quiet (fail)
  go_wp2_with fail
  first | go_end0 | skip
  exact ⟨rfl, HT.out _ (bdrew (Below.refl _ _) _)⟩
end Go.Proofs.Ytojneaffoekpnaa
