/- The directives of a condition. -/
import Derived.Test.YtojneaffoekpnaaTurn
import Derived.Test.YtojneaffoekpnaaDirect
namespace Go.Proofs.Ytojneaffoekpnaa
open Go.ChangeShapes Go.WideShapes Go.ChangeAt Go.RowKit
set_option linter.unusedVariables false
set_option linter.unusedSimpArgs false

def elseB : ByteArray := ⟨#[101, 108, 115, 101]⟩
def endifB : ByteArray := ⟨#[101, 110, 100, 105, 102]⟩

set_option maxRecDepth 100000 in
set_option maxHeartbeats 1600000 in
theorem direct_if (mq b r : Nat) (n : Int) (tv : Value) (p : Int) (g off cap : Nat) (d t : TK) (w : World) (hm : w.heap[mq]? = some (.cells #[.pointer (some ⟨b, 0, none⟩), .slice none 0 0] 41 (0, 0))) (hu : Usr w b r false n tv none)
    (ht : Toks w g off [d, t]) (hcap : 3 ≤ cap) (hd1 : d.kind = 1) (hd2 : d.text = ifB) (hk : t.kind = 2) (hz : t.num = 0) :
    Calls Try.prog 15 #[.pointer (some ⟨mq, 0, none⟩), .int .i64 p, .slice (some ⟨g, off, none⟩) 2 cap] w fun e w' => e = .returned (.tuple #[]) ∧ w.grownBy w' (some mq) ∧ ∃ og oc, w.heap.size ≤ og ∧ Cond w' mq b og oc false false := by
  have h0 := ht.2 0 (by simp)
  simp only [Nat.zero_mul, Nat.add_zero, List.getElem_cons_zero] at h0
  obtain ⟨c0, c1, c2, c3, c4⟩ := h0
  rw [hd1] at c0
  rw [hd2] at c3
  unfold ifB at c3
  have h1 := ht.2 1 (by simp)
  have ht2 : TkAt w g (off + 5) t := by simpa using h1
  have HOP := Lib.hid (opens_any mq b r n tv p g (off + 5) (cap - 1) t w hm hu ht2 hk hz)
  have hcap2 : ¬ cap = 1 := by omega
  have hcap3 : (1 : Int) ≤ cap := by omega
  clear hu ht ht2 hm hd1 hd2 hk hz h1
  go_enter Try.func15, Try.ntmps15
  go_wp2_with ((go_at_call 21; refine HOP.out.mono ?_; rintro e w2 ⟨rfl, h2, og, oc, h3, h4⟩; have HW2 := Lib.hid (And.intro h2 (And.intro h3 h4)); clear h2 h3 h4))
  first | go_ret2 | go_ret | go_end0 | skip
  exact ⟨rfl, .tuple #[], by simp [results, Try.results15, go_sem], rfl, HW2.out.1, og, oc, HW2.out.2⟩

set_option maxRecDepth 100000 in
set_option maxHeartbeats 1600000 in
theorem direct_else (mq b og oc : Nat) (p : Int) (g off cap : Nat) (d : TK) (w : World) (hC : Cond w mq b og oc false false)
    (ht : TkAt w g off d) (hcap : 2 ≤ cap) (hd1 : d.kind = 1) (hd2 : d.text = elseB) :
    Calls Try.prog 15 #[.pointer (some ⟨mq, 0, none⟩), .int .i64 p, .slice (some ⟨g, off, none⟩) 1 cap] w fun e w' => e = .returned (.tuple #[]) ∧ w.grownBy w' (some og) ∧ Cond w' mq b og oc true true := by
  obtain ⟨c0, c1, c2, c3, c4⟩ := ht
  rw [hd1] at c0
  rw [hd2] at c3
  unfold elseB at c3
  have HOP := Lib.hid fun x => turn_any mq b og oc p x (cap - 1) w hC
  have hcap2 : ¬ cap = 1 := by omega
  have hcap3 : (1 : Int) ≤ cap := by omega
  clear hC hd1 hd2
  go_enter Try.func15, Try.ntmps15
  go_wp2_with ((go_at_call 22; refine (HOP.out _).mono ?_; rintro e w2 ⟨rfl, h2, h3⟩; have HW2 := Lib.hid (And.intro h2 h3); clear h2 h3))
  first | go_ret2 | go_ret | go_end0 | skip
  exact ⟨rfl, .tuple #[], by simp [results, Try.results15, go_sem], rfl, HW2.out⟩

theorem cond_shut {w w1 : World} {mq b og oc : Nat} {x y : Bool} (h : Cond w mq b og oc x y) (hb : Below w.heap.size w w1) :
    w.grownBy (w1.setCell ⟨mq, 1, none⟩ (.slice (some ⟨og, 0, none⟩) 0 oc)) (some mq) ∧ (w1.setCell ⟨mq, 1, none⟩ (.slice (some ⟨og, 0, none⟩) 0 oc)).heap[mq]? = some (.cells #[.pointer (some ⟨b, 0, none⟩), .slice (some ⟨og, 0, none⟩) 0 oc] 41 (0, 0)) := by
  have h' := h.below hb
  refine ⟨⟨hb.os, hb.tape, hb.output, ?_, fun k hk hkb => ?_⟩, ?_⟩
  · simp only [World.setCell, Array.size_modify]
    exact hb.size
  · rw [heap_setCell_other _ _ _ _ (fun e => hkb (by rw [e]))]
    exact hb.block k hk
  · rw [heap_setCell_same _ _ _ _ _ _ h'.m]
    rfl

set_option maxRecDepth 100000 in
set_option maxHeartbeats 1600000 in
theorem direct_endif (mq b og oc : Nat) (x y : Bool) (p : Int) (g off cap : Nat) (d : TK) (w : World) (hC : Cond w mq b og oc x y)
    (ht : TkAt w g off d) (hcap : 2 ≤ cap) (hd1 : d.kind = 1) (hd2 : d.text = endifB) :
    Calls Try.prog 15 #[.pointer (some ⟨mq, 0, none⟩), .int .i64 p, .slice (some ⟨g, off, none⟩) 1 cap] w fun e w' => e = .returned (.tuple #[]) ∧ w.grownBy w' (some mq) ∧ w'.heap[mq]? = some (.cells #[.pointer (some ⟨b, 0, none⟩), .slice (some ⟨og, 0, none⟩) 0 oc] 41 (0, 0)) := by
  obtain ⟨c0, c1, c2, c3, c4⟩ := ht
  rw [hd1] at c0
  rw [hd2] at c3
  unfold endifB at c3
  have HT := Lib.hid fun w1 => @cond_shut w w1 mq b og oc x y hC
  obtain ⟨m0, m1, r0, r1, r2, rf, mf⟩ := hC.cells
  have mf1 := mf 1
  have hcap2 : ¬ cap = 1 := by omega
  have hcap3 : (1 : Int) ≤ cap := by omega
  have hoc : (0 : Int) ≤ oc := by omega
  have hoc1 := hC.cap
  have hoc2 : ¬ oc = 0 := by omega
  clear hC hd1 hd2 rf mf m0 r0 r1 r2
  go_enter Try.func15, Try.ntmps15
  go_wp2_with fail
  go_region
  go_wp2_with fail
  first | go_ret2 | go_ret | go_end0 | skip
  exact ⟨rfl, .tuple #[], by simp [results, Try.results15, go_sem], rfl, HT.out _ (Below.refl _ _).drew⟩
end Go.Proofs.Ytojneaffoekpnaa
