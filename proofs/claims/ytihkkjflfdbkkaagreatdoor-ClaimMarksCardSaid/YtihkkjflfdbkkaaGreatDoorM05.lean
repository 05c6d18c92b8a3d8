/- The document's small questions of a model. -/
import Derived.Test.YtihkkjflfdbkkaaGreatDoorM03
import Derived.Test.YtihkkjflfdbkkaaGreatDoorM04
import Derived.RangeFuncNested
import Derived.RangeFuncFrom
import Derived.RangeFuncBound
import Derived.RangeFuncCalls
import Derived.RangeFuncLeaves
import Derived.Shelf.Abstract
import Derived.Shelf.RegionOpen
import Derived.WalkKit
import Derived.OwnWalkIn
import Derived.TacticsInMore
import Derived.LoopNIn
import Derived.LoopIn
import Derived.Test.YtihkkjflfdbkkaaGreatDoorM02
namespace Go.Proofs.YtihkkjflfdbkkaaGreatDoor
open Go.ChangeShapes Go.WideShapes Go.ChangeAt Go.RowKit
set_option linter.unusedVariables false
set_option linter.unusedSimpArgs false

/-- A box at a place, and what stands below it. -/
structure Bq (w : World) (p : Nat) (cs : Array Value) (T : TypeId) (W : World) : Prop where
  box : W.heap[p]? = some (.cells cs T (0, 0))
  bel : Below w.heap.size w W
theorem Bq.below {w W W' : World} {p : Nat} {cs : Array Value} {T : TypeId} (h : Bq w p cs T W) (hb : Below W.heap.size W W') : Bq w p cs T W' := ⟨(hb.block _ (lt_of_block h.box)).trans h.box, h.bel.trans (hb.mono h.bel.size)⟩
theorem Bq.cell {w W : World} {p : Nat} {cs : Array Value} {T : TypeId} (h : Bq w p cs T W) {i : Nat} {v : Value} (hv : cs[i]? = some v) : W.cell? ⟨p, i, none⟩ = some v := (cell_of_row _ _ _ _ _ _ h.box).trans hv
theorem Bq.new {w W : World} (h : Below w.heap.size w W) (cs : Array Value) (T : TypeId) : Bq w W.heap.size cs T (W.alloc (.cells cs T)) := ⟨heap_alloc_new W _, h.alloc h.size _⟩
/-- A model in a box. -/
structure Mx (w : World) (p : Nat) (CS : Array Value) (h : MH) (m : ModelD) (W : World) : Prop where
  eq : CS = mCells h m
  bx : Bq w p CS 29 W
  md : MD w.heap.size W h m
section
variable {w W W' : World} {p : Nat} {CS : Array Value} {h : MH} {m : ModelD}
theorem Mx.below (k : Mx w p CS h m W) (hb : Below W.heap.size W W') : Mx w p CS h m W' := ⟨k.eq, k.bx.below hb, k.md.below (hb.mono k.bx.bel.size)⟩
theorem Mx.new (hd : MD w.heap.size w h m) (hC : CS = mCells h m) : Mx w w.heap.size CS h m (w.alloc (.cells CS 29)) := ⟨hC, Bq.new (Below.refl _ _) _ _, hd.below (ball _)⟩
theorem Mx.info (k : Mx w p CS h m W) : (Tryz.prog.info? 29).map (·.size) = some CS.size := by
  rw [k.eq]
  show _ = some 7
  kernel_rfl
theorem Mx.c0 (k : Mx w p CS h m W) : W.cell? ⟨p, 0, none⟩ = some (.slice h.go m.globals.length h.gc) := k.bx.cell (by rw [k.eq]; rfl)
theorem Mx.c1 (k : Mx w p CS h m W) : W.cell? ⟨p, 1, none⟩ = some (.slice h.io m.init.length h.ic) := k.bx.cell (by rw [k.eq]; rfl)
theorem Mx.c2 (k : Mx w p CS h m W) : W.cell? ⟨p, 2, none⟩ = some (.slice h.so m.shapes.length h.sc) := k.bx.cell (by rw [k.eq]; rfl)
theorem Mx.c3 (k : Mx w p CS h m W) : W.cell? ⟨p, 3, none⟩ = some (.slice h.co m.chans.length h.cc) := k.bx.cell (by rw [k.eq]; rfl)
theorem Mx.c4 (k : Mx w p CS h m W) : W.cell? ⟨p, 4, none⟩ = some (.slice h.po m.procs.length h.pc) := k.bx.cell (by rw [k.eq]; rfl)
theorem Mx.c5 (k : Mx w p CS h m W) : W.cell? ⟨p, 5, none⟩ = some (.int .i64 m.claim) := k.bx.cell (by rw [k.eq]; rfl)
theorem Mx.c6 (k : Mx w p CS h m W) : W.cell? ⟨p, 6, none⟩ = some (.slice h.eo m.exprs.length h.ec) := k.bx.cell (by rw [k.eq]; rfl)
theorem Mx.here (k : Mx w p CS h m W) : MD W.heap.size W h m := k.md.lift k.bx.bel.size
end

theorem belowH {B : Nat} (n : Int) (l : List Int) (o : Option Addr) (c : Nat) (w : World) (hr : Row B o 1 (intAt w) l) : Calls Tryz.prog 124 #[.int .i64 n, .slice o l.length c] w fun e w' => e = .returned (.bool (belowB n l)) ∧ w = w' := by
  have HR := Lib.hid hr
  have hn := hr.1
  clear hr
  go_enter Tryz.func124, Tryz.ntmps124
  go_wp2
  go_loop [5] (fun i => ∃ k : Nat, i = .int .i64 k ∧ k ≤ l.length ∧ Hid (∀ j (hj : j < l.length), j < k → decide (0 ≤ l[j] ∧ l[j] < n) = true)) (fun i => l.length - (intOf i).toNat)
  case atStart => exact ⟨0, rfl, by omega, Lib.hid fun j _ h => by omega⟩
  case round =>
    obtain ⟨k, rfl, hk, HD⟩ := hrel
    have hk0 : (0 : Int) ≤ k := by omega
    by_cases hlt : k < l.length
    · have hlti : (k : Int) < l.length := by omega
      obtain ⟨g, off, rfl, hg, e0⟩ := HR.out.cell hlt
      obtain ⟨x, hx⟩ : ∃ x, l[k] = x := ⟨_, rfl⟩
      have c0 : w.cell? ⟨g, off + k, none⟩ = some (.int .i64 x) := by have := e0; unfold intAt at this; rw [Nat.mul_one, hx] at this; exact this
      have HX := Lib.hid hx
      clear e0 hx
      by_cases hb : 0 ≤ x ∧ x < n
      · have b1 : ¬ x < 0 := by omega
        have b2 : ¬ n ≤ x := by omega
        have HK : Hid (∀ j (hj : j < l.length), j < k + 1 → decide (0 ≤ l[j] ∧ l[j] < n) = true) := Lib.hid fun j hj hjk => by
          by_cases e : j = k
          · subst e; rw [HX.out]; exact decide_eq_true hb
          · exact HD.out j hj (by omega)
        clear hb
        go_wp2
        go_round
        case rel => exact ⟨k + 1, by go_num, by omega, HK⟩
        case measure => simp [intOf]; omega
      · have HF : Hid (belowB n l = false) := Lib.hid (all_bad hlt (by rw [HX.out]; exact decide_eq_false hb))
        go_wp2
        all_goals first | (exfalso; omega) | (go_ret; exact ⟨retB HF.out.symm, rfl⟩)
    · have hlti : ¬ (k : Int) < l.length := by omega
      have HF : Hid (belowB n l = true) := Lib.hid (all_of fun j hj => HD.out j hj (by omega))
      go_wp2
      go_ret
      exact ⟨retB HF.out.symm, rfl⟩
/-- One number. -/
theorem below1 (n x : Int) (W : World) : Calls Tryz.prog 124 #[.int .i64 n, .slice (some ⟨W.heap.size, 0, none⟩) 1 1] (W.alloc (.cells #[.int .i64 x] 3)) fun e w' => e = .returned (.bool (decide (0 ≤ x ∧ x < n))) ∧ W.alloc (.cells #[.int .i64 x] 3) = w' := by
  have h := belowH (B := W.heap.size + 1) n [x] (some ⟨W.heap.size, 0, none⟩) 1 (W.alloc (.cells #[.int .i64 x] 3)) ⟨by simp, .inr ⟨W.heap.size, 0, rfl, by omega, fun i hi => by
    obtain rfl : i = 0 := by simpa using hi
    exact (cell_of_row _ _ _ _ _ _ (heap_alloc_new W _)).trans rfl⟩⟩
  have e : belowB n [x] = decide (0 ≤ x ∧ x < n) := by unfold belowB; simp
  rw [e] at h
  exact h
theorem partsH (op : Int) (hop : 1 ≤ op ∧ op ≤ 39) (w : World) : Calls Tryz.prog 123 #[.int .i64 op] w fun e w' => e = .returned (.int .i64 (partsOf op)) ∧ w = w' := by
  go_enter Tryz.func123, Tryz.ntmps123
  go_wp2
  all_goals (go_ret; refine ⟨retI ?_, rfl⟩)
  all_goals (unfold partsOf; repeat' split)
  all_goals first | rfl | omega | (exfalso; simp only [beq_iff_eq, beq_eq_false_iff_ne, ne_eq] at *; omega)
theorem proctypeH {h : MH} {m : ModelD} (n : Int) (w : World) (hd : MD w.heap.size w h m) : Calls Tryz.prog 125 #[mV h m, .int .i64 n] w fun e w' => e = .returned (.bool (ptypeB m n)) ∧ Below w.heap.size w w' := by
  obtain ⟨CS, hCS⟩ : ∃ c, c = mCells h m := ⟨_, rfl⟩
  have HX := Lib.hid (Mx.new hd hCS)
  have c4 := HX.out.c4
  have c5 := HX.out.c5
  have hl := hd.procs.1
  unfold mV
  rw [← hCS]
  clear hd hCS
  go_enter Tryz.func125, Tryz.ntmps125
  go_wp2
  all_goals (go_ret; refine ⟨retB ?_, HX.out.bx.bel⟩)
  all_goals (unfold ptypeB; rw [Bool.eq_iff_iff]; simp_all)
  all_goals omega
theorem targetH {h : MH} {m : ModelD} (n : Int) (w : World) (hd : MD w.heap.size w h m) : Calls Tryz.prog 153 #[mV h m, .int .i64 n] w fun e w' => e = .returned (.bool (settableB m n)) ∧ Below w.heap.size w w' := by
  obtain ⟨CS, hCS⟩ : ∃ c, c = mCells h m := ⟨_, rfl⟩
  have HX := Lib.hid (Mx.new hd hCS)
  have c6 := HX.out.c6
  have hl := hd.exprs.1
  have HD := Lib.hid hd
  unfold mV
  rw [← hCS]
  clear hd hCS
  by_cases hn : 0 ≤ n ∧ n < m.exprs.length
  · obtain ⟨k, rfl⟩ : ∃ k : Nat, n = k := ⟨n.toNat, by omega⟩
    have hk : k < m.exprs.length := by omega
    obtain ⟨g, off, ho, hg, he⟩ := HD.out.exprs.cell hk
    have HE := Lib.hid (he.below (ball (.cells CS 29)) hg)
    obtain ⟨op, hop⟩ : ∃ op, m.exprs[k].op = op := ⟨_, rfl⟩
    obtain ⟨sc, hsc⟩ : ∃ sc, m.exprs[k].v.scope = sc := ⟨_, rfl⟩
    have d0 := HE.out.c0
    have d5 := HE.out.v.c0
    rw [hop] at d0
    rw [hsc] at d5
    rw [ho] at c6
    have HV : Hid (settableB m (k : Int) = (decide (op = 2) && decide (sc ≠ 2))) := Lib.hid (by
      unfold settableB isVarB
      have e1 : isExprB m (k : Int) = true := by unfold isExprB; simpa using hn
      have e2 : opAt m (k : Int) = op := by unfold opAt; simp [hk, hop]
      have e3 : scopeAt m (k : Int) = sc := by unfold scopeAt; simp [hk, hsc]
      rw [e1, e2, e3]
      simp)
    have h1 : (k : Int) < m.exprs.length := by omega
    have h0 : (0 : Int) ≤ k := by omega
    clear hn he hg hop hsc ho
    go_enter Tryz.func153, Tryz.ntmps153
    go_wp2
    all_goals (go_ret; refine ⟨retB (Eq.trans ?_ HV.out.symm), HX.out.bx.bel⟩)
    all_goals (rw [Bool.eq_iff_iff]; simp_all)
  · have HV : Hid (settableB m n = false) := Lib.hid (by unfold settableB isVarB isExprB; rw [decide_eq_false hn]; rfl)
    by_cases h0 : 0 ≤ n
    · have h1 : ¬ n < m.exprs.length := by omega
      clear hn
      go_enter Tryz.func153, Tryz.ntmps153
      go_wp2
      all_goals (go_ret; exact ⟨retB HV.out.symm, HX.out.bx.bel⟩)
    · clear hn
      go_enter Tryz.func153, Tryz.ntmps153
      go_wp2
      all_goals (go_ret; exact ⟨retB HV.out.symm, HX.out.bx.bel⟩)
set_option maxRecDepth 100000 in
theorem roomH {h : MH} {m : ModelD} (pr : Nat) (v : VarD) (o : Option Addr) (cap : Nat) (w : World) (hd : MD w.heap.size w h m) (hsc : 0 ≤ v.scope ∧ v.scope ≤ 2) (h1 : v.scope = 1 → pr < m.procs.length) (h2 : v.scope = 2 → 0 ≤ v.type ∧ v.type < m.procs.length) :
    Calls Tryz.prog 130 #[mV h m, .int .i64 pr, .agg #[.int .i64 v.scope, .int .i64 v.slot, .int .i64 v.who, .int .i64 v.type, .slice o v.dims.length cap]] w fun e w' => e = .returned (.int .i64 (roomL m pr v)) ∧ Below w.heap.size w w' := by
  obtain ⟨CS, hCS⟩ : ∃ c, c = mCells h m := ⟨_, rfl⟩
  obtain ⟨sc, sl, wh, ty, dims⟩ := v
  simp only at hsc h1 h2 ⊢
  have HX := Lib.hid ((Mx.new hd hCS).below (ball (.cells #[.int .i64 sc, .int .i64 sl, .int .i64 wh, .int .i64 ty, .slice o dims.length cap] 72)))
  have c0 := HX.out.c0
  have c4 := HX.out.c4
  have l1 := hd.globals.1
  have l2 := hd.procs.1
  have HD := Lib.hid hd
  unfold mV
  rw [← hCS]
  clear hd hCS
  by_cases e0 : sc = 0
  · subst e0
    have HV : Hid (roomL m pr ⟨0, sl, wh, ty, dims⟩ = (m.globals.length : Int)) := Lib.hid rfl
    go_enter Tryz.func130, Tryz.ntmps130
    go_wp2
    go_ret
    exact ⟨retI HV.out.symm, HX.out.bx.bel⟩
  by_cases e1 : sc = 1
  · subst e1
    have hp := h1 rfl
    obtain ⟨g, off, ho, hg, he⟩ := HX.out.md.procs.cell hp
    obtain ⟨o3, q3, f0, f1⟩ := he.frame
    rw [ho] at c4
    have hpi : (pr : Int) < m.procs.length := by omega
    have HV : Hid (roomL m pr ⟨1, sl, wh, ty, dims⟩ = (m.procs[pr].frame.length : Int)) := Lib.hid (by unfold roomL frameAt; simp [hp])
    have l3 := f1.1
    clear he ho hg f1
    go_enter Tryz.func130, Tryz.ntmps130
    go_wp2
    go_ret
    exact ⟨retI HV.out.symm, HX.out.bx.bel⟩
  · obtain rfl : sc = 2 := by omega
    obtain ⟨t0, t1⟩ := h2 rfl
    obtain ⟨k, rfl⟩ : ∃ k : Nat, ty = k := ⟨ty.toNat, by omega⟩
    have hk : k < m.procs.length := by omega
    obtain ⟨g, off, ho, hg, he⟩ := HX.out.md.procs.cell hk
    obtain ⟨o3, q3, f0, f1⟩ := he.frame
    rw [ho] at c4
    have HV : Hid (roomL m pr ⟨2, sl, wh, k, dims⟩ = (m.procs[k].frame.length : Int)) := Lib.hid (by unfold roomL frameAt; simp [hk])
    have l3 := f1.1
    clear he ho hg f1 e0 e1
    go_enter Tryz.func130, Tryz.ntmps130
    go_wp2
    go_ret
    exact ⟨retI HV.out.symm, HX.out.bx.bel⟩
end Go.Proofs.YtihkkjflfdbkkaaGreatDoor
/- Layer 17's example: the steps of a state with no processes: the small walks. -/
namespace Go.Proofs.YtihkkjflfdbkkaaGreatDoor
open Go.ChangeShapes Go.WideShapes Go.ChangeAt Go.RowKit
set_option linter.unusedVariables false
set_option linter.unusedSimpArgs false

set_option maxRecDepth 100000 in
set_option maxHeartbeats 2000000 in
theorem anyC (b : Nat) (w : World) (h16 : w.cell? ⟨b, 16, none⟩ = some (.slice none 0 0)) : Calls Tryz.prog 101 #[.pointer (some ⟨b, 0, none⟩)] w fun e w' => e = .returned (.bool false) ∧ Below w.heap.size w w' := by
  go_enter Tryz.func101, Tryz.ntmps101
  go_wp2_with fail
  go_loopw [10] (fun iv W => iv = .int .i64 0 ∧ w = W) (fun _ _ => 0)
  case atStart => exact ⟨rfl, rfl⟩
  case round =>
    obtain ⟨rfl, rfl⟩ := hrel
    go_wp2_with fail
    go_ret
    exact ⟨rfl, Below.refl _ _⟩

set_option maxRecDepth 100000 in
set_option maxHeartbeats 2000000 in
theorem stillC (c : Int) (w : World) : Calls Tryz.prog 31 #[.int .i64 c] w fun e w' => e = .returned (.agg #[.int .i64 (-1), .int .i64 (-1), .int .i64 (-1), .int .i64 (-1), .int .i64 (-1), .int .i64 (-1), .int .i64 c]) ∧ Below w.heap.size w w' := by
  go_enter Tryz.func31, Tryz.ntmps31
  go_wp2_with fail
  have hn := heap_alloc_new w (.cells #[.int .i64 (-1), .int .i64 (-1), .int .i64 (-1), .int .i64 (-1), .int .i64 (-1), .int .i64 (-1), .int .i64 c] 61)
  have hb := ball (w := w) (.cells #[.int .i64 (-1), .int .i64 (-1), .int .i64 (-1), .int .i64 (-1), .int .i64 (-1), .int .i64 (-1), .int .i64 c] 61)
  generalize w.alloc (.cells #[.int .i64 (-1), .int .i64 (-1), .int .i64 (-1), .int .i64 (-1), .int .i64 (-1), .int .i64 (-1), .int .i64 c] 61) = W at hn hb ⊢
  have q : ∀ (i : Nat) (v : Value), (#[.int .i64 (-1), .int .i64 (-1), .int .i64 (-1), .int .i64 (-1), .int .i64 (-1), .int .i64 (-1), .int .i64 c] : Array Value)[i]? = some v → W.cell? ⟨w.heap.size, i, none⟩ = some v := fun i v hv => (cell_of_row _ _ _ _ _ _ hn).trans hv
  have q0 := q 0 _ rfl
  have q1 := q 1 _ rfl
  have q2 := q 2 _ rfl
  have q3 := q 3 _ rfl
  have q4 := q 4 _ rfl
  have q5 := q 5 _ rfl
  have q6 := q 6 _ rfl
  have t : ∀ i, W.frozen? ⟨w.heap.size, i, none⟩ = false := fun i => frozen_of_row _ _ _ _ _ hn
  refine bodyPost_ret (v := .agg #[.int .i64 (-1), .int .i64 (-1), .int .i64 (-1), .int .i64 (-1), .int .i64 (-1), .int .i64 (-1), .int .i64 c]) (by simp [results, Tryz.results31, go_sem, q0, q1, q2, q3, q4, q5, q6, t]) rfl ?_
  exact ⟨rfl, hb⟩

/-- The world of a state with no processes: its 17 cells. -/
def wCells (a0 a1 a2 a3 a4 a5 a6 a7 a8 a9 a10 a11 a12 a13 a14 a15 a16 : Value) : Array Value := #[a0, a1, a2, a3, a4, a5, a6, a7, a8, a9, a10, a11, a12, a13, a14, a15, a16]
set_option maxRecDepth 100000 in
set_option maxHeartbeats 2000000 in
theorem findC {B b : Nat} {cs : Array Value} {po : Option Addr} {pc : Nat} (hB : B ≤ b) (w : World) (hblk : w.heap[b]? = some (.cells cs 189 (0, 0))) (h9 : cs[9]? = some (.slice po 0 pc)) (h16 : cs[16]? = some (.slice none 0 0)) :
    Calls Tryz.prog 100 #[.pointer (some ⟨b, 0, none⟩)] w fun e w' => e = .returned (.int .i64 0) ∧ w'.heap[b]? = some (.cells cs 189 (0, 0)) ∧ Below B w w' := by
  have c9 : w.cell? ⟨b, 9, none⟩ = some (.slice po 0 pc) := (cell_of_row _ _ _ _ _ _ hblk).trans h9
  have c16 : w.cell? ⟨b, 16, none⟩ = some (.slice none 0 0) := (cell_of_row _ _ _ _ _ _ hblk).trans h16
  have f16 : w.frozen? ⟨b, 16, none⟩ = false := frozen_of_row _ _ _ _ _ hblk
  have hset : cs.setIfInBounds 16 (.slice none 0 0) = cs := by
    apply Array.ext_getElem?
    intro i
    rw [Array.getElem?_setIfInBounds]
    split
    · rename_i e
      subst e
      rw [h16]
      rw [if_pos (Array.getElem?_eq_some_iff.1 h16).1]
    · rfl
  have hS := heap_setCell_same w b 16 _ _ (.slice none 0 0) hblk
  have HB1 : Hid (Below B w (w.setCell ⟨b, 16, none⟩ (.slice none 0 0))) := Lib.hid ((Below.refl _ _).setCell (by exact hB) _)
  have k9 : (w.setCell ⟨b, 16, none⟩ (.slice none 0 0)).cell? ⟨b, 9, none⟩ = some (.slice po 0 pc) := by
    refine (cell_of_row _ _ _ _ _ _ hS).trans ?_
    rw [hset]
    exact h9
  go_enter Tryz.func100, Tryz.ntmps100
  go_upto_region 2 with fail
  generalize w.setCell ⟨b, 16, none⟩ (.slice none 0 0) = W1 at hS HB1 k9 ⊢
  go_wp2_with fail
  go_loopw [17] (fun iv W => iv = .int .i64 0 ∧ W1 = W) (fun _ _ => 0)
  case atStart => exact ⟨rfl, rfl⟩
  case round =>
    obtain ⟨rfl, rfl⟩ := hrel
    go_wp2_with fail
    go_ret
    refine ⟨rfl, ?_, HB1.out⟩
    rw [hS]
    rw [hset]

set_option maxRecDepth 100000 in
set_option maxHeartbeats 2000000 in
/-- The iterator, where no process has ways: no round. -/
theorem allStops (F : Fence) (n : Nat) (hF : F.fn 102) (hro : F.round = none) (hn : 1 ≤ n) (g b : Nat) (w : World) (hgl : g < w.heap.size) (hbl : b < w.heap.size) (hg : w.cell? ⟨g, 0, none⟩ = some (.pointer (some ⟨b, 0, none⟩))) (h16 : w.cell? ⟨b, 16, none⟩ = some (.slice none 0 0)) :
    SeqStopsK F n Tryz.prog 102 #[.pointer (some ⟨g, 0, none⟩)] (fun (x : Empty) => nomatch x) (Below w.heap.size) (fun xs => xs = []) (fun _ => False) 0 w := fun l J Jx W hB hJ hJx hY h0 => by
  have g1 := (hB.cell (p := ⟨g, 0, none⟩) hgl).trans hg
  have b1 := (hB.cell (p := ⟨b, 16, none⟩) hbl).trans h16
  refine callsIn_of_wp Tryz.func102 rfl hF ?_ hro
  simp only [Tryz.ntmps102, List.size_toArray, List.length_cons, List.length_nil, Nat.reduceAdd, Nat.reduceSub, Array.replicate_succ, Array.replicate_zero, List.push_toArray, List.append_toArray, List.nil_append, List.cons_append]
  gi_wp2
  gi_loopw [12] (fun p wr => p = .int .i64 0 ∧ W = wr) (fun p wr => 0)
  case atStart => exact ⟨rfl, rfl⟩
  case round =>
    obtain ⟨rfl, rfl⟩ := hrel
    gi_wp2
    go_end0
    exact ⟨⟨_, rfl⟩, .inl ⟨[], rfl, h0⟩⟩
end Go.Proofs.YtihkkjflfdbkkaaGreatDoor
/- A state as data, and how it lies in memory; which states may be. -/
namespace Go.Proofs.YtihkkjflfdbkkaaGreatDoor
open Go.ChangeShapes Go.WideShapes Go.ChangeAt Go.RowKit

structure ChanD where
  shape : Int
  queue : List (List Int)
structure ProcessD where
  type : Int
  loc : Int
  prio : Int
  frame : List Int
structure StateD where
  globals : List Int
  chans : List ChanD
  procs : List ProcessD
  last : Int
  alone : Int
  claim : Int
def msgAt (B : Nat) (w : World) (g a : Nat) (l : List Int) : Prop := Sli B w g a 1 (intAt w) l
structure chanAt (B : Nat) (w : World) (g a : Nat) (c : ChanD) : Prop where
  c0 : w.cell? ⟨g, a, none⟩ = some (.int .i64 c.shape)
  queue : Sli B w g (a + 1) 1 (msgAt B w) c.queue
structure processAt (B : Nat) (w : World) (g a : Nat) (p : ProcessD) : Prop where
  c0 : w.cell? ⟨g, a, none⟩ = some (.int .i64 p.type)
  c1 : w.cell? ⟨g, a + 1, none⟩ = some (.int .i64 p.loc)
  c2 : w.cell? ⟨g, a + 2, none⟩ = some (.int .i64 p.prio)
  frame : Sli B w g (a + 3) 1 (intAt w) p.frame
section
variable {B : Nat} {w w' : World} (hb : Below B w w')
include hb
theorem msgAt.below {g a : Nat} {x : List Int} (hg : g < B) (h : msgAt B w g a x) : msgAt B w' g a x := Sli.below hb hg h fun _ _ _ hg => intAt.below hb hg
theorem chanAt.below {g a : Nat} {x : ChanD} (hg : g < B) (h : chanAt B w g a x) : chanAt B w' g a x := ⟨(hb.cell hg).trans h.c0, h.queue.below hb hg fun _ _ _ hg => msgAt.below hb hg⟩
theorem processAt.below {g a : Nat} {x : ProcessD} (hg : g < B) (h : processAt B w g a x) : processAt B w' g a x := ⟨(hb.cell hg).trans h.c0, (hb.cell hg).trans h.c1, (hb.cell hg).trans h.c2, h.frame.below hb hg fun _ _ _ hg => intAt.below hb hg⟩
end
/-- The heads of a state's slices. -/
structure SH where
  go : Option Addr
  gc : Nat
  co : Option Addr
  cc : Nat
  po : Option Addr
  pc : Nat
structure SD (B : Nat) (w : World) (h : SH) (s : StateD) : Prop where
  globals : Row B h.go 1 (intAt w) s.globals
  chans : Row B h.co 2 (chanAt B w) s.chans
  procs : Row B h.po 4 (processAt B w) s.procs
theorem SD.below {B : Nat} {w w' : World} {h : SH} {s : StateD} (hm : SD B w h s) (hb : Below B w w') : SD B w' h s :=
  ⟨hm.globals.mono fun _ _ _ hg => intAt.below hb hg, hm.chans.mono fun _ _ _ hg => chanAt.below hb hg, hm.procs.mono fun _ _ _ hg => processAt.below hb hg⟩
section
variable {B B' : Nat} {w : World} (hB : B ≤ B')
include hB
theorem Row.lift' {α : Type} {o : Option Addr} {k : Nat} {R R' : Nat → Nat → α → Prop} {l : List α} (h : Row B o k R l) (hR : ∀ g a x, g < B → R g a x → R' g a x) : Row B' o k R' l := (h.mono hR).up hB
theorem Sli.lift' {α : Type} {g a k : Nat} {R R' : Nat → Nat → α → Prop} {l : List α} (h : Sli B w g a k R l) (hR : ∀ g a x, g < B → R g a x → R' g a x) : Sli B' w g a k R' l := by
  obtain ⟨o, c, h1, h2⟩ := h
  exact ⟨o, c, h1, h2.lift' hB hR⟩
theorem msgAt.lift {g a : Nat} {x : List Int} (h : msgAt B w g a x) : msgAt B' w g a x := Sli.lift' hB h fun _ _ _ _ h => h
theorem chanAt.lift {g a : Nat} {x : ChanD} (h : chanAt B w g a x) : chanAt B' w g a x := ⟨h.c0, h.queue.lift' hB fun _ _ _ _ h => h.lift hB⟩
theorem processAt.lift {g a : Nat} {x : ProcessD} (h : processAt B w g a x) : processAt B' w g a x := ⟨h.c0, h.c1, h.c2, h.frame.lift' hB fun _ _ _ _ h => h⟩
theorem SD.lift {h : SH} {s : StateD} (hm : SD B w h s) : SD B' w h s := ⟨hm.globals.lift' hB fun _ _ _ _ h => h, hm.chans.lift' hB fun _ _ _ _ h => h.lift hB, hm.procs.lift' hB fun _ _ _ _ h => h.lift hB⟩
end
/-- A state's cells. -/
def sCells (h : SH) (s : StateD) : Array Value := #[.slice h.go s.globals.length h.gc, .slice h.co s.chans.length h.cc, .slice h.po s.procs.length h.pc, .int .i64 s.last, .int .i64 s.alone, .int .i64 s.claim]
def sV (h : SH) (s : StateD) : Value := .agg (sCells h s)
/-- A state in a block of the call's own. -/
structure Sk (B : Nat) (w : World) (p o : Nat) (h : SH) (s : StateD) : Prop where
  c0 : w.cell? ⟨p, o, none⟩ = some (.slice h.go s.globals.length h.gc)
  c1 : w.cell? ⟨p, o + 1, none⟩ = some (.slice h.co s.chans.length h.cc)
  c2 : w.cell? ⟨p, o + 2, none⟩ = some (.slice h.po s.procs.length h.pc)
  c3 : w.cell? ⟨p, o + 3, none⟩ = some (.int .i64 s.last)
  c4 : w.cell? ⟨p, o + 4, none⟩ = some (.int .i64 s.alone)
  c5 : w.cell? ⟨p, o + 5, none⟩ = some (.int .i64 s.claim)
  le : B ≤ w.heap.size
  lt : p < w.heap.size
  sd : SD B w h s
theorem Sk.below {B p o : Nat} {w w' : World} {h : SH} {s : StateD} (hk : Sk B w p o h s) (hb : Below w.heap.size w w') : Sk B w' p o h s :=
  ⟨(hb.cell hk.lt).trans hk.c0, (hb.cell hk.lt).trans hk.c1, (hb.cell hk.lt).trans hk.c2, (hb.cell hk.lt).trans hk.c3, (hb.cell hk.lt).trans hk.c4, (hb.cell hk.lt).trans hk.c5, Nat.le_trans hk.le hb.size, Nat.lt_of_lt_of_le hk.lt hb.size, hk.sd.below (hb.mono (hk.le))⟩

/-- Is there a number for each type, and one of it? -/
def fitsL (t : List (Int × Bool)) (l : List Int) : Bool := decide (l.length = t.length) && (t.zip l).all fitZ
def shapeAtD (m : ModelD) (n : Int) : Option ShapeD := m.shapes[n.toNat]?
def chanHeadB (m : ModelD) (c : ChanD) : Bool := decide (0 ≤ c.shape ∧ c.shape < m.shapes.length)
def chanFB (m : ModelD) (c : ChanD) : Bool := match m.shapes[c.shape.toNat]? with
  | some s => decide ((c.queue.length : Int) ≤ s.room) && c.queue.all (fitsL s.fields)
  | none => false
def chanMayB (m : ModelD) (c : ChanD) : Bool := chanHeadB m c && chanFB m c
def procHeadB (m : ModelD) (p : ProcessD) : Bool := decide (0 ≤ p.type ∧ p.type < m.procs.length ∧ p.type ≠ m.claim)
def procFB (m : ModelD) (p : ProcessD) : Bool := match m.procs[p.type.toNat]? with
  | some t => decide (0 ≤ p.loc ∧ p.loc < t.locs.length ∧ p.prio = t.prio) && fitsL t.frame p.frame
  | none => false
def procMayB (m : ModelD) (p : ProcessD) : Bool := procHeadB m p && procFB m p
def claimLocs (m : ModelD) : Nat := (m.procs[m.claim.toNat]?.map (·.locs.length)).getD 0
def mayHeadB (m : ModelD) (s : StateD) : Bool := fitsL m.globals s.globals && decide (s.chans.length ≤ 32 ∧ s.procs.length ≤ 16)
def mayTailB (m : ModelD) (s : StateD) : Bool := decide (0 ≤ s.last ∧ s.last < 16 ∧ -1 ≤ s.alone ∧ s.alone < s.procs.length) && (if m.claim < 0 then decide (s.claim = -1) else decide (0 ≤ s.claim ∧ s.claim < claimLocs m))
def mayB (m : ModelD) (s : StateD) : Bool := mayHeadB m s && s.chans.all (chanMayB m) && s.procs.all (procMayB m) && mayTailB m s
def goodB (m : ModelD) : Bool := decide ((checkL m).1 = 0)
def stateE (m : ModelD) (s : StateD) : Int := if goodB m = true then (if mayB m s = true then 0 else 41) else 40
end Go.Proofs.YtihkkjflfdbkkaaGreatDoor
