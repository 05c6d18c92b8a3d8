/- A condition that does not hold is opened; its else; its end. -/
import Derived.Test.YtojneaffoekpnaaHold
import Derived.StillTailTactics
import Derived.Deep.RegionLawGrows
namespace Go.Proofs.Ytojneaffoekpnaa
open Go.ChangeShapes Go.WideShapes Go.ChangeAt Go.RowKit
set_option linter.unusedVariables false
set_option linter.unusedSimpArgs false

def condZ : Value := .agg #[.bool false, .bool false, .bool false]
theorem info54 : (Try.prog.info? 54).map (fun i => (i.zero, i.size, i.bytes)) = some (some condZ, 3, 3) := by kernel_rfl
def ifB : ByteArray := ⟨#[105, 102]⟩

/-- A condition is open. -/
structure Cond (w : World) (mq b og oc : Nat) (keeps other : Bool) : Prop where
  m : w.heap[mq]? = some (.cells #[.pointer (some ⟨b, 0, none⟩), .slice (some ⟨og, 0, none⟩) 1 oc] 41 (0, 0))
  row : ∃ cs, w.heap[og]? = some (.cells cs 54 (0, 0)) ∧ cs[0]? = some (.bool keeps) ∧ cs[1]? = some (.bool true) ∧ cs[2]? = some (.bool other)
  ne : og ≠ mq
  cap : 1 ≤ oc
theorem Cond.below {w w' : World} {mq b og oc : Nat} {x y : Bool} (h : Cond w mq b og oc x y) (hb : Below w.heap.size w w') : Cond w' mq b og oc x y := by
  obtain ⟨cs, h1, h2⟩ := h.row
  exact ⟨(hb.block _ (lt_of_block h.m)).trans h.m, ⟨cs, (hb.block _ (lt_of_block h1)).trans h1, h2⟩, h.ne, h.cap⟩
theorem Cond.cells {w : World} {mq b og oc : Nat} {x y : Bool} (h : Cond w mq b og oc x y) : w.cell? ⟨mq, 0, none⟩ = some (.pointer (some ⟨b, 0, none⟩)) ∧ w.cell? ⟨mq, 1, none⟩ = some (.slice (some ⟨og, 0, none⟩) 1 oc) ∧ w.cell? ⟨og, 0, none⟩ = some (.bool x) ∧ w.cell? ⟨og, 1, none⟩ = some (.bool true) ∧ w.cell? ⟨og, 2, none⟩ = some (.bool y) ∧ (∀ i, w.frozen? ⟨og, i, none⟩ = false) ∧ (∀ i, w.frozen? ⟨mq, i, none⟩ = false) := by
  obtain ⟨cs, h1, h2, h3, h4⟩ := h.row
  exact ⟨(cell_of_row _ _ _ _ _ _ h.m).trans rfl, (cell_of_row _ _ _ _ _ _ h.m).trans rfl, (cell_of_row _ _ _ _ _ _ h1).trans h2, (cell_of_row _ _ _ _ _ _ h1).trans h3, (cell_of_row _ _ _ _ _ _ h1).trans h4, fun i => frozen_of_row _ _ _ _ _ h1, fun i => frozen_of_row _ _ _ _ _ h.m⟩

theorem new_cells3 (w : World) (x y z : Value) : ∀ (j : Nat) (u : Value), [x, y, z][j]? = some u → (w.alloc (.cells #[x, y, z] 54)).cell? ((⟨w.heap.size, 0, none⟩ : Addr).add j) = some u := by
  intro j u h
  have hx := heap_alloc_new w (.cells #[x, y, z] 54)
  match j, h with
  | 0, h => exact (cell_of_row _ _ _ _ _ _ hx).trans h
  | 1, h => exact (cell_of_row _ _ _ _ _ _ hx).trans h
  | 2, h => exact (cell_of_row _ _ _ _ _ _ hx).trans h

theorem one3 : ∀ u ∈ [Value.bool false, Value.bool true, Value.bool false], u.oneCell' = true := by
  intro u hu
  simp only [List.mem_cons, List.not_mem_nil, or_false] at hu
  rcases hu with rfl | rfl | rfl <;> rfl

theorem open_put {w W w3 : World} {mq b : Nat} {v2 : Value} {o : Obj} (hb : Below w.heap.size w W) (hmq : mq < w.heap.size)
    (hmW : W.heap[mq]? = some (.cells #[.pointer (some ⟨b, 0, none⟩), .slice none 0 0] 41 (0, 0)))
    (hown : w3.ownsRow (W.alloc o).heap.size 54 3 v2 (0 + 1) ([] ++ [.bool false, .bool true, .bool false])) (hg : (W.alloc o).grownBy w3 none) :
    ∃ og oc, v2 = .slice (some ⟨og, 0, none⟩) 1 oc ∧ w3.frozen? ⟨mq, 1, none⟩ = false ∧ w3.cell? ⟨mq, 1, none⟩ = some (.slice none 0 0) ∧ w.heap.size ≤ og ∧ w.grownBy (w3.setCell ⟨mq, 1, none⟩ (.slice (some ⟨og, 0, none⟩) 1 oc)) (some mq) ∧
      Cond (w3.setCell ⟨mq, 1, none⟩ (.slice (some ⟨og, 0, none⟩) 1 oc)) mq b og oc false false := by
  have hsz : (W.alloc o).heap.size = W.heap.size + 1 := World.size_alloc _ _
  have hWw := hb.size
  rcases hown.2 with ⟨_, h⟩ | ⟨g, cap, cur, rfl, hge, hgg, hn, hm, hs, ht⟩
  · cases h
  have hm3 : w3.heap[mq]? = some (.cells #[.pointer (some ⟨b, 0, none⟩), .slice none 0 0] 41 (0, 0)) := (hg.block mq (by omega) (by simp)).trans ((heap_alloc_old W o (by omega : mq < W.heap.size)).trans hmW)
  refine ⟨g, cap, rfl, frozen_of_row _ _ _ _ _ hm3, (cell_of_row _ _ _ _ _ _ hm3).trans rfl, by omega, ⟨?_, ?_, ?_, ?_, ?_⟩, ⟨?_, ⟨cur, ?_, ?_, ?_, ?_⟩, by omega, by omega⟩⟩
  · exact (hg.os.trans (by exact hb.os))
  · exact (hg.tape.trans (by exact hb.tape))
  · exact (hg.output.trans (by exact hb.output))
  · simp only [World.setCell, Array.size_modify]
    exact Nat.le_trans (by omega) hg.size
  · intro k hk hne
    rw [heap_setCell_other _ _ _ _ (by intro e; apply hne; rw [e])]
    exact (hg.block k (by omega) (by simp)).trans ((heap_alloc_old W o (by omega : k < W.heap.size)).trans (hb.block k hk))
  · rw [heap_setCell_same _ _ _ _ _ _ hm3]
    rfl
  · rw [heap_setCell_other _ _ _ _ (by show g ≠ mq; omega)]
    exact hgg
  · have h0 : (cur.toList.take ((0 + 1) * 3))[0]? = some (.bool false) := by rw [ht]; rfl
    rw [List.getElem?_take_of_lt (by omega)] at h0
    simpa using h0
  · have h0 : (cur.toList.take ((0 + 1) * 3))[1]? = some (.bool true) := by rw [ht]; rfl
    rw [List.getElem?_take_of_lt (by omega)] at h0
    simpa using h0
  · have h0 : (cur.toList.take ((0 + 1) * 3))[2]? = some (.bool false) := by rw [ht]; rfl
    rw [List.getElem?_take_of_lt (by omega)] at h0
    simpa using h0

set_option maxRecDepth 100000 in
set_option maxHeartbeats 1600000 in
theorem opens_any (mq b r : Nat) (n : Int) (tv : Value) (p : Int) (g off cap : Nat) (t : TK) (w : World) (hm : w.heap[mq]? = some (.cells #[.pointer (some ⟨b, 0, none⟩), .slice none 0 0] 41 (0, 0))) (hu : Usr w b r false n tv none) (ht : TkAt w g off t) (hk : t.kind = 2) (hz : t.num = 0) :
    Calls Try.prog 21 #[.pointer (some ⟨mq, 0, none⟩), .string ⟨#[105, 102]⟩, .int .i64 p, .slice (some ⟨g, off, none⟩) 1 cap] w fun e w' => e = .returned (.tuple #[]) ∧ w.grownBy w' (some mq) ∧ ∃ og oc, w.heap.size ≤ og ∧ Cond w' mq b og oc false false := by
  obtain ⟨i54, hi, hz0, hsz, hby⟩ := info_parts info54
  have HI := Lib.hid (And.intro hi (And.intro hz0 (And.intro hsz hby)))
  clear hi hz0 hsz hby
  have HM := Lib.hid hm
  have HU := Lib.hid hu
  have HT := Lib.hid ht
  have HH := Lib.hid fun w' (hb : Below w.heap.size w w') => holds_any mq b r n tv p g off cap t w' ((cell_of_row _ _ _ _ _ _ ((hb.block _ (lt_of_block hm)).trans hm)).trans rfl) (hu.below hb) (tk_below ht (hb.mono (World.block_lt_of_cell? _ _ ht.1))) hk hz
  have HKP := Lib.hid (keeps_nil mq w ((cell_of_row _ _ _ _ _ _ hm).trans rfl))
  have hmq := lt_of_block hm
  clear hm hu ht hk hz
  go_enter Try.func21, Try.ntmps21
  go_wp2_with fail
  refine HKP.out.mono ?_
  rintro e w0 ⟨rfl, k, rfl⟩
  have HB0 : Hid (Below w.heap.size w (w.drewN k)) := Lib.hid (bdrew (Below.refl _ _) k)
  generalize w.drewN k = w1 at HB0 ⊢
  have HB1 : Hid (Below w.heap.size w (w1.alloc (.cells #[.bool false, .bool true, .bool false] 54))) := Lib.hid (HB0.out.alloc HB0.out.size _)
  have HX1 : Hid ((w1.alloc (.cells #[.bool false, .bool true, .bool false] 54)).heap[w1.heap.size]? = some (.cells #[.bool false, .bool true, .bool false] 54 (0, 0))) := Lib.hid (heap_alloc_new w1 _)
  have hs1 : w.heap.size ≤ w1.heap.size := HB0.out.size
  go_wp2_with fail
  refine (HH.out _ HB1.out).mono ?_
  rintro e w2 ⟨rfl, hb2⟩
  have HB2 := Lib.hid (HB1.out.trans (hb2.mono HB1.out.size))
  have HX2 := Lib.hid ((hb2.block _ (lt_of_block HX1.out)).trans HX1.out)
  clear hb2 HX1 HB1
  have x0 : w2.cell? ⟨w1.heap.size, 0, none⟩ = some (.bool false) := (cell_of_row _ _ _ _ _ _ HX2.out).trans rfl
  have x1 : w2.cell? ⟨w1.heap.size, 1, none⟩ = some (.bool true) := (cell_of_row _ _ _ _ _ _ HX2.out).trans rfl
  have x2 : w2.cell? ⟨w1.heap.size, 2, none⟩ = some (.bool false) := (cell_of_row _ _ _ _ _ _ HX2.out).trans rfl
  have xf : w2.frozen? ⟨w1.heap.size, 0, none⟩ = false := frozen_of_row _ _ _ _ _ HX2.out
  obtain ⟨W, hW⟩ : ∃ W, w2.setCell ⟨w1.heap.size, 0, none⟩ (.bool false) = W := ⟨_, rfl⟩
  have hsW : W.heap.size = w2.heap.size := by rw [← hW]; simp [World.setCell]
  have HXW : Hid (W.heap[w1.heap.size]? = some (.cells #[.bool false, .bool true, .bool false] 54 (0, 0))) := Lib.hid (by rw [← hW, heap_setCell_same _ _ _ _ _ _ HX2.out]; rfl)
  have HBW : Hid (Below w.heap.size w W) := Lib.hid (by rw [← hW]; exact HB2.out.setCell (p := ⟨w1.heap.size, 0, none⟩) hs1 _)
  have HW := Lib.hid hW
  clear hW
  have hmW := (HBW.out.block _ hmq).trans HM.out
  have m0 : W.cell? ⟨mq, 1, none⟩ = some (.slice none 0 0) := (cell_of_row _ _ _ _ _ _ hmW).trans rfl
  have mf : W.frozen? ⟨mq, 1, none⟩ = false := frozen_of_row _ _ _ _ _ hmW
  have y0 : W.cell? ⟨w1.heap.size, 0, none⟩ = some (.bool false) := (cell_of_row _ _ _ _ _ _ HXW.out).trans rfl
  have y1 : W.cell? ⟨w1.heap.size, 1, none⟩ = some (.bool true) := (cell_of_row _ _ _ _ _ _ HXW.out).trans rfl
  have y2 : W.cell? ⟨w1.heap.size, 2, none⟩ = some (.bool false) := (cell_of_row _ _ _ _ _ _ HXW.out).trans rfl
  have M0 := Lib.hid m0
  have Y0 := Lib.hid (And.intro y0 (And.intro y1 y2))
  have hx1 : w1.heap.size < W.heap.size := lt_of_block HXW.out
  have hmqW : mq < W.heap.size := lt_of_block hmW
  have HMW := Lib.hid hmW
  have n1 : mq ≠ w1.heap.size := by omega
  have n2 : mq ≠ W.heap.size := by omega
  have n3 : w1.heap.size ≠ W.heap.size := by omega
  clear m0 y0 y1 y2 hmW hsW
  have v0 : w2.cell? ⟨mq, 1, none⟩ = some (.slice none 0 0) := (cell_of_row _ _ _ _ _ _ ((HB2.out.block _ hmq).trans HM.out)).trans rfl
  go_wp2_with fail
  clear x0 x1 x2 xf v0
  rw [HW.out]
  have m0 := M0.out
  have y0 := Y0.out.1
  have y1 := Y0.out.2.1
  have y2 := Y0.out.2.2
  go_region_law
    (refine step_append_grows rfl (.tmp 58) (.tmp 60) 39 rfl 54 i54 condZ 3 3 Try.underlying39 HI.out.1 HI.out.2.1 HI.out.2.2.1 HI.out.2.2.2 rfl (by decide) none 0 0 [] (by simp [Act.eval, Act.put]) (fun _ => ⟨rfl, rfl⟩) rfl (fun b h => by cases h) ⟨W.heap.size, 0, none⟩ 1 1 [.bool false, .bool true, .bool false] (by simp [Act.eval, Act.put]) rfl (fun j u hu => new_cells3 W.drew _ _ _ j u hu) one3 (by decide) (by decide) (by decide) ?_
     intro v2 w3 hown2 hgrow2
     have h5 := open_put (o := .cells #[.bool false, .bool true, .bool false] 54) HBW.out hmq HMW.out hown2 ⟨hgrow2.os, hgrow2.tape, hgrow2.output, hgrow2.size, hgrow2.block⟩
     obtain ⟨og, oc, rfl, z1, z2, z3, z4, z5⟩ := h5
     have Z := Lib.hid (And.intro z3 (And.intro z4 z5))
     clear z3 z4 z5 hown2 hgrow2)
  all_goals (
    go_wp2_with fail
    first | go_end0 | skip
    exact ⟨rfl, Z.out.2.1, _, _, Z.out.1, Z.out.2.2⟩)
end Go.Proofs.Ytojneaffoekpnaa
