/- All that an expression has, as the document lists it. -/
import Derived.Test.YtbhgdlfndamklaaGreatDoorM28
import Derived.Laws.AppendOwn
namespace Go.Proofs.YtbhgdlfndamklaaGreatDoor
open Go.ChangeShapes Go.WideShapes Go.ChangeAt Go.RowKit
set_option linter.unusedVariables false
set_option linter.unusedSimpArgs false

namespace held
theorem info_parts {t : TypeId} {z : Value} {a b : Nat} (h : (Tryz.prog.info? t).map (fun i => (i.zero, i.size, i.bytes)) = some (some z, a, b)) : ∃ i, Tryz.prog.info? t = some i ∧ i.zero = some z ∧ i.size = a ∧ i.bytes = b := by
  cases hi : Tryz.prog.info? t with
  | none => rw [hi] at h; cases h
  | some i =>
    rw [hi] at h
    simp only [Option.map_some, Option.some.injEq, Prod.mk.injEq] at h
    exact ⟨i, rfl, h.1, h.2.1, h.2.2⟩
theorem info_int : (Tryz.prog.info? 3).map (fun i => (i.zero, i.size, i.bytes)) = some (some (.int .i64 0), 1, 8) := by kernel_rfl
end held
/-- append of nothing. -/
theorem run_append_zero {P : Program} (w : World) (base : Nat) (t ty e : TypeId) (i : TypeInfo) (size : Nat) (ht : P.underlying t = some (.slice e)) (hi : P.info? e = some i)
    (v : Value) (n : Nat) (xs : List Value) (hown : w.ownsRow base e size v n xs) (o : Option Addr) (c : Nat) :
    (Builtin.append_ #[t, t] ty #[v, .slice o 0 c]).run P w = .ok v w := by
  have key : (Builtin.firstCells i.size 0 (.slice o 0 c)).run P w = .ok #[] w := by
    cases o <;> simp [Builtin.firstCells, loadCells, loadCellsFrom]
  rcases hown.2 with ⟨rfl, rfl⟩ | ⟨g, cap, cur, rfl, _, _, hnc, _⟩
  · simp [Builtin.append_, run_underlying ht, sizeOf, typeInfo, hi, Builtin.lenOf, key]
  · simp [Builtin.append_, run_underlying ht, sizeOf, typeInfo, hi, Builtin.lenOf, key, hnc, storeCells]
theorem wpList_append_zero {P : Program} {w : World} {ops : Array Oper} {rest : List Oper} {o : Oper} {a : Act} {Q : Exit → Act → World → Prop} (hgd : o.guard = none) (s x : Operand) (t : TypeId)
    (ho : o.op = .call { callee := .builtin .append, args := #[s, x], argTypes := #[t, t] })
    (base : Nat) (e : TypeId) (i : TypeInfo) (size : Nat) (ht : P.underlying t = some (.slice e)) (hi : P.info? e = some i)
    (v : Value) (n : Nat) (xs : List Value) (hs : a.eval s = v) (hown : w.ownsRow base e size v n xs) (ao : Option Addr) (c : Nat) (hx : a.eval x = .slice ao 0 c)
    (h : wpList P ops Q rest (a.put o.dst v) w) : wpList P ops Q (o :: rest) a w := by
  refine wpList_plain hgd fun K hK => ?_
  have hrun := run_append_zero (P := P) w base t o.type e i size ht hi v n xs hown ao c
  unfold Oper.wp
  simp [execOp, ho, resolve, invoke, builtin, hs, hx, hrun, Result.andThen]
  exact hK _ _ h
theorem held.add_off (b off k : Nat) : (⟨b, off, none⟩ : Addr).add k = ⟨b, off + k, none⟩ := by
  unfold Addr.add
  split <;> simp_all
def iCells (l : List Int) : List Value := l.map fun x => Value.int .i64 x
theorem iCells_app (a b : List Int) : iCells (a ++ b) = iCells a ++ iCells b := by simp [iCells]
theorem iCells_one (l : List Int) : ∀ u ∈ iCells l, u.oneCell' = true := by
  intro u hu
  simp only [iCells, List.mem_map] at hu
  obtain ⟨z, -, rfl⟩ := hu
  rfl
theorem one_int (W : World) (x : Int) : ∀ j u', (iCells [x])[j]? = some u' → (W.alloc (.cells #[.int .i64 x] 3)).cell? ((⟨W.heap.size, 0, none⟩ : Addr).add j) = some u' := by
  intro j u' hj
  match j, hj with
  | 0, hj => simp [iCells] at hj; subst hj; exact (cell_of_row _ _ 0 _ _ _ (heap_alloc_new W _)).trans rfl
  | j + 1, hj => simp [iCells] at hj
/-- A row of numbers of one's own, and a box. -/
structure HJ (w0 : World) (XS : Array Value) (v : Value) (l : List Int) (W : World) : Prop where
  own : W.ownsRow (w0.heap.size + 1) 3 1 v l.length (iCells l)
  bx : Bq w0 w0.heap.size XS 73 W
section
variable {w0 W W1 : World} {XS : Array Value} {v v1 : Value} {l m : List Int} {o : Obj}
theorem HJ.base (h : HJ w0 XS v l W) : w0.heap.size + 1 ≤ W.heap.size := lt_of_block h.bx.box
theorem HJ.put (h : HJ w0 XS v l W) (hg : (W.alloc o).grownBy W1 v.ownBlock) (ho : W1.ownsRow (w0.heap.size + 1) 3 1 v1 (l.length + m.length) (iCells l ++ iCells m)) : HJ w0 XS v1 (l ++ m) W1 := by
  have hb := h.base
  refine ⟨by rw [List.length_append, iCells_app]; exact ho, ?_, ?_⟩
  · rw [hg.block w0.heap.size (by simp; omega) (fun e => by have := (h.own.lt _ e.symm).1; omega)]
    exact ((ball o).block _ hb).trans h.bx.box
  · exact (h.bx.bel.alloc h.bx.bel.size _).grown hg (by simp; omega) (fun k hk => by have := (h.own.lt k hk).1; omega)
theorem HJ.put0 (h : HJ w0 XS v l W) (hg : W.grownBy W1 v.ownBlock) (ho : W1.ownsRow (w0.heap.size + 1) 3 1 v1 (l.length + m.length) (iCells l ++ iCells m)) : HJ w0 XS v1 (l ++ m) W1 := by
  have hb := h.base
  refine ⟨by rw [List.length_append, iCells_app]; exact ho, ?_, ?_⟩
  · rw [hg.block w0.heap.size (by omega) (fun e => by have := (h.own.lt _ e.symm).1; omega)]
    exact h.bx.box
  · exact h.bx.bel.grown hg (by omega) (fun k hk => by have := (h.own.lt k hk).1; omega)
end
def HeldP (w : World) (p : List Int) (e : Ending) (w' : World) : Prop := ∃ o c, e = .returned (.slice o p.length c) ∧ (Row w'.heap.size o 1 (intAt w') p ∧ ∀ g off, o = some ⟨g, off, none⟩ → w.heap.size ≤ g) ∧ Below w.heap.size w w'
theorem HJ.done {w0 W : World} {XS : Array Value} {v : Value} {l p : List Int} (h : HJ w0 XS v l W) (hle : p.length ≤ 17592186044416) (he : l = p) : HeldP w0 p (.returned v) W := by
  subst he
  rcases h.own.2 with ⟨rfl, hl⟩ | ⟨g, cap, cur, rfl, hb, hg, hc, hm, hs, ht⟩
  · have : l = [] := List.eq_nil_of_length_eq_zero hl
    subst this
    exact ⟨none, 0, rfl, ⟨Row.nil _ _ _ _, fun g off h => by cases h⟩, h.bx.bel⟩
  · refine ⟨some ⟨g, 0, none⟩, cap, rfl, ⟨⟨by omega, .inr ⟨g, 0, rfl, lt_of_block hg, fun i hi => ?_⟩⟩, fun g' off' e => by injection e with e; injection e with e; omega⟩, h.bx.bel⟩
    have h2 := h.own.cells (g := g) rfl i (.int .i64 l[i]) (by simp [iCells, hi])
    rw [held.add_off] at h2
    unfold intAt
    rw [show 0 + i * 1 = 0 + i by omega]
    exact h2
set_option maxRecDepth 100000 in
set_option maxHeartbeats 2000000 in
theorem held_0 {B : Nat} (op : Int) (hop : 1 ≤ op ∧ op ≤ 39) (h2 : op ≠ 2) (h30 : op ≠ 30) (h39 : op ≠ 39) (hP : partsOf op = 0) (n a b c sc sl wh ty : Int) (dims : List DimD) (args mat : List Int) (vo ao mo : Option Addr) (vc ac mc : Nat) (w : World) (hB : B ≤ w.heap.size) (hd : Row B vo 3 (dimAt w) dims) (ha : Row B ao 1 (intAt w) args) (hs : (partsL ⟨op, n, a, b, c, ⟨sc, sl, wh, ty, dims⟩, args, mat⟩).length ≤ 17592186044416) :
    Calls Tryz.prog 94 #[.agg #[.int .i64 op, .int .i64 n, .int .i64 a, .int .i64 b, .int .i64 c, .int .i64 sc, .int .i64 sl, .int .i64 wh, .int .i64 ty, .slice vo dims.length vc, .slice ao args.length ac, .slice mo mat.length mc]] w (HeldP w (partsL ⟨op, n, a, b, c, ⟨sc, sl, wh, ty, dims⟩, args, mat⟩)) := by
  obtain ⟨i0, hi, hz0, hz1, hz2⟩ := held.info_parts held.info_int
  have HI := Lib.hid (And.intro hi (And.intro hz0 (And.intro hz1 hz2)))
  have HPL : Hid (partsL ⟨op, n, a, b, c, ⟨sc, sl, wh, ty, dims⟩, args, mat⟩ = []) := Lib.hid (by unfold partsL moreL abcL; simp [hP, h2, h30, h39])
  rw [HPL.out] at hs ⊢
  have HSL := Lib.hid hs
  have HJ0 : Hid (HJ w #[.int .i64 op, .int .i64 n, .int .i64 a, .int .i64 b, .int .i64 c, .int .i64 sc, .int .i64 sl, .int .i64 wh, .int .i64 ty, .slice vo dims.length vc, .slice ao args.length ac, .slice mo mat.length mc] (.slice none 0 0) [] (w.alloc (.cells #[.int .i64 op, .int .i64 n, .int .i64 a, .int .i64 b, .int .i64 c, .int .i64 sc, .int .i64 sl, .int .i64 wh, .int .i64 ty, .slice vo dims.length vc, .slice ao args.length ac, .slice mo mat.length mc] 73))) := Lib.hid ⟨World.ownsRow_nil _ _ _ _, Bq.new (Below.refl _ _) _ _⟩
  have HD := Lib.hid hd
  have HA := Lib.hid ha
  have HBB := Lib.hid hB
  have la := ha.1
  have ld := hd.1
  clear hi hz0 hz1 hz2 hd ha hB
  go_enter Tryz.func94, Tryz.ntmps94
  go_wp2_with fail
  refine (partsH _ (by omega) _).mono ?_
  rintro e w1 ⟨rfl, rfl⟩
  rw [show ((partsOf op : Nat) : Int) = 0 by rw [hP]; rfl]
  generalize w.alloc (.cells #[.int .i64 op, .int .i64 n, .int .i64 a, .int .i64 b, .int .i64 c, .int .i64 sc, .int .i64 sl, .int .i64 wh, .int .i64 ty, .slice vo dims.length vc, .slice ao args.length ac, .slice mo mat.length mc] 73) = W0 at HJ0 ⊢
  have b30 : (op == 30) = false := by simp [h30]
  have b39 : (op == 39) = false := by simp [h39]
  have b2 : (op == 2) = false := by simp [h2]
  clear h2 h30 h39 hP hop
  have f0 : W0.cell? ⟨w.heap.size, 0, none⟩ = some (.int .i64 op) := HJ0.out.bx.cell rfl
  have f2 : W0.cell? ⟨w.heap.size, 2, none⟩ = some (.int .i64 a) := HJ0.out.bx.cell rfl
  have f3 : W0.cell? ⟨w.heap.size, 3, none⟩ = some (.int .i64 b) := HJ0.out.bx.cell rfl
  have f4 : W0.cell? ⟨w.heap.size, 4, none⟩ = some (.int .i64 c) := HJ0.out.bx.cell rfl
  go_wp2_with fail
  go_ret
  exact HJ0.out.done HSL.out rfl
set_option maxRecDepth 100000 in
set_option maxHeartbeats 2000000 in
theorem held_1 {B : Nat} (op : Int) (hop : 1 ≤ op ∧ op ≤ 39) (h2 : op ≠ 2) (h30 : op ≠ 30) (h39 : op ≠ 39) (hP : partsOf op = 1) (n a b c sc sl wh ty : Int) (dims : List DimD) (args mat : List Int) (vo ao mo : Option Addr) (vc ac mc : Nat) (w : World) (hB : B ≤ w.heap.size) (hd : Row B vo 3 (dimAt w) dims) (ha : Row B ao 1 (intAt w) args) (hs : (partsL ⟨op, n, a, b, c, ⟨sc, sl, wh, ty, dims⟩, args, mat⟩).length ≤ 17592186044416) :
    Calls Tryz.prog 94 #[.agg #[.int .i64 op, .int .i64 n, .int .i64 a, .int .i64 b, .int .i64 c, .int .i64 sc, .int .i64 sl, .int .i64 wh, .int .i64 ty, .slice vo dims.length vc, .slice ao args.length ac, .slice mo mat.length mc]] w (HeldP w (partsL ⟨op, n, a, b, c, ⟨sc, sl, wh, ty, dims⟩, args, mat⟩)) := by
  obtain ⟨i0, hi, hz0, hz1, hz2⟩ := held.info_parts held.info_int
  have HI := Lib.hid (And.intro hi (And.intro hz0 (And.intro hz1 hz2)))
  have HPL : Hid (partsL ⟨op, n, a, b, c, ⟨sc, sl, wh, ty, dims⟩, args, mat⟩ = [a]) := Lib.hid (by unfold partsL moreL abcL; simp [hP, h2, h30, h39])
  rw [HPL.out] at hs ⊢
  have HSL := Lib.hid hs
  have HJ0 : Hid (HJ w #[.int .i64 op, .int .i64 n, .int .i64 a, .int .i64 b, .int .i64 c, .int .i64 sc, .int .i64 sl, .int .i64 wh, .int .i64 ty, .slice vo dims.length vc, .slice ao args.length ac, .slice mo mat.length mc] (.slice none 0 0) [] (w.alloc (.cells #[.int .i64 op, .int .i64 n, .int .i64 a, .int .i64 b, .int .i64 c, .int .i64 sc, .int .i64 sl, .int .i64 wh, .int .i64 ty, .slice vo dims.length vc, .slice ao args.length ac, .slice mo mat.length mc] 73))) := Lib.hid ⟨World.ownsRow_nil _ _ _ _, Bq.new (Below.refl _ _) _ _⟩
  have HD := Lib.hid hd
  have HA := Lib.hid ha
  have HBB := Lib.hid hB
  have la := ha.1
  have ld := hd.1
  clear hi hz0 hz1 hz2 hd ha hB
  go_enter Tryz.func94, Tryz.ntmps94
  go_wp2_with fail
  refine (partsH _ (by omega) _).mono ?_
  rintro e w1 ⟨rfl, rfl⟩
  rw [show ((partsOf op : Nat) : Int) = 1 by rw [hP]; rfl]
  generalize w.alloc (.cells #[.int .i64 op, .int .i64 n, .int .i64 a, .int .i64 b, .int .i64 c, .int .i64 sc, .int .i64 sl, .int .i64 wh, .int .i64 ty, .slice vo dims.length vc, .slice ao args.length ac, .slice mo mat.length mc] 73) = W0 at HJ0 ⊢
  have b30 : (op == 30) = false := by simp [h30]
  have b39 : (op == 39) = false := by simp [h39]
  have b2 : (op == 2) = false := by simp [h2]
  clear h2 h30 h39 hP hop
  have f0 : W0.cell? ⟨w.heap.size, 0, none⟩ = some (.int .i64 op) := HJ0.out.bx.cell rfl
  have f2 : W0.cell? ⟨w.heap.size, 2, none⟩ = some (.int .i64 a) := HJ0.out.bx.cell rfl
  have f3 : W0.cell? ⟨w.heap.size, 3, none⟩ = some (.int .i64 b) := HJ0.out.bx.cell rfl
  have f4 : W0.cell? ⟨w.heap.size, 4, none⟩ = some (.int .i64 c) := HJ0.out.bx.cell rfl
  go_wp2_with (at_builtin; refine wpList_append_own _ rfl _ _ 25 rfl (w.heap.size + 1) 3 i0 (.int .i64 0) 1 8 Tryz.underlying25 HI.out.1 HI.out.2.1 HI.out.2.2.1 HI.out.2.2.2 rfl (by decide) (.slice none 0 0) ([] : List Int).length (iCells []) rfl (HJ0.out.own.alloc _) ⟨W0.heap.size, 0, none⟩ 1 1 (iCells [a]) rfl rfl (one_int _ _) (iCells_one [a]) (by unfold maxLen; simp; try omega) (by simp; try omega) (by simp; have := HJ0.out.base; omega) ?_)
  intro v1 w1 hown hgrow _
  have HJ1 : Hid (HJ w #[.int .i64 op, .int .i64 n, .int .i64 a, .int .i64 b, .int .i64 c, .int .i64 sc, .int .i64 sl, .int .i64 wh, .int .i64 ty, .slice vo dims.length vc, .slice ao args.length ac, .slice mo mat.length mc] v1 ([] ++ [a]) w1) := Lib.hid (HJ0.out.put hgrow hown)
  clear hown hgrow
  clear f0 f2 f3 f4
  have f0 : w1.cell? ⟨w.heap.size, 0, none⟩ = some (.int .i64 op) := HJ1.out.bx.cell rfl
  have f2 : w1.cell? ⟨w.heap.size, 2, none⟩ = some (.int .i64 a) := HJ1.out.bx.cell rfl
  have f3 : w1.cell? ⟨w.heap.size, 3, none⟩ = some (.int .i64 b) := HJ1.out.bx.cell rfl
  have f4 : w1.cell? ⟨w.heap.size, 4, none⟩ = some (.int .i64 c) := HJ1.out.bx.cell rfl
  go_wp2_with fail
  go_ret
  exact HJ1.out.done HSL.out rfl
set_option maxRecDepth 100000 in
set_option maxHeartbeats 2000000 in
theorem held_2' {B : Nat} (op : Int) (hop : 1 ≤ op ∧ op ≤ 39) (h2 : op ≠ 2) (h30 : op ≠ 30) (h39 : op ≠ 39) (hP : partsOf op = 2) (n a b c sc sl wh ty : Int) (dims : List DimD) (args mat : List Int) (vo ao mo : Option Addr) (vc ac mc : Nat) (w : World) (hB : B ≤ w.heap.size) (hd : Row B vo 3 (dimAt w) dims) (ha : Row B ao 1 (intAt w) args) (hs : (partsL ⟨op, n, a, b, c, ⟨sc, sl, wh, ty, dims⟩, args, mat⟩).length ≤ 17592186044416) :
    Calls Tryz.prog 94 #[.agg #[.int .i64 op, .int .i64 n, .int .i64 a, .int .i64 b, .int .i64 c, .int .i64 sc, .int .i64 sl, .int .i64 wh, .int .i64 ty, .slice vo dims.length vc, .slice ao args.length ac, .slice mo mat.length mc]] w (HeldP w (partsL ⟨op, n, a, b, c, ⟨sc, sl, wh, ty, dims⟩, args, mat⟩)) := by
  obtain ⟨i0, hi, hz0, hz1, hz2⟩ := held.info_parts held.info_int
  have HI := Lib.hid (And.intro hi (And.intro hz0 (And.intro hz1 hz2)))
  have HPL : Hid (partsL ⟨op, n, a, b, c, ⟨sc, sl, wh, ty, dims⟩, args, mat⟩ = [a, b]) := Lib.hid (by unfold partsL moreL abcL; simp [hP, h2, h30, h39])
  rw [HPL.out] at hs ⊢
  have HSL := Lib.hid hs
  have HJ0 : Hid (HJ w #[.int .i64 op, .int .i64 n, .int .i64 a, .int .i64 b, .int .i64 c, .int .i64 sc, .int .i64 sl, .int .i64 wh, .int .i64 ty, .slice vo dims.length vc, .slice ao args.length ac, .slice mo mat.length mc] (.slice none 0 0) [] (w.alloc (.cells #[.int .i64 op, .int .i64 n, .int .i64 a, .int .i64 b, .int .i64 c, .int .i64 sc, .int .i64 sl, .int .i64 wh, .int .i64 ty, .slice vo dims.length vc, .slice ao args.length ac, .slice mo mat.length mc] 73))) := Lib.hid ⟨World.ownsRow_nil _ _ _ _, Bq.new (Below.refl _ _) _ _⟩
  have HD := Lib.hid hd
  have HA := Lib.hid ha
  have HBB := Lib.hid hB
  have la := ha.1
  have ld := hd.1
  clear hi hz0 hz1 hz2 hd ha hB
  go_enter Tryz.func94, Tryz.ntmps94
  go_wp2_with fail
  refine (partsH _ (by omega) _).mono ?_
  rintro e w1 ⟨rfl, rfl⟩
  rw [show ((partsOf op : Nat) : Int) = 2 by rw [hP]; rfl]
  generalize w.alloc (.cells #[.int .i64 op, .int .i64 n, .int .i64 a, .int .i64 b, .int .i64 c, .int .i64 sc, .int .i64 sl, .int .i64 wh, .int .i64 ty, .slice vo dims.length vc, .slice ao args.length ac, .slice mo mat.length mc] 73) = W0 at HJ0 ⊢
  have b30 : (op == 30) = false := by simp [h30]
  have b39 : (op == 39) = false := by simp [h39]
  have b2 : (op == 2) = false := by simp [h2]
  clear h2 h30 h39 hP hop
  have f0 : W0.cell? ⟨w.heap.size, 0, none⟩ = some (.int .i64 op) := HJ0.out.bx.cell rfl
  have f2 : W0.cell? ⟨w.heap.size, 2, none⟩ = some (.int .i64 a) := HJ0.out.bx.cell rfl
  have f3 : W0.cell? ⟨w.heap.size, 3, none⟩ = some (.int .i64 b) := HJ0.out.bx.cell rfl
  have f4 : W0.cell? ⟨w.heap.size, 4, none⟩ = some (.int .i64 c) := HJ0.out.bx.cell rfl
  go_wp2_with (at_builtin; refine wpList_append_own _ rfl _ _ 25 rfl (w.heap.size + 1) 3 i0 (.int .i64 0) 1 8 Tryz.underlying25 HI.out.1 HI.out.2.1 HI.out.2.2.1 HI.out.2.2.2 rfl (by decide) (.slice none 0 0) ([] : List Int).length (iCells []) rfl (HJ0.out.own.alloc _) ⟨W0.heap.size, 0, none⟩ 1 1 (iCells [a]) rfl rfl (one_int _ _) (iCells_one [a]) (by unfold maxLen; simp; try omega) (by simp; try omega) (by simp; have := HJ0.out.base; omega) ?_)
  intro v1 w1 hown hgrow _
  have HJ1 : Hid (HJ w #[.int .i64 op, .int .i64 n, .int .i64 a, .int .i64 b, .int .i64 c, .int .i64 sc, .int .i64 sl, .int .i64 wh, .int .i64 ty, .slice vo dims.length vc, .slice ao args.length ac, .slice mo mat.length mc] v1 ([] ++ [a]) w1) := Lib.hid (HJ0.out.put hgrow hown)
  clear hown hgrow
  clear f0 f2 f3 f4
  have f0 : w1.cell? ⟨w.heap.size, 0, none⟩ = some (.int .i64 op) := HJ1.out.bx.cell rfl
  have f2 : w1.cell? ⟨w.heap.size, 2, none⟩ = some (.int .i64 a) := HJ1.out.bx.cell rfl
  have f3 : w1.cell? ⟨w.heap.size, 3, none⟩ = some (.int .i64 b) := HJ1.out.bx.cell rfl
  have f4 : w1.cell? ⟨w.heap.size, 4, none⟩ = some (.int .i64 c) := HJ1.out.bx.cell rfl
  go_wp2_with (at_builtin; refine wpList_append_own _ rfl _ _ 25 rfl (w.heap.size + 1) 3 i0 (.int .i64 0) 1 8 Tryz.underlying25 HI.out.1 HI.out.2.1 HI.out.2.2.1 HI.out.2.2.2 rfl (by decide) v1 (([] ++ [a]) : List Int).length (iCells ([] ++ [a])) rfl (HJ1.out.own.alloc _) ⟨w1.heap.size, 0, none⟩ 1 1 (iCells [b]) rfl rfl (one_int _ _) (iCells_one [b]) (by unfold maxLen; simp; try omega) (by simp; try omega) (by simp; have := HJ1.out.base; omega) ?_)
  intro v2 w2 hown hgrow _
  have HJ2 : Hid (HJ w #[.int .i64 op, .int .i64 n, .int .i64 a, .int .i64 b, .int .i64 c, .int .i64 sc, .int .i64 sl, .int .i64 wh, .int .i64 ty, .slice vo dims.length vc, .slice ao args.length ac, .slice mo mat.length mc] v2 (([] ++ [a]) ++ [b]) w2) := Lib.hid (HJ1.out.put hgrow hown)
  clear hown hgrow
  clear f0 f2 f3 f4
  have f0 : w2.cell? ⟨w.heap.size, 0, none⟩ = some (.int .i64 op) := HJ2.out.bx.cell rfl
  have f2 : w2.cell? ⟨w.heap.size, 2, none⟩ = some (.int .i64 a) := HJ2.out.bx.cell rfl
  have f3 : w2.cell? ⟨w.heap.size, 3, none⟩ = some (.int .i64 b) := HJ2.out.bx.cell rfl
  have f4 : w2.cell? ⟨w.heap.size, 4, none⟩ = some (.int .i64 c) := HJ2.out.bx.cell rfl
  go_wp2_with fail
  go_ret
  exact HJ2.out.done HSL.out rfl
set_option maxRecDepth 100000 in
set_option maxHeartbeats 2000000 in
theorem held_3 {B : Nat} (op : Int) (hop : 1 ≤ op ∧ op ≤ 39) (h2 : op ≠ 2) (h30 : op ≠ 30) (h39 : op ≠ 39) (hP : partsOf op = 3) (n a b c sc sl wh ty : Int) (dims : List DimD) (args mat : List Int) (vo ao mo : Option Addr) (vc ac mc : Nat) (w : World) (hB : B ≤ w.heap.size) (hd : Row B vo 3 (dimAt w) dims) (ha : Row B ao 1 (intAt w) args) (hs : (partsL ⟨op, n, a, b, c, ⟨sc, sl, wh, ty, dims⟩, args, mat⟩).length ≤ 17592186044416) :
    Calls Tryz.prog 94 #[.agg #[.int .i64 op, .int .i64 n, .int .i64 a, .int .i64 b, .int .i64 c, .int .i64 sc, .int .i64 sl, .int .i64 wh, .int .i64 ty, .slice vo dims.length vc, .slice ao args.length ac, .slice mo mat.length mc]] w (HeldP w (partsL ⟨op, n, a, b, c, ⟨sc, sl, wh, ty, dims⟩, args, mat⟩)) := by
  obtain ⟨i0, hi, hz0, hz1, hz2⟩ := held.info_parts held.info_int
  have HI := Lib.hid (And.intro hi (And.intro hz0 (And.intro hz1 hz2)))
  have HPL : Hid (partsL ⟨op, n, a, b, c, ⟨sc, sl, wh, ty, dims⟩, args, mat⟩ = [a, b, c]) := Lib.hid (by unfold partsL moreL abcL; simp [hP, h2, h30, h39])
  rw [HPL.out] at hs ⊢
  have HSL := Lib.hid hs
  have HJ0 : Hid (HJ w #[.int .i64 op, .int .i64 n, .int .i64 a, .int .i64 b, .int .i64 c, .int .i64 sc, .int .i64 sl, .int .i64 wh, .int .i64 ty, .slice vo dims.length vc, .slice ao args.length ac, .slice mo mat.length mc] (.slice none 0 0) [] (w.alloc (.cells #[.int .i64 op, .int .i64 n, .int .i64 a, .int .i64 b, .int .i64 c, .int .i64 sc, .int .i64 sl, .int .i64 wh, .int .i64 ty, .slice vo dims.length vc, .slice ao args.length ac, .slice mo mat.length mc] 73))) := Lib.hid ⟨World.ownsRow_nil _ _ _ _, Bq.new (Below.refl _ _) _ _⟩
  have HD := Lib.hid hd
  have HA := Lib.hid ha
  have HBB := Lib.hid hB
  have la := ha.1
  have ld := hd.1
  clear hi hz0 hz1 hz2 hd ha hB
  go_enter Tryz.func94, Tryz.ntmps94
  go_wp2_with fail
  refine (partsH _ (by omega) _).mono ?_
  rintro e w1 ⟨rfl, rfl⟩
  rw [show ((partsOf op : Nat) : Int) = 3 by rw [hP]; rfl]
  generalize w.alloc (.cells #[.int .i64 op, .int .i64 n, .int .i64 a, .int .i64 b, .int .i64 c, .int .i64 sc, .int .i64 sl, .int .i64 wh, .int .i64 ty, .slice vo dims.length vc, .slice ao args.length ac, .slice mo mat.length mc] 73) = W0 at HJ0 ⊢
  have b30 : (op == 30) = false := by simp [h30]
  have b39 : (op == 39) = false := by simp [h39]
  have b2 : (op == 2) = false := by simp [h2]
  clear h2 h30 h39 hP hop
  have f0 : W0.cell? ⟨w.heap.size, 0, none⟩ = some (.int .i64 op) := HJ0.out.bx.cell rfl
  have f2 : W0.cell? ⟨w.heap.size, 2, none⟩ = some (.int .i64 a) := HJ0.out.bx.cell rfl
  have f3 : W0.cell? ⟨w.heap.size, 3, none⟩ = some (.int .i64 b) := HJ0.out.bx.cell rfl
  have f4 : W0.cell? ⟨w.heap.size, 4, none⟩ = some (.int .i64 c) := HJ0.out.bx.cell rfl
  go_wp2_with (at_builtin; refine wpList_append_own _ rfl _ _ 25 rfl (w.heap.size + 1) 3 i0 (.int .i64 0) 1 8 Tryz.underlying25 HI.out.1 HI.out.2.1 HI.out.2.2.1 HI.out.2.2.2 rfl (by decide) (.slice none 0 0) ([] : List Int).length (iCells []) rfl (HJ0.out.own.alloc _) ⟨W0.heap.size, 0, none⟩ 1 1 (iCells [a]) rfl rfl (one_int _ _) (iCells_one [a]) (by unfold maxLen; simp; try omega) (by simp; try omega) (by simp; have := HJ0.out.base; omega) ?_)
  intro v1 w1 hown hgrow _
  have HJ1 : Hid (HJ w #[.int .i64 op, .int .i64 n, .int .i64 a, .int .i64 b, .int .i64 c, .int .i64 sc, .int .i64 sl, .int .i64 wh, .int .i64 ty, .slice vo dims.length vc, .slice ao args.length ac, .slice mo mat.length mc] v1 ([] ++ [a]) w1) := Lib.hid (HJ0.out.put hgrow hown)
  clear hown hgrow
  clear f0 f2 f3 f4
  have f0 : w1.cell? ⟨w.heap.size, 0, none⟩ = some (.int .i64 op) := HJ1.out.bx.cell rfl
  have f2 : w1.cell? ⟨w.heap.size, 2, none⟩ = some (.int .i64 a) := HJ1.out.bx.cell rfl
  have f3 : w1.cell? ⟨w.heap.size, 3, none⟩ = some (.int .i64 b) := HJ1.out.bx.cell rfl
  have f4 : w1.cell? ⟨w.heap.size, 4, none⟩ = some (.int .i64 c) := HJ1.out.bx.cell rfl
  go_wp2_with (at_builtin; refine wpList_append_own _ rfl _ _ 25 rfl (w.heap.size + 1) 3 i0 (.int .i64 0) 1 8 Tryz.underlying25 HI.out.1 HI.out.2.1 HI.out.2.2.1 HI.out.2.2.2 rfl (by decide) v1 (([] ++ [a]) : List Int).length (iCells ([] ++ [a])) rfl (HJ1.out.own.alloc _) ⟨w1.heap.size, 0, none⟩ 1 1 (iCells [b]) rfl rfl (one_int _ _) (iCells_one [b]) (by unfold maxLen; simp; try omega) (by simp; try omega) (by simp; have := HJ1.out.base; omega) ?_)
  intro v2 w2 hown hgrow _
  have HJ2 : Hid (HJ w #[.int .i64 op, .int .i64 n, .int .i64 a, .int .i64 b, .int .i64 c, .int .i64 sc, .int .i64 sl, .int .i64 wh, .int .i64 ty, .slice vo dims.length vc, .slice ao args.length ac, .slice mo mat.length mc] v2 (([] ++ [a]) ++ [b]) w2) := Lib.hid (HJ1.out.put hgrow hown)
  clear hown hgrow
  clear f0 f2 f3 f4
  have f0 : w2.cell? ⟨w.heap.size, 0, none⟩ = some (.int .i64 op) := HJ2.out.bx.cell rfl
  have f2 : w2.cell? ⟨w.heap.size, 2, none⟩ = some (.int .i64 a) := HJ2.out.bx.cell rfl
  have f3 : w2.cell? ⟨w.heap.size, 3, none⟩ = some (.int .i64 b) := HJ2.out.bx.cell rfl
  have f4 : w2.cell? ⟨w.heap.size, 4, none⟩ = some (.int .i64 c) := HJ2.out.bx.cell rfl
  go_wp2_with (at_builtin; refine wpList_append_own _ rfl _ _ 25 rfl (w.heap.size + 1) 3 i0 (.int .i64 0) 1 8 Tryz.underlying25 HI.out.1 HI.out.2.1 HI.out.2.2.1 HI.out.2.2.2 rfl (by decide) v2 ((([] ++ [a]) ++ [b]) : List Int).length (iCells (([] ++ [a]) ++ [b])) rfl (HJ2.out.own.alloc _) ⟨w2.heap.size, 0, none⟩ 1 1 (iCells [c]) rfl rfl (one_int _ _) (iCells_one [c]) (by unfold maxLen; simp; try omega) (by simp; try omega) (by simp; have := HJ2.out.base; omega) ?_)
  intro v3 w3 hown hgrow _
  have HJ3 : Hid (HJ w #[.int .i64 op, .int .i64 n, .int .i64 a, .int .i64 b, .int .i64 c, .int .i64 sc, .int .i64 sl, .int .i64 wh, .int .i64 ty, .slice vo dims.length vc, .slice ao args.length ac, .slice mo mat.length mc] v3 ((([] ++ [a]) ++ [b]) ++ [c]) w3) := Lib.hid (HJ2.out.put hgrow hown)
  clear hown hgrow
  clear f0 f2 f3 f4
  have f0 : w3.cell? ⟨w.heap.size, 0, none⟩ = some (.int .i64 op) := HJ3.out.bx.cell rfl
  have f2 : w3.cell? ⟨w.heap.size, 2, none⟩ = some (.int .i64 a) := HJ3.out.bx.cell rfl
  have f3 : w3.cell? ⟨w.heap.size, 3, none⟩ = some (.int .i64 b) := HJ3.out.bx.cell rfl
  have f4 : w3.cell? ⟨w.heap.size, 4, none⟩ = some (.int .i64 c) := HJ3.out.bx.cell rfl
  go_wp2_with fail
  go_ret
  exact HJ3.out.done HSL.out rfl
set_option maxRecDepth 100000 in
set_option maxHeartbeats 2000000 in
theorem held_39 {B : Nat} (n a b c sc sl wh ty : Int) (dims : List DimD) (args mat : List Int) (vo ao mo : Option Addr) (vc ac mc : Nat) (w : World) (hB : B ≤ w.heap.size) (hd : Row B vo 3 (dimAt w) dims) (ha : Row B ao 1 (intAt w) args) (hs : (partsL ⟨39, n, a, b, c, ⟨sc, sl, wh, ty, dims⟩, args, mat⟩).length ≤ 17592186044416) :
    Calls Tryz.prog 94 #[.agg #[.int .i64 39, .int .i64 n, .int .i64 a, .int .i64 b, .int .i64 c, .int .i64 sc, .int .i64 sl, .int .i64 wh, .int .i64 ty, .slice vo dims.length vc, .slice ao args.length ac, .slice mo mat.length mc]] w (HeldP w (partsL ⟨39, n, a, b, c, ⟨sc, sl, wh, ty, dims⟩, args, mat⟩)) := by
  obtain ⟨i0, hi, hz0, hz1, hz2⟩ := held.info_parts held.info_int
  have HI := Lib.hid (And.intro hi (And.intro hz0 (And.intro hz1 hz2)))
  have HPL : Hid (partsL ⟨39, n, a, b, c, ⟨sc, sl, wh, ty, dims⟩, args, mat⟩ = args) := Lib.hid (by unfold partsL moreL abcL partsOf; simp)
  rw [HPL.out] at hs ⊢
  have HSL := Lib.hid hs
  have HJ0 : Hid (HJ w #[.int .i64 39, .int .i64 n, .int .i64 a, .int .i64 b, .int .i64 c, .int .i64 sc, .int .i64 sl, .int .i64 wh, .int .i64 ty, .slice vo dims.length vc, .slice ao args.length ac, .slice mo mat.length mc] (.slice none 0 0) [] (w.alloc (.cells #[.int .i64 39, .int .i64 n, .int .i64 a, .int .i64 b, .int .i64 c, .int .i64 sc, .int .i64 sl, .int .i64 wh, .int .i64 ty, .slice vo dims.length vc, .slice ao args.length ac, .slice mo mat.length mc] 73))) := Lib.hid ⟨World.ownsRow_nil _ _ _ _, Bq.new (Below.refl _ _) _ _⟩
  have HD := Lib.hid hd
  have HA := Lib.hid ha
  have HBB := Lib.hid hB
  have la := ha.1
  have ld := hd.1
  clear hi hz0 hz1 hz2 hd ha hB
  go_enter Tryz.func94, Tryz.ntmps94
  go_wp2_with fail
  refine (partsH _ (by omega) _).mono ?_
  rintro e w1 ⟨rfl, rfl⟩
  rw [show ((partsOf 39 : Nat) : Int) = 0 from rfl]
  generalize w.alloc (.cells #[.int .i64 39, .int .i64 n, .int .i64 a, .int .i64 b, .int .i64 c, .int .i64 sc, .int .i64 sl, .int .i64 wh, .int .i64 ty, .slice vo dims.length vc, .slice ao args.length ac, .slice mo mat.length mc] 73) = W0 at HJ0 ⊢
  have HSZ : Hid (([] : List Int).length + args.length ≤ maxLen ∧ (([] : List Int).length + args.length) * 8 ≤ 140737488355328) := Lib.hid (by simp at hs ⊢; unfold maxLen; omega)
  have f0 : W0.cell? ⟨w.heap.size, 0, none⟩ = some (.int .i64 39) := HJ0.out.bx.cell rfl
  have f2 : W0.cell? ⟨w.heap.size, 2, none⟩ = some (.int .i64 a) := HJ0.out.bx.cell rfl
  have f10 : W0.cell? ⟨w.heap.size, 10, none⟩ = some (.slice ao args.length ac) := HJ0.out.bx.cell rfl
  by_cases h0 : args = []
  · subst h0
    go_wp2_with (at_builtin; refine wpList_append_zero rfl _ _ 25 rfl (w.heap.size + 1) 3 i0 1 Tryz.underlying25 HI.out.1 (.slice none 0 0) ([] : List Int).length (iCells []) rfl HJ0.out.own ao ac rfl ?_)
    go_wp2_with fail
    go_ret
    exact HJ0.out.done HSL.out (by simp)
  · obtain ⟨g, off, hao, hg, -⟩ : ∃ g off, ao = some ⟨g, off, none⟩ ∧ g < B ∧ True := by
      rcases HA.out.2 with h1 | ⟨g, off, h1, h2, -⟩
      · exact absurd (List.eq_nil_of_length_eq_zero h1) h0
      · exact ⟨g, off, h1, h2, trivial⟩
    subst hao
    have HN : Hid (∀ j u, (iCells args)[j]? = some u → W0.cell? ((⟨g, off, none⟩ : Addr).add j) = some u) := Lib.hid fun j u hj => by
      have hj2 : j < args.length := by
        have := (List.getElem?_eq_some_iff.1 hj).1
        simpa [iCells] using this
      obtain ⟨g', off', e1, hg', e2⟩ := HA.out.cell hj2
      injection e1 with e1
      injection e1 with e1 e3
      subst e1 e3
      rw [held.add_off]
      have e4 : u = .int .i64 args[j] := by
        simp [iCells, hj2] at hj
        exact hj.symm
      rw [e4, HJ0.out.bx.bel.cell (p := ⟨g, off + j, none⟩) (Nat.lt_of_lt_of_le hg HBB.out)]
      have := e2
      unfold intAt at this
      rw [Nat.mul_one] at this
      exact this
    have HLN : Hid ((iCells args).length = args.length * 1) := Lib.hid (by simp [iCells])
    go_wp2_with (at_builtin; refine wpList_append_own _ rfl _ _ 25 rfl (w.heap.size + 1) 3 i0 (.int .i64 0) 1 8 Tryz.underlying25 HI.out.1 HI.out.2.1 HI.out.2.2.1 HI.out.2.2.2 rfl (by decide) (.slice none 0 0) ([] : List Int).length (iCells []) rfl HJ0.out.own ⟨g, off, none⟩ args.length ac (iCells args) rfl HLN.out HN.out (iCells_one args) HSZ.out.1 HSZ.out.2 (by have := HJ0.out.base; omega) ?_)
    intro v9 w9 hown hgrow _
    have HJ9 : Hid (HJ w #[.int .i64 39, .int .i64 n, .int .i64 a, .int .i64 b, .int .i64 c, .int .i64 sc, .int .i64 sl, .int .i64 wh, .int .i64 ty, .slice vo dims.length vc, .slice (some ⟨g, off, none⟩) args.length ac, .slice mo mat.length mc] v9 ([] ++ args) w9) := Lib.hid (HJ0.out.put0 hgrow (by simpa using hown))
    clear hown hgrow
    have f0 : w9.cell? ⟨w.heap.size, 0, none⟩ = some (.int .i64 39) := HJ9.out.bx.cell rfl
    go_wp2_with fail
    go_ret
    exact HJ9.out.done HSL.out (by simp)
set_option maxRecDepth 100000 in
set_option maxHeartbeats 2000000 in
theorem held_30 {B : Nat} (n a b c sc sl wh ty : Int) (dims : List DimD) (args mat : List Int) (vo ao mo : Option Addr) (vc ac mc : Nat) (w : World) (hB : B ≤ w.heap.size) (hd : Row B vo 3 (dimAt w) dims) (ha : Row B ao 1 (intAt w) args) (hs : (partsL ⟨30, n, a, b, c, ⟨sc, sl, wh, ty, dims⟩, args, mat⟩).length ≤ 17592186044416) :
    Calls Tryz.prog 94 #[.agg #[.int .i64 30, .int .i64 n, .int .i64 a, .int .i64 b, .int .i64 c, .int .i64 sc, .int .i64 sl, .int .i64 wh, .int .i64 ty, .slice vo dims.length vc, .slice ao args.length ac, .slice mo mat.length mc]] w (HeldP w (partsL ⟨30, n, a, b, c, ⟨sc, sl, wh, ty, dims⟩, args, mat⟩)) := by
  obtain ⟨i0, hi, hz0, hz1, hz2⟩ := held.info_parts held.info_int
  have HI := Lib.hid (And.intro hi (And.intro hz0 (And.intro hz1 hz2)))
  have HPL : Hid (partsL ⟨30, n, a, b, c, ⟨sc, sl, wh, ty, dims⟩, args, mat⟩ = a :: args) := Lib.hid (by unfold partsL moreL abcL partsOf; simp)
  rw [HPL.out] at hs ⊢
  have HSL := Lib.hid hs
  have HJ0 : Hid (HJ w #[.int .i64 30, .int .i64 n, .int .i64 a, .int .i64 b, .int .i64 c, .int .i64 sc, .int .i64 sl, .int .i64 wh, .int .i64 ty, .slice vo dims.length vc, .slice ao args.length ac, .slice mo mat.length mc] (.slice none 0 0) [] (w.alloc (.cells #[.int .i64 30, .int .i64 n, .int .i64 a, .int .i64 b, .int .i64 c, .int .i64 sc, .int .i64 sl, .int .i64 wh, .int .i64 ty, .slice vo dims.length vc, .slice ao args.length ac, .slice mo mat.length mc] 73))) := Lib.hid ⟨World.ownsRow_nil _ _ _ _, Bq.new (Below.refl _ _) _ _⟩
  have HD := Lib.hid hd
  have HA := Lib.hid ha
  have HBB := Lib.hid hB
  have la := ha.1
  have ld := hd.1
  clear hi hz0 hz1 hz2 hd ha hB
  go_enter Tryz.func94, Tryz.ntmps94
  go_wp2_with fail
  refine (partsH _ (by omega) _).mono ?_
  rintro e w1 ⟨rfl, rfl⟩
  rw [show ((partsOf 30 : Nat) : Int) = 1 from rfl]
  generalize w.alloc (.cells #[.int .i64 30, .int .i64 n, .int .i64 a, .int .i64 b, .int .i64 c, .int .i64 sc, .int .i64 sl, .int .i64 wh, .int .i64 ty, .slice vo dims.length vc, .slice ao args.length ac, .slice mo mat.length mc] 73) = W0 at HJ0 ⊢
  have HSZ : Hid ((([] ++ [a]) : List Int).length + args.length ≤ maxLen ∧ ((([] ++ [a]) : List Int).length + args.length) * 8 ≤ 140737488355328) := Lib.hid (by simp at hs ⊢; unfold maxLen; omega)
  have f0 : W0.cell? ⟨w.heap.size, 0, none⟩ = some (.int .i64 30) := HJ0.out.bx.cell rfl
  have f2 : W0.cell? ⟨w.heap.size, 2, none⟩ = some (.int .i64 a) := HJ0.out.bx.cell rfl
  have f10 : W0.cell? ⟨w.heap.size, 10, none⟩ = some (.slice ao args.length ac) := HJ0.out.bx.cell rfl
  go_wp2_with (at_builtin; refine wpList_append_own _ rfl _ _ 25 rfl (w.heap.size + 1) 3 i0 (.int .i64 0) 1 8 Tryz.underlying25 HI.out.1 HI.out.2.1 HI.out.2.2.1 HI.out.2.2.2 rfl (by decide) (.slice none 0 0) ([] : List Int).length (iCells []) rfl (HJ0.out.own.alloc _) ⟨W0.heap.size, 0, none⟩ 1 1 (iCells [a]) rfl rfl (one_int _ _) (iCells_one [a]) (by unfold maxLen; simp; try omega) (by simp; try omega) (by simp; have := HJ0.out.base; omega) ?_)
  intro v1 w1 hown hgrow _
  have HJ1 : Hid (HJ w #[.int .i64 30, .int .i64 n, .int .i64 a, .int .i64 b, .int .i64 c, .int .i64 sc, .int .i64 sl, .int .i64 wh, .int .i64 ty, .slice vo dims.length vc, .slice ao args.length ac, .slice mo mat.length mc] v1 ([] ++ [a]) w1) := Lib.hid (HJ0.out.put hgrow hown)
  clear hown hgrow
  clear f0 f2 f10
  have f0 : w1.cell? ⟨w.heap.size, 0, none⟩ = some (.int .i64 30) := HJ1.out.bx.cell rfl
  have f10 : w1.cell? ⟨w.heap.size, 10, none⟩ = some (.slice ao args.length ac) := HJ1.out.bx.cell rfl
  by_cases h0 : args = []
  · subst h0
    go_wp2_with (at_builtin; refine wpList_append_zero rfl _ _ 25 rfl (w.heap.size + 1) 3 i0 1 Tryz.underlying25 HI.out.1 v1 (([] ++ [a]) : List Int).length (iCells ([] ++ [a])) rfl HJ1.out.own ao ac rfl ?_)
    go_wp2_with fail
    go_ret
    exact HJ1.out.done HSL.out (by simp)
  · obtain ⟨g, off, hao, hg, -⟩ : ∃ g off, ao = some ⟨g, off, none⟩ ∧ g < B ∧ True := by
      rcases HA.out.2 with h1 | ⟨g, off, h1, h2, -⟩
      · exact absurd (List.eq_nil_of_length_eq_zero h1) h0
      · exact ⟨g, off, h1, h2, trivial⟩
    subst hao
    have HN : Hid (∀ j u, (iCells args)[j]? = some u → w1.cell? ((⟨g, off, none⟩ : Addr).add j) = some u) := Lib.hid fun j u hj => by
      have hj2 : j < args.length := by
        have := (List.getElem?_eq_some_iff.1 hj).1
        simpa [iCells] using this
      obtain ⟨g', off', e1, hg', e2⟩ := HA.out.cell hj2
      injection e1 with e1
      injection e1 with e1 e3
      subst e1 e3
      rw [held.add_off]
      have e4 : u = .int .i64 args[j] := by
        simp [iCells, hj2] at hj
        exact hj.symm
      rw [e4, HJ1.out.bx.bel.cell (p := ⟨g, off + j, none⟩) (Nat.lt_of_lt_of_le hg HBB.out)]
      have := e2
      unfold intAt at this
      rw [Nat.mul_one] at this
      exact this
    have HLN : Hid ((iCells args).length = args.length * 1) := Lib.hid (by simp [iCells])
    go_wp2_with (at_builtin; refine wpList_append_own _ rfl _ _ 25 rfl (w.heap.size + 1) 3 i0 (.int .i64 0) 1 8 Tryz.underlying25 HI.out.1 HI.out.2.1 HI.out.2.2.1 HI.out.2.2.2 rfl (by decide) v1 (([] ++ [a]) : List Int).length (iCells ([] ++ [a])) rfl HJ1.out.own ⟨g, off, none⟩ args.length ac (iCells args) rfl HLN.out HN.out (iCells_one args) HSZ.out.1 HSZ.out.2 (by have := HJ1.out.base; omega) ?_)
    intro v9 w9 hown hgrow _
    have HJ9 : Hid (HJ w #[.int .i64 30, .int .i64 n, .int .i64 a, .int .i64 b, .int .i64 c, .int .i64 sc, .int .i64 sl, .int .i64 wh, .int .i64 ty, .slice vo dims.length vc, .slice (some ⟨g, off, none⟩) args.length ac, .slice mo mat.length mc] v9 (([] ++ [a]) ++ args) w9) := Lib.hid (HJ1.out.put0 hgrow (by simpa using hown))
    clear hown hgrow
    have f0 : w9.cell? ⟨w.heap.size, 0, none⟩ = some (.int .i64 30) := HJ9.out.bx.cell rfl
    go_wp2_with fail
    go_ret
    exact HJ9.out.done HSL.out (by simp)
set_option maxRecDepth 100000 in
set_option maxHeartbeats 2000000 in
theorem held_2y {B : Nat} (n a b c sc sl wh ty : Int) (dims : List DimD) (args mat : List Int) (vo ao mo : Option Addr) (vc ac mc : Nat) (w : World) (hB : B ≤ w.heap.size) (hd : Row B vo 3 (dimAt w) dims) (ha : Row B ao 1 (intAt w) args) (hs : (partsL ⟨2, n, a, b, c, ⟨sc, sl, wh, ty, dims⟩, args, mat⟩).length ≤ 17592186044416) (hsc : sc = 2) :
    Calls Tryz.prog 94 #[.agg #[.int .i64 2, .int .i64 n, .int .i64 a, .int .i64 b, .int .i64 c, .int .i64 sc, .int .i64 sl, .int .i64 wh, .int .i64 ty, .slice vo dims.length vc, .slice ao args.length ac, .slice mo mat.length mc]] w (HeldP w (partsL ⟨2, n, a, b, c, ⟨sc, sl, wh, ty, dims⟩, args, mat⟩)) := by
  obtain ⟨i0, hi, hz0, hz1, hz2⟩ := held.info_parts held.info_int
  have HI := Lib.hid (And.intro hi (And.intro hz0 (And.intro hz1 hz2)))
  have HPL : Hid (partsL ⟨2, n, a, b, c, ⟨sc, sl, wh, ty, dims⟩, args, mat⟩ = ([] ++ [wh]) ++ dims.map (fun d : DimD => d.i)) := Lib.hid (by unfold partsL moreL abcL partsOf; simp [hsc])
  rw [HPL.out] at hs ⊢
  have HSL := Lib.hid hs
  have hdl : dims.length ≤ 17592186044400 + 16 := by rw [List.length_append, List.length_map] at hs; omega
  have HJ0 : Hid (HJ w #[.int .i64 2, .int .i64 n, .int .i64 a, .int .i64 b, .int .i64 c, .int .i64 sc, .int .i64 sl, .int .i64 wh, .int .i64 ty, .slice vo dims.length vc, .slice ao args.length ac, .slice mo mat.length mc] (.slice none 0 0) [] (w.alloc (.cells #[.int .i64 2, .int .i64 n, .int .i64 a, .int .i64 b, .int .i64 c, .int .i64 sc, .int .i64 sl, .int .i64 wh, .int .i64 ty, .slice vo dims.length vc, .slice ao args.length ac, .slice mo mat.length mc] 73))) := Lib.hid ⟨World.ownsRow_nil _ _ _ _, Bq.new (Below.refl _ _) _ _⟩
  have HD := Lib.hid hd
  have HA := Lib.hid ha
  have HBB := Lib.hid hB
  have la := ha.1
  have ld := hd.1
  have b2 : (sc == 2) = true := by simp [hsc]
  clear hsc hs
  clear hi hz0 hz1 hz2 hd ha hB
  go_enter Tryz.func94, Tryz.ntmps94
  go_wp2_with fail
  refine (partsH _ (by omega) _).mono ?_
  rintro e w1 ⟨rfl, rfl⟩
  rw [show ((partsOf 2 : Nat) : Int) = 0 from rfl]
  generalize w.alloc (.cells #[.int .i64 2, .int .i64 n, .int .i64 a, .int .i64 b, .int .i64 c, .int .i64 sc, .int .i64 sl, .int .i64 wh, .int .i64 ty, .slice vo dims.length vc, .slice ao args.length ac, .slice mo mat.length mc] 73) = W0 at HJ0 ⊢
  have f0 : W0.cell? ⟨w.heap.size, 0, none⟩ = some (.int .i64 2) := HJ0.out.bx.cell rfl
  have f5 : W0.cell? ⟨w.heap.size, 5, none⟩ = some (.int .i64 sc) := HJ0.out.bx.cell rfl
  have f7 : W0.cell? ⟨w.heap.size, 7, none⟩ = some (.int .i64 wh) := HJ0.out.bx.cell rfl
  have f9 : W0.cell? ⟨w.heap.size, 9, none⟩ = some (.slice vo dims.length vc) := HJ0.out.bx.cell rfl
  go_wp2_with (at_builtin; refine wpList_append_own _ rfl _ _ 25 rfl (w.heap.size + 1) 3 i0 (.int .i64 0) 1 8 Tryz.underlying25 HI.out.1 HI.out.2.1 HI.out.2.2.1 HI.out.2.2.2 rfl (by decide) (.slice none 0 0) ([] : List Int).length (iCells []) rfl (HJ0.out.own.alloc _) ⟨W0.heap.size, 0, none⟩ 1 1 (iCells [wh]) rfl rfl (one_int _ _) (iCells_one [wh]) (by unfold maxLen; simp; try omega) (by simp; try omega) (by simp; have := HJ0.out.base; omega) ?_)
  intro v1 w1 hown hgrow _
  have HJ1 : Hid (HJ w #[.int .i64 2, .int .i64 n, .int .i64 a, .int .i64 b, .int .i64 c, .int .i64 sc, .int .i64 sl, .int .i64 wh, .int .i64 ty, .slice vo dims.length vc, .slice ao args.length ac, .slice mo mat.length mc] v1 ([] ++ [wh]) w1) := Lib.hid (HJ0.out.put hgrow hown)
  clear hown hgrow
  clear f0 f5 f7 f9
  go_wp2_with fail
  go_loopw [3, 5] (fun v i wr => ∃ k : Nat, i = .int .i64 k ∧ k ≤ dims.length ∧ Hid (HJ w #[.int .i64 2, .int .i64 n, .int .i64 a, .int .i64 b, .int .i64 c, .int .i64 sc, .int .i64 sl, .int .i64 wh, .int .i64 ty, .slice vo dims.length vc, .slice ao args.length ac, .slice mo mat.length mc] v (([] ++ [wh]) ++ (dims.take k).map (fun d : DimD => d.i)) wr)) (fun _ i _ => dims.length - (intOf i).toNat)
  case atStart => exact ⟨0, rfl, by omega, Lib.hid (by simpa using HJ1.out)⟩
  case round =>
    obtain ⟨k, rfl, hk, HJK⟩ := hrel
    have hk0 : (0 : Int) ≤ k := by omega
    have f9 : wr.cell? ⟨w.heap.size, 9, none⟩ = some (.slice vo dims.length vc) := HJK.out.bx.cell rfl
    by_cases hlt : k < dims.length
    · have hlti : (k : Int) < dims.length := by omega
      obtain ⟨g, off, ho, hg, e0, e1, e2⟩ := HD.out.cell hlt
      obtain ⟨I, hI⟩ : ∃ I, dims[k].i = I := ⟨_, rfl⟩
      rw [hI] at e0
      have c0 := (HJK.out.bx.bel.cell (p := ⟨g, off + k * 3, none⟩) (Nat.lt_of_lt_of_le hg HBB.out)).trans e0
      have HT : Hid (([] ++ [wh]) ++ (dims.take (k + 1)).map (fun d : DimD => d.i) = (([] ++ [wh]) ++ (dims.take k).map (fun d : DimD => d.i)) ++ [I]) := Lib.hid (by
        rw [List.take_succ_eq_append_getElem hlt, List.map_append, ← hI, List.append_assoc]
        rfl)
      have HLL : Hid ((([] ++ [wh]) ++ (dims.take k).map (fun d : DimD => d.i)).length + 1 ≤ 17592186044416) := Lib.hid (by
        have h9 := HSL.out
        simp only [List.length_append, List.length_map, List.length_take, List.length_cons, List.length_nil] at h9 ⊢
        omega)
      have hll := HLL.out
      generalize ([] ++ [wh]) ++ (dims.take k).map (fun d : DimD => d.i) = L at HJK HT hll
      rw [ho] at f9
      clear e0 e1 e2 hI hg HLL ho
      go_wp2_with (at_builtin; refine wpList_append_own _ rfl _ _ 25 rfl (w.heap.size + 1) 3 i0 (.int .i64 0) 1 8 Tryz.underlying25 HI.out.1 HI.out.2.1 HI.out.2.2.1 HI.out.2.2.2 rfl (by decide) u3 L.length (iCells L) rfl (HJK.out.own.alloc _) ⟨wr.heap.size, 0, none⟩ 1 1 (iCells [I]) rfl rfl (one_int _ _) (iCells_one [I]) (by unfold maxLen; omega) (by omega) (by simp; have := HJK.out.base; omega) ?_)
      intro v8 w8 hown hgrow _
      have HJ8 : Hid (HJ w #[.int .i64 2, .int .i64 n, .int .i64 a, .int .i64 b, .int .i64 c, .int .i64 sc, .int .i64 sl, .int .i64 wh, .int .i64 ty, .slice vo dims.length vc, .slice ao args.length ac, .slice mo mat.length mc] v8 (L ++ [I]) w8) := Lib.hid (HJK.out.put hgrow hown)
      clear hown hgrow
      go_wp2_with fail
      go_roundw
      case rel => exact ⟨k + 1, by go_num, by omega, Lib.hid (by rw [HT.out]; exact HJ8.out)⟩
      case measure => simp [intOf]; omega
    · have hlti : ¬ (k : Int) < dims.length := by omega
      have HE : Hid (HJ w #[.int .i64 2, .int .i64 n, .int .i64 a, .int .i64 b, .int .i64 c, .int .i64 sc, .int .i64 sl, .int .i64 wh, .int .i64 ty, .slice vo dims.length vc, .slice ao args.length ac, .slice mo mat.length mc] u3 (([] ++ [wh]) ++ dims.map (fun d : DimD => d.i)) wr) := Lib.hid (by
        have h1 := HJK.out
        rw [List.take_of_length_le (by omega)] at h1
        exact h1)
      go_wp2_with fail
      go_ret
      exact HE.out.done HSL.out (by simp)
set_option maxRecDepth 100000 in
set_option maxHeartbeats 2000000 in
theorem held_2n {B : Nat} (n a b c sc sl wh ty : Int) (dims : List DimD) (args mat : List Int) (vo ao mo : Option Addr) (vc ac mc : Nat) (w : World) (hB : B ≤ w.heap.size) (hd : Row B vo 3 (dimAt w) dims) (ha : Row B ao 1 (intAt w) args) (hs : (partsL ⟨2, n, a, b, c, ⟨sc, sl, wh, ty, dims⟩, args, mat⟩).length ≤ 17592186044416) (hsc : sc ≠ 2) :
    Calls Tryz.prog 94 #[.agg #[.int .i64 2, .int .i64 n, .int .i64 a, .int .i64 b, .int .i64 c, .int .i64 sc, .int .i64 sl, .int .i64 wh, .int .i64 ty, .slice vo dims.length vc, .slice ao args.length ac, .slice mo mat.length mc]] w (HeldP w (partsL ⟨2, n, a, b, c, ⟨sc, sl, wh, ty, dims⟩, args, mat⟩)) := by
  obtain ⟨i0, hi, hz0, hz1, hz2⟩ := held.info_parts held.info_int
  have HI := Lib.hid (And.intro hi (And.intro hz0 (And.intro hz1 hz2)))
  have HPL : Hid (partsL ⟨2, n, a, b, c, ⟨sc, sl, wh, ty, dims⟩, args, mat⟩ = ([] : List Int) ++ dims.map (fun d : DimD => d.i)) := Lib.hid (by unfold partsL moreL abcL partsOf; simp [hsc])
  rw [HPL.out] at hs ⊢
  have HSL := Lib.hid hs
  have hdl : dims.length ≤ 17592186044400 + 16 := by rw [List.length_append, List.length_map] at hs; omega
  have HJ0 : Hid (HJ w #[.int .i64 2, .int .i64 n, .int .i64 a, .int .i64 b, .int .i64 c, .int .i64 sc, .int .i64 sl, .int .i64 wh, .int .i64 ty, .slice vo dims.length vc, .slice ao args.length ac, .slice mo mat.length mc] (.slice none 0 0) [] (w.alloc (.cells #[.int .i64 2, .int .i64 n, .int .i64 a, .int .i64 b, .int .i64 c, .int .i64 sc, .int .i64 sl, .int .i64 wh, .int .i64 ty, .slice vo dims.length vc, .slice ao args.length ac, .slice mo mat.length mc] 73))) := Lib.hid ⟨World.ownsRow_nil _ _ _ _, Bq.new (Below.refl _ _) _ _⟩
  have HD := Lib.hid hd
  have HA := Lib.hid ha
  have HBB := Lib.hid hB
  have la := ha.1
  have ld := hd.1
  have b2 : (sc == 2) = false := by simp [hsc]
  clear hsc hs
  clear hi hz0 hz1 hz2 hd ha hB
  go_enter Tryz.func94, Tryz.ntmps94
  go_wp2_with fail
  refine (partsH _ (by omega) _).mono ?_
  rintro e w1 ⟨rfl, rfl⟩
  rw [show ((partsOf 2 : Nat) : Int) = 0 from rfl]
  generalize w.alloc (.cells #[.int .i64 2, .int .i64 n, .int .i64 a, .int .i64 b, .int .i64 c, .int .i64 sc, .int .i64 sl, .int .i64 wh, .int .i64 ty, .slice vo dims.length vc, .slice ao args.length ac, .slice mo mat.length mc] 73) = W0 at HJ0 ⊢
  have f0 : W0.cell? ⟨w.heap.size, 0, none⟩ = some (.int .i64 2) := HJ0.out.bx.cell rfl
  have f5 : W0.cell? ⟨w.heap.size, 5, none⟩ = some (.int .i64 sc) := HJ0.out.bx.cell rfl
  have f7 : W0.cell? ⟨w.heap.size, 7, none⟩ = some (.int .i64 wh) := HJ0.out.bx.cell rfl
  have f9 : W0.cell? ⟨w.heap.size, 9, none⟩ = some (.slice vo dims.length vc) := HJ0.out.bx.cell rfl
  go_wp2_with fail
  go_loopw [3, 5] (fun v i wr => ∃ k : Nat, i = .int .i64 k ∧ k ≤ dims.length ∧ Hid (HJ w #[.int .i64 2, .int .i64 n, .int .i64 a, .int .i64 b, .int .i64 c, .int .i64 sc, .int .i64 sl, .int .i64 wh, .int .i64 ty, .slice vo dims.length vc, .slice ao args.length ac, .slice mo mat.length mc] v (([] : List Int) ++ (dims.take k).map (fun d : DimD => d.i)) wr)) (fun _ i _ => dims.length - (intOf i).toNat)
  case atStart => exact ⟨0, rfl, by omega, Lib.hid (by simpa using HJ0.out)⟩
  case round =>
    obtain ⟨k, rfl, hk, HJK⟩ := hrel
    have hk0 : (0 : Int) ≤ k := by omega
    have f9 : wr.cell? ⟨w.heap.size, 9, none⟩ = some (.slice vo dims.length vc) := HJK.out.bx.cell rfl
    by_cases hlt : k < dims.length
    · have hlti : (k : Int) < dims.length := by omega
      obtain ⟨g, off, ho, hg, e0, e1, e2⟩ := HD.out.cell hlt
      obtain ⟨I, hI⟩ : ∃ I, dims[k].i = I := ⟨_, rfl⟩
      rw [hI] at e0
      have c0 := (HJK.out.bx.bel.cell (p := ⟨g, off + k * 3, none⟩) (Nat.lt_of_lt_of_le hg HBB.out)).trans e0
      have HT : Hid (([] : List Int) ++ (dims.take (k + 1)).map (fun d : DimD => d.i) = (([] : List Int) ++ (dims.take k).map (fun d : DimD => d.i)) ++ [I]) := Lib.hid (by
        rw [List.take_succ_eq_append_getElem hlt, List.map_append, ← hI, List.append_assoc]
        rfl)
      have HLL : Hid ((([] : List Int) ++ (dims.take k).map (fun d : DimD => d.i)).length + 1 ≤ 17592186044416) := Lib.hid (by
        have h9 := HSL.out
        simp only [List.length_append, List.length_map, List.length_take, List.length_cons, List.length_nil] at h9 ⊢
        omega)
      have hll := HLL.out
      generalize ([] : List Int) ++ (dims.take k).map (fun d : DimD => d.i) = L at HJK HT hll
      rw [ho] at f9
      clear e0 e1 e2 hI hg HLL ho
      go_wp2_with (at_builtin; refine wpList_append_own _ rfl _ _ 25 rfl (w.heap.size + 1) 3 i0 (.int .i64 0) 1 8 Tryz.underlying25 HI.out.1 HI.out.2.1 HI.out.2.2.1 HI.out.2.2.2 rfl (by decide) u3 L.length (iCells L) rfl (HJK.out.own.alloc _) ⟨wr.heap.size, 0, none⟩ 1 1 (iCells [I]) rfl rfl (one_int _ _) (iCells_one [I]) (by unfold maxLen; omega) (by omega) (by simp; have := HJK.out.base; omega) ?_)
      intro v8 w8 hown hgrow _
      have HJ8 : Hid (HJ w #[.int .i64 2, .int .i64 n, .int .i64 a, .int .i64 b, .int .i64 c, .int .i64 sc, .int .i64 sl, .int .i64 wh, .int .i64 ty, .slice vo dims.length vc, .slice ao args.length ac, .slice mo mat.length mc] v8 (L ++ [I]) w8) := Lib.hid (HJK.out.put hgrow hown)
      clear hown hgrow
      go_wp2_with fail
      go_roundw
      case rel => exact ⟨k + 1, by go_num, by omega, Lib.hid (by rw [HT.out]; exact HJ8.out)⟩
      case measure => simp [intOf]; omega
    · have hlti : ¬ (k : Int) < dims.length := by omega
      have HE : Hid (HJ w #[.int .i64 2, .int .i64 n, .int .i64 a, .int .i64 b, .int .i64 c, .int .i64 sc, .int .i64 sl, .int .i64 wh, .int .i64 ty, .slice vo dims.length vc, .slice ao args.length ac, .slice mo mat.length mc] u3 (([] : List Int) ++ dims.map (fun d : DimD => d.i)) wr) := Lib.hid (by
        have h1 := HJK.out
        rw [List.take_of_length_le (by omega)] at h1
        exact h1)
      go_wp2_with fail
      go_ret
      exact HE.out.done HSL.out (by simp)
theorem heldH {B : Nat} (x : ExprD) (vo ao mo : Option Addr) (vc ac mc : Nat) (w : World) (hop : 1 ≤ x.op ∧ x.op ≤ 39) (hB : B ≤ w.heap.size) (hd : Row B vo 3 (dimAt w) x.v.dims) (ha : Row B ao 1 (intAt w) x.args) (hs : (partsL x).length ≤ 17592186044416) :
    Calls Tryz.prog 94 #[.agg #[.int .i64 x.op, .int .i64 x.n, .int .i64 x.a, .int .i64 x.b, .int .i64 x.c, .int .i64 x.v.scope, .int .i64 x.v.slot, .int .i64 x.v.who, .int .i64 x.v.type, .slice vo x.v.dims.length vc, .slice ao x.args.length ac, .slice mo x.mat.length mc]] w (HeldP w (partsL x)) := by
  obtain ⟨op, n, a, b, c, ⟨sc, sl, wh, ty, dims⟩, args, mat⟩ := x
  simp only at hop hd ha ⊢
  by_cases h2 : op = 2
  · subst h2
    by_cases hsc : sc = 2
    · exact held_2y n a b c sc sl wh ty dims args mat vo ao mo vc ac mc w hB hd ha hs hsc
    · exact held_2n n a b c sc sl wh ty dims args mat vo ao mo vc ac mc w hB hd ha hs hsc
  by_cases h30 : op = 30
  · subst h30; exact held_30 n a b c sc sl wh ty dims args mat vo ao mo vc ac mc w hB hd ha hs
  by_cases h39 : op = 39
  · subst h39; exact held_39 n a b c sc sl wh ty dims args mat vo ao mo vc ac mc w hB hd ha hs
  have h : partsOf op = 0 ∨ partsOf op = 1 ∨ partsOf op = 2 ∨ partsOf op = 3 := by
    unfold partsOf
    repeat' split
    all_goals simp
  rcases h with h | h | h | h
  · exact held_0 op hop h2 h30 h39 h n a b c sc sl wh ty dims args mat vo ao mo vc ac mc w hB hd ha hs
  · exact held_1 op hop h2 h30 h39 h n a b c sc sl wh ty dims args mat vo ao mo vc ac mc w hB hd ha hs
  · exact held_2' op hop h2 h30 h39 h n a b c sc sl wh ty dims args mat vo ao mo vc ac mc w hB hd ha hs
  · exact held_3 op hop h2 h30 h39 h n a b c sc sl wh ty dims args mat vo ao mo vc ac mc w hB hd ha hs
end Go.Proofs.YtbhgdlfndamklaaGreatDoor
