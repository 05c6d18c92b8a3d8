/- The document's answer: which statements touch their own alone. -/
import Derived.Test.YtofdfaopabmfoaaM35
import Derived.Test.YtofdfaopabmfoaaM36
import Derived.Test.YtofdfaopabmfoaaM09
namespace Go.Proofs.Ytofdfaopabmfoaa
open Go.ChangeShapes Go.WideShapes Go.ChangeAt Go.RowKit
set_option linter.unusedVariables false
set_option linter.unusedSimpArgs false

theorem Mx.grown {w W W' : World} {p B : Nat} {CS : Array Value} {h : MH} {m : ModelD} {row : Option Nat} (k : Mx w p CS h m W) (hg : W.grownBy W' row) (hp : p < B) (hw : w.heap.size ≤ B) (hr : ∀ k, row = some k → B ≤ k) (hB : w.heap.size ≤ W.heap.size) : Mx w p CS h m W' := by
  have hb : Below w.heap.size W W' := (Below.refl _ _).grown hg hB (fun k hk => Nat.le_trans hw (hr k hk))
  refine ⟨k.eq, ⟨?_, k.bx.bel.trans hb⟩, k.md.below hb⟩
  exact (hg.block p (lt_of_block k.bx.box) (fun e => by have := hr p e.symm; omega)).trans k.bx.box
/-- A row of numbers of one's own, and the boxes of a model and a statement. -/
structure IJ (w0 : World) (CS SS : Array Value) (h : MH) (m : ModelD) (v : Value) (l : List Int) (W : World) : Prop where
  own : W.ownsRow (w0.heap.size + 1 + 1) 3 1 v l.length (iCells l)
  sx : Sx w0 CS SS h m W
section
variable {w0 W W1 : World} {CS SS : Array Value} {h : MH} {m : ModelD} {v v1 : Value} {l k : List Int} {o : Obj}
theorem IJ.base (j : IJ w0 CS SS h m v l W) : w0.heap.size + 1 + 1 ≤ W.heap.size := lt_of_block j.sx.sb.box
theorem IJ.put0 (j : IJ w0 CS SS h m v l W) (hg : W.grownBy W1 v.ownBlock) (ho : W1.ownsRow (w0.heap.size + 1 + 1) 3 1 v1 (l.length + k.length) (iCells l ++ iCells k)) : IJ w0 CS SS h m v1 (l ++ k) W1 := by
  have hb := j.base
  have hr : ∀ k, v.ownBlock = some k → w0.heap.size + 1 + 1 ≤ k := fun k hk => (j.own.lt k hk).1
  refine ⟨by rw [List.length_append, iCells_app]; exact ho, j.sx.mx.grown hg (by omega) (by omega) hr (by omega), ?_, ?_⟩
  · exact (hg.block _ (lt_of_block j.sx.sb.box) (fun e => by have := hr _ e.symm; omega)).trans j.sx.sb.box
  · exact j.sx.sb.bel.grown hg (by omega) (fun k hk => by have := hr k hk; omega)
theorem IJ.below (j : IJ w0 CS SS h m v l W) (hb : Below W.heap.size W W1) : IJ w0 CS SS h m v l W1 := ⟨owns_below j.own hb, j.sx.below hb⟩
theorem IJ.put (j : IJ w0 CS SS h m v l W) (hg : (W.alloc o).grownBy W1 v.ownBlock) (ho : W1.ownsRow (w0.heap.size + 1 + 1) 3 1 v1 (l.length + k.length) (iCells l ++ iCells k)) : IJ w0 CS SS h m v1 (l ++ k) W1 :=
  (j.below (ball o)).put0 hg ho
theorem IJ.row (j : IJ w0 CS SS h m v l W) (hl : l.length ≤ 17592186044416) : ∃ o c, v = .slice o l.length c ∧ Row W.heap.size o 1 (intAt W) l := by
  rcases j.own.2 with ⟨rfl, h0⟩ | ⟨g, cap, cur, rfl, hb, hg, hc, hm, hs, ht⟩
  · have : l = [] := List.eq_nil_of_length_eq_zero h0
    subst this
    exact ⟨none, 0, rfl, Row.nil _ _ _ _⟩
  · refine ⟨some ⟨g, 0, none⟩, cap, rfl, ⟨by omega, .inr ⟨g, 0, rfl, lt_of_block hg, fun i hi => ?_⟩⟩⟩
    have h2 := j.own.cells (g := g) rfl i (.int .i64 l[i]) (by simp [iCells, hi])
    rw [held.add_off] at h2
    unfold intAt
    rw [show 0 + i * 1 = 0 + i by omega]
    exact h2
end
theorem ownS_eq (m : ModelD) (s : StmtD) : ownS m s = if s.kind = 1 then ownB m s.a else if s.kind = 2 then ownB m s.a && ownB m s.b else if s.kind = 4 then s.args.all (ownB m) else decide (s.kind = 7 ∨ s.kind = 8) := rfl

set_option maxRecDepth 100000 in
set_option maxHeartbeats 8000000 in
theorem dstmt_1 {h : MH} {m : ModelD} (hx : EX m) (a b n : Int) (mat : List Int) (text : ByteArray) (ha : 0 ≤ a ∧ a < m.exprs.length) (hb : b = -1) (ao mo : Option Addr) (ac mc : Nat) (w : World) (hd : MD w.heap.size w h m) :
    Calls Try.prog 18 #[mV h m, .agg (stCells ⟨1, a, b, n, [], mat, text⟩ ao mo ac mc)] w fun e w' => e = .returned (.bool (ownS m ⟨1, a, b, n, [], mat, text⟩)) ∧ Below w.heap.size w w' := by
  obtain ⟨CS, hCS⟩ : ∃ c, c = mCells h m := ⟨_, rfl⟩
  obtain ⟨i0, hi, hz0, hz1, hz2⟩ := held.info_parts held.info_int
  have HI := Lib.hid (And.intro hi (And.intro hz0 (And.intro hz1 hz2)))
  have HX := Lib.hid (Sx.new (SS := stCells ⟨1, a, b, n, [], mat, text⟩ ao mo ac mc) hd hCS)
  have HOWN := Lib.hid (fun (q : Int) (h0 : 0 ≤ q) (h1 : q < m.exprs.length) (W : World) (hd : MD W.heap.size W h m) => dOwnAt hx q h0 h1 W hd)
  have HV := Lib.hid (ownS_eq m ⟨1, a, b, n, [], mat, text⟩)
  have HQ : Hid (∀ q ∈ ([] ++ [a] : List Int), 0 ≤ q ∧ q < m.exprs.length) := Lib.hid fun q hq => by
    obtain rfl : q = a := by simpa using hq
    exact ha
  have HZ0 : Hid (ownS m ⟨1, a, b, n, [], mat, text⟩ = ([] ++ [a]).all (ownB m)) := Lib.hid (by rw [HV.out, if_pos rfl]; simp)
  obtain ⟨ha0, ha1⟩ := ha
  have hbn : ¬ 0 ≤ b := by omega
  clear hb
  unfold stCells at HX ⊢
  simp only [List.length_nil] at HX ⊢
  unfold mV at HOWN ⊢
  rw [← hCS] at HOWN ⊢
  clear hd hCS hi hz0 hz1 hz2 hx
  go_enter Try.func18, Try.ntmps18
  go_upto_region 1 with fail
  generalize (w.alloc (.cells CS 29)).alloc (.cells #[.int .i64 1, .int .i64 a, .int .i64 b, .int .i64 n, .slice ao 0 ac, .slice mo mat.length mc, .string text] 61) = W1 at HX ⊢
  have HJ0 : Hid (IJ w CS #[.int .i64 1, .int .i64 a, .int .i64 b, .int .i64 n, .slice ao 0 ac, .slice mo mat.length mc, .string text] h m (.slice none 0 0) [] W1) := Lib.hid ⟨World.ownsRow_nil _ _ _ _, HX.out⟩
  have f0 : W1.cell? ⟨w.heap.size + 1, 0, none⟩ = some (.int .i64 1) := HX.out.sb.cell rfl
  have f1 : W1.cell? ⟨w.heap.size + 1, 1, none⟩ = some (.int .i64 a) := HX.out.sb.cell rfl
  have f2 : W1.cell? ⟨w.heap.size + 1, 2, none⟩ = some (.int .i64 b) := HX.out.sb.cell rfl
  have f4 : W1.cell? ⟨w.heap.size + 1, 4, none⟩ = some (.slice ao 0 ac) := HX.out.sb.cell rfl
  clear HX
  go_wp2_with (at_builtin; first | (refine wpList_append_zero rfl _ _ 25 rfl (w.heap.size + 1 + 1) 3 i0 1 Try.underlying25 HI.out.1 (.slice none 0 0) ([] : List Int).length (iCells []) rfl HJ0.out.own ao ac rfl ?_) | (refine wpList_append_own _ rfl _ _ 25 rfl (w.heap.size + 1 + 1) 3 i0 (.int .i64 0) 1 8 Try.underlying25 HI.out.1 HI.out.2.1 HI.out.2.2.1 HI.out.2.2.2 rfl (by decide) (.slice none 0 0) ([] : List Int).length (iCells []) rfl (HJ0.out.own.alloc _) ⟨W1.heap.size, 0, none⟩ 1 1 (iCells [a]) rfl rfl (one_int _ _) (iCells_one [a]) (by unfold maxLen; simp; try omega) (by simp; try omega) (by simp; have := HJ0.out.base; omega) ?_))
  intro v1 w1 hown hgrow _
  have HJ1 : Hid (IJ w CS #[.int .i64 1, .int .i64 a, .int .i64 b, .int .i64 n, .slice ao 0 ac, .slice mo mat.length mc, .string text] h m v1 ([] ++ [a]) w1) := Lib.hid (HJ0.out.put hgrow hown)
  clear hown hgrow f0 f1 f2 f4
  have f1 : w1.cell? ⟨w.heap.size + 1, 1, none⟩ = some (.int .i64 a) := HJ1.out.sx.sb.cell rfl
  have f2 : w1.cell? ⟨w.heap.size + 1, 2, none⟩ = some (.int .i64 b) := HJ1.out.sx.sb.cell rfl
  go_upto_region 9 with fail
  clear f1 f2
  obtain ⟨RS, hRS⟩ : ∃ RS, ownS m ⟨1, a, b, n, [], mat, text⟩ = RS := ⟨_, rfl⟩
  rw [hRS] at HZ0
  have HRS := Lib.hid hRS
  clear hRS HV
  obtain ⟨lo, lc, hv, hrl⟩ := HJ1.out.row (by simp)
  obtain ⟨W8, hW8⟩ : ∃ W8, W8 = w1 := ⟨_, rfl⟩
  have HRL := Lib.hid hrl
  have HX8 := Lib.hid HJ1.out.sx
  have HVV := Lib.hid hv
  clear hrl hv hW8
  rw [HVV.out]
  have HB8 : Hid (Below w1.heap.size w1 w1) := Lib.hid (Below.refl _ _)
  obtain ⟨L, hL⟩ : ∃ L, [] ++ [a] = L := ⟨_, rfl⟩
  rw [hL] at HRL HZ0 HQ ⊢
  clear hL HJ1 W8 HVV
  have llen := HRL.out.1
  go_wp2_with fail
  go_loopw [6] (fun jv wr => ∃ j : Nat, jv = .int .i64 j ∧ j ≤ L.length ∧ Hid (∀ i (hi : i < L.length), i < j → ownB m L[i] = true) ∧ Hid (Below w1.heap.size w1 wr)) (fun jv _ => L.length - (intOf jv).toNat)
  case atStart => exact ⟨0, rfl, by omega, Lib.hid fun j _ h => by omega, HB8⟩
  case round =>
    clear HB8
    obtain ⟨j, rfl, hj, HJ, HB⟩ := hrel
    have hj0 : (0 : Int) ≤ j := by omega
    have hj00 : 0 ≤ j := by omega
    by_cases hlt : j < L.length
    · have hlti : (j : Int) < L.length := by omega
      obtain ⟨gl, offl, hlo, hgl, el⟩ := HRL.out.cell hlt
      obtain ⟨q, hq⟩ : ∃ q, L[j] = q := ⟨_, rfl⟩
      have HX := Lib.hid (HX8.out.below HB.out)
      have cl : wr.cell? ⟨gl, offl + j, none⟩ = some (.int .i64 q) := by
        have h1 := (HB.out.cell (p := ⟨gl, offl + j * 1, none⟩) hgl).trans el
        rw [Nat.mul_one, hq] at h1
        exact h1
      have hqb := HQ.out q (by rw [← hq]; exact List.getElem_mem hlt)
      have HIH := Lib.hid (HOWN.out q hqb.1 hqb.2)
      have HBAD : Hid (ownB m q = false → L.all (ownB m) = false) := Lib.hid fun h => all_bad hlt (by rw [hq]; exact h)
      have HGO : Hid (ownB m q = true → ∀ i (hi : i < L.length), i < j + 1 → ownB m L[i] = true) := Lib.hid fun h i hi hij => by
        by_cases e : i = j
        · subst e; rw [hq]; exact h
        · exact HJ.out i hi (by omega)
      have HLO := Lib.hid hlo
      have hlo2 : ∀ n : Nat, Value.slice lo n lc = Value.slice (some ⟨gl, offl, none⟩) n lc := fun n => by rw [HLO.out]
      rw [hlo2]
      have m0 := HX.out.mx.c0
      have m1 := HX.out.mx.c1
      have m2 := HX.out.mx.c2
      have m3 := HX.out.mx.c3
      have m4 := HX.out.mx.c4
      have m5 := HX.out.mx.c5
      have m6 := HX.out.mx.c6
      clear hlo hlo2 el hq hgl HJ hqb
      go_wp2_with fail
      go_still_tail 5, (by kernel_rfl)
      change wpList _ _ _ _ _ wr.drew
      have HXD := Lib.hid (HX.out.below (Below.refl _ _).drew)
      have HBD : Hid (Below w1.heap.size w1 wr.drew) := Lib.hid HB.out.drew
      generalize wr.drew = W9 at HXD HBD ⊢
      have h9 := HIH.out W9 HXD.out.mx.here
      rw [HXD.out.mx.eq] at h9
      unfold mCells at h9
      have HIH2 := Lib.hid h9
      clear m0 m1 m2 m3 m4 m5 m6 cl HIH HX h9
      go_wp2_with fail
      refine HIH2.out.mono ?_
      rintro e W10 ⟨rfl, hb10⟩
      have HB10 : Hid (Below w1.heap.size w1 W10) := Lib.hid (HBD.out.trans (hb10.mono HBD.out.size))
      clear hb10 HIH2 HXD HBD
      obtain ⟨t, ht⟩ : ∃ t, ownB m q = t := ⟨_, rfl⟩
      rw [ht] at HBAD HGO
      rw [ht]
      clear ht
      cases t
      · have HZ := Lib.hid (HZ0.out.trans (HBAD.out rfl))
        go_wp2_with fail
        go_ret
        exact ⟨retB (HRS.out.trans HZ.out).symm, (HX8.out.below HB10.out).sb.bel⟩
      · have HZ := Lib.hid (HGO.out rfl)
        go_wp2_with fail
        go_roundw
        case rel => exact ⟨j + 1, by go_num, by omega, HZ, HB10⟩
        case measure => simp [intOf]; omega
    · have hlti : ¬ (j : Int) < L.length := by omega
      have HZ := Lib.hid (HZ0.out.trans (show L.all (ownB m) = true from all_of fun i hi => HJ.out i hi (by omega)))
      go_wp2_with fail
      go_ret
      exact ⟨retB (HRS.out.trans HZ.out).symm, (HX8.out.below HB.out).sb.bel⟩
set_option maxRecDepth 100000 in
set_option maxHeartbeats 8000000 in
theorem dstmt_2 {h : MH} {m : ModelD} (hx : EX m) (a b n : Int) (mat : List Int) (text : ByteArray) (ha : 0 ≤ a ∧ a < m.exprs.length) (hb : 0 ≤ b ∧ b < m.exprs.length) (ao mo : Option Addr) (ac mc : Nat) (w : World) (hd : MD w.heap.size w h m) :
    Calls Try.prog 18 #[mV h m, .agg (stCells ⟨2, a, b, n, [], mat, text⟩ ao mo ac mc)] w fun e w' => e = .returned (.bool (ownS m ⟨2, a, b, n, [], mat, text⟩)) ∧ Below w.heap.size w w' := by
  obtain ⟨CS, hCS⟩ : ∃ c, c = mCells h m := ⟨_, rfl⟩
  obtain ⟨i0, hi, hz0, hz1, hz2⟩ := held.info_parts held.info_int
  have HI := Lib.hid (And.intro hi (And.intro hz0 (And.intro hz1 hz2)))
  have HX := Lib.hid (Sx.new (SS := stCells ⟨2, a, b, n, [], mat, text⟩ ao mo ac mc) hd hCS)
  have HOWN := Lib.hid (fun (q : Int) (h0 : 0 ≤ q) (h1 : q < m.exprs.length) (W : World) (hd : MD W.heap.size W h m) => dOwnAt hx q h0 h1 W hd)
  have HV := Lib.hid (ownS_eq m ⟨2, a, b, n, [], mat, text⟩)
  have HQ : Hid (∀ q ∈ (([] ++ [a]) ++ [b] : List Int), 0 ≤ q ∧ q < m.exprs.length) := Lib.hid fun q hq => by
    have h2 : q = a ∨ q = b := by simpa using hq
    rcases h2 with rfl | rfl
    · exact ha
    · exact hb
  have HZ0 : Hid (ownS m ⟨2, a, b, n, [], mat, text⟩ = (([] ++ [a]) ++ [b]).all (ownB m)) := Lib.hid (by rw [HV.out, if_neg (show ¬ ((2 : Int) = 1) by decide), if_pos rfl]; simp)
  obtain ⟨ha0, ha1⟩ := ha
  obtain ⟨hb0, hb1⟩ := hb
  unfold stCells at HX ⊢
  simp only [List.length_nil] at HX ⊢
  unfold mV at HOWN ⊢
  rw [← hCS] at HOWN ⊢
  clear hd hCS hi hz0 hz1 hz2 hx
  go_enter Try.func18, Try.ntmps18
  go_upto_region 1 with fail
  generalize (w.alloc (.cells CS 29)).alloc (.cells #[.int .i64 2, .int .i64 a, .int .i64 b, .int .i64 n, .slice ao 0 ac, .slice mo mat.length mc, .string text] 61) = W1 at HX ⊢
  have HJ0 : Hid (IJ w CS #[.int .i64 2, .int .i64 a, .int .i64 b, .int .i64 n, .slice ao 0 ac, .slice mo mat.length mc, .string text] h m (.slice none 0 0) [] W1) := Lib.hid ⟨World.ownsRow_nil _ _ _ _, HX.out⟩
  have f0 : W1.cell? ⟨w.heap.size + 1, 0, none⟩ = some (.int .i64 2) := HX.out.sb.cell rfl
  have f1 : W1.cell? ⟨w.heap.size + 1, 1, none⟩ = some (.int .i64 a) := HX.out.sb.cell rfl
  have f2 : W1.cell? ⟨w.heap.size + 1, 2, none⟩ = some (.int .i64 b) := HX.out.sb.cell rfl
  have f4 : W1.cell? ⟨w.heap.size + 1, 4, none⟩ = some (.slice ao 0 ac) := HX.out.sb.cell rfl
  clear HX
  go_wp2_with (at_builtin; first | (refine wpList_append_zero rfl _ _ 25 rfl (w.heap.size + 1 + 1) 3 i0 1 Try.underlying25 HI.out.1 (.slice none 0 0) ([] : List Int).length (iCells []) rfl HJ0.out.own ao ac rfl ?_) | (refine wpList_append_own _ rfl _ _ 25 rfl (w.heap.size + 1 + 1) 3 i0 (.int .i64 0) 1 8 Try.underlying25 HI.out.1 HI.out.2.1 HI.out.2.2.1 HI.out.2.2.2 rfl (by decide) (.slice none 0 0) ([] : List Int).length (iCells []) rfl (HJ0.out.own.alloc _) ⟨W1.heap.size, 0, none⟩ 1 1 (iCells [a]) rfl rfl (one_int _ _) (iCells_one [a]) (by unfold maxLen; simp; try omega) (by simp; try omega) (by simp; have := HJ0.out.base; omega) ?_))
  intro v1 w1 hown hgrow _
  have HJ1 : Hid (IJ w CS #[.int .i64 2, .int .i64 a, .int .i64 b, .int .i64 n, .slice ao 0 ac, .slice mo mat.length mc, .string text] h m v1 ([] ++ [a]) w1) := Lib.hid (HJ0.out.put hgrow hown)
  clear hown hgrow f0 f1 f2 f4
  have f1 : w1.cell? ⟨w.heap.size + 1, 1, none⟩ = some (.int .i64 a) := HJ1.out.sx.sb.cell rfl
  have f2 : w1.cell? ⟨w.heap.size + 1, 2, none⟩ = some (.int .i64 b) := HJ1.out.sx.sb.cell rfl
  go_wp2_with (at_builtin; (refine wpList_append_own _ rfl _ _ 25 rfl (w.heap.size + 1 + 1) 3 i0 (.int .i64 0) 1 8 Try.underlying25 HI.out.1 HI.out.2.1 HI.out.2.2.1 HI.out.2.2.2 rfl (by decide) v1 (([] ++ [a]) : List Int).length (iCells ([] ++ [a])) rfl (HJ1.out.own.alloc _) ⟨w1.heap.size, 0, none⟩ 1 1 (iCells [b]) rfl rfl (one_int _ _) (iCells_one [b]) (by unfold maxLen; simp; try omega) (by simp; try omega) (by simp; have := HJ1.out.base; omega) ?_))
  intro v2 w2 hown hgrow _
  have HJ2 : Hid (IJ w CS #[.int .i64 2, .int .i64 a, .int .i64 b, .int .i64 n, .slice ao 0 ac, .slice mo mat.length mc, .string text] h m v2 (([] ++ [a]) ++ [b]) w2) := Lib.hid (HJ1.out.put hgrow hown)
  clear hown hgrow f1 f2
  go_upto_region 9 with fail
  obtain ⟨RS, hRS⟩ : ∃ RS, ownS m ⟨2, a, b, n, [], mat, text⟩ = RS := ⟨_, rfl⟩
  rw [hRS] at HZ0
  have HRS := Lib.hid hRS
  clear hRS HV
  obtain ⟨lo, lc, hv, hrl⟩ := HJ2.out.row (by simp)
  obtain ⟨W8, hW8⟩ : ∃ W8, W8 = w2 := ⟨_, rfl⟩
  have HRL := Lib.hid hrl
  have HX8 := Lib.hid HJ2.out.sx
  have HVV := Lib.hid hv
  clear hrl hv hW8
  rw [HVV.out]
  have HB8 : Hid (Below w2.heap.size w2 w2) := Lib.hid (Below.refl _ _)
  obtain ⟨L, hL⟩ : ∃ L, ([] ++ [a]) ++ [b] = L := ⟨_, rfl⟩
  rw [hL] at HRL HZ0 HQ ⊢
  clear hL HJ2 W8 HVV
  have llen := HRL.out.1
  go_wp2_with fail
  go_loopw [6] (fun jv wr => ∃ j : Nat, jv = .int .i64 j ∧ j ≤ L.length ∧ Hid (∀ i (hi : i < L.length), i < j → ownB m L[i] = true) ∧ Hid (Below w2.heap.size w2 wr)) (fun jv _ => L.length - (intOf jv).toNat)
  case atStart => exact ⟨0, rfl, by omega, Lib.hid fun j _ h => by omega, HB8⟩
  case round =>
    clear HB8
    obtain ⟨j, rfl, hj, HJ, HB⟩ := hrel
    have hj0 : (0 : Int) ≤ j := by omega
    have hj00 : 0 ≤ j := by omega
    by_cases hlt : j < L.length
    · have hlti : (j : Int) < L.length := by omega
      obtain ⟨gl, offl, hlo, hgl, el⟩ := HRL.out.cell hlt
      obtain ⟨q, hq⟩ : ∃ q, L[j] = q := ⟨_, rfl⟩
      have HX := Lib.hid (HX8.out.below HB.out)
      have cl : wr.cell? ⟨gl, offl + j, none⟩ = some (.int .i64 q) := by
        have h1 := (HB.out.cell (p := ⟨gl, offl + j * 1, none⟩) hgl).trans el
        rw [Nat.mul_one, hq] at h1
        exact h1
      have hqb := HQ.out q (by rw [← hq]; exact List.getElem_mem hlt)
      have HIH := Lib.hid (HOWN.out q hqb.1 hqb.2)
      have HBAD : Hid (ownB m q = false → L.all (ownB m) = false) := Lib.hid fun h => all_bad hlt (by rw [hq]; exact h)
      have HGO : Hid (ownB m q = true → ∀ i (hi : i < L.length), i < j + 1 → ownB m L[i] = true) := Lib.hid fun h i hi hij => by
        by_cases e : i = j
        · subst e; rw [hq]; exact h
        · exact HJ.out i hi (by omega)
      have HLO := Lib.hid hlo
      have hlo2 : ∀ n : Nat, Value.slice lo n lc = Value.slice (some ⟨gl, offl, none⟩) n lc := fun n => by rw [HLO.out]
      rw [hlo2]
      have m0 := HX.out.mx.c0
      have m1 := HX.out.mx.c1
      have m2 := HX.out.mx.c2
      have m3 := HX.out.mx.c3
      have m4 := HX.out.mx.c4
      have m5 := HX.out.mx.c5
      have m6 := HX.out.mx.c6
      clear hlo hlo2 el hq hgl HJ hqb
      go_wp2_with fail
      go_still_tail 5, (by kernel_rfl)
      change wpList _ _ _ _ _ wr.drew
      have HXD := Lib.hid (HX.out.below (Below.refl _ _).drew)
      have HBD : Hid (Below w2.heap.size w2 wr.drew) := Lib.hid HB.out.drew
      generalize wr.drew = W9 at HXD HBD ⊢
      have h9 := HIH.out W9 HXD.out.mx.here
      rw [HXD.out.mx.eq] at h9
      unfold mCells at h9
      have HIH2 := Lib.hid h9
      clear m0 m1 m2 m3 m4 m5 m6 cl HIH HX h9
      go_wp2_with fail
      refine HIH2.out.mono ?_
      rintro e W10 ⟨rfl, hb10⟩
      have HB10 : Hid (Below w2.heap.size w2 W10) := Lib.hid (HBD.out.trans (hb10.mono HBD.out.size))
      clear hb10 HIH2 HXD HBD
      obtain ⟨t, ht⟩ : ∃ t, ownB m q = t := ⟨_, rfl⟩
      rw [ht] at HBAD HGO
      rw [ht]
      clear ht
      cases t
      · have HZ := Lib.hid (HZ0.out.trans (HBAD.out rfl))
        go_wp2_with fail
        go_ret
        exact ⟨retB (HRS.out.trans HZ.out).symm, (HX8.out.below HB10.out).sb.bel⟩
      · have HZ := Lib.hid (HGO.out rfl)
        go_wp2_with fail
        go_roundw
        case rel => exact ⟨j + 1, by go_num, by omega, HZ, HB10⟩
        case measure => simp [intOf]; omega
    · have hlti : ¬ (j : Int) < L.length := by omega
      have HZ := Lib.hid (HZ0.out.trans (show L.all (ownB m) = true from all_of fun i hi => HJ.out i hi (by omega)))
      go_wp2_with fail
      go_ret
      exact ⟨retB (HRS.out.trans HZ.out).symm, (HX8.out.below HB.out).sb.bel⟩
set_option maxRecDepth 100000 in
set_option maxHeartbeats 8000000 in
theorem dstmt_7 {h : MH} {m : ModelD} (hx : EX m) (a b n : Int) (mat : List Int) (text : ByteArray) (ha : a = -1) (hb : b = -1) (ao mo : Option Addr) (ac mc : Nat) (w : World) (hd : MD w.heap.size w h m) :
    Calls Try.prog 18 #[mV h m, .agg (stCells ⟨7, a, b, n, [], mat, text⟩ ao mo ac mc)] w fun e w' => e = .returned (.bool (ownS m ⟨7, a, b, n, [], mat, text⟩)) ∧ Below w.heap.size w w' := by
  obtain ⟨CS, hCS⟩ : ∃ c, c = mCells h m := ⟨_, rfl⟩
  obtain ⟨i0, hi, hz0, hz1, hz2⟩ := held.info_parts held.info_int
  have HI := Lib.hid (And.intro hi (And.intro hz0 (And.intro hz1 hz2)))
  have HX := Lib.hid (Sx.new (SS := stCells ⟨7, a, b, n, [], mat, text⟩ ao mo ac mc) hd hCS)
  have HOWN := Lib.hid (fun (q : Int) (h0 : 0 ≤ q) (h1 : q < m.exprs.length) (W : World) (hd : MD W.heap.size W h m) => dOwnAt hx q h0 h1 W hd)
  have HV := Lib.hid (ownS_eq m ⟨7, a, b, n, [], mat, text⟩)
  have HZ0 : Hid (ownS m ⟨7, a, b, n, [], mat, text⟩ = true) := Lib.hid (by rw [HV.out, if_neg (show ¬ ((7 : Int) = 1) by decide), if_neg (show ¬ ((7 : Int) = 2) by decide), if_neg (show ¬ ((7 : Int) = 4) by decide)]; rfl)
  have han : ¬ 0 ≤ a := by omega
  have hbn : ¬ 0 ≤ b := by omega
  clear hb ha
  unfold stCells at HX ⊢
  simp only [List.length_nil] at HX ⊢
  unfold mV at HOWN ⊢
  rw [← hCS] at HOWN ⊢
  clear hd hCS hi hz0 hz1 hz2 hx
  go_enter Try.func18, Try.ntmps18
  go_upto_region 1 with fail
  generalize (w.alloc (.cells CS 29)).alloc (.cells #[.int .i64 7, .int .i64 a, .int .i64 b, .int .i64 n, .slice ao 0 ac, .slice mo mat.length mc, .string text] 61) = W1 at HX ⊢
  have HJ0 : Hid (IJ w CS #[.int .i64 7, .int .i64 a, .int .i64 b, .int .i64 n, .slice ao 0 ac, .slice mo mat.length mc, .string text] h m (.slice none 0 0) [] W1) := Lib.hid ⟨World.ownsRow_nil _ _ _ _, HX.out⟩
  have f0 : W1.cell? ⟨w.heap.size + 1, 0, none⟩ = some (.int .i64 7) := HX.out.sb.cell rfl
  have f1 : W1.cell? ⟨w.heap.size + 1, 1, none⟩ = some (.int .i64 a) := HX.out.sb.cell rfl
  have f2 : W1.cell? ⟨w.heap.size + 1, 2, none⟩ = some (.int .i64 b) := HX.out.sb.cell rfl
  have f4 : W1.cell? ⟨w.heap.size + 1, 4, none⟩ = some (.slice ao 0 ac) := HX.out.sb.cell rfl
  clear HX
  go_wp2_with (at_builtin; refine wpList_append_zero rfl _ _ 25 rfl (w.heap.size + 1 + 1) 3 i0 1 Try.underlying25 HI.out.1 (.slice none 0 0) ([] : List Int).length (iCells []) rfl HJ0.out.own ao ac rfl ?_)
  go_wp2_with fail
  go_loopw [6] (fun jv wr => jv = .int .i64 0 ∧ W1 = wr) (fun jv _ => 0)
  case atStart => exact ⟨rfl, rfl⟩
  case round =>
    obtain ⟨rfl, hw⟩ := hrel
    subst hw
    go_wp2_with fail
    go_ret
    exact ⟨retB HZ0.out.symm, HJ0.out.sx.sb.bel⟩
set_option maxRecDepth 100000 in
set_option maxHeartbeats 8000000 in
theorem dstmt_8 {h : MH} {m : ModelD} (hx : EX m) (a b n : Int) (mat : List Int) (text : ByteArray) (ha : a = -1) (hb : b = -1) (ao mo : Option Addr) (ac mc : Nat) (w : World) (hd : MD w.heap.size w h m) :
    Calls Try.prog 18 #[mV h m, .agg (stCells ⟨8, a, b, n, [], mat, text⟩ ao mo ac mc)] w fun e w' => e = .returned (.bool (ownS m ⟨8, a, b, n, [], mat, text⟩)) ∧ Below w.heap.size w w' := by
  obtain ⟨CS, hCS⟩ : ∃ c, c = mCells h m := ⟨_, rfl⟩
  obtain ⟨i0, hi, hz0, hz1, hz2⟩ := held.info_parts held.info_int
  have HI := Lib.hid (And.intro hi (And.intro hz0 (And.intro hz1 hz2)))
  have HX := Lib.hid (Sx.new (SS := stCells ⟨8, a, b, n, [], mat, text⟩ ao mo ac mc) hd hCS)
  have HOWN := Lib.hid (fun (q : Int) (h0 : 0 ≤ q) (h1 : q < m.exprs.length) (W : World) (hd : MD W.heap.size W h m) => dOwnAt hx q h0 h1 W hd)
  have HV := Lib.hid (ownS_eq m ⟨8, a, b, n, [], mat, text⟩)
  have HZ0 : Hid (ownS m ⟨8, a, b, n, [], mat, text⟩ = true) := Lib.hid (by rw [HV.out, if_neg (show ¬ ((8 : Int) = 1) by decide), if_neg (show ¬ ((8 : Int) = 2) by decide), if_neg (show ¬ ((8 : Int) = 4) by decide)]; rfl)
  have han : ¬ 0 ≤ a := by omega
  have hbn : ¬ 0 ≤ b := by omega
  clear hb ha
  unfold stCells at HX ⊢
  simp only [List.length_nil] at HX ⊢
  unfold mV at HOWN ⊢
  rw [← hCS] at HOWN ⊢
  clear hd hCS hi hz0 hz1 hz2 hx
  go_enter Try.func18, Try.ntmps18
  go_upto_region 1 with fail
  generalize (w.alloc (.cells CS 29)).alloc (.cells #[.int .i64 8, .int .i64 a, .int .i64 b, .int .i64 n, .slice ao 0 ac, .slice mo mat.length mc, .string text] 61) = W1 at HX ⊢
  have HJ0 : Hid (IJ w CS #[.int .i64 8, .int .i64 a, .int .i64 b, .int .i64 n, .slice ao 0 ac, .slice mo mat.length mc, .string text] h m (.slice none 0 0) [] W1) := Lib.hid ⟨World.ownsRow_nil _ _ _ _, HX.out⟩
  have f0 : W1.cell? ⟨w.heap.size + 1, 0, none⟩ = some (.int .i64 8) := HX.out.sb.cell rfl
  have f1 : W1.cell? ⟨w.heap.size + 1, 1, none⟩ = some (.int .i64 a) := HX.out.sb.cell rfl
  have f2 : W1.cell? ⟨w.heap.size + 1, 2, none⟩ = some (.int .i64 b) := HX.out.sb.cell rfl
  have f4 : W1.cell? ⟨w.heap.size + 1, 4, none⟩ = some (.slice ao 0 ac) := HX.out.sb.cell rfl
  clear HX
  go_wp2_with (at_builtin; refine wpList_append_zero rfl _ _ 25 rfl (w.heap.size + 1 + 1) 3 i0 1 Try.underlying25 HI.out.1 (.slice none 0 0) ([] : List Int).length (iCells []) rfl HJ0.out.own ao ac rfl ?_)
  go_wp2_with fail
  go_loopw [6] (fun jv wr => jv = .int .i64 0 ∧ W1 = wr) (fun jv _ => 0)
  case atStart => exact ⟨rfl, rfl⟩
  case round =>
    obtain ⟨rfl, hw⟩ := hrel
    subst hw
    go_wp2_with fail
    go_ret
    exact ⟨retB HZ0.out.symm, HJ0.out.sx.sb.bel⟩
set_option maxRecDepth 100000 in
set_option maxHeartbeats 8000000 in
theorem dstmt_4 {h : MH} {m : ModelD} (hx : EX m) (a b n : Int) (args : List Int) (mat : List Int) (text : ByteArray) (ha : a = -1) (hb : b = -1) (hargs : ∀ q ∈ args, 0 ≤ q ∧ q < m.exprs.length) (hsm : args.length ≤ 17592186044416) (ao mo : Option Addr) (ac mc : Nat) (w : World) (hd : MD w.heap.size w h m) (hra : Row w.heap.size ao 1 (intAt w) args) :
    Calls Try.prog 18 #[mV h m, .agg (stCells ⟨4, a, b, n, args, mat, text⟩ ao mo ac mc)] w fun e w' => e = .returned (.bool (ownS m ⟨4, a, b, n, args, mat, text⟩)) ∧ Below w.heap.size w w' := by
  obtain ⟨CS, hCS⟩ : ∃ c, c = mCells h m := ⟨_, rfl⟩
  obtain ⟨i0, hi, hz0, hz1, hz2⟩ := held.info_parts held.info_int
  have HI := Lib.hid (And.intro hi (And.intro hz0 (And.intro hz1 hz2)))
  have HX := Lib.hid (Sx.new (SS := stCells ⟨4, a, b, n, args, mat, text⟩ ao mo ac mc) hd hCS)
  have HOWN := Lib.hid (fun (q : Int) (h0 : 0 ≤ q) (h1 : q < m.exprs.length) (W : World) (hd : MD W.heap.size W h m) => dOwnAt hx q h0 h1 W hd)
  have HV := Lib.hid (ownS_eq m ⟨4, a, b, n, args, mat, text⟩)
  have HQ0 := Lib.hid hargs
  have HZ1 : Hid (ownS m ⟨4, a, b, n, args, mat, text⟩ = args.all (ownB m)) := Lib.hid (by rw [HV.out, if_neg (show ¬ ((4 : Int) = 1) by decide), if_neg (show ¬ ((4 : Int) = 2) by decide), if_pos rfl])
  have han : ¬ 0 ≤ a := by omega
  have hbn : ¬ 0 ≤ b := by omega
  have HRA := Lib.hid hra
  have HSM := Lib.hid hsm
  have la := hra.1
  clear hb ha hra hargs
  unfold stCells at HX ⊢
  unfold mV at HOWN ⊢
  rw [← hCS] at HOWN ⊢
  clear hd hCS hi hz0 hz1 hz2 hx
  go_enter Try.func18, Try.ntmps18
  go_upto_region 1 with fail
  generalize (w.alloc (.cells CS 29)).alloc (.cells #[.int .i64 4, .int .i64 a, .int .i64 b, .int .i64 n, .slice ao args.length ac, .slice mo mat.length mc, .string text] 61) = W1 at HX ⊢
  have HJ0 : Hid (IJ w CS #[.int .i64 4, .int .i64 a, .int .i64 b, .int .i64 n, .slice ao args.length ac, .slice mo mat.length mc, .string text] h m (.slice none 0 0) [] W1) := Lib.hid ⟨World.ownsRow_nil _ _ _ _, HX.out⟩
  have f0 : W1.cell? ⟨w.heap.size + 1, 0, none⟩ = some (.int .i64 4) := HX.out.sb.cell rfl
  have f1 : W1.cell? ⟨w.heap.size + 1, 1, none⟩ = some (.int .i64 a) := HX.out.sb.cell rfl
  have f2 : W1.cell? ⟨w.heap.size + 1, 2, none⟩ = some (.int .i64 b) := HX.out.sb.cell rfl
  have f4 : W1.cell? ⟨w.heap.size + 1, 4, none⟩ = some (.slice ao args.length ac) := HX.out.sb.cell rfl
  clear HX
  by_cases h0 : args = []
  · subst h0
    have HQ : Hid (∀ q ∈ ([] : List Int), 0 ≤ q ∧ q < m.exprs.length) := HQ0
    have HZ0 := HZ1
    go_wp2_with (at_builtin; refine wpList_append_zero rfl _ _ 25 rfl (w.heap.size + 1 + 1) 3 i0 1 Try.underlying25 HI.out.1 (.slice none 0 0) ([] : List Int).length (iCells []) rfl HJ0.out.own ao ac rfl ?_)
    go_upto_region 9 with fail
    clear f0 f1 f2 f4
    obtain ⟨RS, hRS⟩ : ∃ RS, ownS m ⟨4, a, b, n, [], mat, text⟩ = RS := ⟨_, rfl⟩
    rw [hRS] at HZ0
    have HRS := Lib.hid hRS
    clear hRS HV HZ1
    have hrl : Row W1.heap.size none 1 (intAt W1) [] := Row.nil _ _ _ _
    obtain ⟨lo, hlo0⟩ : ∃ o : Option Addr, o = none := ⟨_, rfl⟩
    obtain ⟨lc, hlc0⟩ : ∃ c : Nat, c = 0 := ⟨_, rfl⟩
    have hv : Value.slice none 0 0 = Value.slice lo ([] : List Int).length lc := by rw [hlo0, hlc0]; rfl
    rw [← hlo0] at hrl
    clear hlo0 hlc0
    obtain ⟨W8, hW8⟩ : ∃ W8, W8 = W1 := ⟨_, rfl⟩
    have HRL := Lib.hid hrl
    have HX8 := Lib.hid HJ0.out.sx
    have HVV := Lib.hid hv
    clear hrl hv hW8
    rw [HVV.out]
    have HB8 : Hid (Below W1.heap.size W1 W1) := Lib.hid (Below.refl _ _)
    obtain ⟨L, hL⟩ : ∃ L, ([] : List Int) = L := ⟨_, rfl⟩
    rw [hL] at HRL HZ0 HQ ⊢
    clear hL HJ0 W8 HVV
    have llen := HRL.out.1
    go_wp2_with fail
    go_loopw [6] (fun jv wr => ∃ j : Nat, jv = .int .i64 j ∧ j ≤ L.length ∧ Hid (∀ i (hi : i < L.length), i < j → ownB m L[i] = true) ∧ Hid (Below W1.heap.size W1 wr)) (fun jv _ => L.length - (intOf jv).toNat)
    case atStart => exact ⟨0, rfl, by omega, Lib.hid fun j _ h => by omega, HB8⟩
    case round =>
      clear HB8
      obtain ⟨j, rfl, hj, HJ, HB⟩ := hrel
      have hj0 : (0 : Int) ≤ j := by omega
      have hj00 : 0 ≤ j := by omega
      by_cases hlt : j < L.length
      · have hlti : (j : Int) < L.length := by omega
        obtain ⟨gl, offl, hlo, hgl, el⟩ := HRL.out.cell hlt
        obtain ⟨q, hq⟩ : ∃ q, L[j] = q := ⟨_, rfl⟩
        have HX := Lib.hid (HX8.out.below HB.out)
        have cl : wr.cell? ⟨gl, offl + j, none⟩ = some (.int .i64 q) := by
          have h1 := (HB.out.cell (p := ⟨gl, offl + j * 1, none⟩) hgl).trans el
          rw [Nat.mul_one, hq] at h1
          exact h1
        have hqb := HQ.out q (by rw [← hq]; exact List.getElem_mem hlt)
        have HIH := Lib.hid (HOWN.out q hqb.1 hqb.2)
        have HBAD : Hid (ownB m q = false → L.all (ownB m) = false) := Lib.hid fun h => all_bad hlt (by rw [hq]; exact h)
        have HGO : Hid (ownB m q = true → ∀ i (hi : i < L.length), i < j + 1 → ownB m L[i] = true) := Lib.hid fun h i hi hij => by
          by_cases e : i = j
          · subst e; rw [hq]; exact h
          · exact HJ.out i hi (by omega)
        have HLO := Lib.hid hlo
        have hlo2 : ∀ n : Nat, Value.slice lo n lc = Value.slice (some ⟨gl, offl, none⟩) n lc := fun n => by rw [HLO.out]
        rw [hlo2]
        have m0 := HX.out.mx.c0
        have m1 := HX.out.mx.c1
        have m2 := HX.out.mx.c2
        have m3 := HX.out.mx.c3
        have m4 := HX.out.mx.c4
        have m5 := HX.out.mx.c5
        have m6 := HX.out.mx.c6
        clear hlo hlo2 el hq hgl HJ hqb
        go_wp2_with fail
        go_still_tail 5, (by kernel_rfl)
        change wpList _ _ _ _ _ wr.drew
        have HXD := Lib.hid (HX.out.below (Below.refl _ _).drew)
        have HBD : Hid (Below W1.heap.size W1 wr.drew) := Lib.hid HB.out.drew
        generalize wr.drew = W9 at HXD HBD ⊢
        have h9 := HIH.out W9 HXD.out.mx.here
        rw [HXD.out.mx.eq] at h9
        unfold mCells at h9
        have HIH2 := Lib.hid h9
        clear m0 m1 m2 m3 m4 m5 m6 cl HIH HX h9
        go_wp2_with fail
        refine HIH2.out.mono ?_
        rintro e W10 ⟨rfl, hb10⟩
        have HB10 : Hid (Below W1.heap.size W1 W10) := Lib.hid (HBD.out.trans (hb10.mono HBD.out.size))
        clear hb10 HIH2 HXD HBD
        obtain ⟨t, ht⟩ : ∃ t, ownB m q = t := ⟨_, rfl⟩
        rw [ht] at HBAD HGO
        rw [ht]
        clear ht
        cases t
        · have HZ := Lib.hid (HZ0.out.trans (HBAD.out rfl))
          go_wp2_with fail
          go_ret
          exact ⟨retB (HRS.out.trans HZ.out).symm, (HX8.out.below HB10.out).sb.bel⟩
        · have HZ := Lib.hid (HGO.out rfl)
          go_wp2_with fail
          go_roundw
          case rel => exact ⟨j + 1, by go_num, by omega, HZ, HB10⟩
          case measure => simp [intOf]; omega
      · have hlti : ¬ (j : Int) < L.length := by omega
        have HZ := Lib.hid (HZ0.out.trans (show L.all (ownB m) = true from all_of fun i hi => HJ.out i hi (by omega)))
        go_wp2_with fail
        go_ret
        exact ⟨retB (HRS.out.trans HZ.out).symm, (HX8.out.below HB.out).sb.bel⟩
  · obtain ⟨g, off, hao, hg, -⟩ : ∃ g off, ao = some ⟨g, off, none⟩ ∧ g < w.heap.size ∧ True := by
      rcases HRA.out.2 with h1 | ⟨g, off, h1, h2, -⟩
      · exact absurd (List.eq_nil_of_length_eq_zero h1) h0
      · exact ⟨g, off, h1, h2, trivial⟩
    subst hao
    have HN : Hid (∀ j u, (iCells args)[j]? = some u → W1.cell? ((⟨g, off, none⟩ : Addr).add j) = some u) := Lib.hid fun j u hj => by
      have hj2 : j < args.length := by
        have := (List.getElem?_eq_some_iff.1 hj).1
        simpa [iCells] using this
      obtain ⟨g', off', e1, hg', e2⟩ := HRA.out.cell hj2
      injection e1 with e1
      injection e1 with e1 e3
      subst e1 e3
      rw [held.add_off]
      have e4 : u = .int .i64 args[j] := by
        simp [iCells, hj2] at hj
        exact hj.symm
      rw [e4, HJ0.out.sx.sb.bel.cell (p := ⟨g, off + j, none⟩) hg]
      have := e2
      unfold intAt at this
      rw [Nat.mul_one] at this
      exact this
    have HLN : Hid ((iCells args).length = args.length * 1) := Lib.hid (by simp [iCells])
    have HSZ : Hid (([] : List Int).length + args.length ≤ maxLen ∧ (([] : List Int).length + args.length) * 8 ≤ 140737488355328) := Lib.hid (by have := HSM.out; simp; unfold maxLen; omega)
    have HQ : Hid (∀ q ∈ ([] ++ args : List Int), 0 ≤ q ∧ q < m.exprs.length) := HQ0
    have HZ0 : Hid (ownS m ⟨4, a, b, n, args, mat, text⟩ = ([] ++ args).all (ownB m)) := HZ1
    clear h0 hg hsm
    go_wp2_with (at_builtin; refine wpList_append_own _ rfl _ _ 25 rfl (w.heap.size + 1 + 1) 3 i0 (.int .i64 0) 1 8 Try.underlying25 HI.out.1 HI.out.2.1 HI.out.2.2.1 HI.out.2.2.2 rfl (by decide) (.slice none 0 0) ([] : List Int).length (iCells []) rfl HJ0.out.own ⟨g, off, none⟩ args.length ac (iCells args) rfl HLN.out HN.out (iCells_one args) HSZ.out.1 HSZ.out.2 (by have := HJ0.out.base; omega) ?_)
    intro v9 w9 hown hgrow _
    have HJ9 : Hid (IJ w CS #[.int .i64 4, .int .i64 a, .int .i64 b, .int .i64 n, .slice (some ⟨g, off, none⟩) args.length ac, .slice mo mat.length mc, .string text] h m v9 ([] ++ args) w9) := Lib.hid (HJ0.out.put0 hgrow (by simpa using hown))
    clear hown hgrow f0 f1 f2 f4
    have f1 : w9.cell? ⟨w.heap.size + 1, 1, none⟩ = some (.int .i64 a) := HJ9.out.sx.sb.cell rfl
    have f2 : w9.cell? ⟨w.heap.size + 1, 2, none⟩ = some (.int .i64 b) := HJ9.out.sx.sb.cell rfl
    go_upto_region 9 with fail
    clear f1 f2
    obtain ⟨RS, hRS⟩ : ∃ RS, ownS m ⟨4, a, b, n, args, mat, text⟩ = RS := ⟨_, rfl⟩
    rw [hRS] at HZ0
    have HRS := Lib.hid hRS
    clear hRS HV HZ1
    obtain ⟨lo, lc, hv, hrl⟩ := HJ9.out.row (by simpa using HSM.out)
    obtain ⟨W8, hW8⟩ : ∃ W8, W8 = w9 := ⟨_, rfl⟩
    have HRL := Lib.hid hrl
    have HX8 := Lib.hid HJ9.out.sx
    have HVV := Lib.hid hv
    clear hrl hv hW8
    rw [HVV.out]
    have HB8 : Hid (Below w9.heap.size w9 w9) := Lib.hid (Below.refl _ _)
    obtain ⟨L, hL⟩ : ∃ L, [] ++ args = L := ⟨_, rfl⟩
    rw [hL] at HRL HZ0 HQ ⊢
    clear hL HJ9 W8 HVV
    have llen := HRL.out.1
    go_wp2_with fail
    go_loopw [6] (fun jv wr => ∃ j : Nat, jv = .int .i64 j ∧ j ≤ L.length ∧ Hid (∀ i (hi : i < L.length), i < j → ownB m L[i] = true) ∧ Hid (Below w9.heap.size w9 wr)) (fun jv _ => L.length - (intOf jv).toNat)
    case atStart => exact ⟨0, rfl, by omega, Lib.hid fun j _ h => by omega, HB8⟩
    case round =>
      clear HB8
      obtain ⟨j, rfl, hj, HJ, HB⟩ := hrel
      have hj0 : (0 : Int) ≤ j := by omega
      have hj00 : 0 ≤ j := by omega
      by_cases hlt : j < L.length
      · have hlti : (j : Int) < L.length := by omega
        obtain ⟨gl, offl, hlo, hgl, el⟩ := HRL.out.cell hlt
        obtain ⟨q, hq⟩ : ∃ q, L[j] = q := ⟨_, rfl⟩
        have HX := Lib.hid (HX8.out.below HB.out)
        have cl : wr.cell? ⟨gl, offl + j, none⟩ = some (.int .i64 q) := by
          have h1 := (HB.out.cell (p := ⟨gl, offl + j * 1, none⟩) hgl).trans el
          rw [Nat.mul_one, hq] at h1
          exact h1
        have hqb := HQ.out q (by rw [← hq]; exact List.getElem_mem hlt)
        have HIH := Lib.hid (HOWN.out q hqb.1 hqb.2)
        have HBAD : Hid (ownB m q = false → L.all (ownB m) = false) := Lib.hid fun h => all_bad hlt (by rw [hq]; exact h)
        have HGO : Hid (ownB m q = true → ∀ i (hi : i < L.length), i < j + 1 → ownB m L[i] = true) := Lib.hid fun h i hi hij => by
          by_cases e : i = j
          · subst e; rw [hq]; exact h
          · exact HJ.out i hi (by omega)
        have HLO := Lib.hid hlo
        have hlo2 : ∀ n : Nat, Value.slice lo n lc = Value.slice (some ⟨gl, offl, none⟩) n lc := fun n => by rw [HLO.out]
        rw [hlo2]
        have m0 := HX.out.mx.c0
        have m1 := HX.out.mx.c1
        have m2 := HX.out.mx.c2
        have m3 := HX.out.mx.c3
        have m4 := HX.out.mx.c4
        have m5 := HX.out.mx.c5
        have m6 := HX.out.mx.c6
        clear hlo hlo2 el hq hgl HJ hqb
        go_wp2_with fail
        go_still_tail 5, (by kernel_rfl)
        change wpList _ _ _ _ _ wr.drew
        have HXD := Lib.hid (HX.out.below (Below.refl _ _).drew)
        have HBD : Hid (Below w9.heap.size w9 wr.drew) := Lib.hid HB.out.drew
        generalize wr.drew = W9 at HXD HBD ⊢
        have h9 := HIH.out W9 HXD.out.mx.here
        rw [HXD.out.mx.eq] at h9
        unfold mCells at h9
        have HIH2 := Lib.hid h9
        clear m0 m1 m2 m3 m4 m5 m6 cl HIH HX h9
        go_wp2_with fail
        refine HIH2.out.mono ?_
        rintro e W10 ⟨rfl, hb10⟩
        have HB10 : Hid (Below w9.heap.size w9 W10) := Lib.hid (HBD.out.trans (hb10.mono HBD.out.size))
        clear hb10 HIH2 HXD HBD
        obtain ⟨t, ht⟩ : ∃ t, ownB m q = t := ⟨_, rfl⟩
        rw [ht] at HBAD HGO
        rw [ht]
        clear ht
        cases t
        · have HZ := Lib.hid (HZ0.out.trans (HBAD.out rfl))
          go_wp2_with fail
          go_ret
          exact ⟨retB (HRS.out.trans HZ.out).symm, (HX8.out.below HB10.out).sb.bel⟩
        · have HZ := Lib.hid (HGO.out rfl)
          go_wp2_with fail
          go_roundw
          case rel => exact ⟨j + 1, by go_num, by omega, HZ, HB10⟩
          case measure => simp [intOf]; omega
      · have hlti : ¬ (j : Int) < L.length := by omega
        have HZ := Lib.hid (HZ0.out.trans (show L.all (ownB m) = true from all_of fun i hi => HJ.out i hi (by omega)))
        go_wp2_with fail
        go_ret
        exact ⟨retB (HRS.out.trans HZ.out).symm, (HX8.out.below HB.out).sb.bel⟩
set_option maxRecDepth 100000 in
theorem dstmt_no {h : MH} {m : ModelD} (s : StmtD) (hk : ¬ (s.kind = 1 ∨ s.kind = 2 ∨ s.kind = 4 ∨ s.kind = 7 ∨ s.kind = 8)) (ao mo : Option Addr) (ac mc : Nat) (w : World) (hd : MD w.heap.size w h m) :
    Calls Try.prog 18 #[mV h m, .agg (stCells s ao mo ac mc)] w fun e w' => e = .returned (.bool (ownS m s)) ∧ Below w.heap.size w w' := by
  obtain ⟨CS, hCS⟩ : ∃ c, c = mCells h m := ⟨_, rfl⟩
  have HX := Lib.hid (Sx.new (SS := stCells s ao mo ac mc) hd hCS)
  have HZ : Hid (ownS m s = false) := Lib.hid (by rw [ownS_eq, if_neg (by omega), if_neg (by omega), if_neg (by omega)]; exact decide_eq_false (by omega))
  have b1 : (s.kind != 1) = true := by rw [bne_iff_ne]; omega
  have b2 : (s.kind != 2) = true := by rw [bne_iff_ne]; omega
  have b4 : (s.kind != 4) = true := by rw [bne_iff_ne]; omega
  have b7 : (s.kind != 7) = true := by rw [bne_iff_ne]; omega
  have b8 : (s.kind != 8) = true := by rw [bne_iff_ne]; omega
  unfold stCells at HX ⊢
  unfold mV
  rw [← hCS]
  clear hd hCS hk
  go_enter Try.func18, Try.ntmps18
  go_upto_region 1 with fail
  generalize (w.alloc (.cells CS 29)).alloc (.cells #[.int .i64 s.kind, .int .i64 s.a, .int .i64 s.b, .int .i64 s.n, .slice ao s.args.length ac, .slice mo s.mat.length mc, .string s.text] 61) = W1 at HX ⊢
  have f0 : W1.cell? ⟨w.heap.size + 1, 0, none⟩ = some (.int .i64 s.kind) := HX.out.sb.cell rfl
  go_wp2_with fail
  go_ret
  exact ⟨retB HZ.out.symm, HX.out.sb.bel⟩
/-- Every statement of a good model. -/
theorem dStatementH {h : MH} {m : ModelD} (hx : EX m) (s : StmtD) (hsb : stmtB m s = true) (hsm : s.args.length ≤ 17592186044416) (ao mo : Option Addr) (ac mc : Nat) (w : World) (hd : MD w.heap.size w h m) (hra : Row w.heap.size ao 1 (intAt w) s.args) :
    Calls Try.prog 18 #[mV h m, .agg (stCells s ao mo ac mc)] w fun e w' => e = .returned (.bool (ownS m s)) ∧ Below w.heap.size w w' := by
  obtain ⟨q1, q2, q3, q4, q5, q6⟩ := stmt_parts hsb
  obtain ⟨kind, a, b, n, args, mat, text⟩ := s
  simp only at q1 q2 q3 q4 q5 q6 hsm hra
  by_cases h1 : kind = 1
  · subst h1
    obtain ⟨ha, rfl⟩ := q1 (.inl rfl)
    exact dstmt_1 hx a b n mat text ha (q3 rfl) ao mo ac mc w hd
  by_cases h2 : kind = 2
  · subst h2
    obtain ⟨ha, rfl⟩ := q1 (.inr rfl)
    exact dstmt_2 hx a b n mat text ha (q2 rfl) ao mo ac mc w hd
  by_cases h4 : kind = 4
  · subst h4
    obtain ⟨ha, hb⟩ := q4 rfl
    exact dstmt_4 hx a b n args mat text ha hb q6 hsm ao mo ac mc w hd hra
  by_cases h7 : kind = 7
  · subst h7
    obtain ⟨ha, hb, rfl⟩ := q5 (.inl rfl)
    exact dstmt_7 hx a b n mat text ha hb ao mo ac mc w hd
  by_cases h8 : kind = 8
  · subst h8
    obtain ⟨ha, hb, rfl⟩ := q5 (.inr rfl)
    exact dstmt_8 hx a b n mat text ha hb ao mo ac mc w hd
  · exact dstmt_no _ (by simp only; omega) ao mo ac mc w hd
end Go.Proofs.Ytofdfaopabmfoaa
