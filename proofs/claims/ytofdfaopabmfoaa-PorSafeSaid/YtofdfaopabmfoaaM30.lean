/- A region that draws its order and whose callees may lay new blocks, but turn nothing that was there: one walk, in the order of the text. The class of worlds is 'nothing below has turned'; it is handed over as a family, so that the library's own steps see through it. -/
import Derived.WalkKit
import Derived.ProofKit
import Derived.Below
import Derived.Outline
import Derived.BigQuiet
import Derived.Deep.QuietTactic
import Derived.Test.YtofdfaopabmfoaaM29
namespace Go.Proofs.Ytofdfaopabmfoaa
open Go.ChangeShapes Go.WideShapes Go.ChangeAt Go.RowKit

theorem wp_region_kept {P : Program} {id : Nat} {Q : Exit → Act → World → Prop} {a : Act} {w : World} {l : List Oper} (hm : P.follows .mixedOrders = true) (hB : Region.lexB .any l.toArray = true)
    (h : ∀ (ι : Type) (_ : Nonempty ι) (f : ι → World), (∀ n, Below w.heap.size w (f n)) → (∀ n w', Below (f n).heap.size (f n) w' → ∃ m, w' = f m) →
      wpQuiet P l.toArray (fun w' => ∃ n, w' = f n) (fun a' => ∀ w', Below w.heap.size w w' → Q .normal a' w') l a) : (Code.region id l.toArray true).wp P Q a w := by
  refine wp_region_quiet (C := fun w' => ∃ n : { x // Below w.heap.size w x }, w' = n.1) hm hB ⟨⟨_, (Below.refl _ _).drew⟩, rfl⟩ ?_
  have h1 := h { x // Below w.heap.size w x } ⟨⟨w, Below.refl _ _⟩⟩ (fun n => n.1) (fun n => n.2) (fun n w' hw => ⟨⟨w', n.2.trans (hw.mono n.2.size)⟩, rfl⟩)
  have e : (fun a' => ∀ w', Below w.heap.size w w' → Q .normal a' w') = (fun a' => ∀ w', (∃ n : { x // Below w.heap.size w x }, w' = n.1) → Q .normal a' w') := by
    funext a'
    apply propext
    constructor
    · rintro g w' ⟨n, rfl⟩
      exact g _ n.2
    · intro g w' hw
      exact g w' ⟨⟨w', hw⟩, rfl⟩
  rw [e] at h1
  simpa using h1

/-- A callee that lays new blocks alone, met in such a region. -/
theorem kept_of {P : Program} {F : FuncId} {args : Array Value} {v : Value} {ι : Type} {f : ι → World} (hcl : ∀ n w', Below (f n).heap.size (f n) w' → ∃ m, w' = f m) (n : ι)
    (h : Calls P F args (f n) fun e w' => e = .returned v ∧ Below (f n).heap.size (f n) w') : Calls P F args (f n) fun e w' => e = .returned v ∧ ∃ m, w' = f m :=
  h.mono fun _ _ ⟨he, hb⟩ => ⟨he, hcl n _ hb⟩
end Go.Proofs.Ytofdfaopabmfoaa
/- The looker: which statements touch their own alone. -/
namespace Go.Proofs.Ytofdfaopabmfoaa
open Go.ChangeShapes Go.WideShapes Go.ChangeAt Go.RowKit
set_option linter.unusedVariables false
set_option linter.unusedSimpArgs false

theorem keepB2 {w w1 w2 : World} (h : Below w.heap.size w w1) (hb : Below w1.heap.size w1 w2) : Below w.heap.size w w2 := h.trans (hb.mono h.size)
set_option maxRecDepth 100000 in
set_option maxHeartbeats 4000000 in
theorem ownStmtC {B pl pm pp g a : Nat} {CS : Array Value} {h : MH} {m : ModelD} (hex : EX m) (s : StmtD) (hsb : stmtB m s = true) (w : World) (hl : Lk B pl pm pp CS h m w) (hs : stmtAt B w g a s) (hg : g < B) :
    Calls Try.prog 30 #[.pointer (some ⟨pl, 0, none⟩), .pointer (some ⟨g, a, none⟩)] w fun e w' => e = .returned (.bool (ownS m s)) ∧ Below w.heap.size w w' := by
  have HSP := Lib.hid (stmt_parts hsb)
  have HL := Lib.hid hl
  have HOWN := Lib.hid (fun (q : Int) (h0 : 0 ≤ q) (h1 : q < m.exprs.length) (W : World) (hL : Lk B pl pm pp CS h m W) => ownAt hex q h0 h1 W hL)
  obtain ⟨ao, ac, y4, hra⟩ := hs.args
  have HRA := Lib.hid hra
  have la := hra.1
  have y0 := hs.c0
  have y1 := hs.c1
  have y2 := hs.c2
  have l1 := hl.l1
  have hgw : g < w.heap.size := by have := hl.le; omega
  have HY1 : Hid (∀ W, Below w.heap.size w W → W.cell? ⟨g, a + 1, none⟩ = some (.int .i64 s.a)) := Lib.hid fun W hb => (hb.cell (p := ⟨g, a + 1, none⟩) hgw).trans hs.c1
  have HY2 : Hid (∀ W, Below w.heap.size w W → W.cell? ⟨g, a + 2, none⟩ = some (.int .i64 s.b)) := Lib.hid fun W hb => (hb.cell (p := ⟨g, a + 2, none⟩) hgw).trans hs.c2
  have HVV : Hid (ownS m s = if s.kind = 1 then ownB m s.a else if s.kind = 2 then ownB m s.a && ownB m s.b else if s.kind = 4 then s.args.all (ownB m) else decide (s.kind = 7 ∨ s.kind = 8)) := Lib.hid rfl
  obtain ⟨kd, hkd⟩ : ∃ kd, s.kind = kd := ⟨_, rfl⟩
  rw [hkd] at y0 HVV
  have hrun := own_run
  clear hs hra hl hsb
  by_cases h1 : kd = 1
  · subst h1
    obtain ⟨⟨ha0, ha1⟩, -⟩ := HSP.out.1 (.inl hkd)
    have HZ : Hid (ownS m s = ownB m s.a) := HVV
    have HOA := Lib.hid (HOWN.out s.a ha0 ha1)
    clear hkd HSP
    go_enter Try.func30, Try.ntmps30
    go_wp2_with fail
    go_still_tail 8, (by kernel_rfl)
    change wpList _ _ _ _ _ w.drew
    have HL2 := Lib.hid (HL.out.below (Below.refl _ _).drew)
    have HB2 : Hid (Below w.heap.size w w.drew) := Lib.hid (Below.refl _ _).drew
    generalize w.drew = W2 at HL2 HB2 ⊢
    clear y0 y1 y2 y4 l1
    go_wp2_with fail
    refine (HOA.out W2 HL2.out).mono ?_
    rintro e W3 ⟨rfl, hb3⟩
    have HB3 := Lib.hid (HB2.out.trans (hb3.mono HB2.out.size))
    clear hb3
    go_wp2_with fail
    go_ret
    exact ⟨retB HZ.out.symm, HB3.out⟩
  have b1 : (kd == 1) = false := by rw [beq_eq_false_iff_ne]; exact h1
  by_cases h2 : kd = 2
  · subst h2
    obtain ⟨⟨ha0, ha1⟩, -⟩ := HSP.out.1 (.inr hkd)
    obtain ⟨hb0, hb1⟩ := HSP.out.2.1 hkd
    have HZ : Hid (ownS m s = (ownB m s.a && ownB m s.b)) := HVV
    have HOA := Lib.hid (HOWN.out s.a ha0 ha1)
    have HOB := Lib.hid (HOWN.out s.b hb0 hb1)
    clear hkd HSP h1
    have HLD := Lib.hid (HL.out.below (Below.refl _ _).drew)
    have HBD : Hid (Below w.heap.size w w.drew) := Lib.hid (Below.refl _ _).drew
    have n1 := HY1.out _ HBD.out
    have n2 := HY2.out _ HBD.out
    have m1 := HLD.out.l1
    have HOAL : Hid (∀ W, Below w.heap.size w W → Calls Try.prog 28 #[.int .i64 s.a, .pointer (some ⟨pm, 0, none⟩), .pointer (some ⟨pp, 0, none⟩)] W fun e w' => e = .returned (.bool (ownB m s.a)) ∧ Below W.heap.size W w') := Lib.hid fun W hb => HOA.out W (HL.out.below hb)
    have HOBL : Hid (∀ W, Below w.heap.size w W → Calls Try.prog 28 #[.int .i64 s.b, .pointer (some ⟨pm, 0, none⟩), .pointer (some ⟨pp, 0, none⟩)] W fun e w' => e = .returned (.bool (ownB m s.b)) ∧ Below W.heap.size W w') := Lib.hid fun W hb => HOB.out W (HL.out.below hb)
    clear n1 n2 m1 HOA HOB
    cases hu : ownB m s.a
    · have HU := Lib.hid hu
      have HZ2 : Hid (ownS m s = false) := Lib.hid (by rw [HZ.out, hu]; rfl)
      rw [hu] at HOAL
      clear hu
      go_enter Try.func30, Try.ntmps30
      go_wp2_with fail
      clear y0 y1 y2 y4 l1
      refine wp_region_kept (by kernel_rfl) (by kernel_rfl) (fun ι hne f hf hcl => ?_)
      have z1 : ∀ n, (f n).cell? ⟨pl, 1, none⟩ = some (.func (.func 28) #[] #[.pointer (some ⟨pm, 0, none⟩), .pointer (some ⟨pp, 0, none⟩)]) := fun n => (HL.out.below (hf n)).l1
      have z2 : ∀ n, (f n).cell? ⟨g, a + 1, none⟩ = some (.int .i64 s.a) := fun n => HY1.out _ (hf n)
      have z3 : ∀ n, (f n).cell? ⟨g, a + 2, none⟩ = some (.int .i64 s.b) := fun n => HY2.out _ (hf n)
      have HA := Lib.hid (fun n => HOAL.out _ (hf n))
      have HB := Lib.hid (fun n => HOBL.out _ (hf n))
      have HF := Lib.hid hcl
      clear hcl hf hrun
      repeat (go_big_quiet_step ((go_at_call 28; first | with_reducible exact kept_of HF.out _ (HA.out _) | with_reducible exact kept_of HF.out _ (HB.out _))))
      refine wpQuiet_nil ?_
      intro W6 hb6
      have HB6 := Lib.hid hb6
      clear hb6 z1 z2 z3
      go_wp2_with fail
      go_ret
      exact ⟨retB HZ2.out.symm, HB6.out⟩
    · have HU := Lib.hid hu
      have HZ2 : Hid (ownS m s = ownB m s.b) := Lib.hid (by rw [HZ.out, hu]; rfl)
      rw [hu] at HOAL
      clear hu
      go_enter Try.func30, Try.ntmps30
      go_wp2_with fail
      clear y0 y1 y2 y4 l1
      refine wp_region_kept (by kernel_rfl) (by kernel_rfl) (fun ι hne f hf hcl => ?_)
      have z1 : ∀ n, (f n).cell? ⟨pl, 1, none⟩ = some (.func (.func 28) #[] #[.pointer (some ⟨pm, 0, none⟩), .pointer (some ⟨pp, 0, none⟩)]) := fun n => (HL.out.below (hf n)).l1
      have z2 : ∀ n, (f n).cell? ⟨g, a + 1, none⟩ = some (.int .i64 s.a) := fun n => HY1.out _ (hf n)
      have z3 : ∀ n, (f n).cell? ⟨g, a + 2, none⟩ = some (.int .i64 s.b) := fun n => HY2.out _ (hf n)
      have HA := Lib.hid (fun n => HOAL.out _ (hf n))
      have HB := Lib.hid (fun n => HOBL.out _ (hf n))
      have HF := Lib.hid hcl
      clear hcl hf hrun
      repeat (go_big_quiet_step ((go_at_call 28; first | with_reducible exact kept_of HF.out _ (HA.out _) | with_reducible exact kept_of HF.out _ (HB.out _))))
      refine wpQuiet_nil ?_
      intro W6 hb6
      have HB6 := Lib.hid hb6
      clear hb6 z1 z2 z3
      go_wp2_with fail
      go_ret
      exact ⟨retB HZ2.out.symm, HB6.out⟩
  have b2 : (kd == 2) = false := by rw [beq_eq_false_iff_ne]; exact h2
  by_cases h4 : kd = 4
  · subst h4
    have HZ : Hid (ownS m s = s.args.all (ownB m)) := HVV
    have HAR := Lib.hid (HSP.out.2.2.2.2.2)
    clear hkd HSP h1 h2
    go_enter Try.func30, Try.ntmps30
    go_wp2_with fail
    clear y0 y1 y2 y4 l1 b1 b2
    go_loopw [51] (fun iv W => ∃ j : Nat, iv = .int .i64 j ∧ j ≤ s.args.length ∧ Hid (∀ i (hi : i < s.args.length), i < j → ownB m s.args[i] = true) ∧ Hid (Below w.heap.size w W)) (fun iv _ => s.args.length - (intOf iv).toNat)
    case atStart => exact ⟨0, rfl, by omega, Lib.hid fun j _ h => by omega, Lib.hid (Below.refl _ _)⟩
    case round =>
      obtain ⟨j, rfl, hj, HJ, HB⟩ := hrel
      have hj0 : (0 : Int) ≤ j := by omega
      by_cases hlt : j < s.args.length
      · have hlti : (j : Int) < s.args.length := by omega
        obtain ⟨g1, off1, ho1, hg1, hq1⟩ := HRA.out.cell hlt
        obtain ⟨q, hq⟩ : ∃ q, s.args[j] = q := ⟨_, rfl⟩
        rw [hq, Nat.mul_one] at hq1
        have hqb := HAR.out q (by rw [← hq]; exact List.getElem_mem hlt)
        have HOQ := Lib.hid (HOWN.out q hqb.1 hqb.2)
        have t0 : wr.cell? ⟨g1, off1 + j, none⟩ = some (.int .i64 q) := (HB.out.cell (p := ⟨g1, off1 + j, none⟩) (by have := HL.out.le; show g1 < _; omega)).trans hq1
        have HBAD : Hid (ownB m q = false → ownS m s = false) := Lib.hid fun h => by
          rw [HZ.out]; exact all_bad hlt (by rw [hq]; exact h)
        have HGO : Hid (ownB m q = true → ∀ i (hi : i < s.args.length), i < j + 1 → ownB m s.args[i] = true) := Lib.hid fun h i hi hij => by
          by_cases e : i = j
          · subst e; rw [hq]; exact h
          · exact HJ.out i hi (by omega)
        have HL1 := Lib.hid (HL.out.below HB.out)
        have m1 := HL1.out.l1
        have HS : Hid (∀ n : Nat, Value.slice ao n ac = Value.slice (some ⟨g1, off1, none⟩) n ac) := Lib.hid fun n => by rw [ho1]
        rw [HS.out]
        clear ho1 hq1 hq hqb hg1 HJ
        go_wp2_with fail
        refine (HOQ.out wr HL1.out).mono ?_
        rintro e W3 ⟨rfl, hb3⟩
        have HB3 := Lib.hid (HB.out.trans (hb3.mono HB.out.size))
        clear hb3
        obtain ⟨u, hu⟩ : ∃ u, ownB m q = u := ⟨_, rfl⟩
        rw [hu] at HBAD HGO ⊢
        clear hu t0 m1
        cases u
        · have HZ2 := Lib.hid (HBAD.out rfl)
          go_wp2_with fail
          go_ret
          exact ⟨retB HZ2.out.symm, HB3.out⟩
        · have HZ2 := Lib.hid (HGO.out rfl)
          go_wp2_with fail
          go_roundw
          case rel => exact ⟨j + 1, by go_num, by omega, HZ2, HB3⟩
          case measure => simp [intOf]; omega
      · have hlti : ¬ (j : Int) < s.args.length := by omega
        have HZ2 : Hid (ownS m s = true) := Lib.hid (by rw [HZ.out]; exact all_of fun i hi => HJ.out i hi (by omega))
        go_wp2_with fail
        go_ret
        exact ⟨retB HZ2.out.symm, HB.out⟩
  have b4 : (kd == 4) = false := by rw [beq_eq_false_iff_ne]; exact h4
  have HZ : Hid (ownS m s = decide (kd = 7 ∨ kd = 8)) := Lib.hid (by rw [HVV.out, if_neg h1, if_neg h2, if_neg h4])
  clear hkd HSP HVV h1 h2 h4
  by_cases h8 : kd = 8
  · subst h8
    go_enter Try.func30, Try.ntmps30
    go_wp2_with fail
    go_ret
    exact ⟨retB HZ.out.symm, Below.refl _ _⟩
  have b8 : (kd == 8) = false := by rw [beq_eq_false_iff_ne]; exact h8
  have HZ2 : Hid (ownS m s = (kd == 7)) := Lib.hid (by rw [HZ.out, Bool.eq_iff_iff]; simp [h8])
  clear h8
  go_enter Try.func30, Try.ntmps30
  go_wp2_with fail
  go_ret
  exact ⟨retB HZ2.out.symm, Below.refl _ _⟩
end Go.Proofs.Ytofdfaopabmfoaa
/- The looker: laid; at which places a process may go alone. -/
namespace Go.Proofs.Ytofdfaopabmfoaa
open Go.ChangeShapes Go.WideShapes Go.ChangeAt Go.RowKit
set_option linter.unusedVariables false
set_option linter.unusedSimpArgs false

/-- A looker under way. -/
structure Lp (w : World) (CS : Array Value) (h : MH) (m : ModelD) (u : Bool) (fv : Value) (W : World) : Prop where
  eq : CS = mCells h m
  bm : W.heap[w.heap.size]? = some (.cells CS 29 (0, 0))
  bl : W.heap[w.heap.size + 1]? = some (.cells #[.bool u, fv] 93 (0, 0))
  bp : W.heap[w.heap.size + 1 + 1]? = some (.cells #[.pointer (some ⟨w.heap.size + 1, 0, none⟩)] 71 (0, 0))
  bel : Below w.heap.size w W
  md : MD w.heap.size w h m
section
variable {w W W' : World} {CS : Array Value} {h : MH} {m : ModelD} {u v : Bool} {fv gv : Value}
theorem Lp.below (k : Lp w CS h m u fv W) (hb : Below W.heap.size W W') : Lp w CS h m u fv W' :=
  ⟨k.eq, (hb.block _ (lt_of_block k.bm)).trans k.bm, (hb.block _ (lt_of_block k.bl)).trans k.bl, (hb.block _ (lt_of_block k.bp)).trans k.bp, k.bel.trans (hb.mono k.bel.size), k.md⟩
theorem Lp.set0 (k : Lp w CS h m u fv W) : Lp w CS h m v fv (W.setCell ⟨w.heap.size + 1, 0, none⟩ (.bool v)) := by
  refine ⟨k.eq, ?_, ?_, ?_, k.bel.setCell (by show _ ≤ w.heap.size + 1; omega) _, k.md⟩
  · rw [heap_setCell_other _ _ _ _ (by simp)]; exact k.bm
  · rw [heap_setCell_same W (w.heap.size + 1) 0 _ _ (.bool v) k.bl]; rfl
  · rw [heap_setCell_other _ _ _ _ (by simp)]; exact k.bp
theorem Lp.set1 (k : Lp w CS h m u fv W) : Lp w CS h m u gv (W.setCell ⟨w.heap.size + 1, 1, none⟩ gv) := by
  refine ⟨k.eq, ?_, ?_, ?_, k.bel.setCell (by show _ ≤ w.heap.size + 1; omega) _, k.md⟩
  · rw [heap_setCell_other _ _ _ _ (by simp)]; exact k.bm
  · rw [heap_setCell_same W (w.heap.size + 1) 1 _ _ gv k.bl]; rfl
  · rw [heap_setCell_other _ _ _ _ (by simp)]; exact k.bp
theorem Lp.l0 (k : Lp w CS h m u fv W) : W.cell? ⟨w.heap.size + 1, 0, none⟩ = some (.bool u) := (cell_of_row _ _ _ _ _ _ k.bl).trans rfl
theorem Lp.l1 (k : Lp w CS h m u fv W) : W.cell? ⟨w.heap.size + 1, 1, none⟩ = some fv := (cell_of_row _ _ _ _ _ _ k.bl).trans rfl
theorem Lp.lf (k : Lp w CS h m u fv W) (i : Nat) : W.frozen? ⟨w.heap.size + 1, i, none⟩ = false := frozen_of_row _ _ _ _ _ k.bl
theorem Lp.p0 (k : Lp w CS h m u fv W) : W.cell? ⟨w.heap.size + 1 + 1, 0, none⟩ = some (.pointer (some ⟨w.heap.size + 1, 0, none⟩)) := (cell_of_row _ _ _ _ _ _ k.bp).trans rfl
theorem Lp.c2 (k : Lp w CS h m u fv W) : W.cell? ⟨w.heap.size, 2, none⟩ = some (.slice h.so m.shapes.length h.sc) := (cell_of_row _ _ _ _ _ _ k.bm).trans (by rw [k.eq]; rfl)
end
def NewP (w : World) (CS : Array Value) (h : MH) (m : ModelD) (e : Ending) (W : World) : Prop :=
  ∃ pl pm pp, e = .returned (.pointer (some ⟨pl, 0, none⟩)) ∧ Lk w.heap.size pl pm pp CS h m W ∧ Below w.heap.size w W
theorem Lp.done {w W : World} {CS : Array Value} {h : MH} {m : ModelD} (k : Lp w CS h m (meetsB m) (.func (.func 28) #[] #[.pointer (some ⟨w.heap.size, 0, none⟩), .pointer (some ⟨w.heap.size + 1 + 1, 0, none⟩)]) W) : NewP w CS h m (.returned (.pointer (some ⟨w.heap.size + 1, 0, none⟩))) W :=
  ⟨w.heap.size + 1, w.heap.size, w.heap.size + 1 + 1, rfl, ⟨k.eq, k.bl, k.bm, k.bp, k.bel.size, k.md.below k.bel⟩, k.bel⟩

set_option maxRecDepth 100000 in
set_option maxHeartbeats 4000000 in
theorem newLookerC {CS : Array Value} {h : MH} {m : ModelD} (w : World) (hd : MD w.heap.size w h m) (hCS : CS = mCells h m) : Calls Try.prog 14 #[.agg CS] w (NewP w CS h m) := by
  have HSH := Lib.hid hd.shapes
  have ls := hd.shapes.1
  have hmf : ∀ (fn : Fn) (first cap : Array Value) (w : World), (Instr.makeFunc fn first cap).run Try.prog w = .ok (.func fn first cap) w := fun _ _ _ _ => rfl
  have HX0 := Lib.hid (Mx.new hd hCS)
  have HX := Lib.hid (Mx.new hd hCS)
  have HLP : Hid (∀ u fv, Lp w CS h m u fv (((w.alloc (.cells CS 29)).alloc (.cells #[.bool u, fv] 93)).alloc (.cells #[.pointer (some ⟨w.heap.size + 1, 0, none⟩)] 71))) := Lib.hid fun u fv => by
    have b0 : Below w.heap.size w (w.alloc (.cells CS 29)) := ball _
    have n0 := heap_alloc_new w (.cells CS 29)
    have s0 : (w.alloc (.cells CS 29)).heap.size = w.heap.size + 1 := by simp
    generalize w.alloc (.cells CS 29) = A at b0 n0 s0 ⊢
    have b1 : Below A.heap.size A (A.alloc (.cells #[.bool u, fv] 93)) := ball _
    have n1 := heap_alloc_new A (.cells #[.bool u, fv] 93)
    have s1 : (A.alloc (.cells #[.bool u, fv] 93)).heap.size = w.heap.size + 1 + 1 := by simp [s0]
    rw [s0] at n1
    generalize A.alloc (.cells #[.bool u, fv] 93) = D at b1 n1 s1 ⊢
    have b2 : Below D.heap.size D (D.alloc (.cells #[.pointer (some ⟨w.heap.size + 1, 0, none⟩)] 71)) := ball _
    have n2 := heap_alloc_new D (.cells #[.pointer (some ⟨w.heap.size + 1, 0, none⟩)] 71)
    rw [s1] at n2
    exact ⟨hCS, (b2.block _ (by omega)).trans ((b1.block _ (by omega)).trans n0), (b2.block _ (by omega)).trans n1, n2, b0.trans ((b1.mono (by omega)).trans (b2.mono (by omega))), hd⟩
  have HLEN : Hid (∀ k, Value.bool ((m.shapes.take k).any meetB) = Value.bool ((m.shapes.take k).any meetB)) := Lib.hid fun _ => rfl
  clear hd hCS HX HX0
  go_enter Try.func14, Try.ntmps14
  go_upto_region 2 with fail
  have HL0 := Lib.hid (HLP.out false .nilFunc)
  generalize ((w.alloc (.cells CS 29)).alloc (.cells #[.bool false, .nilFunc] 93)).alloc (.cells #[.pointer (some ⟨w.heap.size + 1, 0, none⟩)] 71) = W0 at HL0 ⊢
  have c2 := HL0.out.c2
  clear HLP
  go_wp2_with fail
  clear c2
  go_loopw [11] (fun iv W => ∃ k : Nat, iv = .int .i64 k ∧ k ≤ m.shapes.length ∧ Hid (Lp w CS h m ((m.shapes.take k).any meetB) .nilFunc W)) (fun iv _ => m.shapes.length - (intOf iv).toNat)
  case atStart => exact ⟨0, rfl, by omega, HL0⟩
  case round =>
    clear HL0
    obtain ⟨k, rfl, hk, HL⟩ := hrel
    have hk0 : (0 : Int) ≤ k := by omega
    by_cases hlt : k < m.shapes.length
    · have hlti : (k : Int) < m.shapes.length := by omega
      obtain ⟨g, off, ho, hg, hs⟩ := HSH.out.cell hlt
      obtain ⟨s, hse⟩ : ∃ s, m.shapes[k] = s := ⟨_, rfl⟩
      rw [hse] at hs
      have hs1 := hs.below HL.out.bel hg
      obtain ⟨fo, fc, t1, -⟩ := hs1.fields
      have t0 := hs1.c0
      have HN : Hid ((m.shapes.take (k + 1)).any meetB = ((m.shapes.take k).any meetB || meetB s)) := Lib.hid (any_take (by rw [List.getElem?_eq_getElem hlt, hse]))
      have HMB : Hid (meetB s = decide (s.room = 0)) := Lib.hid rfl
      obtain ⟨u, hu⟩ : ∃ u, (m.shapes.take k).any meetB = u := ⟨_, rfl⟩
      rw [hu] at HL HN
      have HS : Hid (∀ n : Nat, Value.slice h.so n h.sc = Value.slice (some ⟨g, off, none⟩) n h.sc) := Lib.hid fun n => by rw [ho]
      rw [HS.out]
      clear ho hs hs1 hse hg hu
      go_wp2_with fail
      have HL1 := Lib.hid (HL.out.below (ball (.cells #[.int .i64 s.room, .slice fo s.fields.length fc] 95)))
      have HSB : Hid (Bq wr wr.heap.size #[.int .i64 s.room, .slice fo s.fields.length fc] 95 (wr.alloc (.cells #[.int .i64 s.room, .slice fo s.fields.length fc] 95))) := Lib.hid (Bq.new (Below.refl _ _) _ _)
      generalize wr.alloc (.cells #[.int .i64 s.room, .slice fo s.fields.length fc] 95) = W1 at HL1 HSB ⊢
      clear t0 t1 HL
      have l0 := HL1.out.l0
      have p0 := HL1.out.p0
      have f0 : W1.cell? ⟨wr.heap.size, 0, none⟩ = some (.int .i64 s.room) := HSB.out.cell rfl
      have HLD := Lib.hid (HL1.out.below (Below.refl _ _).drew)
      cases u
      · by_cases h0 : s.room = 0
        · have hb : (s.room == 0) = true := by rw [beq_iff_eq]; exact h0
          have HV : Hid (true = (m.shapes.take (k + 1)).any meetB) := Lib.hid (by rw [HN.out, HMB.out, decide_eq_true h0]; rfl)
          clear h0
          go_still_tail 12, (by kernel_rfl)
          change wpList _ _ _ _ _ W1.drew
          generalize W1.drew = W2 at HLD ⊢
          have l2 := HLD.out.l0
          have lf := HLD.out.lf 0
          clear l0 p0 f0
          go_wp2_with fail
          have HL3 := Lib.hid (HLD.out.set0 (v := true))
          generalize W2.setCell ⟨w.heap.size + 1, 0, none⟩ (.bool true) = W3 at HL3 ⊢
          rw [HV.out] at HL3
          clear l2 lf
          go_roundw
          case rel => exact ⟨k + 1, by go_num, by omega, HL3⟩
          case measure => simp [intOf]; omega
        · have hb : (s.room == 0) = false := by rw [beq_eq_false_iff_ne]; exact h0
          have HV : Hid (false = (m.shapes.take (k + 1)).any meetB) := Lib.hid (by rw [HN.out, HMB.out, decide_eq_false h0]; rfl)
          clear h0
          go_still_tail 12, (by kernel_rfl)
          change wpList _ _ _ _ _ W1.drew
          generalize W1.drew = W2 at HLD ⊢
          have l2 := HLD.out.l0
          have lf := HLD.out.lf 0
          clear l0 p0 f0
          go_wp2_with fail
          have HL3 := Lib.hid (HLD.out.set0 (v := false))
          generalize W2.setCell ⟨w.heap.size + 1, 0, none⟩ (.bool false) = W3 at HL3 ⊢
          rw [HV.out] at HL3
          clear l2 lf
          go_roundw
          case rel => exact ⟨k + 1, by go_num, by omega, HL3⟩
          case measure => simp [intOf]; omega
      · have HV : Hid (true = (m.shapes.take (k + 1)).any meetB) := Lib.hid (by rw [HN.out]; rfl)
        go_still_tail 12, (by kernel_rfl)
        change wpList _ _ _ _ _ W1.drew
        generalize W1.drew = W2 at HLD ⊢
        have l2 := HLD.out.l0
        have lf := HLD.out.lf 0
        clear l0 p0 f0
        go_wp2_with fail
        have HL3 := Lib.hid (HLD.out.set0 (v := true))
        generalize W2.setCell ⟨w.heap.size + 1, 0, none⟩ (.bool true) = W3 at HL3 ⊢
        rw [HV.out] at HL3
        clear l2 lf
        go_roundw
        case rel => exact ⟨k + 1, by go_num, by omega, HL3⟩
        case measure => simp [intOf]; omega
    · have hlti : ¬ (k : Int) < m.shapes.length := by omega
      obtain rfl : k = m.shapes.length := by omega
      have HL2 : Hid (Lp w CS h m (meetsB m) .nilFunc wr) := Lib.hid (by have := HL.out; rw [List.take_length] at this; exact this)
      have p0 := HL2.out.p0
      have l1 := HL2.out.l1
      have lf := HL2.out.lf 1
      clear HL
      go_wp2_with fail
      have HL3 := Lib.hid (HL2.out.set1 (gv := .func (.func 28) #[] #[.pointer (some ⟨w.heap.size, 0, none⟩), .pointer (some ⟨w.heap.size + 1 + 1, 0, none⟩)]))
      generalize wr.setCell ⟨w.heap.size + 1, 1, none⟩ (.func (.func 28) #[] #[.pointer (some ⟨w.heap.size, 0, none⟩), .pointer (some ⟨w.heap.size + 1 + 1, 0, none⟩)]) = W3 at HL3 ⊢
      have p1 := HL3.out.p0
      go_wp2_with fail
      go_ret
      exact HL3.out.done
end Go.Proofs.Ytofdfaopabmfoaa
