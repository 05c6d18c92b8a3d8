/- A model that lies below a place lies below a later one. -/
import Derived.Test.YtofdfaopabmfoaaM01
import Derived.Test.YtofdfaopabmfoaaM17
import Derived.Laws.EntriesVeiled
import Derived.Test.YtofdfaopabmfoaaM04
import Derived.Test.YtofdfaopabmfoaaM05
import Derived.StillTailTactics
namespace Go.Proofs.Ytofdfaopabmfoaa
open Go.ChangeShapes Go.WideShapes Go.ChangeAt Go.RowKit
section
variable {B B' : Nat} {w : World} (hB : B ≤ B')
include hB
theorem Row.lift {α : Type} {o : Option Addr} {k : Nat} {R R' : Nat → Nat → α → Prop} {l : List α} (h : Row B o k R l) (hR : ∀ g a x, g < B → R g a x → R' g a x) : Row B' o k R' l := (h.mono hR).up hB
theorem Sli.lift {α : Type} {g a k : Nat} {R R' : Nat → Nat → α → Prop} {l : List α} (h : Sli B w g a k R l) (hR : ∀ g a x, g < B → R g a x → R' g a x) : Sli B' w g a k R' l := by
  obtain ⟨o, c, h1, h2⟩ := h
  exact ⟨o, c, h1, h2.lift hB hR⟩
theorem varAt.lift {g a : Nat} {x : VarD} (h : varAt B w g a x) : varAt B' w g a x := ⟨h.c0, h.c1, h.c2, h.c3, h.dims.lift hB fun _ _ _ _ h => h⟩
theorem exprAt.lift {g a : Nat} {x : ExprD} (h : exprAt B w g a x) : exprAt B' w g a x := ⟨h.c0, h.c1, h.c2, h.c3, h.c4, h.v.lift hB, h.args.lift hB fun _ _ _ _ h => h, h.mat.lift hB fun _ _ _ _ h => h⟩
theorem stmtAt.lift {g a : Nat} {x : StmtD} (h : stmtAt B w g a x) : stmtAt B' w g a x := ⟨h.c0, h.c1, h.c2, h.c3, h.args.lift hB fun _ _ _ _ h => h, h.mat.lift hB fun _ _ _ _ h => h, h.c6⟩
theorem transAt.lift {g a : Nat} {x : TransD} (h : transAt B w g a x) : transAt B' w g a x := ⟨h.s.lift hB, h.c7, h.c8⟩
theorem escAt.lift {g a : Nat} {x : List TransD} (h : escAt B w g a x) : escAt B' w g a x := Sli.lift hB h fun _ _ _ _ h => h.lift hB
theorem locAt.lift {g a : Nat} {x : LocD} (h : locAt B w g a x) : locAt B' w g a x := ⟨h.out.lift hB fun _ _ _ _ h => h.lift hB, h.esc.lift hB fun _ _ _ _ h => h.lift hB, h.c2, h.c3, h.c4, h.c5, h.c6⟩
theorem procAt.lift {g a : Nat} {x : ProcD} (h : procAt B w g a x) : procAt B' w g a x := ⟨h.c0, h.c1, h.frame.lift hB fun _ _ _ _ h => h, h.init.lift hB fun _ _ _ _ h => h, h.locs.lift hB fun _ _ _ _ h => h.lift hB, h.c5, h.c6, h.c7, h.c8, h.c9⟩
theorem shapeAt.lift {g a : Nat} {x : ShapeD} (h : shapeAt B w g a x) : shapeAt B' w g a x := ⟨h.c0, h.fields.lift hB fun _ _ _ _ h => h⟩
theorem MD.lift {h : MH} {m : ModelD} (hm : MD B w h m) : MD B' w h m :=
  ⟨hm.globals.lift hB fun _ _ _ _ h => h, hm.init.lift hB fun _ _ _ _ h => h, hm.shapes.lift hB fun _ _ _ _ h => h.lift hB, hm.chans.lift hB fun _ _ _ _ h => h, hm.procs.lift hB fun _ _ _ _ h => h.lift hB, hm.exprs.lift hB fun _ _ _ _ h => h.lift hB⟩
end
end Go.Proofs.Ytofdfaopabmfoaa
/- Which models may be run: the whole. -/
namespace Go.Proofs.Ytofdfaopabmfoaa
open Go.ChangeShapes Go.WideShapes Go.ChangeAt Go.RowKit
set_option linter.unusedVariables false
set_option linter.unusedSimpArgs false

theorem procsL_all {m : ModelD} (h : (procsL m).2 = true) {i : Nat} {x : ProcD} (hx : m.procs[i]? = some x) : procB m (x, i) = true := by
  unfold procsL idxB at h
  split at h
  · cases h
  · rename_i hb
    refine bad_all hb _ ?_
    obtain ⟨hi, rfl⟩ := List.getElem?_eq_some_iff.1 hx
    rw [List.mem_iff_getElem]
    exact ⟨i, by rw [List.length_zipIdx]; exact hi, by simp⟩
theorem procsL_tail {m : ModelD} (h : (procsL m).2 = true) {i : Nat} {x : ProcD} (hx : m.procs[i]? = some x) : (0 ≤ x.active ∧ x.active ≤ 16) ∧ x.provided < m.exprs.length := by
  have h1 := procsL_all h hx
  unfold procB frameB frameTailB at h1
  simp only [Bool.and_eq_true, decide_eq_true_eq] at h1
  obtain ⟨⟨⟨_, h2⟩, _⟩, _⟩ := h1
  exact ⟨⟨h2.1, h2.2.1⟩, h2.2.2.2.2.2⟩
theorem exprs_head {m : ModelD} (h : (expressionsL m).2 = true) : m.procs.length ≤ 16 := by
  unfold expressionsL at h
  split at h
  · cases h
  · rename_i hh
    unfold exprsHead at hh
    rw [decide_eq_true_eq] at hh
    omega
theorem index6 (cs : Array Value) (k : Nat) (v : Value) (hk : k < 6) (w : World) (h : cs[k]? = some v) : (Instr.index 89 (.agg cs) (.int .i64 (k : Int))).run Try.prog w = .ok v w := by
  have hi : (0 : Int) ≤ k ∧ (k : Int) < 6 := by omega
  have info : (Try.prog.info? 88).map (fun i => (i.zero, i.size, i.bytes)) = some (some .nilFunc, 1, 8) := by kernel_rfl
  have hs : ∀ w, (sizeOf 88).run Try.prog w = .ok 1 w := fun w => by
    obtain ⟨i, hi⟩ : ∃ i, Try.prog.info? 88 = some i := by
      have := info
      cases h : Try.prog.info? 88 with
      | none => rw [h] at this; cases this
      | some i => exact ⟨i, rfl⟩
    have h2 := info
    rw [hi] at h2
    simp at h2
    simp [sizeOf, typeInfo, hi, h2.2.1, go_sem]
  simp [Instr.index, asIntOf, run_underlying Try.underlying89, hi, hs, go_sem]
  rw [if_pos hk, h]
  rfl
theorem retIII {a b c a' b' c' : Int} (h1 : a = a') (h2 : b = b') (h3 : c = c') : Ending.returned (.tuple #[.int .i64 a, .int .i64 b, .int .i64 c]) = .returned (.tuple #[.int .i64 a', .int .i64 b', .int .i64 c']) := by rw [h1, h2, h3]

set_option maxHeartbeats 4000000 in
set_option maxRecDepth 100000 in
theorem checkC {B : Nat} {h : MH} {m : ModelD} (w : World) (hB : B ≤ w.heap.size) (hmd : MD B w h m) :
    Calls Try.prog 13 #[mV h m] w fun e w' => e = .returned (.tuple #[.int .i64 (checkL m).1, .int .i64 (checkL m).2.1, .int .i64 (checkL m).2.2]) ∧ Below w.heap.size w w' := by
  have hmf : ∀ (fn : Fn) (first cap : Array Value) (w : World), (Instr.makeFunc fn first cap).run Try.prog w = .ok (.func fn first cap) w := fun _ _ _ _ => rfl
  have hx0 : ∀ (a b c d e f : Value) (w : World), (Instr.index 89 (.agg #[a, b, c, d, e, f]) (.int .i64 0)).run Try.prog w = .ok a w := fun _ _ _ _ _ _ _ => index6 _ 0 _ (by decide) _ rfl
  have hx1 : ∀ (a b c d e f : Value) (w : World), (Instr.index 89 (.agg #[a, b, c, d, e, f]) (.int .i64 1)).run Try.prog w = .ok b w := fun _ _ _ _ _ _ _ => index6 _ 1 _ (by decide) _ rfl
  have hx2 : ∀ (a b c d e f : Value) (w : World), (Instr.index 89 (.agg #[a, b, c, d, e, f]) (.int .i64 2)).run Try.prog w = .ok c w := fun _ _ _ _ _ _ _ => index6 _ 2 _ (by decide) _ rfl
  have hx3 : ∀ (a b c d e f : Value) (w : World), (Instr.index 89 (.agg #[a, b, c, d, e, f]) (.int .i64 3)).run Try.prog w = .ok d w := fun _ _ _ _ _ _ _ => index6 _ 3 _ (by decide) _ rfl
  have hx4 : ∀ (a b c d e f : Value) (w : World), (Instr.index 89 (.agg #[a, b, c, d, e, f]) (.int .i64 4)).run Try.prog w = .ok e w := fun _ _ _ _ _ _ _ => index6 _ 4 _ (by decide) _ rfl
  have hx5 : ∀ (a b c d e f : Value) (w : World), (Instr.index 89 (.agg #[a, b, c, d, e, f]) (.int .i64 5)).run Try.prog w = .ok f w := fun _ _ _ _ _ _ _ => index6 _ 5 _ (by decide) _ rfl
  have HB : Hid (Below w.heap.size w (((w.alloc (.cells #[.slice h.go m.globals.length h.gc, .slice h.io m.init.length h.ic, .slice h.so m.shapes.length h.sc, .slice h.co m.chans.length h.cc, .slice h.po m.procs.length h.pc, .int .i64 m.claim, .slice h.eo m.exprs.length h.ec] 29)).alloc (.cells #[.slice h.go m.globals.length h.gc, .slice h.io m.init.length h.ic, .slice h.so m.shapes.length h.sc, .slice h.co m.chans.length h.cc, .slice h.po m.procs.length h.pc, .int .i64 m.claim, .slice h.eo m.exprs.length h.ec, .slice none 0 0, .slice none 0 0] 87)).alloc (.cells #[.func (.func 22) #[.pointer (some ⟨w.heap.size + 1, 0, none⟩)] #[], .func (.func 23) #[.pointer (some ⟨w.heap.size + 1, 0, none⟩)] #[], .func (.func 24) #[.pointer (some ⟨w.heap.size + 1, 0, none⟩)] #[], .func (.func 25) #[.pointer (some ⟨w.heap.size + 1, 0, none⟩)] #[], .func (.func 26) #[.pointer (some ⟨w.heap.size + 1, 0, none⟩)] #[], .func (.func 27) #[.pointer (some ⟨w.heap.size + 1, 0, none⟩)] #[]] 89))) := Lib.hid ((((Below.refl _ _).alloc (Nat.le_refl _) _).alloc (by simp) _).alloc (by simp; omega) _)
  have HO : Hid ((((w.alloc (.cells #[.slice h.go m.globals.length h.gc, .slice h.io m.init.length h.ic, .slice h.so m.shapes.length h.sc, .slice h.co m.chans.length h.cc, .slice h.po m.procs.length h.pc, .int .i64 m.claim, .slice h.eo m.exprs.length h.ec] 29)).alloc (.cells #[.slice h.go m.globals.length h.gc, .slice h.io m.init.length h.ic, .slice h.so m.shapes.length h.sc, .slice h.co m.chans.length h.cc, .slice h.po m.procs.length h.pc, .int .i64 m.claim, .slice h.eo m.exprs.length h.ec, .slice none 0 0, .slice none 0 0] 87)).alloc (.cells #[.func (.func 22) #[.pointer (some ⟨w.heap.size + 1, 0, none⟩)] #[], .func (.func 23) #[.pointer (some ⟨w.heap.size + 1, 0, none⟩)] #[], .func (.func 24) #[.pointer (some ⟨w.heap.size + 1, 0, none⟩)] #[], .func (.func 25) #[.pointer (some ⟨w.heap.size + 1, 0, none⟩)] #[], .func (.func 26) #[.pointer (some ⟨w.heap.size + 1, 0, none⟩)] #[], .func (.func 27) #[.pointer (some ⟨w.heap.size + 1, 0, none⟩)] #[]] 89)).heap[w.heap.size + 1]? = some (.cells (kCells h m (.slice none 0 0) (.slice none 0 0)) 87 (0, 0))) := Lib.hid (by
    rw [Below.heap_alloc _ _ _ (by simp)]
    have h := heap_alloc_new (w.alloc (.cells #[.slice h.go m.globals.length h.gc, .slice h.io m.init.length h.ic, .slice h.so m.shapes.length h.sc, .slice h.co m.chans.length h.cc, .slice h.po m.procs.length h.pc, .int .i64 m.claim, .slice h.eo m.exprs.length h.ec] 29)) (.cells #[.slice h.go m.globals.length h.gc, .slice h.io m.init.length h.ic, .slice h.so m.shapes.length h.sc, .slice h.co m.chans.length h.cc, .slice h.po m.procs.length h.pc, .int .i64 m.claim, .slice h.eo m.exprs.length h.ec, .slice none 0 0, .slice none 0 0] 87)
    rw [World.size_alloc] at h
    exact h)
  have HMD := Lib.hid ((hmd.lift hB).below HB.out)
  clear hmd
  obtain ⟨r1, r2, r3, hr⟩ : ∃ r1 r2 r3, checkL m = (r1, r2, r3) := ⟨_, _, _, rfl⟩
  have HR := Lib.hid hr
  rw [hr]
  simp only
  clear hr
  unfold mV mCells
  go_enter Try.func13, Try.ntmps13
  go_wp2_with fail
  generalize (((w.alloc (.cells #[.slice h.go m.globals.length h.gc, .slice h.io m.init.length h.ic, .slice h.so m.shapes.length h.sc, .slice h.co m.chans.length h.cc, .slice h.po m.procs.length h.pc, .int .i64 m.claim, .slice h.eo m.exprs.length h.ec] 29)).alloc (.cells #[.slice h.go m.globals.length h.gc, .slice h.io m.init.length h.ic, .slice h.so m.shapes.length h.sc, .slice h.co m.chans.length h.cc, .slice h.po m.procs.length h.pc, .int .i64 m.claim, .slice h.eo m.exprs.length h.ec, .slice none 0 0, .slice none 0 0] 87)).alloc (.cells #[.func (.func 22) #[.pointer (some ⟨w.heap.size + 1, 0, none⟩)] #[], .func (.func 23) #[.pointer (some ⟨w.heap.size + 1, 0, none⟩)] #[], .func (.func 24) #[.pointer (some ⟨w.heap.size + 1, 0, none⟩)] #[], .func (.func 25) #[.pointer (some ⟨w.heap.size + 1, 0, none⟩)] #[], .func (.func 26) #[.pointer (some ⟨w.heap.size + 1, 0, none⟩)] #[], .func (.func 27) #[.pointer (some ⟨w.heap.size + 1, 0, none⟩)] #[]] 89)) = W at HB HO HMD ⊢
  have HPLE : Hid (w.heap.size ≤ w.heap.size + 1) := Lib.hid (by omega)
  generalize w.heap.size + 1 = p at HO HPLE ⊢
  have hlt : p < W.heap.size := lt_of_block HO.out
  have HCK : Hid (∀ W', Below W.heap.size W W' → Ck w.heap.size W' p h m ∧ MD w.heap.size W' h m ∧ W'.heap[p]? = some (.cells (kCells h m (.slice none 0 0) (.slice none 0 0)) 87 (0, 0))) := Lib.hid fun W' hb => by
    have hp := (hb.block _ hlt).trans HO.out
    have hm : MD w.heap.size W' h m := HMD.out.below (hb.mono HB.out.size)
    exact ⟨⟨(cell_of_row _ _ _ _ _ _ hp).trans rfl, (cell_of_row _ _ _ _ _ _ hp).trans rfl, (cell_of_row _ _ _ _ _ _ hp).trans rfl, (cell_of_row _ _ _ _ _ _ hp).trans rfl, (cell_of_row _ _ _ _ _ _ hp).trans rfl, (cell_of_row _ _ _ _ _ _ hp).trans rfl, (cell_of_row _ _ _ _ _ _ hp).trans rfl, Nat.le_trans HPLE.out (Nat.le_of_lt (lt_of_block hp)), lt_of_block hp, hm⟩, hm, hp⟩
  have HB0 : Hid (Below W.heap.size W W) := Lib.hid (Below.refl _ _)
  refine wp_loop_rounds 7 ?_
  rw [rounds_succ]
  go_wp2_with fail
  refine (globalsC _ (HCK.out _ HB0.out).1).mono ?_
  rintro e w1 ⟨rfl, hb⟩
  have HB1 : Hid (Below W.heap.size W w1) := Lib.hid (HB0.out.trans (hb.mono HB0.out.size))
  have HBE : Hid (Below w.heap.size w w1) := Lib.hid (HB.out.trans (HB1.out.mono HB.out.size))
  clear hb
  obtain ⟨q, u, hq⟩ : ∃ q u, globalsL m = (q, u) := ⟨_, _, rfl⟩
  have HQ0 := Lib.hid hq
  rw [hq]
  simp only
  clear hq
  cases u
  · have HZ : Hid (40 = r1 ∧ 1 = r2 ∧ q = r3) := Lib.hid (by
      have h1 := HR.out
      unfold checkL at h1
      rw [if_pos (by rw [HQ0.out]), HQ0.out] at h1
      injection h1 with h1 h2
      injection h2 with h2 h3
      exact ⟨h1, h2, h3⟩)
    go_wp2_with fail
    go_ret3
    exact ⟨retIII HZ.out.1 HZ.out.2.1 HZ.out.2.2, HBE.out⟩
  have HT0 : Hid ((globalsL m).2 = true) := Lib.hid (by rw [HQ0.out])
  clear HBE
  go_wp2_with fail

  rw [rounds_succ]
  go_wp2_with fail
  refine (channelsC _ (HCK.out _ HB1.out).1).mono ?_
  rintro e w2 ⟨rfl, hb⟩
  have HB2 : Hid (Below W.heap.size W w2) := Lib.hid (HB1.out.trans (hb.mono HB1.out.size))
  have HBE : Hid (Below w.heap.size w w2) := Lib.hid (HB.out.trans (HB2.out.mono HB.out.size))
  clear hb
  obtain ⟨q, u, hq⟩ : ∃ q u, channelsL m = (q, u) := ⟨_, _, rfl⟩
  have HQ1 := Lib.hid hq
  rw [hq]
  simp only
  clear hq
  cases u
  · have HZ : Hid (40 = r1 ∧ 2 = r2 ∧ q = r3) := Lib.hid (by
      have h1 := HR.out
      unfold checkL at h1
      rw [if_neg (by rw [HT0.out]; decide), if_pos (by rw [HQ1.out]), HQ1.out] at h1
      injection h1 with h1 h2
      injection h2 with h2 h3
      exact ⟨h1, h2, h3⟩)
    go_wp2_with fail
    go_ret3
    exact ⟨retIII HZ.out.1 HZ.out.2.1 HZ.out.2.2, HBE.out⟩
  have HT1 : Hid ((channelsL m).2 = true) := Lib.hid (by rw [HQ1.out])
  clear HBE
  go_wp2_with fail

  rw [rounds_succ]
  go_wp2_with fail
  refine (expressionsC _ (HCK.out _ HB2.out).1).mono ?_
  rintro e w3 ⟨rfl, hb⟩
  have HB3 : Hid (Below W.heap.size W w3) := Lib.hid (HB2.out.trans (hb.mono HB2.out.size))
  have HBE : Hid (Below w.heap.size w w3) := Lib.hid (HB.out.trans (HB3.out.mono HB.out.size))
  clear hb
  obtain ⟨q, u, hq⟩ : ∃ q u, expressionsL m = (q, u) := ⟨_, _, rfl⟩
  have HQ2 := Lib.hid hq
  rw [hq]
  simp only
  clear hq
  cases u
  · have HZ : Hid (40 = r1 ∧ 3 = r2 ∧ q = r3) := Lib.hid (by
      have h1 := HR.out
      unfold checkL at h1
      rw [if_neg (by rw [HT0.out]; decide), if_neg (by rw [HT1.out]; decide), if_pos (by rw [HQ2.out]), HQ2.out] at h1
      injection h1 with h1 h2
      injection h2 with h2 h3
      exact ⟨h1, h2, h3⟩)
    go_wp2_with fail
    go_ret3
    exact ⟨retIII HZ.out.1 HZ.out.2.1 HZ.out.2.2, HBE.out⟩
  have HT2 : Hid ((expressionsL m).2 = true) := Lib.hid (by rw [HQ2.out])
  clear HBE
  go_wp2_with fail

  rw [rounds_succ]
  go_wp2_with fail
  refine (procsC _ (HCK.out _ HB3.out).1).mono ?_
  rintro e w4 ⟨rfl, hb⟩
  have HB4 : Hid (Below W.heap.size W w4) := Lib.hid (HB3.out.trans (hb.mono HB3.out.size))
  have HBE : Hid (Below w.heap.size w w4) := Lib.hid (HB.out.trans (HB4.out.mono HB.out.size))
  clear hb
  obtain ⟨q, u, hq⟩ : ∃ q u, procsL m = (q, u) := ⟨_, _, rfl⟩
  have HQ3 := Lib.hid hq
  rw [hq]
  simp only
  clear hq
  cases u
  · have HZ : Hid (40 = r1 ∧ 4 = r2 ∧ q = r3) := Lib.hid (by
      have h1 := HR.out
      unfold checkL at h1
      rw [if_neg (by rw [HT0.out]; decide), if_neg (by rw [HT1.out]; decide), if_neg (by rw [HT2.out]; decide), if_pos (by rw [HQ3.out]), HQ3.out] at h1
      injection h1 with h1 h2
      injection h2 with h2 h3
      exact ⟨h1, h2, h3⟩)
    go_wp2_with fail
    go_ret3
    exact ⟨retIII HZ.out.1 HZ.out.2.1 HZ.out.2.2, HBE.out⟩
  have HT3 : Hid ((procsL m).2 = true) := Lib.hid (by rw [HQ3.out])
  clear HBE
  go_wp2_with fail

  rw [rounds_succ]
  go_wp2_with fail
  refine (activeC _ (HCK.out _ HB4.out).1 (exprs_head HT2.out) (fun p hp => by obtain ⟨i, hi⟩ := List.mem_iff_getElem?.1 hp; exact (procsL_tail HT3.out hi).1)).mono ?_
  rintro e w5 ⟨rfl, hb⟩
  have HB5 : Hid (Below W.heap.size W w5) := Lib.hid (HB4.out.trans (hb.mono HB4.out.size))
  have HBE : Hid (Below w.heap.size w w5) := Lib.hid (HB.out.trans (HB5.out.mono HB.out.size))
  clear hb
  obtain ⟨q, u, hq⟩ : ∃ q u, activeL m = (q, u) := ⟨_, _, rfl⟩
  have HQ4 := Lib.hid hq
  rw [hq]
  simp only
  clear hq
  cases u
  · have HZ : Hid (40 = r1 ∧ 5 = r2 ∧ q = r3) := Lib.hid (by
      have h1 := HR.out
      unfold checkL at h1
      rw [if_neg (by rw [HT0.out]; decide), if_neg (by rw [HT1.out]; decide), if_neg (by rw [HT2.out]; decide), if_neg (by rw [HT3.out]; decide), if_pos (by rw [HQ4.out]), HQ4.out] at h1
      injection h1 with h1 h2
      injection h2 with h2 h3
      exact ⟨h1, h2, h3⟩)
    go_wp2_with fail
    go_ret3
    exact ⟨retIII HZ.out.1 HZ.out.2.1 HZ.out.2.2, HBE.out⟩
  have HT4 : Hid ((activeL m).2 = true) := Lib.hid (by rw [HQ4.out])
  clear HBE
  go_wp2_with fail

  rw [rounds_succ]
  go_wp2_with fail
  refine (statementsC _ HPLE.out (HCK.out _ HB5.out).2.1 (HCK.out _ HB5.out).2.2 (EX.of HT2.out) (fun i x hx => (procsL_tail HT3.out hx).2)).mono ?_
  rintro e w6 ⟨rfl, hb⟩
  have HBE : Hid (Below w.heap.size w w6) := Lib.hid ((HB.out.trans (HB5.out.mono HB.out.size)).trans hb)
  clear hb
  obtain ⟨q, u, hq⟩ : ∃ q u, statementsL m = (q, u) := ⟨_, _, rfl⟩
  have HQ5 := Lib.hid hq
  rw [hq]
  simp only
  clear hq
  cases u
  · have HZ : Hid (40 = r1 ∧ 6 = r2 ∧ q = r3) := Lib.hid (by
      have h1 := HR.out
      unfold checkL at h1
      rw [if_neg (by rw [HT0.out]; decide), if_neg (by rw [HT1.out]; decide), if_neg (by rw [HT2.out]; decide), if_neg (by rw [HT3.out]; decide), if_neg (by rw [HT4.out]; decide), if_pos (by rw [HQ5.out]), HQ5.out] at h1
      injection h1 with h1 h2
      injection h2 with h2 h3
      exact ⟨h1, h2, h3⟩)
    go_wp2_with fail
    go_ret3
    exact ⟨retIII HZ.out.1 HZ.out.2.1 HZ.out.2.2, HBE.out⟩
  have HT5 : Hid ((statementsL m).2 = true) := Lib.hid (by rw [HQ5.out])
  go_wp2_with fail
  have HZ : Hid (0 = r1 ∧ 0 = r2 ∧ 0 = r3) := Lib.hid (by
    have h1 := HR.out
    unfold checkL at h1
    rw [if_neg (by rw [HT0.out]; decide), if_neg (by rw [HT1.out]; decide), if_neg (by rw [HT2.out]; decide), if_neg (by rw [HT3.out]; decide), if_neg (by rw [HT4.out]; decide), if_neg (by rw [HT5.out]; decide)] at h1
    injection h1 with h1 h2
    injection h2 with h2 h3
    exact ⟨h1, h2, h3⟩)
  rw [rounds_succ]
  go_wp2_with fail
  go_ret3
  exact ⟨retIII HZ.out.1 HZ.out.2.1 HZ.out.2.2, HBE.out⟩
end Go.Proofs.Ytofdfaopabmfoaa
/- Is there a number for each type, and one of it? -/
namespace Go.Proofs.Ytofdfaopabmfoaa
open Go.ChangeShapes Go.WideShapes Go.ChangeAt Go.RowKit
set_option linter.unusedVariables false
set_option linter.unusedSimpArgs false

theorem zip_get2 {α β : Type} {a : List α} {b : List β} {k : Nat} (h1 : k < a.length) (h2 : k < b.length) : ∃ hz : k < (a.zip b).length, (a.zip b)[k] = (a[k], b[k]) := ⟨by rw [List.length_zip]; omega, by simp⟩

set_option maxHeartbeats 2000000 in
set_option maxRecDepth 100000 in
theorem sfitsC {B : Nat} (t : List (Int × Bool)) (l : List Int) (o1 o2 : Option Addr) (p1 p2 : Nat) (w : World) (hB : B ≤ w.heap.size) (h1 : Row B o1 2 (tyAt w) t) (h2 : Row B o2 1 (intAt w) l) :
    Calls Try.prog 52 #[.slice o1 t.length p1, .slice o2 l.length p2] w fun e w' => e = .returned (.bool (fitsL t l)) ∧ Below w.heap.size w w' := by
  have HR := Lib.hid (And.intro h1 h2)
  have l1 := h1.1
  have l2 := h2.1
  clear h1 h2
  by_cases hne : l.length = t.length
  · have HV : Hid (fitsL t l = (t.zip l).all fitZ) := Lib.hid (by unfold fitsL; rw [decide_eq_true hne]; rfl)
    have hnb : ((l.length : Int) != (t.length : Int)) = false := by rw [bne_eq_false_iff_eq]; omega
    have HNE := Lib.hid hne
    have m1 : (l.length : Int) ≤ t.length := by omega
    have m2 : (t.length : Int) ≤ l.length := by omega
    clear hne
    go_enter Try.func52, Try.ntmps52
    go_wp2_with fail
    go_loopw [14] (fun iv W => ∃ i : Nat, iv = .int .i64 i ∧ i ≤ t.length ∧ Hid (∀ j (hj : j < (t.zip l).length), j < i → fitZ (t.zip l)[j] = true) ∧ Hid (Below w.heap.size w W)) (fun iv _ => t.length - (intOf iv).toNat)
    case atStart => exact ⟨0, rfl, by omega, Lib.hid fun j _ h => by omega, Lib.hid (Below.refl _ _)⟩
    case round =>
      obtain ⟨i, rfl, hi, HJ, HB⟩ := hrel
      have hi0 : (0 : Int) ≤ i := by omega
      by_cases hlt : i < t.length
      · have hlti : (i : Int) < t.length := by omega
        have hlt2 : i < l.length := by have := HNE.out; omega
        have hlti2 : (i : Int) < l.length := by omega
        obtain ⟨g1, off1, ho1, hg1, t0, t1⟩ := (HR.out.1.mono fun _ _ _ hg => tyAt.below (HB.out.mono hB) hg).cell hlt
        obtain ⟨g2, off2, ho2, hg2, e2⟩ := (HR.out.2.mono fun _ _ _ hg => intAt.below (HB.out.mono hB) hg).cell hlt2
        subst ho1 ho2
        obtain ⟨⟨b, sg⟩, hbs⟩ : ∃ q, t[i] = q := ⟨_, rfl⟩
        obtain ⟨v, hv⟩ : ∃ q, l[i] = q := ⟨_, rfl⟩
        obtain ⟨hz, hzip⟩ := zip_get2 hlt hlt2
        rw [hbs, hv] at hzip
        rw [hbs] at t0 t1
        have HBAD : Hid (fitB b sg v = false → fitsL t l = false) := Lib.hid fun h => by rw [HV.out, all_bad hz (by rw [hzip]; exact h)]
        have HGO : Hid (fitB b sg v = true → ∀ j (hj : j < (t.zip l).length), j < i + 1 → fitZ (t.zip l)[j] = true) := Lib.hid fun h j hj hjk => by
          by_cases e : j = i
          · subst e; rw [hzip]; exact h
          · exact HJ.out j hj (by omega)
        have e3 : wr.cell? ⟨g2, off2 + i, none⟩ = some (.int .i64 v) := by
          have := e2
          unfold intAt at this
          rw [Nat.mul_one, hv] at this
          exact this
        have hc1 := Lib.cell?_alloc_some (Obj.cells #[.int .i64 b, .bool sg] 59) e3
        simp only at t0 t1
        have HX := Lib.hid (Bx.new wr #[.int .i64 b, .bool sg] 59)
        have HB1 := Lib.hid (HB.out.trans ((ball (Obj.cells #[.int .i64 b, .bool sg] 59)).mono HB.out.size))
        clear hbs hv e2 hz hzip
        go_wp2_with fail
        generalize wr.alloc (Obj.cells #[.int .i64 b, .bool sg] 59) = W at hc1 HX HB1 ⊢
        have x1 : W.cell? ⟨wr.heap.size, 0, none⟩ = some (.int .i64 b) := HX.out.cell rfl
        have x2 : W.cell? ⟨wr.heap.size, 1, none⟩ = some (.bool sg) := HX.out.cell rfl
        go_still_tail 5, (by kernel_rfl)
        change wpList _ _ _ _ _ W.drew
        have HB2 : Hid (Below w.heap.size w W.drew) := Lib.hid HB1.out.drew
        generalize W.drew = W2 at HB2 ⊢
        clear x1 x2 hc1 t0 t1 e3
        go_wp2_with fail
        refine (fitsC b sg v W2).mono ?_
        rintro e W3 ⟨rfl, hb3⟩
        have HB3 := Lib.hid (HB2.out.trans (hb3.mono HB2.out.size))
        clear hb3
        obtain ⟨u, hu⟩ : ∃ u, fitB b sg v = u := ⟨_, rfl⟩
        rw [hu]
        have HU := Lib.hid hu
        clear hu
        cases u
        · have HZ := Lib.hid (HBAD.out HU.out)
          go_wp2_with fail
          go_ret
          exact ⟨retB HZ.out.symm, HB3.out⟩
        · have HZ := Lib.hid (HGO.out HU.out)
          go_wp2_with fail
          go_roundw
          case rel => exact ⟨i + 1, by go_num, by omega, HZ, HB3⟩
          case measure => simp [intOf]; omega
      · have hlti : ¬ (i : Int) < t.length := by omega
        have HA : Hid (fitsL t l = true) := Lib.hid (by rw [HV.out]; exact all_of fun j hj => HJ.out j hj (by rw [List.length_zip] at hj; omega))
        go_wp2_with fail
        go_ret
        exact ⟨retB HA.out.symm, HB.out⟩
  · have HV : Hid (fitsL t l = false) := Lib.hid (by unfold fitsL; rw [decide_eq_false hne]; rfl)
    have hnb : ((l.length : Int) != (t.length : Int)) = true := by rw [bne_iff_ne]; omega
    clear hne
    go_enter Try.func52, Try.ntmps52
    go_wp2_with fail
    go_ret
    exact ⟨retB HV.out.symm, Below.refl _ _⟩
end Go.Proofs.Ytofdfaopabmfoaa
