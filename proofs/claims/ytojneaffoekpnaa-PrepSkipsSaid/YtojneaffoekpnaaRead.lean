/- A condition that is one number is read. -/
import Derived.Test.YtojneaffoekpnaaAwake
namespace Go.Proofs.Ytojneaffoekpnaa
open Go.ChangeShapes Go.WideShapes Go.ChangeAt Go.RowKit
set_option linter.unusedVariables false
set_option linter.unusedSimpArgs false

/-- A reader of one token that is a number. -/
structure Rd (w : World) (rb lg lc : Nat) (at' place : Int) (t : TK) : Prop where
  obj : w.heap[rb]? = some (.cells #[.slice (some ⟨lg, 0, none⟩) 1 lc, .int .i64 at', .int .i64 place] 84 (0, 0))
  tok : TkAt w lg 0 t
  kind : t.kind = 2
  ne : lg ≠ rb
theorem Rd.below {w w' : World} {rb lg lc : Nat} {a p : Int} {t : TK} (h : Rd w rb lg lc a p t) (hb : Below w.heap.size w w') : Rd w' rb lg lc a p t :=
  ⟨(hb.block _ (lt_of_block h.obj)).trans h.obj, tk_below h.tok (hb.mono (World.block_lt_of_cell? _ _ h.tok.1)), h.kind, h.ne⟩
theorem isMk_num {t : TK} (h : t.kind = 2) (s : ByteArray) : isMk t s = false := by simp [isMk, h]

theorem takes_zero (rb lg lc : Nat) (p : Int) (t : TK) (s : ByteArray) (w : World) (h : Rd w rb lg lc 0 p t) :
    Calls Try.prog 49 #[.pointer (some ⟨rb, 0, none⟩), .string s] w fun e w' => e = .returned (.bool false) ∧ Below w.heap.size w w' := by
  have hR := Lib.hid h
  have HC := Lib.hid fun w' => mark_any t s w'
  rw [isMk_num h.kind] at HC
  have hrb := lt_of_block h.obj
  have hlg : lg < w.heap.size := World.block_lt_of_cell? _ _ h.tok.1
  have r0 : w.cell? ⟨rb, 0, none⟩ = some (.slice (some ⟨lg, 0, none⟩) 1 lc) := (cell_of_row _ _ _ _ _ _ h.obj).trans rfl
  have r1 : w.cell? ⟨rb, 1, none⟩ = some (.int .i64 0) := (cell_of_row _ _ _ _ _ _ h.obj).trans rfl
  obtain ⟨c0, c1, c2, c3, c4⟩ := h.tok
  clear h
  go_enter Try.func49, Try.ntmps49
  go_wp2_with fail
  refine wp_region_kept (by kernel_rfl) (by kernel_rfl) (fun ι hne f hf hcl => ?_)
  have q0 : ∀ n, (f n).cell? ⟨rb, 0, none⟩ = some (.slice (some ⟨lg, 0, none⟩) 1 lc) := fun n => ((hf n).cell hrb).trans r0
  have q1 : ∀ n, (f n).cell? ⟨rb, 1, none⟩ = some (.int .i64 0) := fun n => ((hf n).cell hrb).trans r1
  have g0 : ∀ n, (f n).cell? ⟨lg, 0, none⟩ = some (.int .i64 t.kind) := fun n => ((hf n).cell hlg).trans c0
  have g1 : ∀ n, (f n).cell? ⟨lg, 1, none⟩ = some (.int .i64 t.pos) := fun n => ((hf n).cell hlg).trans c1
  have g2 : ∀ n, (f n).cell? ⟨lg, 2, none⟩ = some (.int .i64 t.line) := fun n => ((hf n).cell hlg).trans c2
  have g3 : ∀ n, (f n).cell? ⟨lg, 3, none⟩ = some (.string t.text) := fun n => ((hf n).cell hlg).trans c3
  have g4 : ∀ n, (f n).cell? ⟨lg, 4, none⟩ = some (.int .i64 t.num) := fun n => ((hf n).cell hlg).trans c4
  have HF := Lib.hid hcl
  clear hcl hf r0 r1 c0 c1 c2 c3 c4
  repeat (go_big_quiet_step ((go_at_call 20; exact kept_of HF.out _ (HC.out _))))
  refine wpQuiet_nil ?_
  intro w1 hb1
  have HB := Lib.hid hb1
  clear hb1 g0 g1 g2 g3 g4 q0 q1
  go_wp2_with fail
  go_ret
  exact ⟨rfl, HB.out⟩

theorem takes_end (rb lg lc : Nat) (p : Int) (t : TK) (s : ByteArray) (w : World) (h : Rd w rb lg lc 1 p t) :
    Calls Try.prog 49 #[.pointer (some ⟨rb, 0, none⟩), .string s] w fun e w' => e = .returned (.bool false) ∧ Below w.heap.size w w' := by
  have r0 : w.cell? ⟨rb, 0, none⟩ = some (.slice (some ⟨lg, 0, none⟩) 1 lc) := (cell_of_row _ _ _ _ _ _ h.obj).trans rfl
  have r1 : w.cell? ⟨rb, 1, none⟩ = some (.int .i64 1) := (cell_of_row _ _ _ _ _ _ h.obj).trans rfl
  clear h
  go_enter Try.func49, Try.ntmps49
  go_wp2_with fail
  go_quiet (fail)
  go_wp2_with fail
  go_ret
  exact ⟨rfl, bdrew (Below.refl _ _) _⟩

/-- Behind the number. -/
theorem Rd.next {w : World} {rb lg lc : Nat} {p : Int} {t : TK} (h : Rd w rb lg lc 0 p t) : Rd (w.setCell ⟨rb, 1, none⟩ (.int .i64 1)) rb lg lc 1 p t := by
  have hc : ∀ i, (w.setCell ⟨rb, 1, none⟩ (.int .i64 1)).cell? ⟨lg, i, none⟩ = w.cell? ⟨lg, i, none⟩ := fun i => World.cell?_setCell_other _ _ _ _ (fun e => h.ne (congrArg Addr.block e).symm)
  refine ⟨by rw [heap_setCell_same _ _ _ _ _ _ h.obj]; rfl, ?_, h.kind, h.ne⟩
  obtain ⟨a, b, c, d, e⟩ := h.tok
  exact ⟨(hc _).trans a, (hc _).trans b, (hc _).trans c, (hc _).trans d, (hc _).trans e⟩
/-- What a reader leaves: its own block alone has turned. -/
def ReadP (w : World) (rb lg lc : Nat) (p : Int) (t : TK) (e : Ending) (w' : World) : Prop := e = .returned (.int .i64 t.num) ∧ Rd w' rb lg lc 1 p t ∧ w.grownBy w' (some rb)

set_option maxRecDepth 100000 in
set_option maxHeartbeats 1600000 in
theorem one_any (rb lg lc : Nat) (p : Int) (t : TK) (w : World) (h : Rd w rb lg lc 0 p t) :
    Calls Try.prog 52 #[.pointer (some ⟨rb, 0, none⟩), .int .i64 0] w (ReadP w rb lg lc p t) := by
  have HTK := Lib.hid fun w' (hb : Rd w' rb lg lc 0 p t) s => takes_zero rb lg lc p t s w' hb
  have r0 : w.cell? ⟨rb, 0, none⟩ = some (.slice (some ⟨lg, 0, none⟩) 1 lc) := (cell_of_row _ _ _ _ _ _ h.obj).trans rfl
  have r1 : w.cell? ⟨rb, 1, none⟩ = some (.int .i64 0) := (cell_of_row _ _ _ _ _ _ h.obj).trans rfl
  have HR := Lib.hid h
  have hk := h.kind
  clear h
  go_enter Try.func52, Try.ntmps52
  go_wp2_with fail
  go_quiet (fail)
  have HR1 : Hid (Rd (w.drewN nq) rb lg lc 0 p t) := Lib.hid (HR.out.below (bdrew (Below.refl _ _) _))
  have HB1 : Hid (Below w.heap.size w (w.drewN nq)) := Lib.hid (bdrew (Below.refl _ _) _)
  clear r0 r1
  generalize w.drewN nq = w1 at HR1 HB1 ⊢
  go_wp2_with fail
  refine (HTK.out _ HR1.out _).mono ?_
  rintro e w2 ⟨rfl, hb2⟩
  have HR2 := Lib.hid (HR1.out.below hb2)
  have HB2 := Lib.hid (HB1.out.trans (hb2.mono HB1.out.size))
  clear hb2 HR1 HB1
  go_wp2_with fail
  refine (HTK.out _ HR2.out _).mono ?_
  rintro e w3 ⟨rfl, hb3⟩
  have HR3 := Lib.hid (HR2.out.below hb3)
  have HB3 := Lib.hid (HB2.out.trans (hb3.mono HB2.out.size))
  clear hb3 HR2 HB2
  have r0 : w3.cell? ⟨rb, 0, none⟩ = some (.slice (some ⟨lg, 0, none⟩) 1 lc) := (cell_of_row _ _ _ _ _ _ HR3.out.obj).trans rfl
  have r1 : w3.cell? ⟨rb, 1, none⟩ = some (.int .i64 0) := (cell_of_row _ _ _ _ _ _ HR3.out.obj).trans rfl
  have hrb := lt_of_block HR3.out.obj
  have hlg : lg < w3.heap.size := World.block_lt_of_cell? _ _ HR3.out.tok.1
  obtain ⟨c0, c1, c2, c3, c4⟩ := HR3.out.tok
  have n1 : rb ≠ w3.heap.size := by omega
  have n2 : lg ≠ w3.heap.size := by omega
  go_wp2_with fail
  go_region
  have HW4 : Hid (Below w3.heap.size w3 (w3.alloc (.cells #[.int .i64 2, .int .i64 t.pos, .int .i64 t.line, .string t.text, .int .i64 t.num] 25)).drew) := Lib.hid ((Below.refl _ _).alloc (Nat.le_refl _) _).drew
  have HX4 : Hid ((w3.alloc (.cells #[.int .i64 2, .int .i64 t.pos, .int .i64 t.line, .string t.text, .int .i64 t.num] 25)).drew.heap[w3.heap.size]? = some (.cells #[.int .i64 2, .int .i64 t.pos, .int .i64 t.line, .string t.text, .int .i64 t.num] 25 (0, 0))) := Lib.hid (heap_alloc_new w3 _)
  clear r0 r1 c0 c1 c2 c3 c4
  generalize World.drew _ = W4 at HW4 HX4 ⊢
  have HR4 := Lib.hid (HR3.out.below HW4.out)
  have r1 : W4.cell? ⟨rb, 1, none⟩ = some (.int .i64 0) := (cell_of_row _ _ _ _ _ _ HR4.out.obj).trans rfl
  have r2 : W4.frozen? ⟨rb, 1, none⟩ = false := frozen_of_row _ _ _ _ _ HR4.out.obj
  have x0 : W4.cell? ⟨w3.heap.size, 0, none⟩ = some (.int .i64 2) := (cell_of_row _ _ _ _ _ _ HX4.out).trans rfl
  have x4 : W4.cell? ⟨w3.heap.size, 4, none⟩ = some (.int .i64 t.num) := (cell_of_row _ _ _ _ _ _ HX4.out).trans rfl
  have hne : ∀ i, (W4.setCell ⟨rb, 1, none⟩ (.int .i64 1)).cell? ⟨w3.heap.size, i, none⟩ = W4.cell? ⟨w3.heap.size, i, none⟩ := fun i => World.cell?_setCell_other _ _ _ _ (fun e => by have := congrArg Addr.block e; simp at this; omega)
  have y0 := (hne 0).trans x0
  have y4 := (hne 4).trans x4
  have hw1 : IntKind.i64.wrap 1 = 1 := by decide
  clear x0 x4 hne
  go_wp2_with fail
  go_ret
  refine ⟨rfl, HR4.out.next, ?_⟩
  have hs : (W4.setCell ⟨rb, 1, none⟩ (.int .i64 1)).heap.size = W4.heap.size := by simp [World.setCell]
  have hb := HB3.out.trans (HW4.out.mono HB3.out.size)
  exact ⟨hb.os, hb.tape, hb.output, by rw [hs]; exact hb.size, fun k hk hkb => (heap_setCell_other _ _ _ _ (fun e => hkb (by rw [e]))).trans (hb.block k hk)⟩

theorem ReadP.more {w w1 w2 : World} {rb lg lc : Nat} {p : Int} {t : TK} (h : Rd w1 rb lg lc 1 p t) (hg : w.grownBy w1 (some rb)) (hb : Below w1.heap.size w1 w2) : Rd w2 rb lg lc 1 p t ∧ w.grownBy w2 (some rb) :=
  ⟨h.below hb, hg.trans ⟨hb.os, hb.tape, hb.output, hb.size, fun k hk _ => hb.block k hk⟩⟩

theorem test_any (rb lg lc : Nat) (p : Int) (t : TK) (w : World) (h : Rd w rb lg lc 0 p t) :
    Calls Try.prog 51 #[.pointer (some ⟨rb, 0, none⟩), .int .i64 0] w (ReadP w rb lg lc p t) := by
  have HONE := Lib.hid (one_any rb lg lc p t w h)
  have HTK := Lib.hid fun w' (hb : Rd w' rb lg lc 1 p t) s => takes_end rb lg lc p t s w' hb
  clear h
  go_enter Try.func51, Try.ntmps51
  go_wp2_with fail
  refine HONE.out.mono ?_
  rintro e w1 ⟨rfl, hr, hg⟩
  have HX := Lib.hid (And.intro hr hg)
  clear hr hg
  go_wp2_with fail
  refine (HTK.out _ HX.out.1 _).mono ?_
  rintro e w2 ⟨rfl, hb⟩
  have HX2 := Lib.hid (ReadP.more HX.out.1 HX.out.2 hb)
  clear hb HX
  go_wp2_with fail
  refine (HTK.out _ HX2.out.1 _).mono ?_
  rintro e w3 ⟨rfl, hb⟩
  have HX3 := Lib.hid (ReadP.more HX2.out.1 HX2.out.2 hb)
  clear hb HX2
  go_wp2_with fail
  refine (HTK.out _ HX3.out.1 _).mono ?_
  rintro e w4 ⟨rfl, hb⟩
  have HX4 := Lib.hid (ReadP.more HX3.out.1 HX3.out.2 hb)
  clear hb HX3
  go_wp2_with fail
  refine (HTK.out _ HX4.out.1 _).mono ?_
  rintro e w5 ⟨rfl, hb⟩
  have HX5 := Lib.hid (ReadP.more HX4.out.1 HX4.out.2 hb)
  clear hb HX4
  go_wp2_with fail
  refine (HTK.out _ HX5.out.1 _).mono ?_
  rintro e w6 ⟨rfl, hb⟩
  have HX6 := Lib.hid (ReadP.more HX5.out.1 HX5.out.2 hb)
  clear hb HX5
  go_wp2_with fail
  refine (HTK.out _ HX6.out.1 _).mono ?_
  rintro e w7 ⟨rfl, hb⟩
  have HX7 := Lib.hid (ReadP.more HX6.out.1 HX6.out.2 hb)
  clear hb HX6
  go_wp2_with fail
  go_ret
  exact ⟨rfl, HX7.out.1, HX7.out.2⟩

theorem and_any (rb lg lc : Nat) (p : Int) (t : TK) (w : World) (h : Rd w rb lg lc 0 p t) :
    Calls Try.prog 48 #[.pointer (some ⟨rb, 0, none⟩), .int .i64 0] w (ReadP w rb lg lc p t) := by
  have HONE := Lib.hid (test_any rb lg lc p t w h)
  have HTK := Lib.hid fun w' (hb : Rd w' rb lg lc 1 p t) s => takes_end rb lg lc p t s w' hb
  clear h
  go_enter Try.func48, Try.ntmps48
  go_wp2_with fail
  refine HONE.out.mono ?_
  rintro e w1 ⟨rfl, hr, hg⟩
  have HX := Lib.hid (And.intro hr hg)
  clear hr hg
  go_wp2_with fail
  refine wp_loop_rounds 1 ?_
  rw [rounds_succ]
  go_wp2_with fail
  refine (HTK.out _ HX.out.1 _).mono ?_
  rintro e w2 ⟨rfl, hb⟩
  have HX2 := Lib.hid (ReadP.more HX.out.1 HX.out.2 hb)
  clear hb HX
  go_wp2_with fail
  go_ret
  exact ⟨rfl, HX2.out.1, HX2.out.2⟩

theorem or_any (rb lg lc : Nat) (p : Int) (t : TK) (w : World) (h : Rd w rb lg lc 0 p t) :
    Calls Try.prog 42 #[.pointer (some ⟨rb, 0, none⟩), .int .i64 0] w (ReadP w rb lg lc p t) := by
  have HONE := Lib.hid (and_any rb lg lc p t w h)
  have HTK := Lib.hid fun w' (hb : Rd w' rb lg lc 1 p t) s => takes_end rb lg lc p t s w' hb
  clear h
  go_enter Try.func42, Try.ntmps42
  go_wp2_with fail
  refine HONE.out.mono ?_
  rintro e w1 ⟨rfl, hr, hg⟩
  have HX := Lib.hid (And.intro hr hg)
  clear hr hg
  go_wp2_with fail
  refine wp_loop_rounds 1 ?_
  rw [rounds_succ]
  go_wp2_with fail
  refine (HTK.out _ HX.out.1 _).mono ?_
  rintro e w2 ⟨rfl, hb⟩
  have HX2 := Lib.hid (ReadP.more HX.out.1 HX.out.2 hb)
  clear hb HX
  go_wp2_with fail
  go_ret
  exact ⟨rfl, HX2.out.1, HX2.out.2⟩
end Go.Proofs.Ytojneaffoekpnaa
