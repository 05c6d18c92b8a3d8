/- The document's first answer: may an Env be. -/
import Derived.Test.YtbhgdlfndamklaaGreatDoorM44
import Derived.Test.YtbhgdlfndamklaaGreatDoorM23
import Derived.Test.YtbhgdlfndamklaaGreatDoorM26
import Derived.Test.YtbhgdlfndamklaaGreatDoorM34
import Derived.Test.YtbhgdlfndamklaaGreatDoorM01
import Derived.Test.YtbhgdlfndamklaaGreatDoorM31
import Derived.Test.YtbhgdlfndamklaaGreatDoorM24
import Derived.Test.YtbhgdlfndamklaaGreatDoorCards
import Derived.Test.YtbhgdlfndamklaaGreatDoorTie
import Derived.Deep.DeepHandedRow
import Derived.Deep.DeepWitnessRowRef
import Derived.Lib.LaidIn
import Derived.Lib.LaidTab
import Derived.LaidLaws
import Derived.Stop.LaidErr
import Derived.Lib.SmallJoins
namespace Go.Proofs.YtbhgdlfndamklaaGreatDoor
open Go.ChangeShapes Go.WideShapes Go.ChangeAt Go.RowKit
set_option linter.unusedVariables false
set_option linter.unusedSimpArgs false

set_option maxHeartbeats 2000000 in
set_option maxRecDepth 100000 in
theorem check14H {B : Nat} {h : MH} {hs : SH} {ao : Option Addr} {ac : Nat} {E : EnvD} (x : Int) (w : World) (hB : B ≤ w.heap.size) (hd : ED B w h hs ao E) (hab : ArgsB E.m) :
    Calls Tryz.prog 6 #[.agg (eCells h hs ao ac E), .int .i64 x] w fun e w' => e = .returned (.int .i64 (envE E x)) ∧ Below w.heap.size w w' := by
  have HX := Lib.hid (Bx.new w (eCells h hs ao ac E) 36)
  have HD := Lib.hid (hd.below (HX.out.bel.mono hB))
  have HBB := Lib.hid hB
  have hml := hd.md.exprs.1
  have hsl := hd.sd.procs.1
  clear hd
  unfold eCells at HX ⊢
  go_enter Tryz.func6, Tryz.ntmps6
  go_wp2_with fail
  have HSC := Lib.hid (check12H hab (w.alloc (Obj.cells #[.slice h.go E.m.globals.length h.gc, .slice h.io E.m.init.length h.ic, .slice h.so E.m.shapes.length h.sc, .slice h.co E.m.chans.length h.cc, .slice h.po E.m.procs.length h.pc, .int .i64 E.m.claim, .slice h.eo E.m.exprs.length h.ec, .slice hs.go E.s.globals.length hs.gc, .slice hs.co E.s.chans.length hs.cc, .slice hs.po E.s.procs.length hs.pc, .int .i64 E.s.last, .int .i64 E.s.alone, .int .i64 E.s.claim, .int .i64 E.pid, .bool E.timeout, .slice ao E.able.length ac] 36)) (Nat.le_trans HBB.out HX.out.bel.size) HD.out.md HD.out.sd)
  unfold mV mCells sV sCells at HSC
  refine HSC.out.mono ?_
  rintro e W1 ⟨rfl, hb1⟩
  have HX1 := Lib.hid (HX.out.below hb1)
  clear hb1 HSC HX
  obtain ⟨er, her⟩ : ∃ q, stateE E.m E.s = q := ⟨_, rfl⟩
  rw [her]
  have HV : Hid (envE E x = if er ≠ 0 then er else if E.pid < -1 ∨ (E.s.procs.length : Int) ≤ E.pid ∨ x < 0 ∨ (E.m.exprs.length : Int) ≤ x then 42 else 0) := Lib.hid (by unfold envE; rw [her])
  clear her
  have c6 : W1.cell? ⟨w.heap.size, 6, none⟩ = some (.slice h.eo E.m.exprs.length h.ec) := HX1.out.cell rfl
  have c9 : W1.cell? ⟨w.heap.size, 9, none⟩ = some (.slice hs.po E.s.procs.length hs.pc) := HX1.out.cell rfl
  have c13 : W1.cell? ⟨w.heap.size, 13, none⟩ = some (.int .i64 E.pid) := HX1.out.cell rfl
  by_cases h0 : er = 0
  · have hd0 : (er != 0) = false := by rw [bne_eq_false_iff_eq]; exact h0
    subst h0
    by_cases h1 : E.pid < -1
    · have hd1 : decide (E.pid < -1) = true := decide_eq_true h1
      have HR : Hid (envE E x = 42) := Lib.hid (by rw [HV.out, if_neg (by simp), if_pos (.inl h1)])
      go_wp2_with fail
      go_ret
      exact ⟨retI HR.out.symm, HX1.out.bel⟩
    · have hd1 : decide (E.pid < -1) = false := decide_eq_false h1
      by_cases h2 : (E.s.procs.length : Int) ≤ E.pid
      · have hd2 : decide ((E.s.procs.length : Int) ≤ E.pid) = true := decide_eq_true h2
        have HR : Hid (envE E x = 42) := Lib.hid (by rw [HV.out, if_neg (by simp), if_pos (.inr (.inl h2))])
        go_wp2_with fail
        go_ret
        exact ⟨retI HR.out.symm, HX1.out.bel⟩
      · have hd2 : decide ((E.s.procs.length : Int) ≤ E.pid) = false := decide_eq_false h2
        by_cases h3 : x < 0
        · have hd3 : decide (x < 0) = true := decide_eq_true h3
          have HR : Hid (envE E x = 42) := Lib.hid (by rw [HV.out, if_neg (by simp), if_pos (.inr (.inr (.inl h3)))])
          go_wp2_with fail
          go_ret
          exact ⟨retI HR.out.symm, HX1.out.bel⟩
        · have hd3 : decide (x < 0) = false := decide_eq_false h3
          by_cases h4 : (E.m.exprs.length : Int) ≤ x
          · have hd4 : decide ((E.m.exprs.length : Int) ≤ x) = true := decide_eq_true h4
            have HR : Hid (envE E x = 42) := Lib.hid (by rw [HV.out, if_neg (by simp), if_pos (.inr (.inr (.inr h4)))])
            go_wp2_with fail
            go_ret
            exact ⟨retI HR.out.symm, HX1.out.bel⟩
          · have hd4 : decide ((E.m.exprs.length : Int) ≤ x) = false := decide_eq_false h4
            have HR : Hid (envE E x = 0) := Lib.hid (by rw [HV.out, if_neg (by simp), if_neg (by omega)])
            go_wp2_with fail
            go_ret
            exact ⟨retI HR.out.symm, HX1.out.bel⟩
  · have hd0 : (er != 0) = true := by rw [bne_iff_ne]; exact h0
    have HR : Hid (envE E x = er) := Lib.hid (by rw [HV.out, if_pos h0])
    go_wp2_with fail
    go_ret
    exact ⟨retI HR.out.symm, HX1.out.bel⟩
end Go.Proofs.YtbhgdlfndamklaaGreatDoor
/- ExprReckons: every expression is reckoned to the document's number, or its run-time error. -/
namespace Go.Proofs.YtbhgdlfndamklaaGreatDoor.exprReckons
open Go.ChangeShapes Go.WideShapes Go.ChangeAt Go.RowKit
set_option linter.unusedVariables false
set_option linter.unusedSimpArgs false

section
variable {w W W' : World} {ES : Array Value} {h : MH} {hs : SH} {ao : Option Addr} {ac : Nat} {E : EnvD}
theorem zs_check (k : Zs w ES h hs ao ac E W) (hab : ArgsB E.m) (x : Int) : Calls Tryz.prog 6 #[.agg ES, .int .i64 x] W fun e W' => e = .returned (.int .i64 (envE E x)) ∧ Below W.heap.size W W' := by
  rw [k.es]
  exact check14H x W (Nat.le_refl _) k.here hab
theorem zs_eval (k : Zs w ES h hs ao ac E W) (x : Int) : Calls Tryz.prog 7 #[.agg ES, .int .i64 x] W fun e W' => e = .returned (.tuple #[.int .i64 (envEval E x).1, .int .i64 (envEval E x).2]) ∧ Below W.heap.size W W' := by
  rw [k.es]
  exact eEvalC x W (Nat.le_refl _) k.here
theorem zs_chan (k : Zs w ES h hs ao ac E W) (x : Int) : Calls Tryz.prog 8 #[.agg ES, .int .i64 x] W fun e W' => e = .returned (.tuple #[.int .i64 (envChan E x).1, .int .i64 (envChan E x).2]) ∧ Below W.heap.size W W' := by
  rw [k.es]
  exact eChanC x W (Nat.le_refl _) k.here
theorem zs_dchan (k : Zs w ES h hs ao ac E W) (hok : Ok E) (x : Int) (h0 : 0 ≤ x) (h1 : x < E.m.exprs.length) : Calls Tryz.prog 10 #[.agg ES, .int .i64 x] W fun e W' => e = .returned (.tuple #[.int .i64 (rchanB E (evE E) x).1, .int .i64 (rchanB E (evE E) x).2]) ∧ Below W.heap.size W W' := by
  rw [k.es]
  exact chan14H x W k.here (evalH hok) h0 h1
end

set_option maxRecDepth 100000 in
set_option maxHeartbeats 2000000 in
theorem walk {h : MH} {hs : SH} {ao : Option Addr} {ac : Nat} {E : EnvD} (w : World) (hd : ED w.heap.size w h hs ao E) (hab : ArgsB E.m) (ht : TabW w) : Calls Tryz.prog 3 #[.agg (eCells h hs ao ac E)] w fun e w' => e = .returned (.bool true) ∧ Below w.heap.size w w' := by
  obtain ⟨ES, hES⟩ : ∃ c, c = eCells h hs ao ac E := ⟨_, rfl⟩
  have HX0 := Lib.hid (Zs.new hd hES)
  have HT0 : Hid (TabW (w.alloc (.cells ES 36))) := Lib.hid (ht.below (ball _))
  have HAB := Lib.hid hab
  have hel := hd.md.exprs.1
  rw [← hES]
  clear hd ht hES hab
  go_enter Tryz.func3, Tryz.ntmps3
  go_wp2_with fail
  refine (shownC _ HT0.out).mono ?_
  rintro e w1 ⟨rfl, hb1⟩
  have HX1 := Lib.hid (HX0.out.below hb1)
  clear hb1 HX0 HT0
  go_wp2_with fail
  go_loopw [4] (fun xv W => ∃ x : Int, xv = .int .i64 x ∧ -1 ≤ x ∧ x ≤ 201 ∧ Hid (Zs w ES h hs ao ac E W)) (fun xv _ => (201 - intOf xv).toNat)
  case atStart => exact ⟨-1, rfl, by omega, by omega, HX1⟩
  case round =>
    clear HX1
    obtain ⟨x, rfl, hx0, hx1, HX⟩ := hrel
    have c6 : wr.cell? ⟨w.heap.size, 6, none⟩ = some (.slice h.eo E.m.exprs.length h.ec) := HX.out.cell rfl
    by_cases hlt : x ≤ E.m.exprs.length
    · have hl1 : decide (x ≤ (E.m.exprs.length : Int)) = true := decide_eq_true hlt
      by_cases hlu : x ≤ 200
      · have hl2 : decide (x ≤ 200) = true := decide_eq_true hlu
        have HCK := Lib.hid (zs_check HX.out HAB.out x)
        go_wp2_with (refine wpList_load_row rfl _ _ rfl _ rfl _ ES _ _ HX.out.bx.box Tryz.underlying36 rfl HX.out.info ?_)
        refine HCK.out.mono ?_
        rintro e W1 ⟨rfl, hb1⟩
        have HX1 := Lib.hid (HX.out.below hb1)
        clear hb1 HCK HX c6
        obtain ⟨bad, hbad⟩ : ∃ b, envE E x = b := ⟨_, rfl⟩
        rw [hbad]
        have HBAD := Lib.hid hbad
        clear hbad
        have HE1 := Lib.hid (zs_eval HX1.out x)
        obtain ⟨⟨v, f⟩, hev⟩ : ∃ r, envEval E x = r := ⟨_, rfl⟩
        have HEV := Lib.hid hev
        rw [hev] at HE1
        simp only at HE1
        clear hev
        go_wp2_with (refine wpList_load_row rfl _ _ rfl _ rfl _ ES _ _ HX1.out.bx.box Tryz.underlying36 rfl HX1.out.info ?_)
        refine HE1.out.mono ?_
        rintro e W2 ⟨rfl, hb2⟩
        have HX2 := Lib.hid (HX1.out.below hb2)
        clear hb2 HE1 HX1
        have HC1 := Lib.hid (zs_chan HX2.out x)
        obtain ⟨⟨c, g⟩, hch⟩ : ∃ r, envChan E x = r := ⟨_, rfl⟩
        have HCH := Lib.hid hch
        rw [hch] at HC1
        simp only at HC1
        clear hch
        go_wp2_with (refine wpList_load_row rfl _ _ rfl _ rfl _ ES _ _ HX2.out.bx.box Tryz.underlying36 rfl HX2.out.info ?_)
        refine HC1.out.mono ?_
        rintro e W3 ⟨rfl, hb3⟩
        have HX3 := Lib.hid (HX2.out.below hb3)
        clear hb3 HC1 HX2
        by_cases hb : bad = 0
        rotate_left
        · have d0 : (bad != 0) = true := by rw [bne_iff_ne]; exact hb
          have hv : (v, f) = (0, bad) := by rw [← HEV.out]; unfold envEval; rw [HBAD.out, if_pos hb]
          have hc : (c, g) = (0, bad) := by rw [← HCH.out]; unfold envChan; rw [HBAD.out, if_pos hb]
          injection hv with hv1 hv2
          injection hc with hc1 hc2
          have d1 : (f != bad) = false := by rw [hv2]; simp
          have d2 : (g != bad) = false := by rw [hc2]; simp
          subst hv1 hc1
          clear hb hv2 hc2
          go_wp2_with fail
          go_roundw
          case rel => exact ⟨x + 1, by go_num, by omega, by omega, HX3⟩
          case measure => simp [intOf]; omega
        · subst hb
          obtain ⟨hok, h0, h1⟩ := envE_ok HBAD.out
          have hv : evE E x = (v, f) := by rw [← HEV.out]; unfold envEval; rw [HBAD.out, if_neg (by simp)]
          have hc : rchanB E (evE E) x = (c, g) := by rw [← HCH.out]; unfold envChan; rw [HBAD.out, if_neg (by simp)]
          have HF1 := Lib.hid ((evalH hok).at HX3.out x h0 h1)
          rw [hv] at HF1
          simp only at HF1
          have HOK := Lib.hid hok
          have HCC := Lib.hid hc
          have d1 : (v != v) = false := by simp
          have d2 : (f != f) = false := by simp
          have d3 : (c != c) = false := by simp
          have d4 : (g != g) = false := by simp
          clear hok hv hc
          go_wp2_with (refine wpList_load_row rfl _ _ rfl _ rfl _ ES _ _ HX3.out.bx.box Tryz.underlying36 rfl HX3.out.info ?_)
          refine HF1.out.mono ?_
          rintro e W4 ⟨rfl, hb4⟩
          have HX4 := Lib.hid (HX3.out.below hb4)
          clear hb4 HF1 HX3
          have HF2 := Lib.hid (zs_dchan HX4.out HOK.out x h0 h1)
          rw [HCC.out] at HF2
          simp only at HF2
          go_wp2_with (refine wpList_load_row rfl _ _ rfl _ rfl _ ES _ _ HX4.out.bx.box Tryz.underlying36 rfl HX4.out.info ?_)
          refine HF2.out.mono ?_
          rintro e W5 ⟨rfl, hb5⟩
          have HX5 := Lib.hid (HX4.out.below hb5)
          clear hb5 HF2 HX4
          go_wp2_with fail
          go_roundw
          case rel => exact ⟨x + 1, by go_num, by omega, by omega, HX5⟩
          case measure => simp [intOf]; omega
      · have hl2 : decide (x ≤ 200) = false := decide_eq_false hlu
        go_wp2_with fail
        go_ret
        exact ⟨rfl, HX.out.bx.bel⟩
    · have hl1 : decide (x ≤ (E.m.exprs.length : Int)) = false := decide_eq_false hlt
      go_wp2_with fail
      go_ret
      exact ⟨rfl, HX.out.bx.bel⟩
end Go.Proofs.YtbhgdlfndamklaaGreatDoor.exprReckons
/- A state that came in, opened; the pids of a row of steps. -/
namespace Go.Proofs.YtbhgdlfndamklaaGreatDoor
open Go.ChangeShapes Go.WideShapes Go.ChangeAt Go.RowKit
set_option linter.unusedVariables false
set_option linter.unusedSimpArgs false
set_option maxRecDepth 100000
variable {H : Type} {enc : TypeId × Value → H} {W : World} {base : Nat} {sp : Nat → Bool} {hd : Bool} {fuel : Nat}

theorem opens_msg : Opens enc W base sp hd 92 (fun g a l => msgAt W.heap.size W g a l) := opens_sli Tryz.underlying92 c_int64.1 (by decide) c_int64.2 (by decide) (opens_int Tryz.underlying2)
theorem opens_msgs : Opens enc W base sp hd 89 (fun g a l => Sli W.heap.size W g a 1 (msgAt W.heap.size W) l) := opens_sli Tryz.underlying89 (by kernel_rfl) (by decide) (bb := 24) (by kernel_rfl) (by decide) opens_msg
theorem opens_chan : Opens enc W base sp hd 91 (chanAt W.heap.size W) := by
  intro g off h
  have P := open_parts Tryz.underlying91 h
  obtain ⟨x0, h0⟩ := opens_int Tryz.underlying3 _ _ (P 0 _ rfl)
  obtain ⟨x1, h1⟩ := opens_msgs _ _ (P 1 _ rfl)
  exact ⟨⟨x0, x1⟩, h0, h1⟩
theorem opens_process : Opens enc W base sp hd 84 (processAt W.heap.size W) := by
  intro g off h
  have P := open_parts Tryz.underlying84 h
  obtain ⟨x0, h0⟩ := opens_int Tryz.underlying3 _ _ (P 0 _ rfl)
  obtain ⟨x1, h1⟩ := opens_int Tryz.underlying3 _ _ (P 1 _ rfl)
  obtain ⟨x2, h2⟩ := opens_int Tryz.underlying3 _ _ (P 2 _ rfl)
  obtain ⟨x3, h3⟩ := opens_int64s _ _ (P 3 _ rfl)
  exact ⟨⟨x0, x1, x2, x3⟩, h0, h1, h2, h3⟩
theorem six_of {α : Type} {l : List α} (h : l.length = 6) : ∃ a b c d e f, l = [a, b, c, d, e, f] := by
  match l, h with
  | [a, b, c, d, e, f], _ => exact ⟨a, b, c, d, e, f, rfl⟩
/-- A state's cells. -/
theorem open_stateL {l : List Value} {y : DataW H × List MemPlace} (hl : l.length = 6) (h : DataW.trod enc Tryz.prog W base sp hd fuel 33 l = some y) (hw : Fits 33 y.1) : ∃ h s, l = (sCells h s).toList ∧ SD W.heap.size W h s := by
  have P := open_fits Tryz.underlying33 h hw
  obtain ⟨n0, y0, p0, w0⟩ := P 0 _ rfl
  obtain ⟨n1, y1, p1, w1⟩ := P 1 _ rfl
  obtain ⟨n2, y2, p2, w2⟩ := P 2 _ rfl
  obtain ⟨n3, y3, p3, w3⟩ := P 3 _ rfl
  obtain ⟨n4, y4, p4, w4⟩ := P 4 _ rfl
  obtain ⟨n5, y5, p5, w5⟩ := P 5 _ rfl
  clear P
  obtain ⟨o0, l0, c0, e0, r0⟩ := open_sli Tryz.underlying23 c_int64.1 (by decide) c_int64.2 (by decide) (opens_int Tryz.underlying2) p0 w0
  obtain ⟨o1, l1, c1, e1, r1⟩ := open_sli Tryz.underlying30 (kk := 2) (by kernel_rfl) (by decide) (bb := 32) (by kernel_rfl) (by decide) opens_chan p1 w1
  obtain ⟨o2, l2, c2, e2, r2⟩ := open_sli Tryz.underlying31 (kk := 4) (by kernel_rfl) (by decide) (bb := 48) (by kernel_rfl) (by decide) opens_process p2 w2
  obtain ⟨v3, e3, _, _⟩ := DataW.trod_int Tryz.underlying3 p3
  obtain ⟨v4, e4, _, _⟩ := DataW.trod_int Tryz.underlying3 p4
  obtain ⟨v5, e5, _, _⟩ := DataW.trod_int Tryz.underlying3 p5
  have f0 := (one_cs (l := l) (o := 0) (by omega) (by kernel_rfl)).symm.trans e0
  have f1 := (one_cs (l := l) (o := 1) (by omega) (by kernel_rfl)).symm.trans e1
  have f2 := (one_cs (l := l) (o := 2) (by omega) (by kernel_rfl)).symm.trans e2
  have f3 := (one_cs (l := l) (o := 3) (by omega) (by kernel_rfl)).symm.trans e3
  have f4 := (one_cs (l := l) (o := 4) (by omega) (by kernel_rfl)).symm.trans e4
  have f5 := (one_cs (l := l) (o := 5) (by omega) (by kernel_rfl)).symm.trans e5
  clear e0 e1 e2 e3 e4 e5 p0 p1 p2 p3 p4 p5 w0 w1 w2 w3 w4 w5 h hw
  obtain ⟨a0, a1, a2, a3, a4, a5, rfl⟩ := six_of hl
  simp only [List.getElem_cons_zero, List.getElem_cons_succ, List.cons.injEq, and_true] at f0 f1 f2 f3 f4 f5
  subst f0 f1 f2 f3 f4 f5
  exact ⟨⟨o0, c0, o1, c1, o2, c2⟩, ⟨l0, l1, l2, v3, v4, v5⟩, rfl, r0, r1, r2⟩
end Go.Proofs.YtbhgdlfndamklaaGreatDoor
/- A model that came in: no row of numbers is too long for a machine. -/
namespace Go.Proofs.YtbhgdlfndamklaaGreatDoor
open Go.ChangeShapes Go.WideShapes Go.ChangeAt Go.RowKit
set_option linter.unusedVariables false
variable {H : Type} {enc : TypeId × Value → H} {W : World} {base : Nat} {sp : Nat → Bool} {hd : Bool} {fuel : Nat}

def SArgsB (m : ModelD) : Prop := ∀ p ∈ m.procs, ∀ l ∈ p.locs, ∀ t ∈ l.out, t.s.args.length ≤ 17592186044416
theorem row_both {α : Type} {B : Nat} {o : Option Addr} {k : Nat} {R : Nat → Nat → α → Prop} {P : α → Prop} {l : List α} (h : Row B o k (fun g a x => R g a x ∧ P x) l) : Row B o k R l ∧ ∀ x ∈ l, P x := by
  refine ⟨h.mono fun _ _ _ _ h => h.1, fun x hx => ?_⟩
  obtain ⟨i, hi, rfl⟩ := List.mem_iff_getElem.1 hx
  obtain ⟨g, off, -, -, h2⟩ := h.cell hi
  exact h2.2
theorem opens_sliP {α : Type} {R : Nat → Nat → α → Prop} {P : α → Prop} {t e : TypeId} {kk bb : Nat} (ht : Tryz.prog.underlying t = some (.slice e)) (hk : Tryz.prog.cellsOf e = kk) (hk1 : 0 < kk) (hbb : Tryz.prog.bytesOf e = bb) (hb1 : 0 < bb) (he : Opens enc W base sp hd e (fun g a x => R g a x ∧ P x)) :
    Opens enc W base sp hd t (fun g a (l : List α) => Sli W.heap.size W g a kk R l ∧ ∀ x ∈ l, P x) := by
  intro g off h
  obtain ⟨l, o, c, h1, h2⟩ := opens_sli ht hk hk1 hbb hb1 he g off h
  exact ⟨l, ⟨o, c, h1, (row_both h2).1⟩, (row_both h2).2⟩
set_option maxRecDepth 100000 in
theorem opens_intsB : Opens enc W base sp hd 25 (fun g a (l : List Int) => Sli W.heap.size W g a 1 (intAt W) l ∧ l.length ≤ 17592186044416) := by
  rintro g off ⟨m, ds, y, hl, h, hw⟩
  obtain ⟨o, n, c, hcs, hnb, -⟩ := open_rowS Tryz.underlying25 c_int.1 (by decide) c_int.2 h hw
  obtain ⟨o', l, c', hcs', hr⟩ := open_sli Tryz.underlying25 c_int.1 (by decide) c_int.2 (by decide) (opens_int Tryz.underlying3) h hw
  have hn : n = l.length := by
    rw [hcs] at hcs'
    injection hcs' with e
    injection e
  subst hcs'
  have h2 : reachBytes = 140737488351232 := rfl
  exact ⟨l, ⟨o', c', hl 0 (by simp), hr⟩, by omega⟩
theorem opens_exprB : Opens enc W base sp hd 73 (fun g a x => exprAt W.heap.size W g a x ∧ x.args.length ≤ 17592186044416) := by
  intro g off h
  have P := open_parts Tryz.underlying73 h
  obtain ⟨x0, h0⟩ := opens_int Tryz.underlying3 _ _ (P 0 _ rfl)
  obtain ⟨x1, h1⟩ := opens_int Tryz.underlying2 _ _ (P 1 _ rfl)
  obtain ⟨x2, h2⟩ := opens_int Tryz.underlying3 _ _ (P 2 _ rfl)
  obtain ⟨x3, h3⟩ := opens_int Tryz.underlying3 _ _ (P 3 _ rfl)
  obtain ⟨x4, h4⟩ := opens_int Tryz.underlying3 _ _ (P 4 _ rfl)
  obtain ⟨x5, h5⟩ := opens_var _ _ (P 5 _ rfl)
  obtain ⟨x6, h6, hb⟩ := opens_intsB _ _ (P 6 _ rfl)
  obtain ⟨x7, h7⟩ := opens_ints _ _ (P 7 _ rfl)
  exact ⟨⟨x0, x1, x2, x3, x4, x5, x6, x7⟩, ⟨h0, h1, h2, h3, h4, h5, h6, h7⟩, hb⟩
theorem opens_stmtB : Opens enc W base sp hd 161 (fun g a s => stmtAt W.heap.size W g a s ∧ s.args.length ≤ 17592186044416) := by
  intro g off h
  have P := open_parts Tryz.underlying161 h
  obtain ⟨x0, h0⟩ := opens_int Tryz.underlying3 _ _ (P 0 _ rfl)
  obtain ⟨x1, h1⟩ := opens_int Tryz.underlying3 _ _ (P 1 _ rfl)
  obtain ⟨x2, h2⟩ := opens_int Tryz.underlying3 _ _ (P 2 _ rfl)
  obtain ⟨x3, h3⟩ := opens_int Tryz.underlying3 _ _ (P 3 _ rfl)
  obtain ⟨x4, h4, hb⟩ := opens_intsB _ _ (P 4 _ rfl)
  obtain ⟨x5, h5⟩ := opens_ints _ _ (P 5 _ rfl)
  obtain ⟨x6, h6⟩ := opens_str Tryz.underlying9 _ _ (P 6 _ rfl)
  exact ⟨⟨x0, x1, x2, x3, x4, x5, x6⟩, ⟨h0, h1, h2, h3, h4, h5, h6⟩, hb⟩
def TrB (t : TransD) : Prop := t.s.args.length ≤ 17592186044416
theorem opens_transB : Opens enc W base sp hd 163 (fun g a t => transAt W.heap.size W g a t ∧ TrB t) := by
  intro g off h
  have P := open_parts Tryz.underlying163 h
  obtain ⟨x0, h0, hb⟩ := opens_stmtB _ _ (P 0 _ rfl)
  obtain ⟨x1, h1⟩ := opens_int Tryz.underlying3 _ _ (P 1 _ rfl)
  obtain ⟨x2, h2⟩ := opens_int Tryz.underlying3 _ _ (P 2 _ rfl)
  exact ⟨⟨x0, x1, x2⟩, ⟨h0, h1, h2⟩, hb⟩
theorem opens_transsB : Opens enc W base sp hd 62 (fun g a (l : List TransD) => Sli W.heap.size W g a 9 (transAt W.heap.size W) l ∧ ∀ t ∈ l, TrB t) := opens_sliP Tryz.underlying62 (by kernel_rfl) (by decide) (bb := 112) (by kernel_rfl) (by decide) opens_transB
def LcB (l : LocD) : Prop := ∀ t ∈ l.out, TrB t
theorem opens_locB : Opens enc W base sp hd 65 (fun g a l => locAt W.heap.size W g a l ∧ LcB l) := by
  intro g off h
  have P := open_parts Tryz.underlying65 h
  obtain ⟨x0, h0, hb⟩ := opens_transsB _ _ (P 0 _ rfl)
  obtain ⟨x1, h1⟩ := opens_escs _ _ (P 1 _ rfl)
  obtain ⟨x2, h2⟩ := opens_bool Tryz.underlying4 _ _ (P 2 _ rfl)
  obtain ⟨x3, h3⟩ := opens_bool Tryz.underlying4 _ _ (P 3 _ rfl)
  obtain ⟨x4, h4⟩ := opens_bool Tryz.underlying4 _ _ (P 4 _ rfl)
  obtain ⟨x5, h5⟩ := opens_bool Tryz.underlying4 _ _ (P 5 _ rfl)
  obtain ⟨x6, h6⟩ := opens_bool Tryz.underlying4 _ _ (P 6 _ rfl)
  exact ⟨⟨x0, x1, x2, x3, x4, x5, x6⟩, ⟨h0, h1, h2, h3, h4, h5, h6⟩, hb⟩
theorem opens_locsB : Opens enc W base sp hd 66 (fun g a (l : List LocD) => Sli W.heap.size W g a 7 (locAt W.heap.size W) l ∧ ∀ x ∈ l, LcB x) := opens_sliP Tryz.underlying66 (by kernel_rfl) (by decide) (bb := 56) (by kernel_rfl) (by decide) opens_locB
def PrB (p : ProcD) : Prop := ∀ l ∈ p.locs, LcB l
set_option maxRecDepth 100000 in
theorem opens_procB : Opens enc W base sp hd 68 (fun g a p => procAt W.heap.size W g a p ∧ PrB p) := by
  intro g off h
  have P := open_parts Tryz.underlying68 h
  obtain ⟨x0, h0⟩ := opens_str Tryz.underlying9 _ _ (P 0 _ rfl)
  obtain ⟨x1, h1⟩ := opens_int Tryz.underlying3 _ _ (P 1 _ rfl)
  obtain ⟨x2, h2⟩ := opens_tys _ _ (P 2 _ rfl)
  obtain ⟨x3, h3⟩ := opens_int64s _ _ (P 3 _ rfl)
  obtain ⟨x4, h4, hb⟩ := opens_locsB _ _ (P 4 _ rfl)
  obtain ⟨x5, h5⟩ := opens_int Tryz.underlying3 _ _ (P 5 _ rfl)
  obtain ⟨x6, h6⟩ := opens_int Tryz.underlying3 _ _ (P 6 _ rfl)
  obtain ⟨x7, h7⟩ := opens_int Tryz.underlying3 _ _ (P 7 _ rfl)
  obtain ⟨x8, h8⟩ := opens_int Tryz.underlying3 _ _ (P 8 _ rfl)
  obtain ⟨x9, h9⟩ := opens_int Tryz.underlying3 _ _ (P 9 _ rfl)
  exact ⟨⟨x0, x1, x2, x3, x4, x5, x6, x7, x8, x9⟩, ⟨h0, h1, h2, h3, h4, h5, h6, h7, h8, h9⟩, hb⟩
end Go.Proofs.YtbhgdlfndamklaaGreatDoor
/- An Env that came in, opened; no row of numbers of its model is too long for a machine. -/
namespace Go.Proofs.YtbhgdlfndamklaaGreatDoor
open Go.ChangeShapes Go.WideShapes Go.ChangeAt Go.RowKit
set_option linter.unusedVariables false
set_option linter.unusedSimpArgs false
set_option maxRecDepth 100000
variable {H : Type} {enc : TypeId × Value → H} {W : World} {base : Nat} {sp : Nat → Bool} {hd : Bool} {fuel : Nat}

/-- A model's cells. -/
theorem open_modelLB {l : List Value} {y : DataW H × List MemPlace} (hl : l.length = 7) (h : DataW.trod enc Tryz.prog W base sp hd fuel 29 l = some y) (hw : Fits 29 y.1) : ∃ h m, l = (mCells h m).toList ∧ MD W.heap.size W h m ∧ ArgsB m ∧ SArgsB m := by
  have P := open_fits Tryz.underlying29 h hw
  obtain ⟨n0, y0, p0, w0⟩ := P 0 _ rfl
  obtain ⟨n1, y1, p1, w1⟩ := P 1 _ rfl
  obtain ⟨n2, y2, p2, w2⟩ := P 2 _ rfl
  obtain ⟨n3, y3, p3, w3⟩ := P 3 _ rfl
  obtain ⟨n4, y4, p4, w4⟩ := P 4 _ rfl
  obtain ⟨n5, y5, p5, w5⟩ := P 5 _ rfl
  obtain ⟨n6, y6, p6, w6⟩ := P 6 _ rfl
  clear P
  obtain ⟨o0, l0, c0, e0, r0⟩ := open_sli Tryz.underlying22 (kk := 2) (by kernel_rfl) (by decide) (bb := 16) (by kernel_rfl) (by decide) opens_ty p0 w0
  obtain ⟨o1, l1, c1, e1, r1⟩ := open_sli Tryz.underlying23 c_int64.1 (by decide) c_int64.2 (by decide) (opens_int Tryz.underlying2) p1 w1
  obtain ⟨o2, l2, c2, e2, r2⟩ := open_sli Tryz.underlying24 (kk := 2) (by kernel_rfl) (by decide) (bb := 32) (by kernel_rfl) (by decide) opens_shape p2 w2
  obtain ⟨o3, l3, c3, e3, r3⟩ := open_sli Tryz.underlying25 c_int.1 (by decide) c_int.2 (by decide) (opens_int Tryz.underlying3) p3 w3
  obtain ⟨o4, l4, c4, e4, r4⟩ := open_sli Tryz.underlying26 (kk := 10) (by kernel_rfl) (by decide) (bb := 136) (by kernel_rfl) (by decide) opens_procB p4 w4
  obtain ⟨v5, e5, _, _⟩ := DataW.trod_int Tryz.underlying3 p5
  obtain ⟨o6, l6, c6, e6, r6⟩ := open_sli Tryz.underlying27 (kk := 12) (by kernel_rfl) (by decide) (bb := 144) (by kernel_rfl) (by decide) opens_exprB p6 w6
  have f0 := (one_cs (l := l) (o := 0) (by omega) (by kernel_rfl)).symm.trans e0
  have f1 := (one_cs (l := l) (o := 1) (by omega) (by kernel_rfl)).symm.trans e1
  have f2 := (one_cs (l := l) (o := 2) (by omega) (by kernel_rfl)).symm.trans e2
  have f3 := (one_cs (l := l) (o := 3) (by omega) (by kernel_rfl)).symm.trans e3
  have f4 := (one_cs (l := l) (o := 4) (by omega) (by kernel_rfl)).symm.trans e4
  have f5 := (one_cs (l := l) (o := 5) (by omega) (by kernel_rfl)).symm.trans e5
  have f6 := (one_cs (l := l) (o := 6) (by omega) (by kernel_rfl)).symm.trans e6
  clear e0 e1 e2 e3 e4 e5 e6 p0 p1 p2 p3 p4 p5 p6 w0 w1 w2 w3 w4 w5 w6 h hw
  obtain ⟨a0, a1, a2, a3, a4, a5, a6, rfl⟩ := seven_of hl
  simp only [List.getElem_cons_zero, List.getElem_cons_succ, List.cons.injEq, and_true] at f0 f1 f2 f3 f4 f5 f6
  subst f0 f1 f2 f3 f4 f5 f6
  exact ⟨⟨o0, c0, o1, c1, o2, c2, o3, c3, o4, c4, o6, c6⟩, ⟨l0, l1, l2, l3, l4, v5, l6⟩, rfl, ⟨r0, r1, r2, r3, (row_both r4).1, (row_both r6).1⟩, fun x hx => (row_both r6).2 x hx, fun p hp l hl t ht => (row_both r4).2 p hp l hl t ht⟩
/-- An Env, by value. -/
theorem open_envB {v : Value} {r : Reach} {b0 : Nat} {d : DataW H} {p : List MemPlace} (hv : Value.okWide Tryz.prog W r b0 36 v) (h : DataW.Trod enc Tryz.prog W base sp hd 36 v d p) (hw : Fits 36 d) : ∃ h hs ao ac E, v = .agg (eCells h hs ao ac E) ∧ ED W.heap.size W h hs ao E ∧ ArgsB E.m ∧ SArgsB E.m := by
  obtain ⟨cs, rfl, hsz⟩ := okWide_struct Tryz.underlying36 hv
  obtain ⟨l⟩ := cs
  have hC : Tryz.prog.cellsOf 36 = 16 := by kernel_rfl
  have hl : l.length = 16 := hsz.trans hC
  obtain ⟨fu, hf⟩ := h
  have P := open_fits Tryz.underlying36 hf hw
  obtain ⟨n0, y0, p0, w0⟩ := P 0 _ rfl
  obtain ⟨n1, y1, p1, w1⟩ := P 1 _ rfl
  obtain ⟨n2, y2, p2, w2⟩ := P 2 _ rfl
  obtain ⟨n3, y3, p3, w3⟩ := P 3 _ rfl
  obtain ⟨n4, y4, p4, w4⟩ := P 4 _ rfl
  clear P
  have q0 : (l.drop 0).take 7 = (l.drop 0).take (Tryz.prog.cellsOf 29) := by rw [show Tryz.prog.cellsOf 29 = 7 by kernel_rfl]
  have q1 : (l.drop 7).take 6 = (l.drop 7).take (Tryz.prog.cellsOf 33) := by rw [show Tryz.prog.cellsOf 33 = 6 by kernel_rfl]
  obtain ⟨h1, m, e0, r0, hab, hsab⟩ := open_modelLB (l := (l.drop 0).take 7) (by simp; omega) (by rw [q0]; exact p0) w0
  obtain ⟨h2, s, e1, r1⟩ := open_stateL (l := (l.drop 7).take 6) (by simp; omega) (by rw [q1]; exact p1) w1
  obtain ⟨v2, e2, _, _⟩ := DataW.trod_int Tryz.underlying3 p2
  obtain ⟨v3, e3, _⟩ := DataW.trod_bool Tryz.underlying4 p3
  obtain ⟨o4, l4, c4, e4, r4⟩ := open_sli Tryz.underlying34 (kk := 1) (by kernel_rfl) (by decide) (bb := 1) (by kernel_rfl) (by decide) (opens_bool Tryz.underlying4) p4 w4
  have f2 := (one_cs (l := l) (o := 13) (by omega) (by kernel_rfl)).symm.trans e2
  have f3 := (one_cs (l := l) (o := 14) (by omega) (by kernel_rfl)).symm.trans e3
  have f4 := (one_cs (l := l) (o := 15) (by omega) (by kernel_rfl)).symm.trans e4
  refine ⟨h1, h2, o4, c4, ⟨m, s, v2, v3, l4⟩, ?_, ⟨r0, r1, r4⟩, hab, hsab⟩
  have hd0 : l = (l.drop 0).take 7 ++ ((l.drop 7).take 6 ++ ([l[13]] ++ ([l[14]] ++ [l[15]]))) := by
    have g0 : (l.drop 0).take 7 ++ l.drop 7 = l := by rw [List.drop_zero, List.take_append_drop]
    have g1 : (l.drop 7).take 6 ++ l.drop 13 = l.drop 7 := by
      have := List.take_append_drop 6 (l.drop 7)
      rw [List.drop_drop] at this
      exact this
    have g2 : l.drop 13 = [l[13]] ++ ([l[14]] ++ [l[15]]) := by
      rw [List.drop_eq_getElem_cons (by omega : 13 < l.length), List.drop_eq_getElem_cons (by omega : 14 < l.length), List.drop_eq_getElem_cons (by omega : 15 < l.length), List.drop_eq_nil_of_le (by omega)]
      rfl
    rw [← g2, g1, g0]
  rw [f2, f3, f4, e0, e1] at hd0
  rw [hd0]
  rfl
end Go.Proofs.YtbhgdlfndamklaaGreatDoor
/- What the row's list gives, and a world in which it is met. -/
namespace Go.Proofs.YtbhgdlfndamklaaGreatDoor
open Go.ChangeShapes Go.WideShapes Go.ChangeAt Go.RowKit
set_option linter.unusedVariables false
set_option linter.unusedSimpArgs false

theorem own : ownKnob Tryz.prog.godebug = none := by kernel_rfl
theorem laidOut : laidOutB Tryz.prog = true := by kernel_rfl
abbrev laidL : List (String × DataW Unit) := Rows.exprReckonsRow.laid
def deBruijn : List Int := [0, 1, 56, 2, 57, 49, 28, 3, 61, 58, 42, 50, 38, 29, 17, 4, 62, 47, 59, 36, 45, 43, 51, 22, 53, 39, 33, 30, 24, 18, 12, 5, 63, 55, 48, 27, 60, 41, 37, 16, 46, 35, 44, 21, 52, 32, 23, 11, 54, 26, 40, 15, 34, 20, 31, 10, 25, 14, 19, 9, 13, 8, 7, 6]
theorem env_of (W : World) (hL : laidMet Tryz.prog laidL W) : TabW W := by
  have h1 : Lib.TabIs Tryz.prog W "internal/strconv.uint64pow10" .u64 Lib.pow10Tab :=
    Lib.tabIs_of_head (g := 0) (t := 174) (e := 131) (n := 20) (by kernel_rfl) (by kernel_rfl) Tryz.underlying174 Tryz.underlying131 (by kernel_rfl) (by kernel_rfl) hL.tail.tail
  have h2 : Lib.TabIs Tryz.prog W "math/bits.deBruijn64tab" .u8 deBruijn :=
    Lib.tabIs_of_head (g := 2) (t := 201) (e := 5) (n := 64) (by kernel_rfl) (by kernel_rfl) Tryz.underlying201 Tryz.underlying5 (by kernel_rfl) (by kernel_rfl) hL.tail
  intro w' hb
  have h3 := Joins.tab_stays (g := 2) (by kernel_rfl) h2 hb (Nat.le_refl _)
  exact ⟨Joins.tab_stays (g := 0) (by kernel_rfl) h1 hb (Nat.le_refl _), (World.var?_cell (by kernel_rfl) h3 15).trans (by kernel_rfl), (World.var?_cell (by kernel_rfl) h3 7).trans (by kernel_rfl)⟩

/-! ### A world for the witness -/
def lit1 : DataW Unit → Value
  | .lit (.int k z) => .int k z
  | _ => undef
def row1 : DataW Unit → List Value
  | .agg l => l.map lit1
  | _ => []
noncomputable def laidWorld (os : Os) : World :=
  let w0 := World.holding Tryz.prog os ⟨#[], #[], []⟩
  let put (h : Array Obj) (g : Nat) (cs : Array Value) : Array Obj := h.modify g fun
    | .cells _ t frozen => .cells cs t frozen
    | o => o
  let h1 := put w0.heap 0 (row1 Rows.laid_internal_strconv_uint64pow10).toArray
  let h2 := put h1 1 (row1 Rows.laid_math_bits_deBruijn32tab).toArray
  let h3 := put h2 2 (row1 Rows.laid_math_bits_deBruijn64tab).toArray
  { w0 with heap := h3 }
end Go.Proofs.YtbhgdlfndamklaaGreatDoor
