/- The document's Eval, kind by kind. -/
import Derived.Test.YtbhgdlfndamklaaGreatDoorM40
import Derived.Test.YtbhgdlfndamklaaGreatDoorM41
import Derived.Test.YtbhgdlfndamklaaGreatDoorM42
import Derived.Test.YtbhgdlfndamklaaGreatDoorM21
import Derived.Test.YtbhgdlfndamklaaGreatDoorM17
namespace Go.Proofs.YtbhgdlfndamklaaGreatDoor
open Go.ChangeShapes Go.WideShapes Go.ChangeAt Go.RowKit
set_option linter.unusedVariables false
set_option linter.unusedSimpArgs false

set_option maxRecDepth 100000 in
set_option maxHeartbeats 4000000 in
theorem e14_num {h : MH} {hs : SH} {ao : Option Addr} {ac : Nat} {E : EnvD} {ev : Int → Int × Int} {p : Nat} {x : ExprD} (w : World) (hd : ED w.heap.size w h hs ao E) (hok : Ok E) (he : EvH h hs ao ac E ev p) (hx : E.m.exprs[p]? = some x) (hop : x.op = 1) :
    Calls Tryz.prog 9 #[.agg (eCells h hs ao ac E), .int .i64 p] w fun e w' => e = .returned (.tuple #[.int .i64 (evalB E ev x).1, .int .i64 (evalB E ev x).2]) ∧ Below w.heap.size w w' := by
  have HE := Lib.hid he
  have HO := Lib.hid hok
  have HXG := Lib.hid hx
  have HV := Lib.hid (evalB_num (E := E) (ev := ev) hop)
  obtain ⟨R, hR⟩ : ∃ R, evalB E ev x = R := ⟨_, rfl⟩
  rw [hR] at HV ⊢
  clear hR
  have hel := hd.md.exprs.1
  have hpl : p < E.m.exprs.length := (List.getElem?_eq_some_iff.1 hx).1
  have hpi : (p : Int) < E.m.exprs.length := by omega
  have hp0 : (0 : Int) ≤ p := by omega
  obtain ⟨ES, hES⟩ : ∃ c, c = eCells h hs ao ac E := ⟨_, rfl⟩
  have HES := Lib.hid hES
  have HX0 := Lib.hid (Zs.new hd hES)
  rw [← hES]
  obtain ⟨g, off, ho, hg, hea⟩ := hd.md.exprs.get hx
  obtain ⟨vo, vc, xo, xc, mo, mc, hxc, hr1, hr2, hr3⟩ := (hea.below (Below.refl _ _) hg).xc
  have HXC := Lib.hid (hxc.below hg (ball (.cells ES 36)))
  have HR2 := Lib.hid hr2
  have HR3 := Lib.hid hr3
  have HX : Hid (Zx w ES (xCells x vo xo mo vc xc mc) h hs ao ac E ((w.alloc (.cells ES 36)).alloc (.cells (xCells x vo xo mo vc xc mc) 73))) := Lib.hid (Zx.new hd hES)
  unfold xCells at HX
  have c6 : (w.alloc (.cells ES 36)).cell? ⟨w.heap.size, 6, none⟩ = some (.slice h.eo E.m.exprs.length h.ec) := HX0.out.cell rfl
  rw [ho] at c6
  have e0 := HXC.out.c0
  have e1 := HXC.out.c1
  have e2 := HXC.out.c2
  have e3 := HXC.out.c3
  have e4 := HXC.out.c4
  have e5 := HXC.out.v0
  have e6 := HXC.out.v1
  have e7 := HXC.out.v2
  have e8 := HXC.out.v3
  have e9 := HXC.out.v4
  have e10 := HXC.out.c6
  have e11 := HXC.out.c7
  have lxa := hr2.1
  have lxm := hr3.1
  have lxd := hr1.1
  have HOP := Lib.hid hop
  clear hd hok he hx hES ho hea hxc hr1 hr2 hr3 HXC HX0 hop
  go_enter Tryz.func9, Tryz.ntmps9
  go_upto_region 2 with fail
  generalize (w.alloc (.cells ES 36)).alloc (.cells #[.int .i64 x.op, .int .i64 x.n, .int .i64 x.a, .int .i64 x.b, .int .i64 x.c, .int .i64 x.v.scope, .int .i64 x.v.slot, .int .i64 x.v.who, .int .i64 x.v.type, .slice vo x.v.dims.length vc, .slice xo x.args.length xc, .slice mo x.mat.length mc] 73) = W1 at HX ⊢
  clear c6 e0 e1 e2 e3 e4 e5 e6 e7 e8 e9 e10 e11 hg
  obtain ⟨XS, hXS⟩ : ∃ c : Array Value, c = #[.int .i64 x.op, .int .i64 x.n, .int .i64 x.a, .int .i64 x.b, .int .i64 x.c, .int .i64 x.v.scope, .int .i64 x.v.slot, .int .i64 x.v.who, .int .i64 x.v.type, .slice vo x.v.dims.length vc, .slice xo x.args.length xc, .slice mo x.mat.length mc] := ⟨_, rfl⟩
  rw [← hXS] at HX
  have HXS : Hid (XS = xCells x vo xo mo vc xc mc) := Lib.hid hXS
  have HXI : Hid ((Tryz.prog.info? 73).map (·.size) = some XS.size) := Lib.hid (by rw [hXS]; show _ = some 12; kernel_rfl)
  clear hXS
  have x0 : W1.cell? ⟨w.heap.size + 1, 0, none⟩ = some (.int .i64 x.op) := HX.out.cell (by rw [HXS.out]; rfl)
  rw [HOP.out] at x0
  have x1 : W1.cell? ⟨w.heap.size + 1, 1, none⟩ = some (.int .i64 x.n) := HX.out.cell (by rw [HXS.out]; rfl)
  go_wp2_with fail
  go_ret2
  exact ⟨ret2 (by rw [HV.out]) (by rw [HV.out]), HX.out.zs.bx.bel⟩

set_option maxRecDepth 100000 in
set_option maxHeartbeats 4000000 in
theorem e14_var {h : MH} {hs : SH} {ao : Option Addr} {ac : Nat} {E : EnvD} {ev : Int → Int × Int} {p : Nat} {x : ExprD} (w : World) (hd : ED w.heap.size w h hs ao E) (hok : Ok E) (he : EvH h hs ao ac E ev p) (hx : E.m.exprs[p]? = some x) (hop : x.op = 2) (hv : VarF x.v) (hwho : x.v.scope = 2 → 0 ≤ x.v.who ∧ x.v.who < p) (hdi : ∀ d ∈ x.v.dims, 0 ≤ d.i ∧ d.i < p) :
    Calls Tryz.prog 9 #[.agg (eCells h hs ao ac E), .int .i64 p] w fun e w' => e = .returned (.tuple #[.int .i64 (evalB E ev x).1, .int .i64 (evalB E ev x).2]) ∧ Below w.heap.size w w' := by
  have HE := Lib.hid he
  have HO := Lib.hid hok
  have HXG := Lib.hid hx
  have HV := Lib.hid (evalB_var (E := E) (ev := ev) hop)
  have HSR := Lib.hid (slot_range (ev := ev) hok hv)
  have HSC := Lib.hid (fun (W : World) (hdW : ED W.heap.size W h hs ao E) => slot14H W hdW hok he hx (fun _ => hv) (fun _ => hwho) (fun _ => hdi))
  clear hv hwho hdi
  obtain ⟨R, hR⟩ : ∃ R, evalB E ev x = R := ⟨_, rfl⟩
  rw [hR] at HV ⊢
  clear hR
  have hel := hd.md.exprs.1
  have hpl : p < E.m.exprs.length := (List.getElem?_eq_some_iff.1 hx).1
  have hpi : (p : Int) < E.m.exprs.length := by omega
  have hp0 : (0 : Int) ≤ p := by omega
  obtain ⟨ES, hES⟩ : ∃ c, c = eCells h hs ao ac E := ⟨_, rfl⟩
  have HES := Lib.hid hES
  have HX0 := Lib.hid (Zs.new hd hES)
  rw [← hES]
  obtain ⟨g, off, ho, hg, hea⟩ := hd.md.exprs.get hx
  obtain ⟨vo, vc, xo, xc, mo, mc, hxc, hr1, hr2, hr3⟩ := (hea.below (Below.refl _ _) hg).xc
  have HXC := Lib.hid (hxc.below hg (ball (.cells ES 36)))
  have HR2 := Lib.hid hr2
  have HR3 := Lib.hid hr3
  have HX : Hid (Zx w ES (xCells x vo xo mo vc xc mc) h hs ao ac E ((w.alloc (.cells ES 36)).alloc (.cells (xCells x vo xo mo vc xc mc) 73))) := Lib.hid (Zx.new hd hES)
  unfold xCells at HX
  have c6 : (w.alloc (.cells ES 36)).cell? ⟨w.heap.size, 6, none⟩ = some (.slice h.eo E.m.exprs.length h.ec) := HX0.out.cell rfl
  rw [ho] at c6
  have e0 := HXC.out.c0
  have e1 := HXC.out.c1
  have e2 := HXC.out.c2
  have e3 := HXC.out.c3
  have e4 := HXC.out.c4
  have e5 := HXC.out.v0
  have e6 := HXC.out.v1
  have e7 := HXC.out.v2
  have e8 := HXC.out.v3
  have e9 := HXC.out.v4
  have e10 := HXC.out.c6
  have e11 := HXC.out.c7
  have lxa := hr2.1
  have lxm := hr3.1
  have lxd := hr1.1
  have HOP := Lib.hid hop
  clear hd hok he hx hES ho hea hxc hr1 hr2 hr3 HXC HX0 hop
  go_enter Tryz.func9, Tryz.ntmps9
  go_upto_region 2 with fail
  generalize (w.alloc (.cells ES 36)).alloc (.cells #[.int .i64 x.op, .int .i64 x.n, .int .i64 x.a, .int .i64 x.b, .int .i64 x.c, .int .i64 x.v.scope, .int .i64 x.v.slot, .int .i64 x.v.who, .int .i64 x.v.type, .slice vo x.v.dims.length vc, .slice xo x.args.length xc, .slice mo x.mat.length mc] 73) = W1 at HX ⊢
  clear c6 e0 e1 e2 e3 e4 e5 e6 e7 e8 e9 e10 e11 hg
  obtain ⟨XS, hXS⟩ : ∃ c : Array Value, c = #[.int .i64 x.op, .int .i64 x.n, .int .i64 x.a, .int .i64 x.b, .int .i64 x.c, .int .i64 x.v.scope, .int .i64 x.v.slot, .int .i64 x.v.who, .int .i64 x.v.type, .slice vo x.v.dims.length vc, .slice xo x.args.length xc, .slice mo x.mat.length mc] := ⟨_, rfl⟩
  rw [← hXS] at HX
  have HXS : Hid (XS = xCells x vo xo mo vc xc mc) := Lib.hid hXS
  have HXI : Hid ((Tryz.prog.info? 73).map (·.size) = some XS.size) := Lib.hid (by rw [hXS]; show _ = some 12; kernel_rfl)
  clear hXS
  have x0 : W1.cell? ⟨w.heap.size + 1, 0, none⟩ = some (.int .i64 x.op) := HX.out.cell (by rw [HXS.out]; rfl)
  rw [HOP.out] at x0
  obtain ⟨⟨q, k, er⟩, hq⟩ : ∃ r, rslotB E ev x = r := ⟨_, rfl⟩
  rw [hq] at HV HSR HSC
  simp only at HV HSR HSC
  clear hq
  have HSC1 : Hid (Calls Tryz.prog 14 #[.agg ES, .int .i64 p] W1 fun e w' => e = .returned (.tuple #[.int .i64 q, .int .i64 k, .int .i64 er]) ∧ Below W1.heap.size W1 w') := Lib.hid (by
    have := HSC.out W1 HX.out.zs.here
    rw [← HES.out] at this
    exact this)
  clear HSC
  go_wp2_with (refine wpList_load_row rfl _ _ rfl _ rfl _ ES _ _ HX.out.zs.bx.box Tryz.underlying36 rfl HX.out.zs.info ?_)
  refine HSC1.out.mono ?_
  rintro e W2 ⟨rfl, hb2⟩
  have HX2 := Lib.hid (HX.out.below hb2)
  clear hb2 HSC1 x0 HX
  by_cases z : er = 0
  rotate_left
  · have HE2 : Hid (R = (0, er)) := Lib.hid (by rw [HV.out, if_pos z])
    have d : (er != 0) = true := by rw [bne_iff_ne]; exact z
    clear z
    go_wp2_with fail
    go_ret2
    exact ⟨ret2 (by rw [HE2.out]) (by rw [HE2.out]), HX2.out.zs.bx.bel⟩
  have d : (er != 0) = false := by rw [bne_eq_false_iff_eq]; exact z
  have HE2 : Hid (R = (slotVal E q k, 0)) := Lib.hid (by rw [HV.out, if_neg (by simpa using z)])
  obtain ⟨hq1, j, hk, hkl⟩ := HSR.out z
  subst z hk
  have hj0 : (0 : Int) ≤ j := by omega
  clear HSR HV
  have HSV : Hid (slotVal E q j = (slotsL E q).getD j 0) := Lib.hid (by unfold slotVal; rw [Int.toNat_natCast])
  by_cases hn : q < 0
  · have hnd : decide (q < 0) = true := decide_eq_true hn
    have hsl : slotsL E q = E.s.globals := by unfold slotsL; rw [if_pos hn]
    rw [hsl] at hkl HSV
    have hji : (j : Int) < E.s.globals.length := by omega
    obtain ⟨g1, off1, ho1, hg1, e1⟩ := HX2.out.zs.ed.sd.globals.cell hkl
    have hgl := HX2.out.zs.ed.sd.globals.1
    have c7 : W2.cell? ⟨w.heap.size, 7, none⟩ = some (.slice hs.go E.s.globals.length hs.gc) := HX2.out.zs.cell rfl
    rw [ho1] at c7
    obtain ⟨u, hu⟩ : ∃ u, E.s.globals[j] = u := ⟨_, rfl⟩
    have HU : Hid (R = (u, 0)) := Lib.hid (by rw [HE2.out, HSV.out, List.getD_eq_getElem?_getD, List.getElem?_eq_getElem hkl, hu]; rfl)
    rw [hu] at e1
    unfold intAt at e1
    rw [Nat.mul_one] at e1
    clear hu ho1 hg1 hsl hn
    go_wp2_with fail
    go_ret2
    exact ⟨ret2 (by rw [HU.out]) (by rw [HU.out]), HX2.out.zs.bx.bel⟩
  · have hnd : decide (q < 0) = false := decide_eq_false hn
    obtain ⟨i, rfl⟩ : ∃ i : Nat, q = i := ⟨q.toNat, by omega⟩
    have hil : i < E.s.procs.length := by omega
    have hii : (i : Int) < E.s.procs.length := by omega
    have hi0 : (0 : Int) ≤ i := by omega
    obtain ⟨pr, hpr⟩ : ∃ s, E.s.procs[i]? = some s := ⟨_, List.getElem?_eq_getElem hil⟩
    have hsl := slot_proc hpr
    rw [hsl] at hkl HSV
    have hji : (j : Int) < pr.frame.length := by omega
    obtain ⟨g1, off1, ho1, hg1, hpa⟩ := HX2.out.zs.ed.sd.procs.get hpr
    have hgl := HX2.out.zs.ed.sd.procs.1
    have c9 : W2.cell? ⟨w.heap.size, 9, none⟩ = some (.slice hs.po E.s.procs.length hs.pc) := HX2.out.zs.cell rfl
    rw [ho1] at c9
    obtain ⟨fo, fc, q3, hfr⟩ := hpa.frame
    obtain ⟨g2, off2, ho2, hg2, e2⟩ := hfr.cell hkl
    have hfl := hfr.1
    rw [ho2] at q3
    obtain ⟨u, hu⟩ : ∃ u, pr.frame[j] = u := ⟨_, rfl⟩
    have HU : Hid (R = (u, 0)) := Lib.hid (by rw [HE2.out, HSV.out, List.getD_eq_getElem?_getD, List.getElem?_eq_getElem hkl, hu]; rfl)
    rw [hu] at e2
    unfold intAt at e2
    rw [Nat.mul_one] at e2
    clear hu ho1 hg1 hsl hn hpa hfr ho2 hg2 hpr
    go_wp2_with fail
    go_ret2
    exact ⟨ret2 (by rw [HU.out]) (by rw [HU.out]), HX2.out.zs.bx.bel⟩

set_option maxRecDepth 100000 in
set_option maxHeartbeats 4000000 in
theorem e14_one {h : MH} {hs : SH} {ao : Option Addr} {ac : Nat} {E : EnvD} {ev : Int → Int × Int} {p : Nat} {x : ExprD} (w : World) (hd : ED w.heap.size w h hs ao E) (hok : Ok E) (he : EvH h hs ao ac E ev p) (hx : E.m.exprs[p]? = some x) (hop : 3 ≤ x.op ∧ x.op ≤ 5) (ha : 0 ≤ x.a ∧ x.a < p) :
    Calls Tryz.prog 9 #[.agg (eCells h hs ao ac E), .int .i64 p] w fun e w' => e = .returned (.tuple #[.int .i64 (evalB E ev x).1, .int .i64 (evalB E ev x).2]) ∧ Below w.heap.size w w' := by
  have HE := Lib.hid he
  have HO := Lib.hid hok
  have HXG := Lib.hid hx
  have HV := Lib.hid (evalB_one (E := E) (ev := ev) hop)
  have HA := Lib.hid ha
  clear ha
  obtain ⟨R, hR⟩ : ∃ R, evalB E ev x = R := ⟨_, rfl⟩
  rw [hR] at HV ⊢
  clear hR
  have hel := hd.md.exprs.1
  have hpl : p < E.m.exprs.length := (List.getElem?_eq_some_iff.1 hx).1
  have hpi : (p : Int) < E.m.exprs.length := by omega
  have hp0 : (0 : Int) ≤ p := by omega
  obtain ⟨ES, hES⟩ : ∃ c, c = eCells h hs ao ac E := ⟨_, rfl⟩
  have HES := Lib.hid hES
  have HX0 := Lib.hid (Zs.new hd hES)
  rw [← hES]
  obtain ⟨g, off, ho, hg, hea⟩ := hd.md.exprs.get hx
  obtain ⟨vo, vc, xo, xc, mo, mc, hxc, hr1, hr2, hr3⟩ := (hea.below (Below.refl _ _) hg).xc
  have HXC := Lib.hid (hxc.below hg (ball (.cells ES 36)))
  have HR2 := Lib.hid hr2
  have HR3 := Lib.hid hr3
  have HX : Hid (Zx w ES (xCells x vo xo mo vc xc mc) h hs ao ac E ((w.alloc (.cells ES 36)).alloc (.cells (xCells x vo xo mo vc xc mc) 73))) := Lib.hid (Zx.new hd hES)
  unfold xCells at HX
  have c6 : (w.alloc (.cells ES 36)).cell? ⟨w.heap.size, 6, none⟩ = some (.slice h.eo E.m.exprs.length h.ec) := HX0.out.cell rfl
  rw [ho] at c6
  have e0 := HXC.out.c0
  have e1 := HXC.out.c1
  have e2 := HXC.out.c2
  have e3 := HXC.out.c3
  have e4 := HXC.out.c4
  have e5 := HXC.out.v0
  have e6 := HXC.out.v1
  have e7 := HXC.out.v2
  have e8 := HXC.out.v3
  have e9 := HXC.out.v4
  have e10 := HXC.out.c6
  have e11 := HXC.out.c7
  have lxa := hr2.1
  have lxm := hr3.1
  have lxd := hr1.1
  have HOP := Lib.hid hop
  clear hd hok he hx hES ho hea hxc hr1 hr2 hr3 HXC HX0 hop
  go_enter Tryz.func9, Tryz.ntmps9
  go_upto_region 2 with fail
  generalize (w.alloc (.cells ES 36)).alloc (.cells #[.int .i64 x.op, .int .i64 x.n, .int .i64 x.a, .int .i64 x.b, .int .i64 x.c, .int .i64 x.v.scope, .int .i64 x.v.slot, .int .i64 x.v.who, .int .i64 x.v.type, .slice vo x.v.dims.length vc, .slice xo x.args.length xc, .slice mo x.mat.length mc] 73) = W1 at HX ⊢
  clear c6 e0 e1 e2 e3 e4 e5 e6 e7 e8 e9 e10 e11 hg
  obtain ⟨XS, hXS⟩ : ∃ c : Array Value, c = #[.int .i64 x.op, .int .i64 x.n, .int .i64 x.a, .int .i64 x.b, .int .i64 x.c, .int .i64 x.v.scope, .int .i64 x.v.slot, .int .i64 x.v.who, .int .i64 x.v.type, .slice vo x.v.dims.length vc, .slice xo x.args.length xc, .slice mo x.mat.length mc] := ⟨_, rfl⟩
  rw [← hXS] at HX
  have HXS : Hid (XS = xCells x vo xo mo vc xc mc) := Lib.hid hXS
  have HXI : Hid ((Tryz.prog.info? 73).map (·.size) = some XS.size) := Lib.hid (by rw [hXS]; show _ = some 12; kernel_rfl)
  clear hXS
  have x0 : W1.cell? ⟨w.heap.size + 1, 0, none⟩ = some (.int .i64 x.op) := HX.out.cell (by rw [HXS.out]; rfl)
  have x2 : W1.cell? ⟨w.heap.size + 1, 2, none⟩ = some (.int .i64 x.a) := HX.out.cell (by rw [HXS.out]; rfl)
  obtain ⟨⟨v, er⟩, hev⟩ : ∃ q, ev x.a = q := ⟨_, rfl⟩
  have HEC := Lib.hid (HE.out.at HX.out.zs x.a HA.out.1 HA.out.2)
  rw [hev] at HEC HV
  simp only at HEC HV
  clear hev
  have hcs : x.op = 3 ∨ x.op = 4 ∨ x.op = 5 := by have := HOP.out; omega
  rcases hcs with e | e | e
  all_goals (
    rw [e] at x0 HV
    have HEQ := Lib.hid e
    clear e
    go_wp2_with (refine wpList_load_row rfl _ _ rfl _ rfl _ ES _ _ HX.out.zs.bx.box Tryz.underlying36 rfl HX.out.zs.info ?_)
    refine HEC.out.mono ?_
    rintro e W2 ⟨rfl, hb2⟩
    have HX2 := Lib.hid (HX.out.below hb2)
    clear hb2 HEC HX x0 x2
    by_cases z : er = 0
    rotate_left
    · have HE2 : Hid (R = (0, er)) := Lib.hid (by rw [HV.out, if_pos z])
      have d : (er != 0) = true := by rw [bne_iff_ne]; exact z
      clear z
      go_wp2_with fail
      go_ret2
      exact ⟨ret2 (by rw [HE2.out]) (by rw [HE2.out]), HX2.out.zs.bx.bel⟩
    have d : (er != 0) = false := by rw [bne_eq_false_iff_eq]; exact z
    subst z

    have HE2 := Lib.hid (HV.out.trans (if_neg (by simp)))
    have x0 : W2.cell? ⟨w.heap.size + 1, 0, none⟩ = some (.int .i64 x.op) := HX2.out.cell (by rw [HXS.out]; rfl)
    rw [HEQ.out] at x0
    go_wp2_with fail
    refine (val.rone_any _ _ W2).mono ?_
    rintro e W3 ⟨rfl, hb3⟩
    have HX3 := Lib.hid (HX2.out.below hb3)
    clear hb3 HX2 x0
    go_wp2_with fail
    go_ret2
    exact ⟨ret2 (by rw [HE2.out]) (by rw [HE2.out]), HX3.out.zs.bx.bel⟩)
end Go.Proofs.YtbhgdlfndamklaaGreatDoor
/- An error comes with 0. -/
namespace Go.Proofs.YtbhgdlfndamklaaGreatDoor
open Go.ChangeShapes Go.WideShapes Go.ChangeAt Go.RowKit
set_option linter.unusedVariables false
set_option linter.unusedSimpArgs false

def Z0 (p : Int × Int) : Prop := p.2 ≠ 0 → p.1 = 0
theorem Z0.ok (v : Int) : Z0 (v, 0) := fun h => absurd rfl h
theorem Z0.no (e : Int) : Z0 (0, e) := fun _ => rfl
theorem Z0.ite {c : Prop} [Decidable c] {p q : Int × Int} (hp : Z0 p) (hq : Z0 q) : Z0 (if c then p else q) := by
  split
  · exact hp
  · exact hq
theorem one_zero (op a : Int) : Z0 (val.one op a) := by
  unfold val.one
  repeat' first | exact Z0.ok _ | exact Z0.no _ | apply Z0.ite
theorem two_zero (op a b : Int) : Z0 (val.two op a b) := by
  unfold val.two
  repeat' first | exact Z0.ok _ | exact Z0.no _ | apply Z0.ite
theorem asked_zero (E : EnvD) (x : ExprD) (n : Int) : Z0 (askedB E x n) := by
  unfold askedB
  refine Z0.ite (Z0.ok _) ?_
  split
  · exact Z0.no _
  · repeat' first | exact Z0.ok _ | exact Z0.no _ | apply Z0.ite
theorem evalB_zero (E : EnvD) (ev : Int → Int × Int) (x : ExprD) : Z0 (evalB E ev x) := by
  unfold evalB chosenB rroomB rpollB
  repeat' first | exact Z0.ok _ | exact Z0.no _ | exact one_zero _ _ | exact two_zero _ _ _ | exact asked_zero _ _ _ | apply Z0.ite
theorem evalF_zero (E : EnvD) (f : Nat) (i : Int) : Z0 (evalF E f i) := by
  cases f
  · exact Z0.ok _
  · unfold evalF
    split
    · exact evalB_zero _ _ _
    · exact Z0.ok _
end Go.Proofs.YtbhgdlfndamklaaGreatDoor
/- The document's Eval, kind by kind. -/
namespace Go.Proofs.YtbhgdlfndamklaaGreatDoor
open Go.ChangeShapes Go.WideShapes Go.ChangeAt Go.RowKit
set_option linter.unusedVariables false
set_option linter.unusedSimpArgs false

set_option maxRecDepth 100000 in
set_option maxHeartbeats 4000000 in
theorem e14_cho {h : MH} {hs : SH} {ao : Option Addr} {ac : Nat} {E : EnvD} {ev : Int → Int × Int} {p : Nat} {x : ExprD} (w : World) (hd : ED w.heap.size w h hs ao E) (hok : Ok E) (he : EvH h hs ao ac E ev p) (hx : E.m.exprs[p]? = some x) (hop : 22 ≤ x.op ∧ x.op ≤ 24) (h00 : ∀ i, (ev i).2 ≠ 0 → (ev i).1 = 0) (ha : 0 ≤ x.a ∧ x.a < p) (hb : 0 ≤ x.b ∧ x.b < p) (hc : x.op = 24 → 0 ≤ x.c ∧ x.c < p) :
    Calls Tryz.prog 9 #[.agg (eCells h hs ao ac E), .int .i64 p] w fun e w' => e = .returned (.tuple #[.int .i64 (evalB E ev x).1, .int .i64 (evalB E ev x).2]) ∧ Below w.heap.size w w' := by
  have HE := Lib.hid he
  have HO := Lib.hid hok
  have HXG := Lib.hid hx
  have HV := Lib.hid (evalB_cho (E := E) (ev := ev) hop)
  have HLG := Lib.hid (fun (vo xo mo : Option Addr) (vc xc mc : Nat) (W : World) (hdW : ED W.heap.size W h hs ao E) => logic14H (vo := vo) (ao2 := xo) (mo := mo) (vc := vc) (ac2 := xc) (mc := mc) x W hdW he h00 hop ha hb hc)
  clear ha hb hc h00
  obtain ⟨R, hR⟩ : ∃ R, evalB E ev x = R := ⟨_, rfl⟩
  rw [hR] at HV ⊢
  clear hR
  have hel := hd.md.exprs.1
  have hpl : p < E.m.exprs.length := (List.getElem?_eq_some_iff.1 hx).1
  have hpi : (p : Int) < E.m.exprs.length := by omega
  have hp0 : (0 : Int) ≤ p := by omega
  obtain ⟨ES, hES⟩ : ∃ c, c = eCells h hs ao ac E := ⟨_, rfl⟩
  have HES := Lib.hid hES
  have HX0 := Lib.hid (Zs.new hd hES)
  rw [← hES]
  obtain ⟨g, off, ho, hg, hea⟩ := hd.md.exprs.get hx
  obtain ⟨vo, vc, xo, xc, mo, mc, hxc, hr1, hr2, hr3⟩ := (hea.below (Below.refl _ _) hg).xc
  have HXC := Lib.hid (hxc.below hg (ball (.cells ES 36)))
  have HR2 := Lib.hid hr2
  have HR3 := Lib.hid hr3
  have HX : Hid (Zx w ES (xCells x vo xo mo vc xc mc) h hs ao ac E ((w.alloc (.cells ES 36)).alloc (.cells (xCells x vo xo mo vc xc mc) 73))) := Lib.hid (Zx.new hd hES)
  unfold xCells at HX
  have c6 : (w.alloc (.cells ES 36)).cell? ⟨w.heap.size, 6, none⟩ = some (.slice h.eo E.m.exprs.length h.ec) := HX0.out.cell rfl
  rw [ho] at c6
  have e0 := HXC.out.c0
  have e1 := HXC.out.c1
  have e2 := HXC.out.c2
  have e3 := HXC.out.c3
  have e4 := HXC.out.c4
  have e5 := HXC.out.v0
  have e6 := HXC.out.v1
  have e7 := HXC.out.v2
  have e8 := HXC.out.v3
  have e9 := HXC.out.v4
  have e10 := HXC.out.c6
  have e11 := HXC.out.c7
  have lxa := hr2.1
  have lxm := hr3.1
  have lxd := hr1.1
  have HOP := Lib.hid hop
  clear hd hok he hx hES ho hea hxc hr1 hr2 hr3 HXC HX0 hop
  go_enter Tryz.func9, Tryz.ntmps9
  go_upto_region 2 with fail
  generalize (w.alloc (.cells ES 36)).alloc (.cells #[.int .i64 x.op, .int .i64 x.n, .int .i64 x.a, .int .i64 x.b, .int .i64 x.c, .int .i64 x.v.scope, .int .i64 x.v.slot, .int .i64 x.v.who, .int .i64 x.v.type, .slice vo x.v.dims.length vc, .slice xo x.args.length xc, .slice mo x.mat.length mc] 73) = W1 at HX ⊢
  clear c6 e0 e1 e2 e3 e4 e5 e6 e7 e8 e9 e10 e11 hg
  obtain ⟨XS, hXS⟩ : ∃ c : Array Value, c = #[.int .i64 x.op, .int .i64 x.n, .int .i64 x.a, .int .i64 x.b, .int .i64 x.c, .int .i64 x.v.scope, .int .i64 x.v.slot, .int .i64 x.v.who, .int .i64 x.v.type, .slice vo x.v.dims.length vc, .slice xo x.args.length xc, .slice mo x.mat.length mc] := ⟨_, rfl⟩
  rw [← hXS] at HX
  have HXS : Hid (XS = xCells x vo xo mo vc xc mc) := Lib.hid hXS
  have HXI : Hid ((Tryz.prog.info? 73).map (·.size) = some XS.size) := Lib.hid (by rw [hXS]; show _ = some 12; kernel_rfl)
  clear hXS
  have x0 : W1.cell? ⟨w.heap.size + 1, 0, none⟩ = some (.int .i64 x.op) := HX.out.cell (by rw [HXS.out]; rfl)
  have HLC := Lib.hid (HLG.out vo xo mo vc xc mc W1 HX.out.zs.here)
  rw [← HES.out, ← HXS.out] at HLC
  have hcs : x.op = 22 ∨ x.op = 23 ∨ x.op = 24 := by have := HOP.out; omega
  rcases hcs with e | e | e
  all_goals (
    rw [e] at x0
    clear e
    go_wp2_with (first | (refine wpList_load_row rfl _ _ rfl _ rfl _ ES _ _ HX.out.zs.bx.box Tryz.underlying36 rfl HX.out.zs.info ?_) | (refine wpList_load_row rfl _ _ rfl _ rfl _ XS _ _ HX.out.xb.box Tryz.underlying73 rfl HXI.out ?_))
    refine HLC.out.mono ?_
    rintro e W2 ⟨rfl, hb2⟩
    have HX2 := Lib.hid (HX.out.below hb2)
    clear hb2 HLC HX x0
    go_wp2_with fail
    go_ret2
    exact ⟨ret2 (by rw [HV.out]) (by rw [HV.out]), HX2.out.zs.bx.bel⟩)

set_option maxRecDepth 100000 in
set_option maxHeartbeats 4000000 in
theorem e14_roo {h : MH} {hs : SH} {ao : Option Addr} {ac : Nat} {E : EnvD} {ev : Int → Int × Int} {p : Nat} {x : ExprD} (w : World) (hd : ED w.heap.size w h hs ao E) (hok : Ok E) (he : EvH h hs ao ac E ev p) (hx : E.m.exprs[p]? = some x) (hop : 25 ≤ x.op ∧ x.op ≤ 29) (ha : 0 ≤ x.a ∧ x.a < p) :
    Calls Tryz.prog 9 #[.agg (eCells h hs ao ac E), .int .i64 p] w fun e w' => e = .returned (.tuple #[.int .i64 (evalB E ev x).1, .int .i64 (evalB E ev x).2]) ∧ Below w.heap.size w w' := by
  have HE := Lib.hid he
  have HO := Lib.hid hok
  have HXG := Lib.hid hx
  have HV := Lib.hid (evalB_roo (E := E) (ev := ev) hop)
  have HLG := Lib.hid (fun (vo xo mo : Option Addr) (vc xc mc : Nat) (W : World) (hdW : ED W.heap.size W h hs ao E) => asksR14H (vo := vo) (ao2 := xo) (mo := mo) (vc := vc) (ac2 := xc) (mc := mc) x W hok hdW he hop ha)
  clear ha
  obtain ⟨R, hR⟩ : ∃ R, evalB E ev x = R := ⟨_, rfl⟩
  rw [hR] at HV ⊢
  clear hR
  have hel := hd.md.exprs.1
  have hpl : p < E.m.exprs.length := (List.getElem?_eq_some_iff.1 hx).1
  have hpi : (p : Int) < E.m.exprs.length := by omega
  have hp0 : (0 : Int) ≤ p := by omega
  obtain ⟨ES, hES⟩ : ∃ c, c = eCells h hs ao ac E := ⟨_, rfl⟩
  have HES := Lib.hid hES
  have HX0 := Lib.hid (Zs.new hd hES)
  rw [← hES]
  obtain ⟨g, off, ho, hg, hea⟩ := hd.md.exprs.get hx
  obtain ⟨vo, vc, xo, xc, mo, mc, hxc, hr1, hr2, hr3⟩ := (hea.below (Below.refl _ _) hg).xc
  have HXC := Lib.hid (hxc.below hg (ball (.cells ES 36)))
  have HR2 := Lib.hid hr2
  have HR3 := Lib.hid hr3
  have HX : Hid (Zx w ES (xCells x vo xo mo vc xc mc) h hs ao ac E ((w.alloc (.cells ES 36)).alloc (.cells (xCells x vo xo mo vc xc mc) 73))) := Lib.hid (Zx.new hd hES)
  unfold xCells at HX
  have c6 : (w.alloc (.cells ES 36)).cell? ⟨w.heap.size, 6, none⟩ = some (.slice h.eo E.m.exprs.length h.ec) := HX0.out.cell rfl
  rw [ho] at c6
  have e0 := HXC.out.c0
  have e1 := HXC.out.c1
  have e2 := HXC.out.c2
  have e3 := HXC.out.c3
  have e4 := HXC.out.c4
  have e5 := HXC.out.v0
  have e6 := HXC.out.v1
  have e7 := HXC.out.v2
  have e8 := HXC.out.v3
  have e9 := HXC.out.v4
  have e10 := HXC.out.c6
  have e11 := HXC.out.c7
  have lxa := hr2.1
  have lxm := hr3.1
  have lxd := hr1.1
  have HOP := Lib.hid hop
  clear hd hok he hx hES ho hea hxc hr1 hr2 hr3 HXC HX0 hop
  go_enter Tryz.func9, Tryz.ntmps9
  go_upto_region 2 with fail
  generalize (w.alloc (.cells ES 36)).alloc (.cells #[.int .i64 x.op, .int .i64 x.n, .int .i64 x.a, .int .i64 x.b, .int .i64 x.c, .int .i64 x.v.scope, .int .i64 x.v.slot, .int .i64 x.v.who, .int .i64 x.v.type, .slice vo x.v.dims.length vc, .slice xo x.args.length xc, .slice mo x.mat.length mc] 73) = W1 at HX ⊢
  clear c6 e0 e1 e2 e3 e4 e5 e6 e7 e8 e9 e10 e11 hg
  obtain ⟨XS, hXS⟩ : ∃ c : Array Value, c = #[.int .i64 x.op, .int .i64 x.n, .int .i64 x.a, .int .i64 x.b, .int .i64 x.c, .int .i64 x.v.scope, .int .i64 x.v.slot, .int .i64 x.v.who, .int .i64 x.v.type, .slice vo x.v.dims.length vc, .slice xo x.args.length xc, .slice mo x.mat.length mc] := ⟨_, rfl⟩
  rw [← hXS] at HX
  have HXS : Hid (XS = xCells x vo xo mo vc xc mc) := Lib.hid hXS
  have HXI : Hid ((Tryz.prog.info? 73).map (·.size) = some XS.size) := Lib.hid (by rw [hXS]; show _ = some 12; kernel_rfl)
  clear hXS
  have x0 : W1.cell? ⟨w.heap.size + 1, 0, none⟩ = some (.int .i64 x.op) := HX.out.cell (by rw [HXS.out]; rfl)
  have HLC := Lib.hid (HLG.out vo xo mo vc xc mc W1 HX.out.zs.here)
  rw [← HES.out, ← HXS.out] at HLC
  have hcs : x.op = 25 ∨ x.op = 26 ∨ x.op = 27 ∨ x.op = 28 ∨ x.op = 29 := by have := HOP.out; omega
  rcases hcs with e | e | e | e | e
  all_goals (
    rw [e] at x0
    clear e
    go_wp2_with (first | (refine wpList_load_row rfl _ _ rfl _ rfl _ ES _ _ HX.out.zs.bx.box Tryz.underlying36 rfl HX.out.zs.info ?_) | (refine wpList_load_row rfl _ _ rfl _ rfl _ XS _ _ HX.out.xb.box Tryz.underlying73 rfl HXI.out ?_))
    refine HLC.out.mono ?_
    rintro e W2 ⟨rfl, hb2⟩
    have HX2 := Lib.hid (HX.out.below hb2)
    clear hb2 HLC HX x0
    go_wp2_with fail
    go_ret2
    exact ⟨ret2 (by rw [HV.out]) (by rw [HV.out]), HX2.out.zs.bx.bel⟩)

set_option maxRecDepth 100000 in
set_option maxHeartbeats 4000000 in
theorem e14_pol {h : MH} {hs : SH} {ao : Option Addr} {ac : Nat} {E : EnvD} {ev : Int → Int × Int} {p : Nat} {x : ExprD} (w : World) (hd : ED w.heap.size w h hs ao E) (hok : Ok E) (he : EvH h hs ao ac E ev p) (hx : E.m.exprs[p]? = some x) (hop : x.op = 30) (ha : 0 ≤ x.a ∧ x.a < p) (hn : x.args.length ≤ 8) (hm : x.mat.length = x.args.length) (hin : ∀ q ∈ x.args, 0 ≤ q ∧ q < p) :
    Calls Tryz.prog 9 #[.agg (eCells h hs ao ac E), .int .i64 p] w fun e w' => e = .returned (.tuple #[.int .i64 (evalB E ev x).1, .int .i64 (evalB E ev x).2]) ∧ Below w.heap.size w w' := by
  have HE := Lib.hid he
  have HO := Lib.hid hok
  have HXG := Lib.hid hx
  have HV := Lib.hid (evalB_pol (E := E) (ev := ev) hop)
  have HLG := Lib.hid (fun (vo xo mo : Option Addr) (vc xc mc : Nat) (W : World) (hdW : ED W.heap.size W h hs ao E) hr1 hr2 => asksP14H (vo := vo) (ao2 := xo) (mo := mo) (vc := vc) (ac2 := xc) (mc := mc) x W hok hdW he hop ha hr1 hr2 hn hm hin)
  clear ha hn hm hin
  obtain ⟨R, hR⟩ : ∃ R, evalB E ev x = R := ⟨_, rfl⟩
  rw [hR] at HV ⊢
  clear hR
  have hel := hd.md.exprs.1
  have hpl : p < E.m.exprs.length := (List.getElem?_eq_some_iff.1 hx).1
  have hpi : (p : Int) < E.m.exprs.length := by omega
  have hp0 : (0 : Int) ≤ p := by omega
  obtain ⟨ES, hES⟩ : ∃ c, c = eCells h hs ao ac E := ⟨_, rfl⟩
  have HES := Lib.hid hES
  have HX0 := Lib.hid (Zs.new hd hES)
  rw [← hES]
  obtain ⟨g, off, ho, hg, hea⟩ := hd.md.exprs.get hx
  obtain ⟨vo, vc, xo, xc, mo, mc, hxc, hr1, hr2, hr3⟩ := (hea.below (Below.refl _ _) hg).xc
  have HXC := Lib.hid (hxc.below hg (ball (.cells ES 36)))
  have HR2 := Lib.hid hr2
  have HR3 := Lib.hid hr3
  have HX : Hid (Zx w ES (xCells x vo xo mo vc xc mc) h hs ao ac E ((w.alloc (.cells ES 36)).alloc (.cells (xCells x vo xo mo vc xc mc) 73))) := Lib.hid (Zx.new hd hES)
  unfold xCells at HX
  have c6 : (w.alloc (.cells ES 36)).cell? ⟨w.heap.size, 6, none⟩ = some (.slice h.eo E.m.exprs.length h.ec) := HX0.out.cell rfl
  rw [ho] at c6
  have e0 := HXC.out.c0
  have e1 := HXC.out.c1
  have e2 := HXC.out.c2
  have e3 := HXC.out.c3
  have e4 := HXC.out.c4
  have e5 := HXC.out.v0
  have e6 := HXC.out.v1
  have e7 := HXC.out.v2
  have e8 := HXC.out.v3
  have e9 := HXC.out.v4
  have e10 := HXC.out.c6
  have e11 := HXC.out.c7
  have lxa := hr2.1
  have lxm := hr3.1
  have lxd := hr1.1
  have HOP := Lib.hid hop
  clear hd hok he hx hES ho hea hxc hr1 hr2 hr3 HXC HX0 hop
  go_enter Tryz.func9, Tryz.ntmps9
  go_upto_region 2 with fail
  generalize (w.alloc (.cells ES 36)).alloc (.cells #[.int .i64 x.op, .int .i64 x.n, .int .i64 x.a, .int .i64 x.b, .int .i64 x.c, .int .i64 x.v.scope, .int .i64 x.v.slot, .int .i64 x.v.who, .int .i64 x.v.type, .slice vo x.v.dims.length vc, .slice xo x.args.length xc, .slice mo x.mat.length mc] 73) = W1 at HX ⊢
  clear c6 e0 e1 e2 e3 e4 e5 e6 e7 e8 e9 e10 e11 hg
  obtain ⟨XS, hXS⟩ : ∃ c : Array Value, c = #[.int .i64 x.op, .int .i64 x.n, .int .i64 x.a, .int .i64 x.b, .int .i64 x.c, .int .i64 x.v.scope, .int .i64 x.v.slot, .int .i64 x.v.who, .int .i64 x.v.type, .slice vo x.v.dims.length vc, .slice xo x.args.length xc, .slice mo x.mat.length mc] := ⟨_, rfl⟩
  rw [← hXS] at HX
  have HXS : Hid (XS = xCells x vo xo mo vc xc mc) := Lib.hid hXS
  have HXI : Hid ((Tryz.prog.info? 73).map (·.size) = some XS.size) := Lib.hid (by rw [hXS]; show _ = some 12; kernel_rfl)
  clear hXS
  have x0 : W1.cell? ⟨w.heap.size + 1, 0, none⟩ = some (.int .i64 x.op) := HX.out.cell (by rw [HXS.out]; rfl)
  have HLC := Lib.hid (HLG.out vo xo mo vc xc mc W1 HX.out.zs.here ((HR2.out.mono fun _ _ _ hg => intAt.below HX.out.zs.bx.bel hg).up HX.out.zs.bx.bel.size) ((HR3.out.mono fun _ _ _ hg => intAt.below HX.out.zs.bx.bel hg).up HX.out.zs.bx.bel.size))
  rw [← HES.out, ← HXS.out] at HLC
  rw [HOP.out] at x0
  go_wp2_with (first | (refine wpList_load_row rfl _ _ rfl _ rfl _ ES _ _ HX.out.zs.bx.box Tryz.underlying36 rfl HX.out.zs.info ?_) | (refine wpList_load_row rfl _ _ rfl _ rfl _ XS _ _ HX.out.xb.box Tryz.underlying73 rfl HXI.out ?_))
  refine HLC.out.mono ?_
  rintro e W2 ⟨rfl, hb2⟩
  have HX2 := Lib.hid (HX.out.below hb2)
  clear hb2 HLC HX x0
  go_wp2_with fail
  go_ret2
  exact ⟨ret2 (by rw [HV.out]) (by rw [HV.out]), HX2.out.zs.bx.bel⟩
end Go.Proofs.YtbhgdlfndamklaaGreatDoor
