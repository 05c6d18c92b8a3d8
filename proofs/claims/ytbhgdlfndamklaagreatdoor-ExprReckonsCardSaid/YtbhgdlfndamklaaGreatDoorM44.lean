/- The document's Eval, kind by kind. -/
import Derived.Test.YtbhgdlfndamklaaGreatDoorM43
import Derived.Test.YtbhgdlfndamklaaGreatDoorM18
import Derived.Test.YtbhgdlfndamklaaGreatDoorM22
import Derived.Test.YtbhgdlfndamklaaGreatDoorM23
import Derived.Test.YtbhgdlfndamklaaGreatDoorM38
import Derived.Test.YtbhgdlfndamklaaGreatDoorM15
namespace Go.Proofs.YtbhgdlfndamklaaGreatDoor
open Go.ChangeShapes Go.WideShapes Go.ChangeAt Go.RowKit
set_option linter.unusedVariables false
set_option linter.unusedSimpArgs false

set_option maxRecDepth 100000 in
set_option maxHeartbeats 4000000 in
theorem e14_kno {h : MH} {hs : SH} {ao : Option Addr} {ac : Nat} {E : EnvD} {ev : Int → Int × Int} {p : Nat} {x : ExprD} (w : World) (hd : ED w.heap.size w h hs ao E) (hok : Ok E) (he : EvH h hs ao ac E ev p) (hx : E.m.exprs[p]? = some x) (hop : x.op = 31 ∨ x.op = 32 ∨ x.op = 33 ∨ x.op = 35) :
    Calls Tryz.prog 9 #[.agg (eCells h hs ao ac E), .int .i64 p] w fun e w' => e = .returned (.tuple #[.int .i64 (evalB E ev x).1, .int .i64 (evalB E ev x).2]) ∧ Below w.heap.size w w' := by
  have HE := Lib.hid he
  have HO := Lib.hid hok
  have HXG := Lib.hid hx
  have HV := Lib.hid (evalB_kno (E := E) (ev := ev) (x := x) (by omega))
  obtain ⟨R, hR⟩ : ∃ R, evalB E ev x = R := ⟨_, rfl⟩
  rw [hR] at HV ⊢
  clear hR
  have hel := hd.md.exprs.1
  have hpl : p < E.m.exprs.length := (List.getElem?_eq_some_iff.1 hx).1
  have hpi : (p : Int) < E.m.exprs.length := by omega
  have hp0 : (0 : Int) ≤ p := by omega
  obtain ⟨ES, hES⟩ : ∃ c, c = eCells h hs ao ac E := ⟨_, rfl⟩
  have HES := Lib.hid hES
  have HX0 := Lib.hid (Zs.new hd hES)
  rw [← hES]
  obtain ⟨g, off, ho, hg, hea⟩ := hd.md.exprs.get hx
  obtain ⟨vo, vc, xo, xc, mo, mc, hxc, hr1, hr2, hr3⟩ := (hea.below (Below.refl _ _) hg).xc
  have HXC := Lib.hid (hxc.below hg (ball (.cells ES 36)))
  have HR2 := Lib.hid hr2
  have HR3 := Lib.hid hr3
  have HX : Hid (Zx w ES (xCells x vo xo mo vc xc mc) h hs ao ac E ((w.alloc (.cells ES 36)).alloc (.cells (xCells x vo xo mo vc xc mc) 73))) := Lib.hid (Zx.new hd hES)
  unfold xCells at HX
  have c6 : (w.alloc (.cells ES 36)).cell? ⟨w.heap.size, 6, none⟩ = some (.slice h.eo E.m.exprs.length h.ec) := HX0.out.cell rfl
  rw [ho] at c6
  have e0 := HXC.out.c0
  have e1 := HXC.out.c1
  have e2 := HXC.out.c2
  have e3 := HXC.out.c3
  have e4 := HXC.out.c4
  have e5 := HXC.out.v0
  have e6 := HXC.out.v1
  have e7 := HXC.out.v2
  have e8 := HXC.out.v3
  have e9 := HXC.out.v4
  have e10 := HXC.out.c6
  have e11 := HXC.out.c7
  have lxa := hr2.1
  have lxm := hr3.1
  have lxd := hr1.1
  have HOP := Lib.hid hop
  clear hd hok he hx hES ho hea hxc hr1 hr2 hr3 HXC HX0 hop
  go_enter Tryz.func9, Tryz.ntmps9
  go_upto_region 2 with fail
  generalize (w.alloc (.cells ES 36)).alloc (.cells #[.int .i64 x.op, .int .i64 x.n, .int .i64 x.a, .int .i64 x.b, .int .i64 x.c, .int .i64 x.v.scope, .int .i64 x.v.slot, .int .i64 x.v.who, .int .i64 x.v.type, .slice vo x.v.dims.length vc, .slice xo x.args.length xc, .slice mo x.mat.length mc] 73) = W1 at HX ⊢
  clear c6 e0 e1 e2 e3 e4 e5 e6 e7 e8 e9 e10 e11 hg
  obtain ⟨XS, hXS⟩ : ∃ c : Array Value, c = #[.int .i64 x.op, .int .i64 x.n, .int .i64 x.a, .int .i64 x.b, .int .i64 x.c, .int .i64 x.v.scope, .int .i64 x.v.slot, .int .i64 x.v.who, .int .i64 x.v.type, .slice vo x.v.dims.length vc, .slice xo x.args.length xc, .slice mo x.mat.length mc] := ⟨_, rfl⟩
  rw [← hXS] at HX
  have HXS : Hid (XS = xCells x vo xo mo vc xc mc) := Lib.hid hXS
  have HXI : Hid ((Tryz.prog.info? 73).map (·.size) = some XS.size) := Lib.hid (by rw [hXS]; show _ = some 12; kernel_rfl)
  clear hXS
  have x0 : W1.cell? ⟨w.heap.size + 1, 0, none⟩ = some (.int .i64 x.op) := HX.out.cell (by rw [HXS.out]; rfl)
  have hpl2 := HX.out.zs.ed.sd.procs.1
  have c9 : W1.cell? ⟨w.heap.size, 9, none⟩ = some (.slice hs.po E.s.procs.length hs.pc) := HX.out.zs.cell rfl
  have c10 : W1.cell? ⟨w.heap.size, 10, none⟩ = some (.int .i64 E.s.last) := HX.out.zs.cell rfl
  have c13 : W1.cell? ⟨w.heap.size, 13, none⟩ = some (.int .i64 E.pid) := HX.out.zs.cell rfl
  have c14 : W1.cell? ⟨w.heap.size, 14, none⟩ = some (.bool E.timeout) := HX.out.zs.cell rfl
  rcases HOP.out with e | e | e | e
  · rw [e] at x0 HV
    clear e
    go_wp2_with fail
    go_ret2
    exact ⟨ret2 (by rw [HV.out]; rfl) (by rw [HV.out]), HX.out.zs.bx.bel⟩
  · rw [e] at x0 HV
    clear e
    go_wp2_with fail
    go_ret2
    exact ⟨ret2 (by rw [HV.out]; rfl) (by rw [HV.out]), HX.out.zs.bx.bel⟩
  · rw [e] at x0 HV
    clear e
    go_wp2_with fail
    go_ret2
    exact ⟨ret2 (by rw [HV.out]; rfl) (by rw [HV.out]), HX.out.zs.bx.bel⟩
  · rw [e] at x0 HV
    clear e
    go_wp2_with fail
    refine (one14H E.timeout W1).mono ?_
    rintro e W2 ⟨rfl, rfl⟩
    go_wp2_with fail
    go_ret2
    exact ⟨ret2 (by rw [HV.out]; rfl) (by rw [HV.out]), HX.out.zs.bx.bel⟩

set_option maxRecDepth 100000 in
set_option maxHeartbeats 4000000 in
theorem e14_ask {h : MH} {hs : SH} {ao : Option Addr} {ac : Nat} {E : EnvD} {ev : Int → Int × Int} {p : Nat} {x : ExprD} (w : World) (hd : ED w.heap.size w h hs ao E) (hok : Ok E) (he : EvH h hs ao ac E ev p) (hx : E.m.exprs[p]? = some x) (hop : 36 ≤ x.op ∧ x.op ≤ 38) (ha : 0 ≤ x.a ∧ x.a < p) :
    Calls Tryz.prog 9 #[.agg (eCells h hs ao ac E), .int .i64 p] w fun e w' => e = .returned (.tuple #[.int .i64 (evalB E ev x).1, .int .i64 (evalB E ev x).2]) ∧ Below w.heap.size w w' := by
  have HE := Lib.hid he
  have HO := Lib.hid hok
  have HXG := Lib.hid hx
  have HV := Lib.hid (evalB_ask (E := E) (ev := ev) hop)
  have HLG := Lib.hid (fun (vo xo mo : Option Addr) (vc xc mc : Nat) (W : World) (hdW : ED W.heap.size W h hs ao E) hr => process14H (vo := vo) (ao2 := xo) (mo := mo) (vc := vc) (ac2 := xc) (mc := mc) x W hdW he hop ha hr)
  clear ha
  obtain ⟨R, hR⟩ : ∃ R, evalB E ev x = R := ⟨_, rfl⟩
  rw [hR] at HV ⊢
  clear hR
  have hel := hd.md.exprs.1
  have hpl : p < E.m.exprs.length := (List.getElem?_eq_some_iff.1 hx).1
  have hpi : (p : Int) < E.m.exprs.length := by omega
  have hp0 : (0 : Int) ≤ p := by omega
  obtain ⟨ES, hES⟩ : ∃ c, c = eCells h hs ao ac E := ⟨_, rfl⟩
  have HES := Lib.hid hES
  have HX0 := Lib.hid (Zs.new hd hES)
  rw [← hES]
  obtain ⟨g, off, ho, hg, hea⟩ := hd.md.exprs.get hx
  obtain ⟨vo, vc, xo, xc, mo, mc, hxc, hr1, hr2, hr3⟩ := (hea.below (Below.refl _ _) hg).xc
  have HXC := Lib.hid (hxc.below hg (ball (.cells ES 36)))
  have HR2 := Lib.hid hr2
  have HR3 := Lib.hid hr3
  have HX : Hid (Zx w ES (xCells x vo xo mo vc xc mc) h hs ao ac E ((w.alloc (.cells ES 36)).alloc (.cells (xCells x vo xo mo vc xc mc) 73))) := Lib.hid (Zx.new hd hES)
  unfold xCells at HX
  have c6 : (w.alloc (.cells ES 36)).cell? ⟨w.heap.size, 6, none⟩ = some (.slice h.eo E.m.exprs.length h.ec) := HX0.out.cell rfl
  rw [ho] at c6
  have e0 := HXC.out.c0
  have e1 := HXC.out.c1
  have e2 := HXC.out.c2
  have e3 := HXC.out.c3
  have e4 := HXC.out.c4
  have e5 := HXC.out.v0
  have e6 := HXC.out.v1
  have e7 := HXC.out.v2
  have e8 := HXC.out.v3
  have e9 := HXC.out.v4
  have e10 := HXC.out.c6
  have e11 := HXC.out.c7
  have lxa := hr2.1
  have lxm := hr3.1
  have lxd := hr1.1
  have HOP := Lib.hid hop
  clear hd hok he hx hES ho hea hxc hr1 hr2 hr3 HXC HX0 hop
  go_enter Tryz.func9, Tryz.ntmps9
  go_upto_region 2 with fail
  generalize (w.alloc (.cells ES 36)).alloc (.cells #[.int .i64 x.op, .int .i64 x.n, .int .i64 x.a, .int .i64 x.b, .int .i64 x.c, .int .i64 x.v.scope, .int .i64 x.v.slot, .int .i64 x.v.who, .int .i64 x.v.type, .slice vo x.v.dims.length vc, .slice xo x.args.length xc, .slice mo x.mat.length mc] 73) = W1 at HX ⊢
  clear c6 e0 e1 e2 e3 e4 e5 e6 e7 e8 e9 e10 e11 hg
  obtain ⟨XS, hXS⟩ : ∃ c : Array Value, c = #[.int .i64 x.op, .int .i64 x.n, .int .i64 x.a, .int .i64 x.b, .int .i64 x.c, .int .i64 x.v.scope, .int .i64 x.v.slot, .int .i64 x.v.who, .int .i64 x.v.type, .slice vo x.v.dims.length vc, .slice xo x.args.length xc, .slice mo x.mat.length mc] := ⟨_, rfl⟩
  rw [← hXS] at HX
  have HXS : Hid (XS = xCells x vo xo mo vc xc mc) := Lib.hid hXS
  have HXI : Hid ((Tryz.prog.info? 73).map (·.size) = some XS.size) := Lib.hid (by rw [hXS]; show _ = some 12; kernel_rfl)
  clear hXS
  have x0 : W1.cell? ⟨w.heap.size + 1, 0, none⟩ = some (.int .i64 x.op) := HX.out.cell (by rw [HXS.out]; rfl)
  have HLC := Lib.hid (HLG.out vo xo mo vc xc mc W1 HX.out.zs.here ((HR2.out.mono fun _ _ _ hg => intAt.below HX.out.zs.bx.bel hg).up HX.out.zs.bx.bel.size))
  rw [← HES.out, ← HXS.out] at HLC
  have HV2 : Hid (procF E ev x = R) := Lib.hid (by rw [HV.out]; rfl)
  rw [HV2.out] at HLC
  have hcs : x.op = 36 ∨ x.op = 37 ∨ x.op = 38 := by have := HOP.out; omega
  rcases hcs with e | e | e
  all_goals (
    rw [e] at x0
    clear e
    go_wp2_with (first | (refine wpList_load_row rfl _ _ rfl _ rfl _ ES _ _ HX.out.zs.bx.box Tryz.underlying36 rfl HX.out.zs.info ?_) | (refine wpList_load_row rfl _ _ rfl _ rfl _ XS _ _ HX.out.xb.box Tryz.underlying73 rfl HXI.out ?_))
    refine HLC.out.mono ?_
    rintro e W2 ⟨rfl, hb2⟩
    have HX2 := Lib.hid (HX.out.below hb2)
    clear hb2 HLC HX x0
    go_wp2_with fail
    go_ret2
    exact ⟨ret2 rfl rfl, HX2.out.zs.bx.bel⟩)

set_option maxRecDepth 100000 in
set_option maxHeartbeats 4000000 in
theorem e14_run {h : MH} {hs : SH} {ao : Option Addr} {ac : Nat} {E : EnvD} {ev : Int → Int × Int} {p : Nat} {x : ExprD} (w : World) (hd : ED w.heap.size w h hs ao E) (hok : Ok E) (he : EvH h hs ao ac E ev p) (hx : E.m.exprs[p]? = some x) (hop : x.op = 39) :
    Calls Tryz.prog 9 #[.agg (eCells h hs ao ac E), .int .i64 p] w fun e w' => e = .returned (.tuple #[.int .i64 (evalB E ev x).1, .int .i64 (evalB E ev x).2]) ∧ Below w.heap.size w w' := by
  have HE := Lib.hid he
  have HO := Lib.hid hok
  have HXG := Lib.hid hx
  have HV := Lib.hid (evalB_run (E := E) (ev := ev) hop)
  obtain ⟨R, hR⟩ : ∃ R, evalB E ev x = R := ⟨_, rfl⟩
  rw [hR] at HV ⊢
  clear hR
  have hel := hd.md.exprs.1
  have hpl : p < E.m.exprs.length := (List.getElem?_eq_some_iff.1 hx).1
  have hpi : (p : Int) < E.m.exprs.length := by omega
  have hp0 : (0 : Int) ≤ p := by omega
  obtain ⟨ES, hES⟩ : ∃ c, c = eCells h hs ao ac E := ⟨_, rfl⟩
  have HES := Lib.hid hES
  have HX0 := Lib.hid (Zs.new hd hES)
  rw [← hES]
  obtain ⟨g, off, ho, hg, hea⟩ := hd.md.exprs.get hx
  obtain ⟨vo, vc, xo, xc, mo, mc, hxc, hr1, hr2, hr3⟩ := (hea.below (Below.refl _ _) hg).xc
  have HXC := Lib.hid (hxc.below hg (ball (.cells ES 36)))
  have HR2 := Lib.hid hr2
  have HR3 := Lib.hid hr3
  have HX : Hid (Zx w ES (xCells x vo xo mo vc xc mc) h hs ao ac E ((w.alloc (.cells ES 36)).alloc (.cells (xCells x vo xo mo vc xc mc) 73))) := Lib.hid (Zx.new hd hES)
  unfold xCells at HX
  have c6 : (w.alloc (.cells ES 36)).cell? ⟨w.heap.size, 6, none⟩ = some (.slice h.eo E.m.exprs.length h.ec) := HX0.out.cell rfl
  rw [ho] at c6
  have e0 := HXC.out.c0
  have e1 := HXC.out.c1
  have e2 := HXC.out.c2
  have e3 := HXC.out.c3
  have e4 := HXC.out.c4
  have e5 := HXC.out.v0
  have e6 := HXC.out.v1
  have e7 := HXC.out.v2
  have e8 := HXC.out.v3
  have e9 := HXC.out.v4
  have e10 := HXC.out.c6
  have e11 := HXC.out.c7
  have lxa := hr2.1
  have lxm := hr3.1
  have lxd := hr1.1
  have HOP := Lib.hid hop
  clear hd hok he hx hES ho hea hxc hr1 hr2 hr3 HXC HX0 hop
  go_enter Tryz.func9, Tryz.ntmps9
  go_upto_region 2 with fail
  generalize (w.alloc (.cells ES 36)).alloc (.cells #[.int .i64 x.op, .int .i64 x.n, .int .i64 x.a, .int .i64 x.b, .int .i64 x.c, .int .i64 x.v.scope, .int .i64 x.v.slot, .int .i64 x.v.who, .int .i64 x.v.type, .slice vo x.v.dims.length vc, .slice xo x.args.length xc, .slice mo x.mat.length mc] 73) = W1 at HX ⊢
  clear c6 e0 e1 e2 e3 e4 e5 e6 e7 e8 e9 e10 e11 hg
  obtain ⟨XS, hXS⟩ : ∃ c : Array Value, c = #[.int .i64 x.op, .int .i64 x.n, .int .i64 x.a, .int .i64 x.b, .int .i64 x.c, .int .i64 x.v.scope, .int .i64 x.v.slot, .int .i64 x.v.who, .int .i64 x.v.type, .slice vo x.v.dims.length vc, .slice xo x.args.length xc, .slice mo x.mat.length mc] := ⟨_, rfl⟩
  rw [← hXS] at HX
  have HXS : Hid (XS = xCells x vo xo mo vc xc mc) := Lib.hid hXS
  have HXI : Hid ((Tryz.prog.info? 73).map (·.size) = some XS.size) := Lib.hid (by rw [hXS]; show _ = some 12; kernel_rfl)
  clear hXS
  have x0 : W1.cell? ⟨w.heap.size + 1, 0, none⟩ = some (.int .i64 x.op) := HX.out.cell (by rw [HXS.out]; rfl)
  rw [HOP.out] at x0
  go_wp2_with fail
  go_ret2
  exact ⟨ret2 (by rw [HV.out]) (by rw [HV.out]), HX.out.zs.bx.bel⟩
end Go.Proofs.YtbhgdlfndamklaaGreatDoor
/- The document's Eval, kind by kind. -/
namespace Go.Proofs.YtbhgdlfndamklaaGreatDoor
open Go.ChangeShapes Go.WideShapes Go.ChangeAt Go.RowKit
set_option linter.unusedVariables false
set_option linter.unusedSimpArgs false

set_option maxRecDepth 100000 in
set_option maxHeartbeats 4000000 in
theorem e14_two {h : MH} {hs : SH} {ao : Option Addr} {ac : Nat} {E : EnvD} {ev : Int → Int × Int} {p : Nat} {x : ExprD} (w : World) (hd : ED w.heap.size w h hs ao E) (hok : Ok E) (he : EvH h hs ao ac E ev p) (hx : E.m.exprs[p]? = some x) (hop : 6 ≤ x.op ∧ x.op ≤ 21) (ha : 0 ≤ x.a ∧ x.a < p) (hb : 0 ≤ x.b ∧ x.b < p) :
    Calls Tryz.prog 9 #[.agg (eCells h hs ao ac E), .int .i64 p] w fun e w' => e = .returned (.tuple #[.int .i64 (evalB E ev x).1, .int .i64 (evalB E ev x).2]) ∧ Below w.heap.size w w' := by
  have HE := Lib.hid he
  have HO := Lib.hid hok
  have HXG := Lib.hid hx
  have HV := Lib.hid (evalB_two (E := E) (ev := ev) hop)
  have HA := Lib.hid ha
  have HB := Lib.hid hb
  clear ha hb
  obtain ⟨R, hR⟩ : ∃ R, evalB E ev x = R := ⟨_, rfl⟩
  rw [hR] at HV ⊢
  clear hR
  have hel := hd.md.exprs.1
  have hpl : p < E.m.exprs.length := (List.getElem?_eq_some_iff.1 hx).1
  have hpi : (p : Int) < E.m.exprs.length := by omega
  have hp0 : (0 : Int) ≤ p := by omega
  obtain ⟨ES, hES⟩ : ∃ c, c = eCells h hs ao ac E := ⟨_, rfl⟩
  have HES := Lib.hid hES
  have HX0 := Lib.hid (Zs.new hd hES)
  rw [← hES]
  obtain ⟨g, off, ho, hg, hea⟩ := hd.md.exprs.get hx
  obtain ⟨vo, vc, xo, xc, mo, mc, hxc, hr1, hr2, hr3⟩ := (hea.below (Below.refl _ _) hg).xc
  have HXC := Lib.hid (hxc.below hg (ball (.cells ES 36)))
  have HR2 := Lib.hid hr2
  have HR3 := Lib.hid hr3
  have HX : Hid (Zx w ES (xCells x vo xo mo vc xc mc) h hs ao ac E ((w.alloc (.cells ES 36)).alloc (.cells (xCells x vo xo mo vc xc mc) 73))) := Lib.hid (Zx.new hd hES)
  unfold xCells at HX
  have c6 : (w.alloc (.cells ES 36)).cell? ⟨w.heap.size, 6, none⟩ = some (.slice h.eo E.m.exprs.length h.ec) := HX0.out.cell rfl
  rw [ho] at c6
  have e0 := HXC.out.c0
  have e1 := HXC.out.c1
  have e2 := HXC.out.c2
  have e3 := HXC.out.c3
  have e4 := HXC.out.c4
  have e5 := HXC.out.v0
  have e6 := HXC.out.v1
  have e7 := HXC.out.v2
  have e8 := HXC.out.v3
  have e9 := HXC.out.v4
  have e10 := HXC.out.c6
  have e11 := HXC.out.c7
  have lxa := hr2.1
  have lxm := hr3.1
  have lxd := hr1.1
  have HOP := Lib.hid hop
  clear hd hok he hx hES ho hea hxc hr1 hr2 hr3 HXC HX0 hop
  go_enter Tryz.func9, Tryz.ntmps9
  go_upto_region 2 with fail
  generalize (w.alloc (.cells ES 36)).alloc (.cells #[.int .i64 x.op, .int .i64 x.n, .int .i64 x.a, .int .i64 x.b, .int .i64 x.c, .int .i64 x.v.scope, .int .i64 x.v.slot, .int .i64 x.v.who, .int .i64 x.v.type, .slice vo x.v.dims.length vc, .slice xo x.args.length xc, .slice mo x.mat.length mc] 73) = W1 at HX ⊢
  clear c6 e0 e1 e2 e3 e4 e5 e6 e7 e8 e9 e10 e11 hg
  obtain ⟨XS, hXS⟩ : ∃ c : Array Value, c = #[.int .i64 x.op, .int .i64 x.n, .int .i64 x.a, .int .i64 x.b, .int .i64 x.c, .int .i64 x.v.scope, .int .i64 x.v.slot, .int .i64 x.v.who, .int .i64 x.v.type, .slice vo x.v.dims.length vc, .slice xo x.args.length xc, .slice mo x.mat.length mc] := ⟨_, rfl⟩
  rw [← hXS] at HX
  have HXS : Hid (XS = xCells x vo xo mo vc xc mc) := Lib.hid hXS
  have HXI : Hid ((Tryz.prog.info? 73).map (·.size) = some XS.size) := Lib.hid (by rw [hXS]; show _ = some 12; kernel_rfl)
  clear hXS
  have x0 : W1.cell? ⟨w.heap.size + 1, 0, none⟩ = some (.int .i64 x.op) := HX.out.cell (by rw [HXS.out]; rfl)
  have x2 : W1.cell? ⟨w.heap.size + 1, 2, none⟩ = some (.int .i64 x.a) := HX.out.cell (by rw [HXS.out]; rfl)
  have hopr := HOP.out
  obtain ⟨op, ho⟩ : ∃ o, x.op = o := ⟨_, rfl⟩
  have HOO := Lib.hid ho
  rw [ho] at x0 hopr HV
  clear ho
  have b1 : (op == 1) = false := by rw [beq_eq_false_iff_ne]; omega
  have b2 : (op == 2) = false := by rw [beq_eq_false_iff_ne]; omega
  have b3 : (op == 3) = false := by rw [beq_eq_false_iff_ne]; omega
  have b4 : (op == 4) = false := by rw [beq_eq_false_iff_ne]; omega
  have b5 : (op == 5) = false := by rw [beq_eq_false_iff_ne]; omega
  have b22 : (op == 22) = false := by rw [beq_eq_false_iff_ne]; omega
  have b23 : (op == 23) = false := by rw [beq_eq_false_iff_ne]; omega
  have b24 : (op == 24) = false := by rw [beq_eq_false_iff_ne]; omega
  have b25 : (op == 25) = false := by rw [beq_eq_false_iff_ne]; omega
  have b26 : (op == 26) = false := by rw [beq_eq_false_iff_ne]; omega
  have b27 : (op == 27) = false := by rw [beq_eq_false_iff_ne]; omega
  have b28 : (op == 28) = false := by rw [beq_eq_false_iff_ne]; omega
  have b29 : (op == 29) = false := by rw [beq_eq_false_iff_ne]; omega
  have b30 : (op == 30) = false := by rw [beq_eq_false_iff_ne]; omega
  have b31 : (op == 31) = false := by rw [beq_eq_false_iff_ne]; omega
  have b32 : (op == 32) = false := by rw [beq_eq_false_iff_ne]; omega
  have b33 : (op == 33) = false := by rw [beq_eq_false_iff_ne]; omega
  have b34 : (op == 34) = false := by rw [beq_eq_false_iff_ne]; omega
  have b35 : (op == 35) = false := by rw [beq_eq_false_iff_ne]; omega
  have b36 : (op == 36) = false := by rw [beq_eq_false_iff_ne]; omega
  have b37 : (op == 37) = false := by rw [beq_eq_false_iff_ne]; omega
  have b38 : (op == 38) = false := by rw [beq_eq_false_iff_ne]; omega
  have b39 : (op == 39) = false := by rw [beq_eq_false_iff_ne]; omega
  clear hopr
  obtain ⟨⟨v, er⟩, hev⟩ : ∃ q, ev x.a = q := ⟨_, rfl⟩
  have HEC := Lib.hid (HE.out.at HX.out.zs x.a HA.out.1 HA.out.2)
  rw [hev] at HEC HV
  simp only at HEC HV
  clear hev
  go_wp2_with (refine wpList_load_row rfl _ _ rfl _ rfl _ ES _ _ HX.out.zs.bx.box Tryz.underlying36 rfl HX.out.zs.info ?_)
  refine HEC.out.mono ?_
  rintro e W2 ⟨rfl, hb2⟩
  have HX2 := Lib.hid (HX.out.below hb2)
  clear hb2 HEC HX x0 x2
  by_cases z : er = 0
  rotate_left
  · have HE2 : Hid (R = (0, er)) := Lib.hid (by rw [HV.out, if_pos z])
    have d : (er != 0) = true := by rw [bne_iff_ne]; exact z
    clear z
    go_wp2_with fail
    go_ret2
    exact ⟨ret2 (by rw [HE2.out]) (by rw [HE2.out]), HX2.out.zs.bx.bel⟩
  have d : (er != 0) = false := by rw [bne_eq_false_iff_eq]; exact z
  subst z

  clear b1 b2 b3 b4 b5 b22 b23 b24 b25 b26 b27 b28 b29 b30 b31 b32 b33 b34 b35 b36 b37 b38 b39
  have HV2 := Lib.hid (HV.out.trans (if_neg (by simp)))
  clear HV
  have x3 : W2.cell? ⟨w.heap.size + 1, 3, none⟩ = some (.int .i64 x.b) := HX2.out.cell (by rw [HXS.out]; rfl)
  obtain ⟨⟨v2, er2⟩, hev⟩ : ∃ q, ev x.b = q := ⟨_, rfl⟩
  have HEC := Lib.hid (HE.out.at HX2.out.zs x.b HB.out.1 HB.out.2)
  rw [hev] at HEC HV2
  simp only at HEC HV2
  clear hev
  go_wp2_with (refine wpList_load_row rfl _ _ rfl _ rfl _ ES _ _ HX2.out.zs.bx.box Tryz.underlying36 rfl HX2.out.zs.info ?_)
  refine HEC.out.mono ?_
  rintro e W3 ⟨rfl, hb3⟩
  have HX3 := Lib.hid (HX2.out.below hb3)
  clear hb3 HEC HX2 x3
  by_cases z : er2 = 0
  rotate_left
  · have HE2 : Hid (R = (0, er2)) := Lib.hid (by rw [HV2.out, if_pos z])
    have d2 : (er2 != 0) = true := by rw [bne_iff_ne]; exact z
    clear z
    go_wp2_with fail
    go_ret2
    exact ⟨ret2 (by rw [HE2.out]) (by rw [HE2.out]), HX3.out.zs.bx.bel⟩
  have d2 : (er2 != 0) = false := by rw [bne_eq_false_iff_eq]; exact z
  subst z
  have HE2 := Lib.hid (HV2.out.trans (if_neg (by simp)))
  have x0 : W3.cell? ⟨w.heap.size + 1, 0, none⟩ = some (.int .i64 op) := HX3.out.cell (by rw [HXS.out, ← HOO.out]; rfl)
  go_wp2_with fail
  refine (val.rtwo_any _ _ _ W3).mono ?_
  rintro e W4 ⟨rfl, hb4⟩
  have HX4 := Lib.hid (HX3.out.below hb4)
  clear hb4 HX3 x0
  go_wp2_with fail
  go_ret2
  exact ⟨ret2 (by rw [HE2.out]) (by rw [HE2.out]), HX4.out.zs.bx.bel⟩

set_option maxRecDepth 100000 in
set_option maxHeartbeats 4000000 in
theorem e14_np {h : MH} {hs : SH} {ao : Option Addr} {ac : Nat} {E : EnvD} {ev : Int → Int × Int} {p : Nat} {x : ExprD} (w : World) (hd : ED w.heap.size w h hs ao E) (hok : Ok E) (he : EvH h hs ao ac E ev p) (hx : E.m.exprs[p]? = some x) (hop : x.op = 34) :
    Calls Tryz.prog 9 #[.agg (eCells h hs ao ac E), .int .i64 p] w fun e w' => e = .returned (.tuple #[.int .i64 (evalB E ev x).1, .int .i64 (evalB E ev x).2]) ∧ Below w.heap.size w w' := by
  have HE := Lib.hid he
  have HO := Lib.hid hok
  have HXG := Lib.hid hx
  have HV := Lib.hid (evalB_kno (E := E) (ev := ev) (x := x) (by omega))
  obtain ⟨R, hR⟩ : ∃ R, evalB E ev x = R := ⟨_, rfl⟩
  rw [hR] at HV ⊢
  clear hR
  have hel := hd.md.exprs.1
  have hpl : p < E.m.exprs.length := (List.getElem?_eq_some_iff.1 hx).1
  have hpi : (p : Int) < E.m.exprs.length := by omega
  have hp0 : (0 : Int) ≤ p := by omega
  obtain ⟨ES, hES⟩ : ∃ c, c = eCells h hs ao ac E := ⟨_, rfl⟩
  have HES := Lib.hid hES
  have HX0 := Lib.hid (Zs.new hd hES)
  rw [← hES]
  obtain ⟨g, off, ho, hg, hea⟩ := hd.md.exprs.get hx
  obtain ⟨vo, vc, xo, xc, mo, mc, hxc, hr1, hr2, hr3⟩ := (hea.below (Below.refl _ _) hg).xc
  have HXC := Lib.hid (hxc.below hg (ball (.cells ES 36)))
  have HR2 := Lib.hid hr2
  have HR3 := Lib.hid hr3
  have HX : Hid (Zx w ES (xCells x vo xo mo vc xc mc) h hs ao ac E ((w.alloc (.cells ES 36)).alloc (.cells (xCells x vo xo mo vc xc mc) 73))) := Lib.hid (Zx.new hd hES)
  unfold xCells at HX
  have c6 : (w.alloc (.cells ES 36)).cell? ⟨w.heap.size, 6, none⟩ = some (.slice h.eo E.m.exprs.length h.ec) := HX0.out.cell rfl
  rw [ho] at c6
  have e0 := HXC.out.c0
  have e1 := HXC.out.c1
  have e2 := HXC.out.c2
  have e3 := HXC.out.c3
  have e4 := HXC.out.c4
  have e5 := HXC.out.v0
  have e6 := HXC.out.v1
  have e7 := HXC.out.v2
  have e8 := HXC.out.v3
  have e9 := HXC.out.v4
  have e10 := HXC.out.c6
  have e11 := HXC.out.c7
  have lxa := hr2.1
  have lxm := hr3.1
  have lxd := hr1.1
  have HOP := Lib.hid hop
  clear hd hok he hx hES ho hea hxc hr1 hr2 hr3 HXC HX0 hop
  go_enter Tryz.func9, Tryz.ntmps9
  go_upto_region 2 with fail
  generalize (w.alloc (.cells ES 36)).alloc (.cells #[.int .i64 x.op, .int .i64 x.n, .int .i64 x.a, .int .i64 x.b, .int .i64 x.c, .int .i64 x.v.scope, .int .i64 x.v.slot, .int .i64 x.v.who, .int .i64 x.v.type, .slice vo x.v.dims.length vc, .slice xo x.args.length xc, .slice mo x.mat.length mc] 73) = W1 at HX ⊢
  clear c6 e0 e1 e2 e3 e4 e5 e6 e7 e8 e9 e10 e11 hg
  obtain ⟨XS, hXS⟩ : ∃ c : Array Value, c = #[.int .i64 x.op, .int .i64 x.n, .int .i64 x.a, .int .i64 x.b, .int .i64 x.c, .int .i64 x.v.scope, .int .i64 x.v.slot, .int .i64 x.v.who, .int .i64 x.v.type, .slice vo x.v.dims.length vc, .slice xo x.args.length xc, .slice mo x.mat.length mc] := ⟨_, rfl⟩
  rw [← hXS] at HX
  have HXS : Hid (XS = xCells x vo xo mo vc xc mc) := Lib.hid hXS
  have HXI : Hid ((Tryz.prog.info? 73).map (·.size) = some XS.size) := Lib.hid (by rw [hXS]; show _ = some 12; kernel_rfl)
  clear hXS
  have x0 : W1.cell? ⟨w.heap.size + 1, 0, none⟩ = some (.int .i64 x.op) := HX.out.cell (by rw [HXS.out]; rfl)
  rw [HOP.out] at x0 HV
  have HVV : Hid (R = (truthI (E.s.procs.all (fun p => !inProgress E p)), 0)) := Lib.hid HV.out
  go_wp2_with fail
  go_loopw [14] (fun iv W => ∃ i : Nat, iv = .int .i64 i ∧ i ≤ E.s.procs.length ∧ Hid (∀ j (hj : j < E.s.procs.length), j < i → (!inProgress E E.s.procs[j]) = true) ∧ Hid (Zs w ES h hs ao ac E W)) (fun iv _ => E.s.procs.length - (intOf iv).toNat)
  case atStart => exact ⟨0, rfl, by omega, Lib.hid fun j _ h => by omega, Lib.hid HX.out.zs⟩
  case round =>
    clear x0 HX
    obtain ⟨i, rfl, hi, HJ, HX⟩ := hrel
    have hi0 : (0 : Int) ≤ i := by omega
    have hpl2 := HX.out.ed.sd.procs.1
    have c9 : wr.cell? ⟨w.heap.size, 9, none⟩ = some (.slice hs.po E.s.procs.length hs.pc) := HX.out.cell rfl
    by_cases hlt : i < E.s.procs.length
    · have hlti : (i : Int) < E.s.procs.length := by omega
      obtain ⟨pr, hp⟩ : ∃ x, E.s.procs[i] = x := ⟨_, rfl⟩
      have hpq : E.s.procs[i]? = some pr := by rw [List.getElem?_eq_getElem hlt, hp]
      obtain ⟨t, ht, ht0, ht1, hl0, hl1, -⟩ := may_proc HO.out hpq
      obtain ⟨kt, hkt⟩ : ∃ k : Nat, pr.type = k := ⟨pr.type.toNat, by omega⟩
      obtain ⟨kl, hkl⟩ : ∃ k : Nat, pr.loc = k := ⟨pr.loc.toNat, by omega⟩
      have hktl : (kt : Int) < E.m.procs.length := by omega
      have hkll : (kl : Int) < t.locs.length := by omega
      have hkt0 : (0 : Int) ≤ kt := by omega
      have hkl0 : (0 : Int) ≤ kl := by omega
      obtain ⟨l, hl⟩ : ∃ l, t.locs[kl]? = some l := ⟨_, List.getElem?_eq_getElem (by omega)⟩
      have HPR : Hid (inProgress E pr = l.progress) := Lib.hid (by unfold inProgress locOf; rw [ht, hkl, Int.toNat_natCast]; show ((t.locs[kl]?).map (·.progress)).getD false = _; rw [hl]; rfl)
      rw [hkt, Int.toNat_natCast] at ht
      obtain ⟨g1, off1, ho1, hg1, hpa⟩ := HX.out.ed.sd.procs.get hpq
      have q0 := hpa.c0
      have q1 := hpa.c1
      have q2 := hpa.c2
      obtain ⟨fo, fc, q3, -⟩ := hpa.frame
      rw [ho1] at c9
      rw [hkt] at q0
      rw [hkl] at q1
      have HBAD : Hid (l.progress = true → R = (0, 0)) := Lib.hid fun e => by rw [HVV.out, all_bad hlt (by rw [hp, HPR.out, e]; rfl)]; rfl
      have HGO : Hid (l.progress = false → ∀ j (hj : j < E.s.procs.length), j < i + 1 → (!inProgress E E.s.procs[j]) = true) := Lib.hid fun e j hj hjk => by
        by_cases ej : j = i
        · subst ej; rw [hp, HPR.out, e]; rfl
        · exact HJ.out j hj (by omega)
      have HX2 := Lib.hid (HX.out.below (ball (.cells #[.int .i64 kt, .int .i64 kl, .int .i64 pr.prio, .slice fo pr.frame.length fc] 84)))
      have HP2 : Hid ((wr.alloc (.cells #[.int .i64 kt, .int .i64 kl, .int .i64 pr.prio, .slice fo pr.frame.length fc] 84)).heap[wr.heap.size]? = some (.cells #[.int .i64 kt, .int .i64 kl, .int .i64 pr.prio, .slice fo pr.frame.length fc] 84 (0, 0))) := Lib.hid (heap_alloc_new wr _)
      have HT := Lib.hid ht
      have HL := Lib.hid hl
      clear hpa ho1 hp hpq ht hl hkt hkl hl0 hl1 ht0 ht1 hg1
      go_upto_region 42 with fail
      obtain ⟨T, hT⟩ : ∃ T, wr.heap.size = T := ⟨_, rfl⟩
      generalize wr.alloc (.cells #[.int .i64 kt, .int .i64 kl, .int .i64 pr.prio, .slice fo pr.frame.length fc] 84) = W2 at HX2 HP2 ⊢
      rw [hT] at HP2 ⊢
      clear hT c9 q0 q1 q2 q3 HX
      have c4 : W2.cell? ⟨w.heap.size, 4, none⟩ = some (.slice h.po E.m.procs.length h.pc) := HX2.out.cell rfl
      have hml := HX2.out.ed.md.procs.1
      obtain ⟨g2, off2, ho2, hg2, hta⟩ := HX2.out.ed.md.procs.get HT.out
      obtain ⟨lo, lc, r4, hlr⟩ := hta.locs
      have hll := hlr.1
      obtain ⟨g3, off3, ho3, hg3, hla⟩ := hlr.get HL.out
      have r6 := hla.c6
      have y0 : W2.cell? ⟨T, 0, none⟩ = some (.int .i64 kt) := (cell_of_row _ _ _ _ _ _ HP2.out).trans rfl
      have y1 : W2.cell? ⟨T, 1, none⟩ = some (.int .i64 kl) := (cell_of_row _ _ _ _ _ _ HP2.out).trans rfl
      subst ho3
      rw [ho2] at c4
      obtain ⟨lp, hlp⟩ : ∃ x, l.progress = x := ⟨_, rfl⟩
      rw [hlp] at r6
      have HLP := Lib.hid hlp
      have HD : Hid (∀ n, Zs w ES h hs ao ac E (W2.drewN n)) := Lib.hid fun n => HX2.out.drewN n
      clear hta hla hlr ho2 hlp hg2 hg3
      cases lp
      · have HZ := Lib.hid (HGO.out HLP.out)
        go_quiet (fail)
        have HX3 := Lib.hid (HD.out nq)
        generalize W2.drewN nq = W3 at HX3 ⊢
        clear c4 r4 r6 y0 y1 HD
        go_wp2_with fail
        go_roundw
        case rel => exact ⟨i + 1, by go_num, by omega, HZ, HX3⟩
        case measure => simp [intOf]; omega
      · have HZ := Lib.hid (HBAD.out HLP.out)
        go_quiet (fail)
        have HX3 := Lib.hid (HD.out nq)
        generalize W2.drewN nq = W3 at HX3 ⊢
        clear c4 r4 r6 y0 y1 HD
        go_wp2_with fail
        go_ret2
        exact ⟨ret2 (by rw [HZ.out]) (by rw [HZ.out]), HX3.out.bx.bel⟩
    · have hlti : ¬ (i : Int) < E.s.procs.length := by omega
      have HZ : Hid (R = (1, 0)) := Lib.hid (by rw [HVV.out, all_of fun j hj => HJ.out j hj (by omega)]; rfl)
      go_wp2_with fail
      go_ret2
      exact ⟨ret2 (by rw [HZ.out]) (by rw [HZ.out]), HX.out.bx.bel⟩
end Go.Proofs.YtbhgdlfndamklaaGreatDoor
/- The document's Eval, every expression, every model and state that may be. -/
namespace Go.Proofs.YtbhgdlfndamklaaGreatDoor
open Go.ChangeShapes Go.WideShapes Go.ChangeAt Go.RowKit
set_option linter.unusedVariables false
set_option linter.unusedSimpArgs false

/-- One step, whatever the kind. -/
theorem evalStepH {h : MH} {hs : SH} {ao : Option Addr} {ac : Nat} {E : EnvD} {ev : Int → Int × Int} {p : Nat} {x : ExprD} (w : World) (hd : ED w.heap.size w h hs ao E) (hok : Ok E) (he : EvH h hs ao ac E ev p) (h00 : ∀ i, (ev i).2 ≠ 0 → (ev i).1 = 0) (hx : E.m.exprs[p]? = some x) :
    Calls Tryz.prog 9 #[.agg (eCells h hs ao ac E), .int .i64 p] w fun e w' => e = .returned (.tuple #[.int .i64 (evalB E ev x).1, .int .i64 (evalB E ev x).2]) ∧ Below w.heap.size w w' := by
  obtain ⟨hxb, hps⟩ := (good_ex hok).ok p x hx
  unfold exprB at hxb
  simp only [Bool.and_eq_true, decide_eq_true_eq] at hxb
  obtain ⟨⟨hop, -⟩, hkind⟩ := hxb
  have hA : 1 ≤ partsOf x.op → 0 ≤ x.a ∧ x.a < p := fun h1 => hps x.a (List.mem_append_left _ (partsTakeAt (n := 0) rfl (by omega)))
  have hBB : 2 ≤ partsOf x.op → 0 ≤ x.b ∧ x.b < p := fun h1 => hps x.b (List.mem_append_left _ (partsTakeAt (n := 1) rfl (by omega)))
  have hC : 3 ≤ partsOf x.op → 0 ≤ x.c ∧ x.c < p := fun h1 => hps x.c (List.mem_append_left _ (partsTakeAt (n := 2) rfl (by omega)))
  by_cases h1 : x.op = 1
  · exact e14_num w hd hok he hx h1
  by_cases h2 : x.op = 2
  · have hv : varB E.m x.v = true := by
      unfold kindB at hkind
      rw [if_neg h1, if_pos h2] at hkind
      exact hkind
    have hm : moreL x = (if x.v.scope = 2 then [x.v.who] else []) ++ x.v.dims.map (·.i) := if_pos h2
    refine e14_var w hd hok he hx h2 (VarF.of hv) (fun hsc => hps _ (List.mem_append_right _ ?_)) (fun d hdm => hps _ (List.mem_append_right _ ?_))
    · rw [hm, if_pos hsc]
      exact List.mem_append_left _ (List.mem_cons_self ..)
    · rw [hm]
      exact List.mem_append_right _ (List.mem_map_of_mem hdm)
  by_cases h3 : 3 ≤ x.op ∧ x.op ≤ 5
  · exact e14_one w hd hok he hx h3 (hA (by rw [pOf1 (.inl h3)]; omega))
  by_cases h4 : 22 ≤ x.op ∧ x.op ≤ 24
  · by_cases h24 : x.op = 24
    · have e := pOf3 h24
      exact e14_cho w hd hok he hx h4 h00 (hA (by omega)) (hBB (by omega)) (fun _ => hC (by omega))
    · have e := pOf2 (op := x.op) (by omega)
      exact e14_cho w hd hok he hx h4 h00 (hA (by omega)) (hBB (by omega)) (fun h => absurd h h24)
  by_cases h5 : 25 ≤ x.op ∧ x.op ≤ 29
  · exact e14_roo w hd hok he hx h5 (hA (by rw [pOf1 (by omega)]; omega))
  by_cases h6 : x.op = 30
  · have hf : fieldsB E.m x.args x.mat = true := by
      unfold kindB at hkind
      rw [if_neg h1, if_neg h2, if_pos h6] at hkind
      simp only [Bool.and_eq_true] at hkind
      exact hkind.2
    unfold fieldsB at hf
    simp only [Bool.and_eq_true, Bool.not_eq_true', decide_eq_false_iff_not] at hf
    have hm : moreL x = x.args := by
      unfold moreL
      rw [if_neg h2, if_pos (.inl h6)]
    exact e14_pol w hd hok he hx h6 (hA (by rw [pOf1 (by omega)]; omega)) (by omega) (by omega) (fun q hq => hps _ (List.mem_append_right _ (by rw [hm]; exact hq)))
  by_cases h7 : 31 ≤ x.op ∧ x.op ≤ 35
  · by_cases h34 : x.op = 34
    · exact e14_np w hd hok he hx h34
    · exact e14_kno w hd hok he hx (by omega)
  by_cases h8 : 36 ≤ x.op ∧ x.op ≤ 38
  · exact e14_ask w hd hok he hx h8 (hA (by rw [pOf1 (by omega)]; omega))
  by_cases h9 : x.op = 39
  · exact e14_run w hd hok he hx h9
  have e := pOf2 (op := x.op) (by omega)
  exact e14_two w hd hok he hx (by omega) (hA (by omega)) (hBB (by omega))

/-- Every expression, reckoned. -/
theorem evalAllH {h : MH} {hs : SH} {ao : Option Addr} {ac : Nat} {E : EnvD} (hok : Ok E) : ∀ (f p : Nat), p < f → p < E.m.exprs.length → ∀ W, ED W.heap.size W h hs ao E →
    Calls Tryz.prog 9 #[.agg (eCells h hs ao ac E), .int .i64 p] W fun e W' => e = .returned (.tuple #[.int .i64 (evalF E f p).1, .int .i64 (evalF E f p).2]) ∧ Below W.heap.size W W'
  | 0, _, h0, _, _, _ => by omega
  | f + 1, p, hp, hl, W, hk => by
    obtain ⟨x, hx⟩ : ∃ x, E.m.exprs[p]? = some x := ⟨_, List.getElem?_eq_getElem hl⟩
    have hv : evalF E (f + 1) p = evalB E (evalF E f) x := by
      show (match E.m.exprs[((p : Int)).toNat]? with | some x => evalB E (evalF E f) x | none => (0, 0)) = _
      rw [Int.toNat_natCast, hx]
    rw [hv]
    exact evalStepH W hk hok (fun q V h0 hq hkV => by
      obtain ⟨k, rfl⟩ : ∃ k : Nat, q = k := ⟨q.toNat, by omega⟩
      exact evalAllH hok f k (by omega) (by omega) V hkV) (fun i => evalF_zero E f i) hx
/-- The document's Eval at all places. -/
theorem evalH {h : MH} {hs : SH} {ao : Option Addr} {ac : Nat} {E : EnvD} (hok : Ok E) : EvH h hs ao ac E (evE E) E.m.exprs.length := fun q V h0 hq hkV => by
  obtain ⟨k, rfl⟩ : ∃ k : Nat, q = k := ⟨q.toNat, by omega⟩
  exact evalAllH hok _ k (by omega) (by omega) V hkV
end Go.Proofs.YtbhgdlfndamklaaGreatDoor
/- The document's first answer: may a model be, and a state. -/
namespace Go.Proofs.YtbhgdlfndamklaaGreatDoor
open Go.ChangeShapes Go.WideShapes Go.ChangeAt Go.RowKit
set_option linter.unusedVariables false
set_option linter.unusedSimpArgs false

theorem Ys.sinfo {w W : World} {CS SS : Array Value} {h : MH} {m : ModelD} {hs : SH} {s : StateD} (k : Ys w CS SS h m hs s W) : (Tryz.prog.info? 33).map (·.size) = some SS.size := by
  rw [k.es]
  show _ = some 6
  kernel_rfl
set_option maxRecDepth 100000 in
set_option maxHeartbeats 2000000 in
theorem check12H {B : Nat} {h : MH} {m : ModelD} {hs : SH} {s : StateD} (hab : ArgsB m) (w : World) (hB : B ≤ w.heap.size) (hmd : MD B w h m) (hsd : SD B w hs s) : Calls Tryz.prog 19 #[mV h m, sV hs s] w fun e w' => e = .returned (.int .i64 (stateE m s)) ∧ Below w.heap.size w w' := by
  have HMAY := Lib.hid (fun (hg : goodB m = true) (W : World) (hd : MD W.heap.size W h m) (hsd : SD W.heap.size W hs s) => may12H (good_head hg).1 W hd hsd)
  have HGOOD := Lib.hid (fun (W : World) (hd : MD W.heap.size W h m) => mayH W hd hab)
  obtain ⟨CS, hCS⟩ : ∃ c, c = mCells h m := ⟨_, rfl⟩
  obtain ⟨SS, hSS⟩ : ∃ c, c = sCells hs s := ⟨_, rfl⟩
  have HX := Lib.hid (Ys.new (hmd.lift hB) hCS (hsd.lift hB) hSS)
  have HV : Hid (stateE m s = if goodB m = true then (if mayB m s = true then 0 else 41) else 40) := Lib.hid rfl
  have HG : Hid (goodB m = ((checkL m).1 == 0)) := Lib.hid (by unfold goodB; rw [Bool.eq_iff_iff, decide_eq_true_eq, beq_iff_eq])
  unfold mV at HMAY HGOOD ⊢
  unfold sV at HMAY ⊢
  rw [← hCS] at HMAY HGOOD ⊢
  rw [← hSS] at HMAY ⊢
  clear hmd hsd hCS hSS hab
  go_enter Tryz.func19, Tryz.ntmps19
  go_upto_region 1 with fail
  generalize (w.alloc (.cells CS 29)).alloc (.cells SS 33) = W1 at HX ⊢
  go_wp2_with (refine wpList_load_row rfl _ _ rfl _ rfl _ CS _ _ HX.out.mx.bx.box Tryz.underlying29 rfl HX.out.mx.info ?_)
  refine (HGOOD.out W1 HX.out.mx.here).mono ?_
  rintro e W2 ⟨rfl, hb2⟩
  have HX2 := Lib.hid (HX.out.below hb2)
  clear hb2 HX
  obtain ⟨u, hu⟩ : ∃ u, ((checkL m).1 == 0) = u := ⟨_, rfl⟩
  rw [hu] at HG
  rw [hu]
  clear hu HGOOD
  cases u
  · have HZ : Hid (stateE m s = 40) := Lib.hid (by rw [HV.out, HG.out]; rfl)
    go_wp2_with fail
    go_ret
    exact ⟨retI HZ.out.symm, HX2.out.sx.bel⟩
  go_wp2_with (first | refine wpList_load_row rfl _ _ rfl _ rfl _ CS _ _ HX2.out.mx.bx.box Tryz.underlying29 rfl HX2.out.mx.info ?_ | refine wpList_load_row rfl _ _ rfl _ rfl _ SS _ _ HX2.out.sx.box Tryz.underlying33 rfl HX2.out.sinfo ?_)
  refine (HMAY.out HG.out W2 HX2.out.mx.here (HX2.out.sd.lift HX2.out.sx.bel.size)).mono ?_
  rintro e W3 ⟨rfl, hb3⟩
  have HX3 := Lib.hid (HX2.out.below hb3)
  clear hb3 HX2 HMAY
  obtain ⟨v, hv⟩ : ∃ v, mayB m s = v := ⟨_, rfl⟩
  rw [hv] at HV
  rw [hv]
  clear hv
  cases v
  · have HZ : Hid (stateE m s = 41) := Lib.hid (by rw [HV.out, HG.out]; rfl)
    go_wp2_with fail
    go_ret
    exact ⟨retI HZ.out.symm, HX3.out.sx.bel⟩
  · have HZ : Hid (stateE m s = 0) := Lib.hid (by rw [HV.out, HG.out]; rfl)
    go_wp2_with fail
    go_ret
    exact ⟨retI HZ.out.symm, HX3.out.sx.bel⟩

end Go.Proofs.YtbhgdlfndamklaaGreatDoor
