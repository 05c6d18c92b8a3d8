/- Would a receive find a message, as the document has it. -/
import Derived.Test.YtbhgdlfndamklaaGreatDoorM40
import Derived.Test.YtbhgdlfndamklaaGreatDoorM19
import Derived.Test.YtbhgdlfndamklaaGreatDoorM39
namespace Go.Proofs.YtbhgdlfndamklaaGreatDoor
open Go.ChangeShapes Go.WideShapes Go.ChangeAt Go.RowKit
set_option linter.unusedVariables false
set_option linter.unusedSimpArgs false

set_option maxRecDepth 100000 in
set_option maxHeartbeats 1500000 in
theorem asksP14H {h : MH} {hs : SH} {ao vo ao2 mo : Option Addr} {ac vc ac2 mc : Nat} {E : EnvD} {ev : Int → Int × Int} {N : Nat} (x : ExprD) (w : World) (hok : Ok E) (hd : ED w.heap.size w h hs ao E) (he : EvH h hs ao ac E ev N) (hop : x.op = 30) (ha : 0 ≤ x.a ∧ x.a < N) (hr1 : Row w.heap.size ao2 1 (intAt w) x.args) (hr2 : Row w.heap.size mo 1 (intAt w) x.mat) (hn : x.args.length ≤ 8) (hm : x.mat.length = x.args.length) (hin : ∀ q ∈ x.args, 0 ≤ q ∧ q < N) :
    Calls Tryz.prog 25 #[.agg (eCells h hs ao ac E), .agg (xCells x vo ao2 mo vc ac2 mc)] w fun e w' => e = .returned (.tuple #[.int .i64 (rpollB E ev x).1, .int .i64 (rpollB E ev x).2]) ∧ Below w.heap.size w w' := by
  have HEA := Lib.hid (fun W hd => chan14H x.a W hd he ha.1 ha.2)
  obtain ⟨ES, hES⟩ : ∃ c, c = eCells h hs ao ac E := ⟨_, rfl⟩
  obtain ⟨XS, hXS⟩ : ∃ c, c = xCells x vo ao2 mo vc ac2 mc := ⟨_, rfl⟩
  have HX := Lib.hid (Zx.new (XS := XS) hd hES)
  have HXS := Lib.hid hXS
  have HO := Lib.hid hok
  rw [← hES] at HEA ⊢
  rw [← hXS]
  have HEV := Lib.hid he
  have HHR := Lib.hid (And.intro hr1 hr2)
  have HNM := Lib.hid (And.intro hn hm)
  have HIN := Lib.hid hin
  have la := hr1.1
  have lm := hr2.1
  have HES := Lib.hid hES
  have HOP := Lib.hid hop
  clear hd he hES hXS ha hok hr1 hr2 hn hm hin hop
  obtain ⟨⟨v, er⟩, hev⟩ : ∃ q, rchanB E ev x.a = q := ⟨_, rfl⟩
  rw [hev] at HEA
  simp only at HEA
  have HV0 : Hid (er ≠ 0 → rpollB E ev x = (0, er)) := Lib.hid (fun h => by unfold rpollB; rw [hev]; simp [h])
  have HVP : Hid (∀ (k : Nat) c s, v = (k : Int) + 1 → er = 0 → E.s.chans[k]? = some c → E.m.shapes[c.shape.toNat]? = some s → rpollB E ev x = if s.fields.length ≠ x.args.length then (0, 49) else if (wantedF ev (x.args.zip x.mat)).2 ≠ 0 then (0, (wantedF ev (x.args.zip x.mat)).2) else (truthI (decide (0 ≤ findF (wantedF ev (x.args.zip x.mat)).1 x.mat (decide (x.n = 1)) c.queue 0)), 0)) := Lib.hid fun k c s h1 h2 h3 h4 => poll_eq (by rw [hev, h1, h2]) h3 h4
  have HK : Hid (er = 0 → ∃ k : Nat, v = (k : Int) + 1 ∧ k < E.s.chans.length) := Lib.hid fun h0 => by
    obtain ⟨k, hk1, hkl⟩ := rchan_ok (E := E) (ev := ev) (a := x.a) (by rw [hev]; exact h0)
    rw [hev] at hk1
    exact ⟨k, hk1, hkl⟩
  clear hev
  obtain ⟨R, hR⟩ : ∃ R, rpollB E ev x = R := ⟨_, rfl⟩
  rw [hR] at HV0 HVP ⊢
  clear hR
  go_enter Tryz.func25, Tryz.ntmps25
  go_upto_region 1 with fail
  generalize (w.alloc (.cells ES 36)).alloc (.cells XS 73) = W0 at HX ⊢
  have x2 : W0.cell? ⟨w.heap.size + 1, 2, none⟩ = some (.int .i64 x.a) := HX.out.cell (by rw [HXS.out]; rfl)
  go_wp2_with (refine wpList_load_row rfl _ _ rfl _ rfl _ ES _ _ HX.out.zs.bx.box Tryz.underlying36 rfl HX.out.zs.info ?_)
  refine (HEA.out W0 HX.out.zs.here).mono ?_
  rintro e W1 ⟨rfl, hb1⟩
  have HX1 := Lib.hid (HX.out.below hb1)
  clear hb1 HX HEA x2
  by_cases z : er = 0
  rotate_left
  · have HE : Hid (R = (0, er)) := Lib.hid (HV0.out z)
    have d : (er != 0) = true := by rw [bne_iff_ne]; exact z
    clear z
    go_wp2_with fail
    go_ret2
    exact ⟨ret2 (by rw [HE.out]) (by rw [HE.out]), HX1.out.zs.bx.bel⟩
  have d : (er != 0) = false := by rw [bne_eq_false_iff_eq]; exact z
  subst z
  obtain ⟨k, hk1, hkl⟩ := HK.out rfl
  subst hk1
  obtain ⟨c, hc⟩ : ∃ s, E.s.chans[k]? = some s := ⟨_, List.getElem?_eq_getElem hkl⟩
  obtain ⟨s, hs2, hs0, hs1⟩ := may_chan HO.out hc
  obtain ⟨ks, hks⟩ : ∃ q : Nat, c.shape = q := ⟨c.shape.toNat, by omega⟩
  have HV := Lib.hid (HVP.out k c s rfl rfl hc hs2)
  rw [hks, Int.toNat_natCast] at hs2
  have hksl : (ks : Int) < E.m.shapes.length := by omega
  have hks0 : (0 : Int) ≤ ks := by omega
  have hkz : (0 : Int) ≤ (k : Int) + 1 - 1 := by omega
  have hki : (k : Int) + 1 - 1 < E.s.chans.length := by omega
  have hke : (k : Int) + 1 - 1 = k := by omega
  obtain ⟨g1, off1, ho1, hg1, hca⟩ := HX1.out.zs.ed.sd.chans.get hc
  have hcl := HX1.out.zs.ed.sd.chans.1
  have e8 : W1.cell? ⟨w.heap.size, 8, none⟩ = some (.slice hs.co E.s.chans.length hs.cc) := HX1.out.zs.cell rfl
  rw [ho1] at e8
  have q0 := hca.c0
  rw [hks] at q0
  obtain ⟨qo, qc, q1, hq⟩ := hca.queue
  have hql := hq.1
  have HQ : Hid (∀ W, Below W1.heap.size W1 W → Row w.heap.size qo 1 (msgAt w.heap.size W) c.queue) := Lib.hid fun W hb => hq.mono fun _ _ _ hg => msgAt.below (hb.mono HX1.out.zs.bx.bel.size) hg
  have HBL2 : Hid (Below W1.heap.size W1 (W1.alloc (.cells #[.int .i64 ks, .slice qo c.queue.length qc] 91))) := Lib.hid (ball _)
  have HX2 := Lib.hid (HX1.out.below (ball (.cells #[.int .i64 ks, .slice qo c.queue.length qc] 91)))
  have HB2 : Hid ((W1.alloc (.cells #[.int .i64 ks, .slice qo c.queue.length qc] 91)).heap[W1.heap.size]? = some (.cells #[.int .i64 ks, .slice qo c.queue.length qc] 91 (0, 0))) := Lib.hid (heap_alloc_new W1 _)
  have HS2 := Lib.hid hs2
  clear hca ho1 hs2 hs0 hs1 hks hc HK HV0 HVP hg1 hq
  go_upto_region 5 with fail
  generalize W1.alloc (.cells #[.int .i64 ks, .slice qo c.queue.length qc] 91) = W2 at HX2 HB2 HBL2 ⊢
  obtain ⟨T, hT⟩ : ∃ T, W1.heap.size = T := ⟨_, rfl⟩
  rw [hT] at HB2 ⊢
  clear e8 q0 q1 HX1 hkz hki hke hT
  obtain ⟨g2, off2, ho2, hg2, hsa⟩ := HX2.out.zs.ed.md.shapes.get HS2.out
  have hsl := HX2.out.zs.ed.md.shapes.1
  have e2 : W2.cell? ⟨w.heap.size, 2, none⟩ = some (.slice h.so E.m.shapes.length h.sc) := HX2.out.zs.cell rfl
  rw [ho2] at e2
  have y0 : W2.cell? ⟨T, 0, none⟩ = some (.int .i64 ks) := (cell_of_row _ _ _ _ _ _ HB2.out).trans rfl
  have r0 := hsa.c0
  obtain ⟨fo, fc, r1, hf⟩ := hsa.fields
  have hfl := hf.1
  have HX3 := Lib.hid (HX2.out.below (ball (.cells #[.int .i64 s.room, .slice fo s.fields.length fc] 117)))
  have HB3 : Hid ((W2.alloc (.cells #[.int .i64 s.room, .slice fo s.fields.length fc] 117)).heap[T]? = some (.cells #[.int .i64 ks, .slice qo c.queue.length qc] 91 (0, 0))) := Lib.hid (((ball (w := W2) (.cells #[.int .i64 s.room, .slice fo s.fields.length fc] 117)).block _ (lt_of_block HB2.out)).trans HB2.out)
  have HS3 : Hid ((W2.alloc (.cells #[.int .i64 s.room, .slice fo s.fields.length fc] 117)).heap[W2.heap.size]? = some (.cells #[.int .i64 s.room, .slice fo s.fields.length fc] 117 (0, 0))) := Lib.hid (heap_alloc_new W2 _)
  have HBL3 : Hid (Below W1.heap.size W1 (W2.alloc (.cells #[.int .i64 s.room, .slice fo s.fields.length fc] 117))) := Lib.hid (HBL2.out.trans (ball (w := W2) (.cells #[.int .i64 s.room, .slice fo s.fields.length fc] 117) |>.mono HBL2.out.size))
  clear hf hsa ho2 hg2 HB2 HS2
  go_upto_region 6 with fail
  generalize W2.alloc (.cells #[.int .i64 s.room, .slice fo s.fields.length fc] 117) = W3 at HX3 HB3 HS3 HBL3 ⊢
  obtain ⟨T2, hT2⟩ : ∃ T, W2.heap.size = T := ⟨_, rfl⟩
  rw [hT2] at HS3 ⊢
  clear e2 y0 r0 r1 HX2 hT2
  have y1 : W3.cell? ⟨T, 1, none⟩ = some (.slice qo c.queue.length qc) := (cell_of_row _ _ _ _ _ _ HB3.out).trans rfl
  have r0 : W3.cell? ⟨T2, 0, none⟩ = some (.int .i64 s.room) := (cell_of_row _ _ _ _ _ _ HS3.out).trans rfl
  have x0 : W3.cell? ⟨w.heap.size + 1, 0, none⟩ = some (.int .i64 x.op) := HX3.out.cell (by rw [HXS.out]; rfl)
  rw [HOP.out] at x0
  have r1 : W3.cell? ⟨T2, 1, none⟩ = some (.slice fo s.fields.length fc) := (cell_of_row _ _ _ _ _ _ HS3.out).trans rfl
  have x10 : W3.cell? ⟨w.heap.size + 1, 10, none⟩ = some (.slice ao2 x.args.length ac2) := HX3.out.cell (by rw [HXS.out]; rfl)
  have x11 : W3.cell? ⟨w.heap.size + 1, 11, none⟩ = some (.slice mo x.mat.length mc) := HX3.out.cell (by rw [HXS.out]; rfl)
  by_cases hfe : s.fields.length = x.args.length
  rotate_left
  · have hn1 : ((s.fields.length : Int) != (x.args.length : Int)) = true := by rw [bne_iff_ne]; omega
    have HE : Hid (R = (0, 49)) := Lib.hid (by rw [HV.out, if_pos hfe])
    clear hfe
    go_wp2_with fail
    go_ret2
    exact ⟨ret2 (by rw [HE.out]) (by rw [HE.out]), HX3.out.zs.bx.bel⟩
  have hn1 : ((s.fields.length : Int) != (x.args.length : Int)) = false := by rw [bne_eq_false_iff_eq]; omega
  have HV2 : Hid (R = if (wantedF ev (x.args.zip x.mat)).2 ≠ 0 then (0, (wantedF ev (x.args.zip x.mat)).2) else (truthI (decide (0 ≤ findF (wantedF ev (x.args.zip x.mat)).1 x.mat (decide (x.n = 1)) c.queue 0)), 0)) := Lib.hid (by rw [HV.out, if_neg (fun h => h hfe)])
  have HWC : Hid (Calls Tryz.prog 52 #[.agg ES, .slice ao2 x.args.length ac2, .slice mo x.mat.length mc] W3 (WantH (wantedF ev (x.args.zip x.mat)) W3)) := Lib.hid (by
    have := wants14H x.args x.mat ao2 mo ac2 mc W3 HX3.out.zs.here HEV.out ((HHR.out.1.mono fun _ _ _ hg => intAt.below HX3.out.zs.bx.bel hg).up HX3.out.zs.bx.bel.size) ((HHR.out.2.mono fun _ _ _ hg => intAt.below HX3.out.zs.bx.bel hg).up HX3.out.zs.bx.bel.size) HNM.out.1 HNM.out.2 HIN.out
    rw [← HES.out] at this
    exact this)
  obtain ⟨⟨wl, we⟩, hwl⟩ : ∃ q, wantedF ev (x.args.zip x.mat) = q := ⟨_, rfl⟩
  rw [hwl] at HWC HV2
  simp only at HV2
  clear hfe hwl HV
  go_wp2_with (refine wpList_load_row rfl _ _ rfl _ rfl _ ES _ _ HX3.out.zs.bx.box Tryz.underlying36 rfl HX3.out.zs.info ?_)
  refine HWC.out.mono ?_
  rintro e W4 hp
  have HP := Lib.hid hp
  have HX4 := Lib.hid (HX3.out.below hp.bel)
  have HBL4 := Lib.hid (HBL3.out.trans (hp.bel.mono HBL3.out.size))
  clear x0 x10 x11 r0 r1 y1 hn1 hp HWC
  have y0 : W4.cell? ⟨T, 0, none⟩ = some (.int .i64 ks) := (HP.out.bel.cell (lt_of_block HB3.out)).trans ((cell_of_row _ _ _ _ _ _ HB3.out).trans rfl)
  have y1 : W4.cell? ⟨T, 1, none⟩ = some (.slice qo c.queue.length qc) := (HP.out.bel.cell (lt_of_block HB3.out)).trans ((cell_of_row _ _ _ _ _ _ HB3.out).trans rfl)
  have x1 : W4.cell? ⟨w.heap.size + 1, 1, none⟩ = some (.int .i64 x.n) := HX4.out.cell (by rw [HXS.out]; rfl)
  have x11 : W4.cell? ⟨w.heap.size + 1, 11, none⟩ = some (.slice mo x.mat.length mc) := HX4.out.cell (by rw [HXS.out]; rfl)
  by_cases z2 : we = 0
  rotate_left
  · have hz := HP.out.no z2
    have HE : Hid (R = (0, we)) := Lib.hid (by rw [HV2.out, if_pos z2])
    have d2 : (we != 0) = true := by rw [bne_iff_ne]; exact z2
    simp only at hz
    subst hz
    clear z2
    go_wp2_with fail
    go_ret2
    exact ⟨ret2 (by rw [HE.out]) (by rw [HE.out]), HX4.out.zs.bx.bel⟩
  subst z2
  obtain ⟨wo, wc, hz, hwr⟩ := HP.out.yes rfl
  have HV3 : Hid (R = (truthI (decide (0 ≤ findF wl x.mat (decide (x.n = 1)) c.queue 0)), 0)) := Lib.hid (by rw [HV2.out, if_neg (by simp)])
  have lw := hwr.1
  simp only at hz hwr lw
  subst hz
  have HWR := Lib.hid hwr
  obtain ⟨b, hbn⟩ : ∃ b, (x.n == 1) = b := ⟨_, rfl⟩
  have HBN : Hid (decide (x.n = 1) = b) := Lib.hid (by rw [← hbn]; rfl)
  rw [HBN.out] at HV3
  have HFC := Lib.hid (find13H (B := W4.heap.size) ks c.queue wl x.mat b qo wo mo qc wc mc W4 (Nat.le_refl _) ((HQ.out W4 HBL4.out).lift' HX4.out.zs.bx.bel.size fun _ _ _ _ h => h.lift HX4.out.zs.bx.bel.size) HWR.out ((HHR.out.2.mono fun _ _ _ hg => intAt.below HX4.out.zs.bx.bel hg).up HX4.out.zs.bx.bel.size))
  generalize findF wl x.mat b c.queue 0 = F at HV3 HFC
  clear hwr HWR
  go_wp2_with fail
  refine HFC.out.mono ?_
  rintro e W5 ⟨rfl, hb5⟩
  have HX5 := Lib.hid (HX4.out.below hb5)
  clear hb5 HFC y0 y1 x1 x11 hbn
  go_wp2_with fail
  refine (one14H _ W5).mono ?_
  rintro e W6 ⟨rfl, rfl⟩
  go_wp2_with fail
  go_ret2
  exact ⟨ret2 (by rw [HV3.out]) (by rw [HV3.out]), HX5.out.zs.bx.bel⟩
end Go.Proofs.YtbhgdlfndamklaaGreatDoor
/- The document's enabled, pc and at. -/
namespace Go.Proofs.YtbhgdlfndamklaaGreatDoor
open Go.ChangeShapes Go.WideShapes Go.ChangeAt Go.RowKit
set_option linter.unusedVariables false
set_option linter.unusedSimpArgs false

/-- What the three answer. -/
def procF (E : EnvD) (ev : Int → Int × Int) (x : ExprD) : Int × Int := if (ev x.a).2 ≠ 0 then (0, (ev x.a).2) else askedB E x (ev x.a).1
theorem asked36 {E : EnvD} {x : ExprD} {n : Int} (h : x.op = 36) : askedB E x n = (truthI (decide (0 ≤ n ∧ n < E.able.length) && E.able.getD n.toNat false), 0) := by
  unfold askedB; rw [if_pos h]
theorem asked_no {E : EnvD} {x : ExprD} {n : Int} (h : x.op ≠ 36) (hn : n < 0 ∨ (E.s.procs.length : Int) ≤ n) : askedB E x n = (0, 52) := by
  unfold askedB
  rw [if_neg h]
  by_cases h0 : n < 0
  · rw [if_pos h0]
  · rw [if_neg h0, List.getElem?_eq_none (by omega)]
theorem asked_at {E : EnvD} {x : ExprD} {k : Nat} (h : x.op ≠ 36) (hk : k < E.s.procs.length) : askedB E x k = if x.op = 37 then (E.s.procs[k].loc, 0) else if E.s.procs[k].type ≠ x.n then (0, 52) else (truthI (x.args.any (fun q => decide (q = E.s.procs[k].loc))), 0) := by
  unfold askedB
  rw [if_neg h, if_neg (by omega)]
  simp only [Int.toNat_natCast, List.getElem?_eq_getElem hk]
theorem any_step {l : List Int} {k : Nat} (hk : k < l.length) (a : Int) : (l.take (k + 1)).any (fun q => decide (q = a)) = ((l.take k).any (fun q => decide (q = a)) || decide (l[k] = a)) := by
  rw [List.take_succ_eq_append_getElem hk, List.any_append]
  simp

set_option maxRecDepth 100000 in
set_option maxHeartbeats 1500000 in
theorem process14H {h : MH} {hs : SH} {ao vo ao2 mo : Option Addr} {ac vc ac2 mc : Nat} {E : EnvD} {ev : Int → Int × Int} {N : Nat} (x : ExprD) (w : World) (hd : ED w.heap.size w h hs ao E) (he : EvH h hs ao ac E ev N) (hop : 36 ≤ x.op ∧ x.op ≤ 38) (ha : 0 ≤ x.a ∧ x.a < N) (hr : Row w.heap.size ao2 1 (intAt w) x.args) :
    Calls Tryz.prog 27 #[.agg (eCells h hs ao ac E), .agg (xCells x vo ao2 mo vc ac2 mc)] w fun e w' => e = .returned (.tuple #[.int .i64 (procF E ev x).1, .int .i64 (procF E ev x).2]) ∧ Below w.heap.size w w' := by
  have HEA := Lib.hid (fun W hd => he x.a W ha.1 ha.2 hd)
  obtain ⟨ES, hES⟩ : ∃ c, c = eCells h hs ao ac E := ⟨_, rfl⟩
  obtain ⟨XS, hXS⟩ : ∃ c, c = xCells x vo ao2 mo vc ac2 mc := ⟨_, rfl⟩
  have HX := Lib.hid (Zx.new (XS := XS) hd hES)
  have HXS := Lib.hid hXS
  have HES := Lib.hid hES
  have HR := Lib.hid hr
  have la := hr.1
  have lb := hd.able.1
  have lp := hd.sd.procs.1
  rw [← hES] at HEA ⊢
  rw [← hXS]
  clear hd he hES hXS ha hr
  obtain ⟨⟨v, er⟩, hev⟩ : ∃ q, ev x.a = q := ⟨_, rfl⟩
  rw [hev] at HEA
  simp only at HEA
  have HV : Hid (procF E ev x = if er ≠ 0 then (0, er) else askedB E x v) := Lib.hid (by unfold procF; rw [hev])
  clear hev
  obtain ⟨R, hR⟩ : ∃ R, procF E ev x = R := ⟨_, rfl⟩
  rw [hR] at HV ⊢
  have hop2 : x.op = 36 ∨ x.op = 37 ∨ x.op = 38 := by omega
  obtain ⟨op, ho⟩ : ∃ o, x.op = o := ⟨_, rfl⟩
  rw [ho] at hop2
  have HO := Lib.hid ho
  clear hop hR ho
  go_enter Tryz.func27, Tryz.ntmps27
  go_upto_region 1 with fail
  generalize (w.alloc (.cells ES 36)).alloc (.cells XS 73) = W0 at HX ⊢
  have x2 : W0.cell? ⟨w.heap.size + 1, 2, none⟩ = some (.int .i64 x.a) := HX.out.cell (by rw [HXS.out]; rfl)
  go_wp2_with (refine wpList_load_row rfl _ _ rfl _ rfl _ ES _ _ HX.out.zs.bx.box Tryz.underlying36 rfl HX.out.zs.info ?_)
  refine (HEA.out W0 HX.out.zs.here).mono ?_
  rintro e W1 ⟨rfl, hb1⟩
  have HX1 := Lib.hid (HX.out.below hb1)
  clear hb1 HX HEA x2
  have x0 : W1.cell? ⟨w.heap.size + 1, 0, none⟩ = some (.int .i64 op) := HX1.out.cell (by rw [HXS.out, ← HO.out]; rfl)
  have x1 : W1.cell? ⟨w.heap.size + 1, 1, none⟩ = some (.int .i64 x.n) := HX1.out.cell (by rw [HXS.out]; rfl)
  have e15 : W1.cell? ⟨w.heap.size, 15, none⟩ = some (.slice ao E.able.length ac) := HX1.out.zs.cell rfl
  have e9 : W1.cell? ⟨w.heap.size, 9, none⟩ = some (.slice hs.po E.s.procs.length hs.pc) := HX1.out.zs.cell rfl
  by_cases z : er = 0
  rotate_left
  · have HE : Hid (R = (0, er)) := Lib.hid (by rw [HV.out, if_pos z])
    have d : (er != 0) = true := by rw [bne_iff_ne]; exact z
    clear z
    go_wp2_with fail
    go_ret2
    exact ⟨ret2 (by rw [HE.out]) (by rw [HE.out]), HX1.out.zs.bx.bel⟩
  have d : (er != 0) = false := by rw [bne_eq_false_iff_eq]; exact z
  subst z
  have HV2 : Hid (R = askedB E x v) := Lib.hid (by rw [HV.out]; simp)
  clear HV
  rcases Classical.em (op = 36) with z36 | z36
  · subst z36
    have HV3 : Hid (R = (truthI (decide (0 ≤ v ∧ v < E.able.length) && E.able.getD v.toNat false), 0)) := Lib.hid (by rw [HV2.out, asked36 HO.out])
    clear HV2 hop2
    by_cases n1 : v < 0
    · have d1 : decide (0 ≤ v) = false := decide_eq_false (by omega)
      have HE : Hid (R = (truthI false, 0)) := Lib.hid (by rw [HV3.out, decide_eq_false (by omega)]; rfl)
      clear n1
      go_wp2_with fail
      refine (one14H false W1).mono ?_
      rintro e W3 ⟨rfl, rfl⟩
      go_wp2_with fail
      go_ret2
      exact ⟨ret2 (by rw [HE.out]) (by rw [HE.out]), HX1.out.zs.bx.bel⟩
    have d1 : decide (0 ≤ v) = true := decide_eq_true (by omega)
    by_cases n2 : (E.able.length : Int) ≤ v
    · have d2 : decide (v < (E.able.length : Int)) = false := decide_eq_false (by omega)
      have HE : Hid (R = (truthI false, 0)) := Lib.hid (by rw [HV3.out, decide_eq_false (by omega)]; rfl)
      clear n1 n2
      go_wp2_with fail
      refine (one14H false W1).mono ?_
      rintro e W3 ⟨rfl, rfl⟩
      go_wp2_with fail
      go_ret2
      exact ⟨ret2 (by rw [HE.out]) (by rw [HE.out]), HX1.out.zs.bx.bel⟩
    obtain ⟨k, hk⟩ : ∃ k : Nat, v = k := ⟨v.toNat, by omega⟩
    subst hk
    have hkl : k < E.able.length := by omega
    have hkli : (k : Int) < E.able.length := by omega
    have hk0 : (0 : Int) ≤ k := by omega
    obtain ⟨gb, offb, hob, hgb, eb⟩ := HX1.out.zs.ed.able.cell hkl
    have HE : Hid (R = (truthI E.able[k], 0)) := Lib.hid (by
      rw [HV3.out, decide_eq_true (by omega), Int.toNat_natCast, List.getD_eq_getElem?_getD, List.getElem?_eq_getElem hkl]; rfl)
    unfold boolAt at eb
    rw [Nat.mul_one] at eb
    obtain ⟨b, hb⟩ : ∃ b, E.able[k] = b := ⟨_, rfl⟩
    rw [hb] at eb HE
    rw [hob] at e15
    clear n1 n2 d1 hob hgb hb HV3
    go_wp2_with fail
    refine (one14H b W1).mono ?_
    rintro e W3 ⟨rfl, rfl⟩
    go_wp2_with fail
    go_ret2
    exact ⟨ret2 (by rw [HE.out]) (by rw [HE.out]), HX1.out.zs.bx.bel⟩
  have d36 : (op == 36) = false := by rw [beq_eq_false_iff_ne]; exact z36
  have h36 : Hid (x.op ≠ 36) := Lib.hid (by rw [HO.out]; exact z36)
  have hop3 : op = 37 ∨ op = 38 := by omega
  clear hop2 z36 e15
  by_cases n1 : v < 0
  · have d1 : decide (v < 0) = true := decide_eq_true n1
    have HE : Hid (R = (0, 52)) := Lib.hid (by rw [HV2.out, asked_no h36.out (.inl n1)])
    clear n1 hop3
    go_wp2_with fail
    go_quiet (fail)
    go_wp2_with fail
    go_ret2
    exact ⟨ret2 (by rw [HE.out]) (by rw [HE.out]), (HX1.out.below (bdrew (Below.refl _ _) _)).zs.bx.bel⟩
  have d1 : decide (v < 0) = false := decide_eq_false n1
  by_cases n2 : (E.s.procs.length : Int) ≤ v
  · have d2 : decide ((E.s.procs.length : Int) ≤ v) = true := decide_eq_true n2
    have HE : Hid (R = (0, 52)) := Lib.hid (by rw [HV2.out, asked_no h36.out (.inr n2)])
    clear n1 n2 hop3
    go_wp2_with fail
    go_quiet (fail)
    go_wp2_with fail
    go_ret2
    exact ⟨ret2 (by rw [HE.out]) (by rw [HE.out]), (HX1.out.below (bdrew (Below.refl _ _) _)).zs.bx.bel⟩
  obtain ⟨k, hk⟩ : ∃ k : Nat, v = k := ⟨v.toNat, by omega⟩
  subst hk
  have hkl : k < E.s.procs.length := by omega
  have hkli : (k : Int) < E.s.procs.length := by omega
  have hk0 : (0 : Int) ≤ k := by omega
  have d2 : decide ((E.s.procs.length : Int) ≤ (k : Int)) = false := decide_eq_false n2
  have d4 : decide (E.s.procs.length ≤ k) = false := decide_eq_false (by omega)
  obtain ⟨gp, offp, hpo, hgp, hpa⟩ := HX1.out.zs.ed.sd.procs.cell hkl
  have HV3 := Lib.hid (asked_at h36.out hkl)
  obtain ⟨p, hp⟩ : ∃ p, E.s.procs[k] = p := ⟨_, rfl⟩
  rw [hp] at hpa HV3
  have p0 := hpa.c0
  have p1 := hpa.c1
  have HPD : Hid (∀ n, (W1.drewN n).cell? ⟨gp, offp + k * 4 + 1, none⟩ = some (.int .i64 p.loc)) := Lib.hid fun n => ((bdrew (Below.refl W1.heap.size W1) n).mono HX1.out.zs.bx.bel.size).cell hgp |>.trans p1
  have HXD : Hid (∀ n, Zx w ES XS h hs ao ac E (W1.drewN n)) := Lib.hid fun n => HX1.out.below (bdrew (Below.refl _ _) n)
  obtain ⟨loc, hloc⟩ : ∃ l, p.loc = l := ⟨_, rfl⟩
  obtain ⟨ty, hty⟩ : ∃ l, p.type = l := ⟨_, rfl⟩
  rw [hloc] at p1 HPD HV3
  rw [hty] at p0 HV3
  rw [hpo] at e9
  clear n1 n2 hp hpa hgp hloc hty
  rcases hop3 with rfl | rfl
  · have HE : Hid (R = (loc, 0)) := Lib.hid (by rw [HV2.out, HV3.out, if_pos HO.out])
    have HPO := Lib.hid hpo
    clear hpo
    go_wp2_with fail
    go_quiet (fail)
    have HX2 := Lib.hid (HXD.out nq)
    have p1d := HPD.out nq
    generalize W1.drewN nq = W2 at HX2 p1d ⊢
    clear HXD HPD x0 x1 e9 p0 p1 HX1
    have e9 : W2.cell? ⟨w.heap.size, 9, none⟩ = some (.slice (some ⟨gp, offp, none⟩) E.s.procs.length hs.pc) := by rw [← HPO.out]; exact HX2.out.zs.cell rfl
    have x0 : W2.cell? ⟨w.heap.size + 1, 0, none⟩ = some (.int .i64 37) := HX2.out.cell (by rw [HXS.out, ← HO.out]; rfl)
    go_wp2_with fail
    go_ret2
    exact ⟨ret2 (by rw [HE.out]) (by rw [HE.out]), HX2.out.zs.bx.bel⟩
  · have HPO := Lib.hid hpo
    clear hpo
    by_cases z5 : ty = x.n
    rotate_left
    · have d5 : (ty != x.n) = true := by rw [bne_iff_ne]; exact z5
      have HE : Hid (R = (0, 52)) := Lib.hid (by rw [HV2.out, HV3.out, if_neg (by rw [HO.out]; omega), if_pos z5])
      clear z5
      go_wp2_with fail
      go_quiet (fail)
      have HX2 := Lib.hid (HXD.out nq)
      generalize W1.drewN nq = W2 at HX2 ⊢
      go_wp2_with fail
      go_ret2
      exact ⟨ret2 (by rw [HE.out]) (by rw [HE.out]), HX2.out.zs.bx.bel⟩
    have d5 : (ty != x.n) = false := by rw [bne_eq_false_iff_eq]; exact z5
    have HE : Hid (R = (truthI (x.args.any (fun q => decide (q = loc))), 0)) := Lib.hid (by rw [HV2.out, HV3.out, if_neg (by rw [HO.out]; omega), if_neg (fun h => h z5)])
    clear z5
    go_wp2_with fail
    go_quiet (fail)
    have HX2 := Lib.hid (HXD.out nq)
    have p1d := HPD.out nq
    generalize W1.drewN nq = W2 at HX2 p1d ⊢
    clear HXD HPD x0 x1 e9 p0 p1 HX1
    have e9 : W2.cell? ⟨w.heap.size, 9, none⟩ = some (.slice (some ⟨gp, offp, none⟩) E.s.procs.length hs.pc) := by rw [← HPO.out]; exact HX2.out.zs.cell rfl
    have x0 : W2.cell? ⟨w.heap.size + 1, 0, none⟩ = some (.int .i64 38) := HX2.out.cell (by rw [HXS.out, ← HO.out]; rfl)
    go_wp2_with fail
    go_loopw [9, 10] (fun bv iv wr => ∃ (j : Nat) (b : Bool), bv = .bool b ∧ iv = .int .i64 j ∧ j ≤ x.args.length ∧ Hid (b = (x.args.take j).any (fun q => decide (q = loc))) ∧ Hid (Zx w ES XS h hs ao ac E wr)) (fun _ iv _ => x.args.length - (intOf iv).toNat)
    case atStart => exact ⟨0, false, rfl, rfl, by omega, Lib.hid rfl, HX2⟩
    case round =>
      clear HX2 e9 x0 p1d
      obtain ⟨j, b, rfl, rfl, hj, HB, HX⟩ := hrel
      have hj0 : (0 : Int) ≤ j := by omega
      have x10 : wr.cell? ⟨w.heap.size + 1, 10, none⟩ = some (.slice ao2 x.args.length ac2) := HX.out.cell (by rw [HXS.out]; rfl)
      by_cases hjl : j < x.args.length
      · have hjli : (j : Int) < x.args.length := by omega
        have HST := Lib.hid (any_step hjl loc)
        cases b
        · obtain ⟨ga, offa, hoa, hga, ea⟩ := (HR.out.mono fun _ _ _ hg => intAt.below HX.out.zs.bx.bel hg).cell hjl
          unfold intAt at ea
          rw [Nat.mul_one] at ea
          obtain ⟨a, ha⟩ : ∃ a, x.args[j] = a := ⟨_, rfl⟩
          rw [ha] at ea HST
          rw [hoa] at x10
          clear ha hoa hga
          by_cases z : a = loc
          · have d6 : (a == loc) = true := by rw [beq_iff_eq]; exact z
            have HB2 : Hid (true = (x.args.take (j + 1)).any (fun q => decide (q = loc))) := Lib.hid (by rw [HST.out, decide_eq_true z, Bool.or_true])
            clear z
            go_wp2_with fail
            go_roundw
            case rel => exact ⟨j + 1, true, by go_num, by go_num, by omega, HB2, HX⟩
            case measure => simp [intOf]; omega
          · have d6 : (a == loc) = false := by rw [beq_eq_false_iff_ne]; exact z
            have HB2 : Hid (false = (x.args.take (j + 1)).any (fun q => decide (q = loc))) := Lib.hid (by rw [HST.out, ← HB.out, decide_eq_false z]; rfl)
            clear z
            go_wp2_with fail
            go_roundw
            case rel => exact ⟨j + 1, false, by go_num, by go_num, by omega, HB2, HX⟩
            case measure => simp [intOf]; omega
        · have HB2 : Hid (true = (x.args.take (j + 1)).any (fun q => decide (q = loc))) := Lib.hid (by rw [HST.out, ← HB.out]; rfl)
          go_wp2_with fail
          go_roundw
          case rel => exact ⟨j + 1, true, by go_num, by go_num, by omega, HB2, HX⟩
          case measure => simp [intOf]; omega
      · have hjli : ¬ (j : Int) < x.args.length := by omega
        have HE2 : Hid (R = (truthI b, 0)) := Lib.hid (by rw [HE.out, HB.out, List.take_of_length_le (by omega)])
        clear HB HE
        go_wp2_with fail
        refine (one14H b wr).mono ?_
        rintro e W3 ⟨rfl, rfl⟩
        go_wp2_with fail
        go_ret2
        exact ⟨ret2 (by rw [HE2.out]) (by rw [HE2.out]), HX.out.zs.bx.bel⟩
end Go.Proofs.YtbhgdlfndamklaaGreatDoor
