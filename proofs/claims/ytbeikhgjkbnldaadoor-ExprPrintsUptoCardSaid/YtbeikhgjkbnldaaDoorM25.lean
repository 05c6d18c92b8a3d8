/- Would a receive find a message? -/
import Derived.Test.YtbeikhgjkbnldaaDoorM24
import Derived.StillTailTactics
import Derived.Deep.RegionLaw
import Derived.Test.YtbeikhgjkbnldaaDoorM14
namespace Go.Proofs.YtbeikhgjkbnldaaDoor
open Go.ChangeShapes Go.WideShapes Go.ChangeAt Go.RowKit
set_option linter.unusedVariables false
set_option linter.unusedSimpArgs false

theorem poll_eq {E : EnvD} {ev : Int → Int × Int} {x : ExprD} {k : Nat} {c : ChanD} {s : ShapeD} (h1 : rchanB E ev x.a = ((k : Int) + 1, 0)) (h2 : E.s.chans[k]? = some c) (h3 : E.m.shapes[c.shape.toNat]? = some s) :
    rpollB E ev x = if s.fields.length ≠ x.args.length then (0, 49) else if (wantedF ev (x.args.zip x.mat)).2 ≠ 0 then (0, (wantedF ev (x.args.zip x.mat)).2) else (truthI (decide (0 ≤ findF (wantedF ev (x.args.zip x.mat)).1 x.mat (decide (x.n = 1)) c.queue 0)), 0) := by
  unfold rpollB
  rw [h1, if_neg (by simp), chanNo_get h2, shapeNo_get h3]

set_option maxHeartbeats 1000000 in
set_option maxRecDepth 100000 in
theorem pollC {B pe g a : Nat} {h : MH} {hs : SH} {ao : Option Addr} {ac : Nat} {E : EnvD} {ev : Int → Int × Int} {N : Nat} {x : ExprD} (w : World) (hk : Ek B w pe h hs ao ac E) (hok : Ok E) (he : EvC B pe h hs ao ac E ev N) (hx : exprAt B w g a x) (hg : g < B) (hx0 : 0 ≤ x.a) (hxN : x.a < N) (hn : x.args.length ≤ 8) (hm : x.mat.length = x.args.length) (hin : ∀ q ∈ x.args, 0 ≤ q ∧ q < N) :
    Calls Tryd.prog 32 #[.pointer (some ⟨pe, 0, none⟩), .pointer (some ⟨g, a, none⟩)] w fun e w' => e = .returned (.tuple #[.int .i64 (rpollB E ev x).1, .int .i64 (rpollB E ev x).2]) ∧ Below w.heap.size w w' := by
  have HK := Lib.hid hk
  have HO := Lib.hid hok
  have HE := Lib.hid he
  have hB : B ≤ w.heap.size := hk.leW
  have hgw : g < w.heap.size := by omega
  obtain ⟨xo, xc, xs6, hxa⟩ := hx.args
  obtain ⟨mo, mc, xs7, hxm⟩ := hx.mat
  have l6 := hxa.1
  have l7 := hxm.1
  have x2 := hx.c2
  have HIN := Lib.hid hin
  have HNM := Lib.hid (And.intro hn hm)
  have HCX : Hid (∀ W, Below w.heap.size w W → W.cell? ⟨g, a + 1, none⟩ = some (.int .i64 x.n) ∧ W.cell? ⟨g, a + 10, none⟩ = some (.slice xo x.args.length xc) ∧ W.cell? ⟨g, a + 11, none⟩ = some (.slice mo x.mat.length mc) ∧ Row B xo 1 (intAt W) x.args ∧ Row B mo 1 (intAt W) x.mat) := Lib.hid fun W hb =>
    ⟨(hb.cell hgw).trans hx.c1, (hb.cell hgw).trans xs6, (hb.cell hgw).trans xs7, hxa.mono fun _ _ _ hg => intAt.below (hb.mono hB) hg, hxm.mono fun _ _ _ hg => intAt.below (hb.mono hB) hg⟩
  have HC := Lib.hid (chanC x.a w hk he hx0 hxN)
  clear hk hok he hx hxa hxm hin xs6 xs7 hn hm
  obtain ⟨⟨v, er⟩, hev⟩ : ∃ q, rchanB E ev x.a = q := ⟨_, rfl⟩
  rw [hev] at HC
  simp only at HC
  go_enter Tryd.func32, Tryd.ntmps32
  go_wp2_with fail
  refine HC.out.mono ?_
  rintro e W1 ⟨rfl, hb1⟩
  have HB1 := Lib.hid hb1
  have HK1 := Lib.hid (HK.out.below hb1)
  clear hb1 x2 HC
  by_cases h0 : er = 0
  · have hd0 : (er != 0) = false := by rw [bne_eq_false_iff_eq]; exact h0
    subst h0
    obtain ⟨k, hk1, hkl⟩ := rchan_ok (E := E) (ev := ev) (a := x.a) (by rw [hev])
    rw [hev] at hk1
    have hk2 : v = (k : Int) + 1 := hk1
    subst hk2
    obtain ⟨c, hc⟩ : ∃ s, E.s.chans[k]? = some s := ⟨_, List.getElem?_eq_getElem hkl⟩
    obtain ⟨s, hs, hs0, hs1⟩ := may_chan HO.out hc
    obtain ⟨ks, hks⟩ : ∃ q : Nat, c.shape = q := ⟨c.shape.toNat, by omega⟩
    have HV := Lib.hid (poll_eq hev hc hs)
    rw [hks, Int.toNat_natCast] at hs
    have hksl : (ks : Int) < E.m.shapes.length := by omega
    have hks0 : (0 : Int) ≤ ks := by omega
    have hkz : (0 : Int) ≤ (k : Int) + 1 - 1 := by omega
    have hki : (k : Int) + 1 - 1 < E.s.chans.length := by omega
    have hke : (k : Int) + 1 - 1 = k := by omega
    obtain ⟨g1, off1, ho1, hg1, hca⟩ := HK1.out.sk.sd.chans.get hc
    obtain ⟨g2, off2, ho2, hg2, hsa⟩ := HK1.out.ck.md.shapes.get hs
    have hcl := HK1.out.sk.sd.chans.1
    have hsl := HK1.out.ck.md.shapes.1
    have c8 := HK1.out.sk.c1
    have c2 := HK1.out.ck.c2
    rw [ho1] at c8
    rw [ho2] at c2
    have q0 := hca.c0
    rw [hks] at q0
    obtain ⟨qo, qc, q1, hq⟩ := hca.queue
    have hql := hq.1
    have HQ : Hid (∀ W, Below W1.heap.size W1 W → W.cell? ⟨g1, off1 + k * 2, none⟩ = some (.int .i64 ks) ∧ W.cell? ⟨g1, off1 + k * 2 + 1, none⟩ = some (.slice qo c.queue.length qc) ∧ Row B qo 1 (msgAt B W) c.queue) := Lib.hid fun W hb =>
      ⟨(hb.cell (by have := HK1.out.leW; show g1 < _; omega)).trans q0, (hb.cell (by have := HK1.out.leW; show g1 < _; omega)).trans q1, hq.mono fun _ _ _ hg => msgAt.below (hb.mono HK1.out.leW) hg⟩
    obtain ⟨fo, fc, r1, hf⟩ := hsa.fields
    have hfl := hf.1
    obtain ⟨x1, x6, x7, -, -⟩ := HCX.out W1 HB1.out
    clear hq hca hsa ho1 ho2 hs hs0 hs1 hks hc hev hk1 hf
    by_cases hfe : s.fields.length = x.args.length
    · have hn1 : ((s.fields.length : Int) != (x.args.length : Int)) = false := by rw [bne_eq_false_iff_eq]; omega
      have HV2 : Hid (rpollB E ev x = if (wantedF ev (x.args.zip x.mat)).2 ≠ 0 then (0, (wantedF ev (x.args.zip x.mat)).2) else (truthI (decide (0 ≤ findF (wantedF ev (x.args.zip x.mat)).1 x.mat (decide (x.n = 1)) c.queue 0)), 0)) := Lib.hid (by rw [HV.out, if_neg (fun h => h hfe)])
      have i1 : (s.fields.length : Int) ≤ x.args.length := by omega
      have i2 : (x.args.length : Int) ≤ s.fields.length := by omega
      go_wp2_with fail
      go_quiet (fail)
      have HB2 : Hid (Below W1.heap.size W1 (W1.drewN nq)) := Lib.hid (bdrew (Below.refl _ _) nq)
      generalize W1.drewN nq = W2 at HB2 ⊢
      clear c8 c2 q0 q1 r1 x1 x6 x7 hn1 i1 i2
      obtain ⟨x1, x6, x7, -, -⟩ := HCX.out W2 (HB1.out.trans (HB2.out.mono HB1.out.size))
      go_wp2_with fail
      have HB3 : Hid (Below W1.heap.size W1 W2.drew) := Lib.hid HB2.out.drew
      have hcx := HCX.out W2.drew (HB1.out.trans (HB3.out.mono HB1.out.size))
      have HWC := Lib.hid (wantedC x.args x.mat xo mo xc mc W2.drew (HK1.out.below HB3.out) HE.out hcx.2.2.2.1 hcx.2.2.2.2 HNM.out.1 HNM.out.2 HIN.out)
      clear hcx
      obtain ⟨⟨wl, we⟩, hwl⟩ : ∃ q, wantedF ev (x.args.zip x.mat) = q := ⟨_, rfl⟩
      rw [hwl] at HWC HV2
      simp only at HV2
      by_cases hw0 : we = 0
      · subst hw0
        have HWC2 : Hid (Calls Tryd.prog 50 #[.pointer (some ⟨pe, 0, none⟩), .slice xo x.args.length xc, .slice mo x.mat.length mc] W2.drew fun e W' => e = .returned (.tuple #[.slice (some ⟨W2.heap.size, 0, none⟩) wl.length x.args.length, .int .i64 0]) ∧ Below W1.heap.size W1 W' ∧ wl.length = x.args.length ∧ Row W'.heap.size (some ⟨W2.heap.size, 0, none⟩) 1 (intAt W') wl) := Lib.hid (HWC.out.mono fun e W' hp => ⟨(hp.yes rfl).1, HB3.out.trans (hp.bel.mono HB3.out.size), (hp.yes rfl).2.1, (hp.yes rfl).2.2.1.up (hp.yes rfl).2.2.2⟩)
        have HV3 : Hid (rpollB E ev x = (truthI (decide (0 ≤ findF wl x.mat (decide (x.n = 1)) c.queue 0)), 0)) := Lib.hid (by rw [HV2.out, if_neg (by simp)])
        clear HWC HV2 HV hwl
        go_region_law (
          go_simp
          go_at_call 50
          refine HWC2.out.mono ?_
          rintro e W4 ⟨rfl, hb4, hl4, hr4⟩
          have HB4 : Hid (Below W1.heap.size W1 W4) := Lib.hid hb4
          have HWR : Hid (Row W4.heap.size (some ⟨W2.heap.size, 0, none⟩) 1 (intAt W4) wl) := Lib.hid hr4
          have HL4 := Lib.hid hl4
          clear hb4 hr4 hl4)
        all_goals (
          have hwl8 : wl.length ≤ 140737488355328 := by rw [HL4.out]; exact l6
          clear x1 x6 x7
          have hbW := HB1.out.trans (HB4.out.mono HB1.out.size)
          obtain ⟨x1, x6, x7, -, -⟩ := HCX.out W4 hbW
          obtain ⟨q0, q1, -⟩ := HQ.out W4 HB4.out
          obtain ⟨b, hbn⟩ : ∃ b, (x.n == 1) = b := ⟨_, rfl⟩
          have HBN : Hid (decide (x.n = 1) = b) := Lib.hid (by rw [← hbn]; rfl)
          go_wp2_with fail
          go_still_tail 13, (by kernel_rfl)
          change wpList _ _ _ _ _ W4.drew
          have HB5 : Hid (Below W1.heap.size W1 W4.drew) := Lib.hid HB4.out.drew
          have HWR5 : Hid (Row W4.drew.heap.size (some ⟨W2.heap.size, 0, none⟩) 1 (intAt W4.drew) wl) := Lib.hid (HWR.out.mono fun _ _ _ hg => intAt.below (Below.refl _ _).drew hg)
          clear hbW x1 x6 x7 q0 q1
          generalize W4.drew = W5 at HB5 HWR5 ⊢
          have hlB : B ≤ W5.heap.size := Nat.le_trans HK1.out.leW HB5.out.size
          have HFC := Lib.hid (findC (B := W5.heap.size) ks c.queue wl x.mat b qo (some ⟨W2.heap.size, 0, none⟩) mo qc x.args.length mc W5 (Nat.le_refl _) ((HQ.out W5 HB5.out).2.2.lift' hlB fun _ _ _ _ h => h.lift hlB) HWR5.out ((HCX.out W5 (HB1.out.trans (HB5.out.mono HB1.out.size))).2.2.2.2.up hlB))
          clear hlB
          rw [HBN.out] at HV3
          generalize findF wl x.mat b c.queue 0 = R at HV3 HFC
          go_wp2_with fail
          refine HFC.out.mono ?_
          rintro e W6 ⟨rfl, hb6⟩
          have HB6 : Hid (Below W1.heap.size W1 W6) := Lib.hid (HB5.out.trans (hb6.mono HB5.out.size))
          clear hb6
          go_wp2_with fail
          refine (truthC _ _).mono ?_
          rintro e W7 ⟨rfl, rfl⟩
          go_wp2_with fail
          go_ret2
          exact ⟨ret2 (by rw [HV3.out]) (by rw [HV3.out]), HB1.out.trans (HB6.out.mono HB1.out.size)⟩)
      · have HWC2 : Hid (Calls Tryd.prog 50 #[.pointer (some ⟨pe, 0, none⟩), .slice xo x.args.length xc, .slice mo x.mat.length mc] W2.drew fun e W' => e = .returned (.tuple #[.slice none 0 0, .int .i64 we]) ∧ Below W1.heap.size W1 W') := Lib.hid (HWC.out.mono fun e W' hp => ⟨hp.no hw0, HB3.out.trans (hp.bel.mono HB3.out.size)⟩)
        have HV3 : Hid (rpollB E ev x = (0, we)) := Lib.hid (by rw [HV2.out, if_pos hw0])
        have hd9 : (we != 0) = true := by rw [bne_iff_ne]; exact hw0
        clear HWC HV2 HV hwl hw0
        go_region_law (
          go_simp
          go_at_call 50
          refine HWC2.out.mono ?_
          rintro e W4 ⟨rfl, hb4⟩
          have HB4 : Hid (Below W1.heap.size W1 W4) := Lib.hid hb4
          clear hb4)
        all_goals (
          clear x1 x6 x7
          go_wp2_with fail
          go_ret2
          exact ⟨ret2 (by rw [HV3.out]) (by rw [HV3.out]), HB1.out.trans (HB4.out.mono HB1.out.size)⟩)
    · have hn1 : ((s.fields.length : Int) != (x.args.length : Int)) = true := by rw [bne_iff_ne]; omega
      have HZ : Hid (rpollB E ev x = (0, 49)) := Lib.hid (by rw [HV.out, if_pos hfe])
      go_wp2_with fail
      go_quiet (fail)
      have HB2 : Hid (Below W1.heap.size W1 (W1.drewN nq)) := Lib.hid (bdrew (Below.refl _ _) nq)
      generalize W1.drewN nq = W2 at HB2 ⊢
      clear c8 c2 q0 q1 r1 x1 x6 x7 hn1
      go_wp2_with fail
      go_ret2
      exact ⟨ret2 (by rw [HZ.out]) (by rw [HZ.out]), HB1.out.trans (HB2.out.mono HB1.out.size)⟩
  · have hd0 : (er != 0) = true := by rw [bne_iff_ne]; exact h0
    have HV : Hid (rpollB E ev x = (0, er)) := Lib.hid (by unfold rpollB; rw [hev]; simp [h0])
    go_wp2_with fail
    go_ret2
    exact ⟨ret2 (by rw [HV.out]) (by rw [HV.out]), HB1.out⟩
end Go.Proofs.YtbeikhgjkbnldaaDoor
/- Which slot a variable has. -/
namespace Go.Proofs.YtbeikhgjkbnldaaDoor
open Go.ChangeShapes Go.WideShapes Go.ChangeAt Go.RowKit
set_option linter.unusedVariables false
set_option linter.unusedSimpArgs false

theorem ret3 {a b c : Int} {r : Int × Int × Int} (h : r = (a, b, c)) : Ending.returned (.tuple #[.int .i64 a, .int .i64 b, .int .i64 c]) = .returned (.tuple #[.int .i64 r.1, .int .i64 r.2.1, .int .i64 r.2.2]) := by rw [h]
theorem slot_pid {E : EnvD} {ev : Int → Int × Int} {x : ExprD} {er : Int} (h1 : x.op = 2) (h2 : (pidB E ev x.v).2 = er) (h3 : er ≠ 0) : rslotB E ev x = (0, 0, er) := by
  unfold rslotB
  rw [if_neg (by simp [h1]), h2, if_pos h3]
theorem slot_short {E : EnvD} {ev : Int → Int × Int} {x : ExprD} {q : Int} (h1 : x.op = 2) (h2 : pidB E ev x.v = (q, 0)) (h3 : ((slotsL E q).length : Int) < reachL x.v) : rslotB E ev x = (0, 0, 42) := by
  unfold rslotB
  rw [if_neg (by simp [h1]), h2, if_neg (by simp), if_pos h3]
theorem slot_dims {E : EnvD} {ev : Int → Int × Int} {x : ExprD} {q : Int} {R : Int × Int} (h1 : x.op = 2) (h2 : pidB E ev x.v = (q, 0)) (h3 : ¬ ((slotsL E q).length : Int) < reachL x.v) (h4 : dimsF ev x.v.dims x.v.slot = R) : rslotB E ev x = if R.2 ≠ 0 then (0, 0, R.2) else (q, R.1, 0) := by
  unfold rslotB
  rw [if_neg (by simp [h1]), h2, if_neg (by simp), if_neg h3, h4]
theorem dims_step {ev : Int → Int × Int} {l : List DimD} {i : Nat} {a : Int} {R : Int × Int} (hi : i < l.length) (h : dimsF ev (l.drop i) a = R) : (if (ev l[i].i).2 ≠ 0 then (0, (ev l[i].i).2) else if (ev l[i].i).1 < 0 ∨ l[i].len ≤ (ev l[i].i).1 then (0, 47) else dimsF ev (l.drop (i + 1)) (a + (ev l[i].i).1 * l[i].stride)) = R := by
  rw [List.drop_eq_getElem_cons hi] at h
  exact h
theorem dims_end {ev : Int → Int × Int} {l : List DimD} {i : Nat} {a : Int} {R : Int × Int} (hi : ¬ i < l.length) (h : dimsF ev (l.drop i) a = R) : R = (a, 0) := by
  rw [List.drop_eq_nil_of_le (by omega)] at h
  exact h.symm
theorem typeOf_get {E : EnvD} {k : Nat} {p : ProcessD} (h : E.s.procs[k]? = some p) : typeOfP E k = p.type := by
  unfold typeOfP
  rw [Int.toNat_natCast, h]; rfl
structure VarF (v : VarD) : Prop where
  s0 : 0 ≤ v.scope
  s1 : v.scope ≤ 2
  t0 : 0 ≤ v.slot
  t1 : v.slot ≤ 128
  n : v.dims.length ≤ 4
  d : ∀ d ∈ v.dims, 1 ≤ d.len ∧ d.len ≤ 128 ∧ 0 ≤ d.stride ∧ d.stride ≤ 128
theorem VarF.of {m : ModelD} {v : VarD} (h : varB m v = true) : VarF v := by
  unfold varB varHeadB at h
  simp only [Bool.and_eq_true, Bool.not_eq_true', decide_eq_false_iff_not] at h
  obtain ⟨⟨h1, h2⟩, -⟩ := h
  refine ⟨by omega, by omega, by omega, by omega, by omega, fun d hd => ?_⟩
  have h3 := List.all_eq_true.1 h2 d hd
  unfold dimB at h3
  simp only [Bool.not_eq_true', decide_eq_false_iff_not] at h3
  omega

set_option maxHeartbeats 4000000 in
set_option maxRecDepth 100000 in
theorem slotC {B pe : Nat} {h : MH} {hs : SH} {ao : Option Addr} {ac : Nat} {E : EnvD} {ev : Int → Int × Int} {N p : Nat} {x : ExprD} (w : World) (hk : Ek B w pe h hs ao ac E) (hok : Ok E) (he : EvC B pe h hs ao ac E ev N) (hx : E.m.exprs[p]? = some x) (hv : x.op = 2 → VarF x.v) (hwho : x.op = 2 → x.v.scope = 2 → 0 ≤ x.v.who ∧ x.v.who < N) (hd : x.op = 2 → ∀ d ∈ x.v.dims, 0 ≤ d.i ∧ d.i < N) :
    Calls Tryd.prog 18 #[.pointer (some ⟨pe, 0, none⟩), .int .i64 p] w fun e w' => e = .returned (.tuple #[.int .i64 (rslotB E ev x).1, .int .i64 (rslotB E ev x).2.1, .int .i64 (rslotB E ev x).2.2]) ∧ Below w.heap.size w w' := by
  have HK := Lib.hid hk
  have HO := Lib.hid hok
  have HE := Lib.hid he
  have hB : B ≤ w.heap.size := hk.leW
  have c6 := hk.ck.c6
  have hel := hk.ck.md.exprs.1
  obtain ⟨g, off, ho, hg, hxa⟩ := hk.ck.md.exprs.get hx
  have hpl : p < E.m.exprs.length := (List.getElem?_eq_some_iff.1 hx).1
  have hpi : (p : Int) < E.m.exprs.length := by omega
  have hp0 : (0 : Int) ≤ p := by omega
  rw [ho] at c6
  have x0 := hxa.c0
  have hgw : g < w.heap.size := by omega
  by_cases h2 : x.op = 2
  · have hq : (x.op != 2) = false := by rw [bne_eq_false_iff_eq]; exact h2
    have HVF := Lib.hid (hv h2)
    have HWH := Lib.hid (hwho h2)
    have HD := Lib.hid (hd h2)
    have HOP := Lib.hid h2
    obtain ⟨dO, dc, v4, hdr⟩ := hxa.v.dims
    have hdl := hdr.1
    have HCX : Hid (∀ W, Below w.heap.size w W → W.cell? ⟨g, off + p * 12 + 5, none⟩ = some (.int .i64 x.v.scope) ∧ W.cell? ⟨g, off + p * 12 + 5 + 1, none⟩ = some (.int .i64 x.v.slot) ∧ W.cell? ⟨g, off + p * 12 + 5 + 2, none⟩ = some (.int .i64 x.v.who) ∧ W.cell? ⟨g, off + p * 12 + 5 + 3, none⟩ = some (.int .i64 x.v.type) ∧ W.cell? ⟨g, off + p * 12 + 5 + 4, none⟩ = some (.slice dO x.v.dims.length dc) ∧ Row B dO 3 (dimAt W) x.v.dims) := Lib.hid fun W hb =>
      ⟨(hb.cell hgw).trans hxa.v.c0, (hb.cell hgw).trans hxa.v.c1, (hb.cell hgw).trans hxa.v.c2, (hb.cell hgw).trans hxa.v.c3, (hb.cell hgw).trans v4, hdr.mono fun _ _ _ hg => dimAt.below (hb.mono hB) hg⟩
    obtain ⟨v0, v1, v2, v3, v4, -⟩ := HCX.out w (Below.refl _ _)
    clear hdr hxa ho hx hk hok he hv hwho hd h2
    go_enter Tryd.func18, Tryd.ntmps18
    go_upto_block 0 with fail
    go_cut [8, 9, 10] from 33 to 85 (fun v8 v9 v10 wx => ∃ q : Int, v8 = .int .i64 q ∧ -1 ≤ q ∧ q < E.s.procs.length ∧ Hid (pidB E ev x.v = (q, 0)) ∧ Hid (Below w.heap.size w wx))
    case first =>
      have hsc : x.v.scope = 0 ∨ x.v.scope = 1 ∨ x.v.scope = 2 := by have := HVF.out.s0; have := HVF.out.s1; omega
      rcases hsc with e | e | e
      · have b1 : (x.v.scope == 1) = false := by simp [e]
        have b2 : (x.v.scope == 2) = false := by simp [e]
        have HP : Hid (pidB E ev x.v = (-1, 0)) := Lib.hid (by unfold pidB; rw [if_neg (by simp [e]), if_neg (by simp [e])])
        clear e
        go_wp2_with fail
        go_meet
        case rel => exact ⟨-1, rfl, by omega, by omega, HP, Lib.hid (Below.refl _ _)⟩
      · have b1 : (x.v.scope == 1) = true := by simp [e]
        have c13 := HK.out.c13
        have hpr := HO.out.pid
        by_cases hn : E.pid < 0
        · have hnd : decide (E.pid < 0) = true := decide_eq_true hn
          have HZ : Hid (rslotB E ev x = (0, 0, 42)) := Lib.hid (slot_pid HOP.out (by unfold pidB; rw [if_pos e, if_pos hn]) (by decide))
          clear e hpr
          go_wp2_with fail
          go_ret3
          exact ⟨ret3 HZ.out, Below.refl _ _⟩
        · have hnd : decide (E.pid < 0) = false := decide_eq_false hn
          have HP : Hid (pidB E ev x.v = (E.pid, 0)) := Lib.hid (by unfold pidB; rw [if_pos e, if_neg hn])
          clear e
          go_wp2_with fail
          go_meet
          case rel => exact ⟨E.pid, rfl, by omega, by omega, HP, Lib.hid (Below.refl _ _)⟩
      · have b1 : (x.v.scope == 1) = false := by simp [e]
        have b2 : (x.v.scope == 2) = true := by simp [e]
        have HEC := Lib.hid (HE.out x.v.who w (HWH.out e).1 (HWH.out e).2 HK.out)
        obtain ⟨⟨who, er⟩, hev⟩ : ∃ q, ev x.v.who = q := ⟨_, rfl⟩
        rw [hev] at HEC
        simp only at HEC
        have HPB : Hid (pidB E ev x.v = if er ≠ 0 then (0, er) else if who < 0 ∨ (E.s.procs.length : Int) ≤ who ∨ typeOfP E who ≠ x.v.type then (0, 52) else (who, 0)) := Lib.hid (by unfold pidB; rw [if_neg (by simp [e]), if_pos e, hev])
        clear e hev
        go_wp2_with fail
        refine HEC.out.mono ?_
        rintro e W1 ⟨rfl, hb1⟩
        have HB1 := Lib.hid hb1
        have HK1 := Lib.hid (HK.out.below hb1)
        clear hb1 v0 v1 v2 v3 v4 c6 x0 HEC
        by_cases h0 : er = 0
        · have hd0 : (er != 0) = false := by rw [bne_eq_false_iff_eq]; exact h0
          subst h0
          have c9 := HK1.out.sk.c2
          have hpl1 := HK1.out.sk.sd.procs.1
          obtain ⟨v0, v1, v2, v3, v4, -⟩ := HCX.out W1 HB1.out
          by_cases h1 : who < 0
          · have hd1 : decide (who < 0) = true := decide_eq_true h1
            have HZ : Hid (rslotB E ev x = (0, 0, 52)) := Lib.hid (slot_pid HOP.out (er := 52) (by rw [HPB.out, if_neg (by simp), if_pos (.inl h1)]) (by decide))
            go_wp2_with fail
            go_quiet (fail)
            go_wp2_with fail
            go_ret3
            exact ⟨ret3 HZ.out, bdrew HB1.out _⟩
          · have hd1 : decide (who < 0) = false := decide_eq_false h1
            by_cases h2 : (E.s.procs.length : Int) ≤ who
            · have hd2 : decide ((E.s.procs.length : Int) ≤ who) = true := decide_eq_true h2
              have HZ : Hid (rslotB E ev x = (0, 0, 52)) := Lib.hid (slot_pid HOP.out (er := 52) (by rw [HPB.out, if_neg (by simp), if_pos (.inr (.inl h2))]) (by decide))
              go_wp2_with fail
              go_quiet (fail)
              go_wp2_with fail
              go_ret3
              exact ⟨ret3 HZ.out, bdrew HB1.out _⟩
            · obtain ⟨k, rfl⟩ : ∃ k : Nat, who = k := ⟨who.toNat, by omega⟩
              have hd2 : decide ((E.s.procs.length : Int) ≤ (k : Int)) = false := decide_eq_false h2
              have hd2n : decide (E.s.procs.length ≤ k) = false := decide_eq_false (by omega)
              have hkl : k < E.s.procs.length := by omega
              have hki : (k : Int) < E.s.procs.length := by omega
              have hkz : (0 : Int) ≤ k := by omega
              obtain ⟨pr, hpr⟩ : ∃ s, E.s.procs[k]? = some s := ⟨_, List.getElem?_eq_getElem hkl⟩
              obtain ⟨g1, off1, ho1, hg1, hpa⟩ := HK1.out.sk.sd.procs.get hpr
              have q0 := hpa.c0
              rw [ho1] at c9
              have HT := Lib.hid (typeOf_get hpr)
              clear hpa ho1 hpr
              by_cases ht : pr.type = x.v.type
              · have hdt : (pr.type != x.v.type) = false := by rw [bne_eq_false_iff_eq]; exact ht
                have HP : Hid (pidB E ev x.v = ((k : Int), 0)) := Lib.hid (by rw [HPB.out, if_neg (by simp), if_neg (by rw [HT.out]; omega)])
                clear ht
                go_wp2_with fail
                go_quiet (fail)
                have HB2 : Hid (Below w.heap.size w (W1.drewN nq)) := Lib.hid (bdrew HB1.out nq)
                generalize W1.drewN nq = W2 at HB2 ⊢
                clear c9 v0 v1 v2 v3 v4 q0
                go_wp2_with fail
                go_meet
                case rel => exact ⟨(k : Int), rfl, by omega, by omega, HP, HB2⟩
              · have hdt : (pr.type != x.v.type) = true := by rw [bne_iff_ne]; exact ht
                have HZ : Hid (rslotB E ev x = (0, 0, 52)) := Lib.hid (slot_pid HOP.out (er := 52) (by rw [HPB.out, if_neg (by simp), if_pos (.inr (.inr (by rw [HT.out]; exact ht)))]) (by decide))
                clear ht
                go_wp2_with fail
                go_quiet (fail)
                go_wp2_with fail
                go_ret3
                exact ⟨ret3 HZ.out, bdrew HB1.out _⟩
        · have hd0 : (er != 0) = true := by rw [bne_iff_ne]; exact h0
          have HZ : Hid (rslotB E ev x = (0, 0, er)) := Lib.hid (slot_pid HOP.out (by rw [HPB.out, if_pos h0]) h0)
          go_wp2_with fail
          go_ret3
          exact ⟨ret3 HZ.out, HB1.out⟩
    case rest =>
      obtain ⟨q, rfl, hq0, hq1, HP, HB⟩ := hcut
      clear v0 v1 v2 v3 v4 c6 x0
      obtain ⟨v0, v1, v2, v3, v4, hdw⟩ := HCX.out wc HB.out
      have HRC := Lib.hid (reachC x.v dO dc B wc hdw (Nat.le_trans hB HB.out.size))
      clear hdw
      go_wp2_with fail
      refine HRC.out.mono ?_
      rintro e W1 ⟨rfl, hb1⟩
      have HB1 : Hid (Below w.heap.size w W1) := Lib.hid (HB.out.trans (hb1.mono HB.out.size))
      clear hb1 v0 v1 v2 v3 v4 HRC
      go_wp2_with fail
      refine (slotsC q W1 (HK.out.below HB1.out) hq1).mono ?_
      rintro e W2 ⟨so, sc, hsr, rfl, rfl⟩
      have hsl := hsr.1
      clear hsr
      by_cases hsh : ((slotsL E q).length : Int) < reachL x.v
      · have hds : decide (((slotsL E q).length : Int) < reachL x.v) = true := decide_eq_true hsh
        have HZ := Lib.hid (slot_short HOP.out HP.out hsh)
        go_wp2_with fail
        go_ret3
        exact ⟨ret3 HZ.out, HB1.out⟩
      · have hds : decide (((slotsL E q).length : Int) < reachL x.v) = false := decide_eq_false hsh
        obtain ⟨R, hR⟩ : ∃ R, dimsF ev x.v.dims x.v.slot = R := ⟨_, rfl⟩
        have HV := Lib.hid (slot_dims HOP.out HP.out hsh hR)
        have HR0 : Hid (dimsF ev (x.v.dims.drop 0) x.v.slot = R) := Lib.hid hR
        have hsl0 := HVF.out.t0
        have hsl1 := HVF.out.t1
        obtain ⟨v0, v1, v2, v3, v4, -⟩ := HCX.out W1 HB1.out
        clear hR hsh
        go_wp2_with fail
        clear v0 v1 v2 v3 v4 hds
        go_loopw [11, 107] (fun av iv W => ∃ (i : Nat) (a : Int), av = .int .i64 a ∧ iv = .int .i64 i ∧ i ≤ x.v.dims.length ∧ 0 ≤ a ∧ a ≤ 128 + i * 16384 ∧ Hid (dimsF ev (x.v.dims.drop i) a = R) ∧ Hid (Below w.heap.size w W)) (fun _ iv _ => x.v.dims.length - (intOf iv).toNat)
        case atStart => exact ⟨0, x.v.slot, rfl, rfl, by omega, hsl0, by omega, HR0, HB1⟩
        case round =>
          clear HB1 HR0 HB
          obtain ⟨i, a, rfl, rfl, hi, ha0, ha1, HF, HB⟩ := hrel
          have hi0 : (0 : Int) ≤ i := by omega
          have hn4 := HVF.out.n
          by_cases hlt : i < x.v.dims.length
          · have hlti : (i : Int) < x.v.dims.length := by omega
            have HS := Lib.hid (dims_step hlt HF.out)
            obtain ⟨g1, off1, ho1, hg1, e0, e1, e2⟩ := ((HCX.out wr HB.out).2.2.2.2.2).cell hlt
            subst ho1
            obtain ⟨⟨I, L, S⟩, hdd⟩ : ∃ d, x.v.dims[i] = d := ⟨_, rfl⟩
            have hmem : ⟨I, L, S⟩ ∈ x.v.dims := hdd ▸ List.getElem_mem hlt
            have hdf := HVF.out.d _ hmem
            have hdi := HD.out _ hmem
            rw [hdd] at e0 e1 e2 HS
            simp only at e0 e1 e2 hdf hdi HS
            have HX := Lib.hid (Bx.new wr #[.int .i64 I, .int .i64 L, .int .i64 S] 66)
            have HEC := Lib.hid (HE.out I (wr.alloc (Obj.cells #[.int .i64 I, .int .i64 L, .int .i64 S] 66)) hdi.1 hdi.2 (HK.out.below (HB.out.trans (HX.out.bel.mono HB.out.size))))
            obtain ⟨⟨v, er⟩, hev⟩ : ∃ q, ev I = q := ⟨_, rfl⟩
            rw [hev] at HEC HS
            simp only at HEC HS
            clear hmem hdd hev
            go_wp2_with fail
            generalize wr.alloc (Obj.cells #[.int .i64 I, .int .i64 L, .int .i64 S] 66) = W3 at HX HEC ⊢
            have y0 : W3.cell? ⟨wr.heap.size, 0, none⟩ = some (.int .i64 I) := HX.out.cell rfl
            clear e0 e1 e2
            go_wp2_with fail
            refine HEC.out.mono ?_
            rintro e W4 ⟨rfl, hb4⟩
            have HX4 := Lib.hid (HX.out.below hb4)
            have HB4 : Hid (Below w.heap.size w W4) := Lib.hid (HB.out.trans (HX4.out.bel.mono HB.out.size))
            have y1 : W4.cell? ⟨wr.heap.size, 1, none⟩ = some (.int .i64 L) := HX4.out.cell rfl
            have y2 : W4.cell? ⟨wr.heap.size, 2, none⟩ = some (.int .i64 S) := HX4.out.cell rfl
            clear hb4 y0 HX HEC
            by_cases h0 : er = 0
            · have hd0 : (er != 0) = false := by rw [bne_eq_false_iff_eq]; exact h0
              subst h0
              by_cases h1 : v < 0
              · have hd1 : decide (v < 0) = true := decide_eq_true h1
                have HZ : Hid (rslotB E ev x = (0, 0, 47)) := Lib.hid (by have hr := HS.out; rw [if_neg (by simp), if_pos (.inl h1)] at hr; rw [HV.out, ← hr]; rfl)
                go_wp2_with fail
                go_ret3
                exact ⟨ret3 HZ.out, HB4.out⟩
              · have hd1 : decide (v < 0) = false := decide_eq_false h1
                by_cases h2 : L ≤ v
                · have hd2 : decide (L ≤ v) = true := decide_eq_true h2
                  have HZ : Hid (rslotB E ev x = (0, 0, 47)) := Lib.hid (by have hr := HS.out; rw [if_neg (by simp), if_pos (.inr h2)] at hr; rw [HV.out, ← hr]; rfl)
                  go_wp2_with fail
                  go_ret3
                  exact ⟨ret3 HZ.out, HB4.out⟩
                · have hd2 : decide (L ≤ v) = false := decide_eq_false h2
                  have hm0 : 0 ≤ v * S := Int.mul_nonneg (by omega) (by omega)
                  have hm1 : v * S ≤ 16384 := Int.le_trans (Int.mul_le_mul (by omega : v ≤ 128) (by omega : S ≤ 128) (by omega) (by decide)) (by decide)
                  have HG : Hid (dimsF ev (x.v.dims.drop (i + 1)) (a + v * S) = R) := Lib.hid (by have := HS.out; rw [if_neg (by simp), if_neg (by omega)] at this; exact this)
                  go_wp2_with fail
                  go_roundw
                  case rel => exact ⟨i + 1, a + v * S, by go_num, by go_num, by omega, by omega, by omega, HG, HB4⟩
                  case measure => simp [intOf]; omega
            · have hd0 : (er != 0) = true := by rw [bne_iff_ne]; exact h0
              have HZ : Hid (rslotB E ev x = (0, 0, er)) := Lib.hid (by have hr := HS.out; rw [if_pos h0] at hr; rw [HV.out, ← hr, if_pos (by exact h0)])
              go_wp2_with fail
              go_ret3
              exact ⟨ret3 HZ.out, HB4.out⟩
          · have hlti : ¬ (i : Int) < x.v.dims.length := by omega
            have HE2 := Lib.hid (dims_end hlt HF.out)
            have HZ : Hid (rslotB E ev x = (q, a, 0)) := Lib.hid (by rw [HV.out, HE2.out]; rfl)
            go_wp2_with fail
            go_ret3
            exact ⟨ret3 HZ.out, HB.out⟩
  · have hq : (x.op != 2) = true := by rw [bne_iff_ne]; exact h2
    have HZ : Hid (rslotB E ev x = (0, 0, 42)) := Lib.hid (by unfold rslotB; rw [if_pos h2])
    go_enter Tryd.func18, Tryd.ntmps18
    go_wp2_with fail
    go_ret3
    exact ⟨ret3 HZ.out, Below.refl _ _⟩
end Go.Proofs.YtbeikhgjkbnldaaDoor
