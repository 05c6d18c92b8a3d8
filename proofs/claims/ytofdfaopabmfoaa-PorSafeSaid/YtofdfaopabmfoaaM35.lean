/- The document's answer: which expressions touch their own alone; which places are marked. -/
import Derived.Test.YtofdfaopabmfoaaM04
import Derived.Test.YtofdfaopabmfoaaM34
import Derived.Test.YtofdfaopabmfoaaM24
import Derived.Test.YtofdfaopabmfoaaM28
import Derived.Deep.CutRange
namespace Go.Proofs.Ytofdfaopabmfoaa
open Go.ChangeShapes Go.WideShapes Go.ChangeAt Go.RowKit
set_option linter.unusedVariables false
set_option linter.unusedSimpArgs false

theorem ownX_eq (f : Int → Bool) (x : ExprD) : ownX f x = if x.op = 1 ∨ x.op = 31 then true else if 24 < x.op ∨ (x.op = 2 ∧ x.v.scope ≠ 1) then false else (partsL x).all f := rfl
set_option maxRecDepth 100000 in
set_option maxHeartbeats 8000000 in
theorem dOwnStepH {h : MH} {m : ModelD} (hx : EX m) (k : Nat) (x : ExprD) (hk : m.exprs[k]? = some x)
    (IH : ∀ (q : Nat), q < k → ∀ (W : World), MD W.heap.size W h m → Calls Try.prog 33 #[mV h m, .int .i64 q] W fun e w' => e = .returned (.bool (ownB m q)) ∧ Below W.heap.size W w')
    (w : World) (hd : MD w.heap.size w h m) : Calls Try.prog 33 #[mV h m, .int .i64 k] w fun e w' => e = .returned (.bool (ownB m k)) ∧ Below w.heap.size w w' := by
  obtain ⟨CS, hCS⟩ : ∃ c, c = mCells h m := ⟨_, rfl⟩
  have hi := (List.getElem?_eq_some_iff.1 hk).1
  have hki : (k : Int) < m.exprs.length := by omega
  have hk0 : (0 : Int) ≤ k := by omega
  have l6 := hd.exprs.1
  obtain ⟨g, off, ho, hg, he⟩ := hd.exprs.get hk
  have HX0 := Lib.hid (Mx.new hd hCS)
  have c6 := HX0.out.c6
  rw [ho] at c6
  obtain ⟨vo, vc, ao, ac, mo, mc, hxc0, hr1, hr2, hr3⟩ := he.xc
  have hxc := hxc0.below hg (ball (.cells CS 29))
  have HR1 := Lib.hid hr1
  have HR2 := Lib.hid hr2
  have e0 := hxc.c0
  have e1 := hxc.c1
  have e2 := hxc.c2
  have e3 := hxc.c3
  have e4 := hxc.c4
  have e5 := hxc.v0
  have e6 := hxc.v1
  have e7 := hxc.v2
  have e8 := hxc.v3
  have e9 := hxc.v4
  have e10 := hxc.c6
  have e11 := hxc.c7
  have HX := Lib.hid (Ex.new (XS := xCells x vo ao mo vc ac mc) hd hCS)
  have HV : Hid (ownB m k = ownX (ownB m) x) := Lib.hid (ownB_is hx hk0 (by rw [Int.toNat_natCast]; exact hk))
  have HVE := Lib.hid (ownX_eq (ownB m) x)
  have HOP := Lib.hid (op_of hx hk)
  have HSM := Lib.hid (parts_small hx hk)
  have HPB : Hid (∀ q ∈ partsL x, 0 ≤ q ∧ q < (k : Int)) := Lib.hid (hx.ok _ _ hk).2
  unfold xCells at HX
  unfold mV at IH ⊢
  rw [← hCS] at IH ⊢
  have HIH0 := Lib.hid IH
  clear hd hCS hk hi ho he hxc hxc0 hr1 hr2 hr3 HX0 hx IH
  go_enter Try.func33, Try.ntmps33
  go_upto_region 2 with fail
  generalize (w.alloc (.cells CS 29)).alloc (.cells #[.int .i64 x.op, .int .i64 x.n, .int .i64 x.a, .int .i64 x.b, .int .i64 x.c, .int .i64 x.v.scope, .int .i64 x.v.slot, .int .i64 x.v.who, .int .i64 x.v.type, .slice vo x.v.dims.length vc, .slice ao x.args.length ac, .slice mo x.mat.length mc] 57) = W1 at HX ⊢
  clear e0 e1 e2 e3 e4 e5 e6 e7 e8 e9 e10 e11 c6 hg
  have f0 : W1.cell? ⟨w.heap.size + 1, 0, none⟩ = some (.int .i64 x.op) := HX.out.xb.cell rfl
  have f5 : W1.cell? ⟨w.heap.size + 1, 5, none⟩ = some (.int .i64 x.v.scope) := HX.out.xb.cell rfl
  have HV3 : Hid ((¬ (x.op = 1 ∨ x.op = 31)) → ¬ (24 < x.op ∨ (x.op = 2 ∧ x.v.scope ≠ 1)) → ownB m k = (partsL x).all (ownB m)) := Lib.hid fun h1 h2 => by rw [HV.out, HVE.out, if_neg h1, if_neg h2]
  have HV2 : Hid ((¬ (x.op = 1 ∨ x.op = 31)) → (24 < x.op ∨ (x.op = 2 ∧ x.v.scope ≠ 1)) → ownB m k = false) := Lib.hid fun h1 h2 => by rw [HV.out, HVE.out, if_neg h1, if_pos h2]
  have HV1 : Hid ((x.op = 1 ∨ x.op = 31) → ownB m k = true) := Lib.hid fun h1 => by rw [HV.out, HVE.out, if_pos h1]
  clear HV HVE
  have HHE := Lib.hid (fun W (hb : Below w.heap.size w W) => heldH (B := w.heap.size) x vo ao mo vc ac mc W HOP.out hb.size (HR1.out.mono fun _ _ _ hg => dimAt.below hb hg) (HR2.out.mono fun _ _ _ hg => intAt.below hb hg) (by have := HSM.out; omega))
  have lsm := HSM.out
  obtain ⟨op, hop⟩ : ∃ op, x.op = op := ⟨_, rfl⟩
  obtain ⟨sc, hsc⟩ : ∃ sc, x.v.scope = sc := ⟨_, rfl⟩
  rw [hop] at f0 HV1 HV2 HV3
  rw [hsc] at f5 HV2 HV3
  by_cases h1 : op = 1
  · have HZ := Lib.hid (HV1.out (.inl h1))
    subst h1
    go_wp2_with fail
    go_ret
    exact ⟨retB HZ.out.symm, HX.out.xb.bel⟩
  have b1 : (op == 1) = false := by rw [beq_eq_false_iff_ne]; exact h1
  by_cases h31 : op = 31
  · have HZ := Lib.hid (HV1.out (.inr h31))
    subst h31
    go_wp2_with fail
    go_ret
    exact ⟨retB HZ.out.symm, HX.out.xb.bel⟩
  have b31 : (op == 31) = false := by rw [beq_eq_false_iff_ne]; exact h31
  by_cases h24 : 24 < op
  · have HZ := Lib.hid (HV2.out (by omega) (.inl h24))
    go_wp2_with fail
    go_ret
    exact ⟨retB HZ.out.symm, HX.out.xb.bel⟩
  have h24n : ¬ 24 < op := h24
  by_cases hbad : op = 2 ∧ sc ≠ 1
  · have HZ := Lib.hid (HV2.out (by omega) (.inr hbad))
    obtain ⟨rfl, hs1⟩ := hbad
    have bs : (sc != 1) = true := by rw [bne_iff_ne]; exact hs1
    clear hs1 h24 h31 h1
    go_wp2_with fail
    go_ret
    exact ⟨retB HZ.out.symm, HX.out.xb.bel⟩
  have HV4 := Lib.hid (HV3.out (by omega) (by omega))
  have hcase : op ≠ 2 ∨ (op = 2 ∧ sc = 1) := by omega
  clear hbad HV1 HV2 HV3 h24 h1 h31
  rcases hcase with h2 | ⟨rfl, rfl⟩
  · have b2 : (op == 2) = false := by rw [beq_eq_false_iff_ne]; exact h2
    clear h2
    go_upto_region 6 with fail
    clear b1 b31 h24n f0 f5 hop hsc b2
    go_wp2_with (refine wpList_load_row rfl _ _ rfl _ rfl _ #[.int .i64 x.op, .int .i64 x.n, .int .i64 x.a, .int .i64 x.b, .int .i64 x.c, .int .i64 x.v.scope, .int .i64 x.v.slot, .int .i64 x.v.who, .int .i64 x.v.type, .slice vo x.v.dims.length vc, .slice ao x.args.length ac, .slice mo x.mat.length mc] _ _ HX.out.xb.box Try.underlying57 rfl (by kernel_rfl) ?_)
    refine (HHE.out _ HX.out.xb.bel).mono ?_
    rintro e W8 ⟨lo, lc, rfl, ⟨hrl, -⟩, hb8⟩
    have HX8 := Lib.hid (HX.out.below hb8)
    have HRL := Lib.hid hrl
    obtain ⟨L, hL⟩ : ∃ L, partsL x = L := ⟨_, rfl⟩
    rw [hL] at HRL HV4 HPB lsm
    rw [hL]
    have HB8 : Hid (Below W8.heap.size W8 W8) := Lib.hid (Below.refl _ _)
    clear hrl hb8 hL HHE HSM
    go_wp2_with fail
    go_loopw [7] (fun jv wr => ∃ j : Nat, jv = .int .i64 j ∧ j ≤ L.length ∧ Hid (∀ i (hi : i < L.length), i < j → ownB m L[i] = true) ∧ Hid (Below W8.heap.size W8 wr)) (fun jv _ => L.length - (intOf jv).toNat)
    case atStart => exact ⟨0, rfl, by omega, Lib.hid fun j _ h => by omega, HB8⟩
    case round =>
      clear HB8
      obtain ⟨j, rfl, hj, HJ, HB⟩ := hrel
      have hj0 : (0 : Int) ≤ j := by omega
      have hj00 : 0 ≤ j := by omega
      by_cases hlt : j < L.length
      · have hlti : (j : Int) < L.length := by omega
        obtain ⟨gl, offl, hlo, hgl, el⟩ := HRL.out.cell hlt
        have hpb := HPB.out _ (List.getElem_mem hlt)
        obtain ⟨q, hq⟩ : ∃ q : Nat, L[j] = q := ⟨L[j].toNat, by omega⟩
        have HX := Lib.hid (HX8.out.below HB.out)
        have HCL : Hid (∀ W, Below wr.heap.size wr W → W.cell? ⟨gl, offl + j, none⟩ = some (.int .i64 q)) := Lib.hid fun W hb => by
          have h1 := ((HB.out.trans (hb.mono HB.out.size)).cell (p := ⟨gl, offl + j * 1, none⟩) hgl).trans el
          rw [Nat.mul_one, hq] at h1
          exact h1
        have HIH := Lib.hid (HIH0.out q (by rw [hq] at hpb; omega))
        have HBAD : Hid (ownB m q = false → ownB m k = false) := Lib.hid fun h => by rw [HV4.out, all_bad hlt (by rw [hq]; exact h)]
        have HGO : Hid (ownB m q = true → ∀ i (hi : i < L.length), i < j + 1 → ownB m L[i] = true) := Lib.hid fun h i hi hij => by
          by_cases e : i = j
          · subst e; rw [hq]; exact h
          · exact HJ.out i hi (by omega)
        have HLO := Lib.hid hlo
        have hlo2 : ∀ n : Nat, Value.slice lo n lc = Value.slice (some ⟨gl, offl, none⟩) n lc := fun n => by rw [HLO.out]
        rw [hlo2]
        have HXMX := Lib.hid HX.out.mx
        clear hlo hlo2 el hpb hq hgl HJ
        have m0 := HXMX.out.c0
        have m1 := HXMX.out.c1
        have m2 := HXMX.out.c2
        have m3 := HXMX.out.c3
        have m4 := HXMX.out.c4
        have m5 := HXMX.out.c5
        have m6 := HXMX.out.c6
        have cl := HCL.out wr (Below.refl _ _)
        go_wp2_with fail
        go_still_tail 5, (by kernel_rfl)
        change wpList _ _ _ _ _ wr.drew
        have HXD := Lib.hid (HX.out.below (Below.refl _ _).drew)
        have HBD : Hid (Below W8.heap.size W8 wr.drew) := Lib.hid HB.out.drew
        generalize wr.drew = W9 at HXD HBD ⊢
        have h9 := HIH.out W9 HXD.out.mx.here
        rw [HXD.out.mx.eq] at h9
        unfold mCells at h9
        have HIH2 := Lib.hid h9
        clear m0 m1 m2 m3 m4 m5 m6 cl HIH HX h9 HCL HXMX
        go_wp2_with fail
        refine HIH2.out.mono ?_
        rintro e W10 ⟨rfl, hb10⟩
        have HB10 : Hid (Below W8.heap.size W8 W10) := Lib.hid (HBD.out.trans (hb10.mono HBD.out.size))
        clear hb10 HIH2 HXD HBD
        obtain ⟨t, ht⟩ : ∃ t, ownB m q = t := ⟨_, rfl⟩
        rw [ht] at HBAD HGO
        rw [ht]
        clear ht
        cases t
        · have HZ := Lib.hid (HBAD.out rfl)
          go_wp2_with fail
          go_ret
          exact ⟨retB HZ.out.symm, (HX8.out.below HB10.out).xb.bel⟩
        · have HZ := Lib.hid (HGO.out rfl)
          go_wp2_with fail
          go_roundw
          case rel => exact ⟨j + 1, by go_num, by omega, HZ, HB10⟩
          case measure => simp [intOf]; omega
      · have hlti : ¬ (j : Int) < L.length := by omega
        have HZ : Hid (ownB m k = true) := Lib.hid (by rw [HV4.out]; exact all_of fun i hi => HJ.out i hi (by omega))
        go_wp2_with fail
        go_ret
        exact ⟨retB HZ.out.symm, (HX8.out.below HB.out).xb.bel⟩
  · go_upto_region 6 with fail
    clear b1 b31 h24n f0 f5 hop hsc
    go_wp2_with (refine wpList_load_row rfl _ _ rfl _ rfl _ #[.int .i64 x.op, .int .i64 x.n, .int .i64 x.a, .int .i64 x.b, .int .i64 x.c, .int .i64 x.v.scope, .int .i64 x.v.slot, .int .i64 x.v.who, .int .i64 x.v.type, .slice vo x.v.dims.length vc, .slice ao x.args.length ac, .slice mo x.mat.length mc] _ _ HX.out.xb.box Try.underlying57 rfl (by kernel_rfl) ?_)
    refine (HHE.out _ HX.out.xb.bel).mono ?_
    rintro e W8 ⟨lo, lc, rfl, ⟨hrl, -⟩, hb8⟩
    have HX8 := Lib.hid (HX.out.below hb8)
    have HRL := Lib.hid hrl
    obtain ⟨L, hL⟩ : ∃ L, partsL x = L := ⟨_, rfl⟩
    rw [hL] at HRL HV4 HPB lsm
    rw [hL]
    have HB8 : Hid (Below W8.heap.size W8 W8) := Lib.hid (Below.refl _ _)
    clear hrl hb8 hL HHE HSM
    go_wp2_with fail
    go_loopw [7] (fun jv wr => ∃ j : Nat, jv = .int .i64 j ∧ j ≤ L.length ∧ Hid (∀ i (hi : i < L.length), i < j → ownB m L[i] = true) ∧ Hid (Below W8.heap.size W8 wr)) (fun jv _ => L.length - (intOf jv).toNat)
    case atStart => exact ⟨0, rfl, by omega, Lib.hid fun j _ h => by omega, HB8⟩
    case round =>
      clear HB8
      obtain ⟨j, rfl, hj, HJ, HB⟩ := hrel
      have hj0 : (0 : Int) ≤ j := by omega
      have hj00 : 0 ≤ j := by omega
      by_cases hlt : j < L.length
      · have hlti : (j : Int) < L.length := by omega
        obtain ⟨gl, offl, hlo, hgl, el⟩ := HRL.out.cell hlt
        have hpb := HPB.out _ (List.getElem_mem hlt)
        obtain ⟨q, hq⟩ : ∃ q : Nat, L[j] = q := ⟨L[j].toNat, by omega⟩
        have HX := Lib.hid (HX8.out.below HB.out)
        have HCL : Hid (∀ W, Below wr.heap.size wr W → W.cell? ⟨gl, offl + j, none⟩ = some (.int .i64 q)) := Lib.hid fun W hb => by
          have h1 := ((HB.out.trans (hb.mono HB.out.size)).cell (p := ⟨gl, offl + j * 1, none⟩) hgl).trans el
          rw [Nat.mul_one, hq] at h1
          exact h1
        have HIH := Lib.hid (HIH0.out q (by rw [hq] at hpb; omega))
        have HBAD : Hid (ownB m q = false → ownB m k = false) := Lib.hid fun h => by rw [HV4.out, all_bad hlt (by rw [hq]; exact h)]
        have HGO : Hid (ownB m q = true → ∀ i (hi : i < L.length), i < j + 1 → ownB m L[i] = true) := Lib.hid fun h i hi hij => by
          by_cases e : i = j
          · subst e; rw [hq]; exact h
          · exact HJ.out i hi (by omega)
        have HLO := Lib.hid hlo
        have hlo2 : ∀ n : Nat, Value.slice lo n lc = Value.slice (some ⟨gl, offl, none⟩) n lc := fun n => by rw [HLO.out]
        rw [hlo2]
        have HXMX := Lib.hid HX.out.mx
        clear hlo hlo2 el hpb hq hgl HJ
        have m0 := HXMX.out.c0
        have m1 := HXMX.out.c1
        have m2 := HXMX.out.c2
        have m3 := HXMX.out.c3
        have m4 := HXMX.out.c4
        have m5 := HXMX.out.c5
        have m6 := HXMX.out.c6
        have cl := HCL.out wr (Below.refl _ _)
        go_wp2_with fail
        go_still_tail 5, (by kernel_rfl)
        change wpList _ _ _ _ _ wr.drew
        have HXD := Lib.hid (HX.out.below (Below.refl _ _).drew)
        have HBD : Hid (Below W8.heap.size W8 wr.drew) := Lib.hid HB.out.drew
        generalize wr.drew = W9 at HXD HBD ⊢
        have h9 := HIH.out W9 HXD.out.mx.here
        rw [HXD.out.mx.eq] at h9
        unfold mCells at h9
        have HIH2 := Lib.hid h9
        clear m0 m1 m2 m3 m4 m5 m6 cl HIH HX h9 HCL HXMX
        go_wp2_with fail
        refine HIH2.out.mono ?_
        rintro e W10 ⟨rfl, hb10⟩
        have HB10 : Hid (Below W8.heap.size W8 W10) := Lib.hid (HBD.out.trans (hb10.mono HBD.out.size))
        clear hb10 HIH2 HXD HBD
        obtain ⟨t, ht⟩ : ∃ t, ownB m q = t := ⟨_, rfl⟩
        rw [ht] at HBAD HGO
        rw [ht]
        clear ht
        cases t
        · have HZ := Lib.hid (HBAD.out rfl)
          go_wp2_with fail
          go_ret
          exact ⟨retB HZ.out.symm, (HX8.out.below HB10.out).xb.bel⟩
        · have HZ := Lib.hid (HGO.out rfl)
          go_wp2_with fail
          go_roundw
          case rel => exact ⟨j + 1, by go_num, by omega, HZ, HB10⟩
          case measure => simp [intOf]; omega
      · have hlti : ¬ (j : Int) < L.length := by omega
        have HZ : Hid (ownB m k = true) := Lib.hid (by rw [HV4.out]; exact all_of fun i hi => HJ.out i hi (by omega))
        go_wp2_with fail
        go_ret
        exact ⟨retB HZ.out.symm, (HX8.out.below HB.out).xb.bel⟩
/-- Every expression. -/
theorem dOwnH {h : MH} {m : ModelD} (hx : EX m) : ∀ (f k : Nat), k < f → k < m.exprs.length → ∀ (W : World), MD W.heap.size W h m →
    Calls Try.prog 33 #[mV h m, .int .i64 k] W fun e w' => e = .returned (.bool (ownB m k)) ∧ Below W.heap.size W w'
  | 0, k, h0, _, _, _ => by omega
  | f + 1, k, hk, hl, W, hd => dOwnStepH hx k m.exprs[k] (List.getElem?_eq_getElem hl) (fun q hq V hV => dOwnH hx f q (by omega) (by omega) V hV) W hd
theorem dOwnAt {h : MH} {m : ModelD} (hx : EX m) (q : Int) (h0 : 0 ≤ q) (h1 : q < m.exprs.length) (W : World) (hd : MD W.heap.size W h m) :
    Calls Try.prog 33 #[mV h m, .int .i64 q] W fun e w' => e = .returned (.bool (ownB m q)) ∧ Below W.heap.size W w' := by
  obtain ⟨n, rfl⟩ : ∃ n : Nat, q = n := ⟨q.toNat, by omega⟩
  exact dOwnH hx (n + 1) n (by omega) (by omega) W hd
/-- Which places are marked. -/
theorem dMarkedH (l : LocD) (oo eo : Option Addr) (oc ec : Nat) (w : World) : Calls Try.prog 17 #[.agg (lCells l oo eo oc ec)] w fun e w' => e = .returned (.bool (markB l)) ∧ Below w.heap.size w w' := by
  have HV : Hid (markB l = (l.atomic || l.dstep || l.accept || l.progress)) := Lib.hid rfl
  have HX : Hid (Below w.heap.size w (w.alloc (.cells (lCells l oo eo oc ec) 67))) := Lib.hid (ball _)
  unfold lCells at HX ⊢
  generalize l.atomic = b2 at HX HV ⊢
  generalize l.dstep = b3 at HX HV ⊢
  generalize l.accept = b5 at HX HV ⊢
  generalize l.progress = b6 at HX HV ⊢
  go_enter Try.func17, Try.ntmps17
  cases b2
  rotate_left
  · go_wp2_with fail
    go_ret
    exact ⟨retB HV.out.symm, HX.out⟩
  cases b3
  rotate_left
  · go_wp2_with fail
    go_ret
    exact ⟨retB HV.out.symm, HX.out⟩
  cases b5
  rotate_left
  · go_wp2_with fail
    go_ret
    exact ⟨retB HV.out.symm, HX.out⟩
  cases b6 <;> (go_wp2_with fail; go_ret; exact ⟨retB HV.out.symm, HX.out⟩)
end Go.Proofs.Ytofdfaopabmfoaa
/- The document's statement: which may stand, by itself. -/
namespace Go.Proofs.Ytofdfaopabmfoaa
open Go.ChangeShapes Go.WideShapes Go.ChangeAt Go.RowKit
set_option linter.unusedVariables false
set_option linter.unusedSimpArgs false

def plainB (s : StmtD) : Bool := decide (s.args.length = 0) && decide (s.mat.length = 0)
def noText (s : StmtD) : Bool := decide (s.text.size = 0)
def dstmtB (m : ModelD) (s : StmtD) : Bool :=
  if s.kind = 1 ∨ s.kind = 3 then isExprB m s.a && (s.b == -1) && plainB s && (s.n == 0) && noText s
  else if s.kind = 2 then settableB m s.a && isExprB m s.b && plainB s && (s.n == 0) && noText s
  else if s.kind = 4 then (s.a == -1) && (s.b == -1) && s.args.all (isExprB m) && decide (s.mat.length = 0) && (s.n == 0) && decide (s.text.size ≤ 256)
  else if s.kind = 5 then isExprB m s.a && (s.b == -1) && s.args.all (isExprB m) && decide (1 ≤ s.args.length) && decide (s.args.length ≤ 8) && decide (s.mat.length = 0) && ((s.n == 0) || (s.n == 1)) && noText s
  else if s.kind = 6 then isExprB m s.a && (s.b == -1) && dmatB m m.exprs.length s.args s.mat && decide (0 ≤ s.n) && decide (s.n ≤ 3) && noText s && (s.args.zip s.mat).all (recvB m)
  else if s.kind = 7 ∨ s.kind = 8 then (s.a == -1) && (s.b == -1) && plainB s && (s.n == 0) && noText s
  else if s.kind = 9 then settableB m s.a && (s.b == -1) && plainB s && decide (0 ≤ s.n) && decide (s.n < m.shapes.length) && noText s
  else false
theorem below_exprs (m : ModelD) (l : List Int) : belowB m.exprs.length l = l.all (isExprB m) := rfl
theorem mat_rec {m : ModelD} (args mat : List Int) : (dmatB m m.exprs.length args mat && (args.zip mat).all (recvB m)) = (fieldsB m args mat && args.all (isExprB m) && (args.zip mat).all (recvB m)) := by
  rw [mat_is (Int.le_refl _), below_exprs]
theorem stmt_is (m : ModelD) (s : StmtD) : dstmtB m s = stmtB m s := by
  obtain ⟨k, a, b, n, args, mat, text⟩ := s
  have e3 := mat_rec (m := m) args mat
  have e4 : args.length = 0 → args.all (isExprB m) = true := fun h => by rw [List.eq_nil_of_length_eq_zero h]; rfl
  have e5 : a = -1 → isExprB m a = false := fun h => by unfold isExprB; rw [decide_eq_false (by omega)]
  have e6 : b = -1 → isExprB m b = false := fun h => by unfold isExprB; rw [decide_eq_false (by omega)]
  have e7 : settableB m a = true → isExprB m a = true := fun h => by unfold settableB isVarB at h; simp only [Bool.and_eq_true] at h; exact h.1.1
  have e8 : receivesB m ⟨k, a, b, n, args, mat, text⟩ = true → fieldsB m args mat = true ∧ (args.zip mat).all (recvB m) = true := fun h => by unfold receivesB at h; simpa using h
  have e9 : fieldsB m args mat = true → (args.zip mat).all (recvB m) = true → receivesB m ⟨k, a, b, n, args, mat, text⟩ = true := fun h h2 => by unfold receivesB; simp only [h, h2]; rfl
  have e10 : fieldsB m args mat = true → 1 ≤ args.length ∧ args.length ≤ 8 := fun h => by
    unfold fieldsB at h
    simp only [Bool.and_eq_true, Bool.not_eq_true', decide_eq_false_iff_not] at h
    omega
  unfold stmtB dstmtB askOf askAB askN plainB noText
  simp only
  generalize isExprB m a = va at *
  generalize isExprB m b = vb at *
  generalize settableB m a = vs at *
  generalize args.all (isExprB m) = vl at *
  generalize dmatB m m.exprs.length args mat = vd at *
  generalize fieldsB m args mat = vf at *
  generalize (args.zip mat).all (recvB m) = vr at *
  generalize receivesB m ⟨k, a, b, n, args, mat, text⟩ = vq at *
  generalize args.length = la at *
  generalize mat.length = lm at *
  generalize text.size = lt at *
  generalize m.shapes.length = ls at *
  by_cases h1 : k = 1 ∨ k = 3
  · have e2 : ¬ (k = 2 ∨ k = 9) := by omega
    rw [if_pos h1, if_pos h1]
    dsimp only
    grind
  rw [if_neg h1, if_neg h1]
  by_cases h2 : k = 2
  · rw [if_pos h2, if_pos h2]
    dsimp only
    grind
  rw [if_neg h2, if_neg h2]
  by_cases h4 : k = 4
  · rw [if_pos h4, if_pos h4]
    dsimp only
    grind
  rw [if_neg h4, if_neg h4]
  by_cases h5 : k = 5
  · rw [if_pos h5, if_pos h5]
    dsimp only
    grind
  rw [if_neg h5, if_neg h5]
  by_cases h6 : k = 6
  · rw [if_pos h6, if_pos h6]
    dsimp only
    grind
  rw [if_neg h6, if_neg h6]
  by_cases h7 : k = 7 ∨ k = 8
  · rw [if_pos h7, if_pos h7]
    dsimp only
    grind
  rw [if_neg h7, if_neg h7]
  by_cases h9 : k = 9
  · rw [if_pos h9, if_pos h9]
    dsimp only
    grind
  rw [if_neg h9, if_neg h9]
end Go.Proofs.Ytofdfaopabmfoaa
