/- The document's answer: who may receive in a rendezvous. -/
import Derived.Test.YtofdfaopabmfoaaM04
import Derived.Test.YtofdfaopabmfoaaM27
import Derived.Test.YtofdfaopabmfoaaM29
import Derived.Test.YtofdfaopabmfoaaM24
import Derived.Test.YtofdfaopabmfoaaM28
import Derived.Test.YtofdfaopabmfoaaM03
import Derived.Deep.CutRange
import Derived.Deep.RegionLaw
namespace Go.Proofs.Ytofdfaopabmfoaa
open Go.ChangeShapes Go.WideShapes Go.ChangeAt Go.RowKit
set_option linter.unusedVariables false
set_option linter.unusedSimpArgs false

/-- The boxes of a model and a place. -/
structure Lo (w : World) (CS LS : Array Value) (h : MH) (m : ModelD) (W : World) : Prop where
  mx : Mx w w.heap.size CS h m W
  lb : Bq w (w.heap.size + 1) LS 67 W
theorem Lo.below {w W W' : World} {CS LS : Array Value} {h : MH} {m : ModelD} (k : Lo w CS LS h m W) (hb : Below W.heap.size W W') : Lo w CS LS h m W' := ⟨k.mx.below hb, k.lb.below hb⟩
theorem Lo.new {w : World} {CS LS : Array Value} {h : MH} {m : ModelD} (hd : MD w.heap.size w h m) (hC : CS = mCells h m) : Lo w CS LS h m ((w.alloc (.cells CS 29)).alloc (.cells LS 67)) :=
  ⟨(Mx.new hd hC).below (ball _), new_at (by simp), (Mx.new hd hC).bx.bel.alloc (by simp) _⟩
theorem lo_info (l : LocD) (oo eo : Option Addr) (oc ec : Nat) {LS : Array Value} (h : LS = lCells l oo eo oc ec) : (Try.prog.info? 67).map (·.size) = some LS.size := by
  rw [h]
  show _ = some 7
  kernel_rfl

set_option maxRecDepth 100000 in
set_option maxHeartbeats 8000000 in
theorem dReceivesH {h : MH} {m : ModelD} (l : LocD) (oo eo : Option Addr) (oc ec : Nat) (w : World) (hd : MD w.heap.size w h m) (h1 : Row w.heap.size oo 9 (transAt w.heap.size w) l.out) (h2 : Row w.heap.size eo 1 (escAt w.heap.size w) l.esc) (h8 : l.esc.length ≤ 8) :
    Calls Try.prog 19 #[mV h m, .agg (lCells l oo eo oc ec)] w fun e w' => e = .returned (.bool (meetsB m && recvLB l)) ∧ Below w.heap.size w w' := by
  obtain ⟨CS, hCS⟩ : ∃ c, c = mCells h m := ⟨_, rfl⟩
  obtain ⟨LS, hLS⟩ : ∃ c, c = lCells l oo eo oc ec := ⟨_, rfl⟩
  have HX := Lib.hid (Lo.new (LS := LS) hd hCS)
  have HWY := Lib.hid (fun (W : World) (hb : Below w.heap.size w W) => waysRowH (B := w.heap.size) l oo eo oc ec W hb.size (h1.mono fun _ _ _ hg => transAt.below hb hg) (h2.mono fun _ _ _ hg => escAt.below hb hg) h8)
  have HLI := Lib.hid (lo_info l oo eo oc ec hLS)
  have HRV : Hid (recvLB l = (l.out :: l.esc).any takesL) := Lib.hid rfl
  have ls := hd.shapes.1
  unfold mV
  rw [← hLS] at HWY ⊢
  rw [← hCS]
  clear hd hCS hLS h1 h2
  go_enter Try.func19, Try.ntmps19
  go_upto_region 1 with fail
  generalize (w.alloc (.cells CS 29)).alloc (.cells LS 67) = W1 at HX ⊢
  go_wp2_with fail
  go_loopw [5, 6] (fun sv iv W => ∃ k : Nat, iv = .int .i64 k ∧ k ≤ m.shapes.length ∧ sv = .bool ((m.shapes.take k).any meetB) ∧ W1 = W) (fun sv iv _ => m.shapes.length - (intOf iv).toNat)
  case atStart => exact ⟨0, rfl, by omega, rfl, rfl⟩
  case round =>
    obtain ⟨k, rfl, hk, rfl, hw⟩ := hrel
    subst hw
    have hk0 : (0 : Int) ≤ k := by omega
    have c2 := HX.out.mx.c2
    obtain ⟨u, hu⟩ : ∃ t, (m.shapes.take k).any meetB = t := ⟨_, rfl⟩
    rw [hu]
    have HU := Lib.hid hu
    clear hu
    by_cases hlt : k < m.shapes.length
    · have hlti : (k : Int) < m.shapes.length := by omega
      obtain ⟨g, off, ho, hg, hs⟩ := HX.out.mx.md.shapes.cell hlt
      obtain ⟨s, hse⟩ : ∃ s, m.shapes[k] = s := ⟨_, rfl⟩
      rw [hse] at hs
      have t0 := hs.c0
      have HN : Hid ((m.shapes.take (k + 1)).any meetB = (u || meetB s)) := Lib.hid (by rw [any_take (by rw [List.getElem?_eq_getElem hlt, hse]), HU.out])
      have HMB : Hid (meetB s = decide (s.room = 0)) := Lib.hid rfl
      rw [ho] at c2
      clear ho hg hs hse
      cases u
      · obtain ⟨q, hq⟩ : ∃ q, (s.room == 0) = q := ⟨_, rfl⟩
        have HW : Hid (Value.bool q = Value.bool ((m.shapes.take (k + 1)).any meetB)) := Lib.hid (by rw [HN.out, HMB.out, ← hq]; rfl)
        go_wp2_with fail
        go_roundw
        case rel => exact ⟨k + 1, by go_num, by omega, HW.out, by first | trivial | rfl⟩
        case measure => simp [intOf]; omega
      · have HW : Hid (Value.bool true = Value.bool ((m.shapes.take (k + 1)).any meetB)) := Lib.hid (by rw [HN.out]; rfl)
        go_wp2_with fail
        go_roundw
        case rel => exact ⟨k + 1, by go_num, by omega, HW.out, by first | trivial | rfl⟩
        case measure => simp [intOf]; omega
    · have hlti : ¬ (k : Int) < m.shapes.length := by omega
      have HME : Hid (meetsB m = u) := Lib.hid (by have h1 := HU.out; rw [List.take_of_length_le (by omega)] at h1; exact h1)
      go_upto_region 6 with fail
      clear c2
      go_wp2_with (refine wpList_load_row rfl _ _ rfl _ rfl _ LS _ _ HX.out.lb.box Try.underlying67 rfl HLI.out ?_)
      refine (HWY.out W1 HX.out.lb.bel).mono ?_
      rintro e W4 ⟨wo, wc, rfl, hrw, hb4⟩
      have HB4 := Lib.hid (HX.out.lb.bel.trans (hb4.mono HX.out.lb.bel.size))
      have HRW := Lib.hid hrw
      obtain ⟨LL, hLL⟩ : ∃ L, l.out :: l.esc = L := ⟨_, rfl⟩
      rw [hLL] at HRW HRV
      have hL9 : LL.length ≤ 9 := by rw [← hLL]; simp; omega
      rw [show (l.out :: l.esc).length = LL.length by rw [hLL]]
      have HBS : Hid (Below W4.heap.size W4 W4) := Lib.hid (Below.refl _ _)
      clear hb4 hrw hLL HWY HX HLI
      go_wp2_with fail
      go_loopw [8] (fun kv wr => ∃ q : Nat, kv = .int .i64 q ∧ q ≤ LL.length ∧ Hid (∀ j (hj : j < LL.length), j < q → (u && takesL LL[j]) = false) ∧ W4 = wr) (fun kv _ => LL.length - (intOf kv).toNat)
      case atStart => exact ⟨0, rfl, by omega, Lib.hid fun j _ h => by omega, rfl⟩
      case round =>
        obtain ⟨q, rfl, hq, HJ2, hw⟩ := hrel
        subst hw
        have hq0 : (0 : Int) ≤ q := by omega
        have hq00 : 0 ≤ q := by omega
        by_cases hlq : q < LL.length
        · have hlqi : (q : Int) < LL.length := by omega
          cases u
          · have HZ : Hid ((meetsB m && recvLB l) = false) := Lib.hid (by rw [HME.out]; rfl)
            go_wp2_with fail
            go_ret
            exact ⟨retB HZ.out.symm, HB4.out⟩
          obtain ⟨gw, offw, hwo, hgw, tO, tC, t0, hrT⟩ := HRW.out.cell hlq
          rw [Nat.mul_one] at t0
          obtain ⟨T, hT⟩ : ∃ T, LL[q] = T := ⟨_, rfl⟩
          rw [hT] at t0 hrT
          have lT := hrT.1
          have HRT := Lib.hid hrT
          have HWB : Hid (takesL T = true → (meetsB m && recvLB l) = true) := Lib.hid fun h => by
            rw [HME.out, HRV.out, Bool.true_and, List.any_eq_true]
            exact ⟨T, by rw [← hT]; exact List.getElem_mem hlq, h⟩
          have HWG : Hid (takesL T = false → ∀ j (hj : j < LL.length), j < q + 1 → (true && takesL LL[j]) = false) := Lib.hid fun h j hj hjk => by
            by_cases e : j = q
            · subst e; rw [hT]; exact h
            · exact HJ2.out j hj (by omega)
          have HS : Hid (∀ n : Nat, Value.slice wo n wc = Value.slice (some ⟨gw, offw, none⟩) n wc) := Lib.hid fun n => by rw [hwo]
          rw [HS.out]
          have HT0 := Lib.hid t0
          clear hrT hT HJ2 hgw hwo t0
          go_wp2_with fail
          go_loopw [9] (fun jv wr => ∃ r : Nat, jv = .int .i64 r ∧ r ≤ T.length ∧ Hid (∀ j (hj : j < T.length), j < r → takesB T[j] = false) ∧ W4 = wr) (fun jv _ => T.length - (intOf jv).toNat)
          case atStart => exact ⟨0, rfl, by omega, Lib.hid fun j _ h => by omega, rfl⟩
          case round =>
            obtain ⟨r, rfl, hr, HJ3, hw⟩ := hrel
            subst hw
            have hr0 : (0 : Int) ≤ r := by omega
            have hr00 : 0 ≤ r := by omega
            by_cases hlr : r < T.length
            · have hlri : (r : Int) < T.length := by omega
              obtain ⟨gt, offt, htO, hgt, htr⟩ := HRT.out.cell hlr
              obtain ⟨t, ht⟩ : ∃ t, T[r] = t := ⟨_, rfl⟩
              rw [ht] at htr
              have y0 := htr.s.c0
              have y3 := htr.s.c3
              have t1 := HT0.out
              rw [htO] at t1
              have HTB : Hid (takesB t = decide (t.s.kind = 6 ∧ t.s.n ≤ 1)) := Lib.hid rfl
              have HBD : Hid (takesB t = true → (meetsB m && recvLB l) = true) := Lib.hid fun h => HWB.out (by unfold takesL; rw [List.any_eq_true]; exact ⟨t, by rw [← ht]; exact List.getElem_mem hlr, h⟩)
              have HGO : Hid (takesB t = false → ∀ j (hj : j < T.length), j < r + 1 → takesB T[j] = false) := Lib.hid fun h j hj hjk => by
                by_cases e : j = r
                · subst e; rw [ht]; exact h
                · exact HJ3.out j hj (by omega)
              obtain ⟨kd, hkd⟩ : ∃ kd, t.s.kind = kd := ⟨_, rfl⟩
              obtain ⟨nn, hnn⟩ : ∃ nn, t.s.n = nn := ⟨_, rfl⟩
              rw [hkd, hnn] at HTB
              rw [hkd] at y0
              rw [hnn] at y3
              clear htO hgt htr ht hkd hnn HJ3
              by_cases h6 : kd = 6
              rotate_left
              · have hb : (kd == 6) = false := by rw [beq_eq_false_iff_ne]; exact h6
                have HZ := Lib.hid (HGO.out (by rw [HTB.out]; exact decide_eq_false (by omega)))
                clear h6
                go_wp2_with fail
                go_roundw
                case rel => exact ⟨r + 1, by go_num, by omega, HZ, by first | trivial | rfl⟩
                case measure => simp [intOf]; omega
              subst h6
              by_cases h1 : nn < 2
              · have HZ := Lib.hid (HBD.out (by rw [HTB.out]; exact decide_eq_true (by omega)))
                go_wp2_with fail
                go_ret
                exact ⟨retB HZ.out.symm, HB4.out⟩
              · have HZ := Lib.hid (HGO.out (by rw [HTB.out]; exact decide_eq_false (by omega)))
                go_wp2_with fail
                go_roundw
                case rel => exact ⟨r + 1, by go_num, by omega, HZ, by first | trivial | rfl⟩
                case measure => simp [intOf]; omega
            · have hlri : ¬ (r : Int) < T.length := by omega
              have HZ := Lib.hid (HWG.out (by unfold takesL; rw [List.any_eq_false]; intro t ht; obtain ⟨j, hj, rfl⟩ := List.mem_iff_getElem.1 ht; rw [HJ3.out j hj (by omega)]; decide))
              have t1 := HT0.out
              go_wp2_with fail
              go_roundw
              case rel => exact ⟨q + 1, by go_num, by omega, HZ, by first | trivial | rfl⟩
              case measure => simp [intOf]; omega
        · have hlqi : ¬ (q : Int) < LL.length := by omega
          have HZ : Hid ((meetsB m && recvLB l) = false) := Lib.hid (by
            rw [HME.out, HRV.out]
            cases u
            · rfl
            · rw [Bool.true_and, List.any_eq_false]
              intro T hT
              obtain ⟨j, hj, rfl⟩ := List.mem_iff_getElem.1 hT
              have := HJ2.out j hj (by omega)
              rw [Bool.true_and] at this
              rw [this]
              decide)
          go_wp2_with fail
          go_ret
          exact ⟨retB HZ.out.symm, HB4.out⟩
end Go.Proofs.Ytofdfaopabmfoaa
/- What a proctype uses, as the document has it: a tree is gone through. -/
namespace Go.Proofs.Ytofdfaopabmfoaa
open Go.ChangeShapes Go.WideShapes Go.ChangeAt Go.RowKit
set_option linter.unusedVariables false
set_option linter.unusedSimpArgs false

def useT (e39 run ecl e31 e2 esc : Bool) : Bool := (e39 && !run) || (ecl && (e31 || e39 || (e2 && esc)))
theorem use_tests (m : ModelD) (pr : Nat) (x : ExprD) (run : Bool) : duseB m pr x run = (!(useT (x.op == 39) run ((pr : Int) == m.claim) (x.op == 31) (x.op == 2) (x.v.scope == 1)) && !((x.op == 2) && decide (roomL m pr x.v < reachL x.v))) := by
  unfold duseB useT
  have e1 : ((pr : Int) == m.claim) = decide ((pr : Int) = m.claim) := rfl
  have e2 : (x.op == 39) = decide (x.op = 39) := rfl
  have e3 : (x.op == 31) = decide (x.op = 31) := rfl
  have e4 : (x.op == 2) = decide (x.op = 2) := rfl
  have e5 : (x.v.scope == 1) = decide (x.v.scope = 1) := rfl
  rw [e1, e2, e3, e4, e5]
  grind
theorem uses_step {m : ModelD} (hx : EX m) {pr : Nat} (run : Bool) {k : Nat} {x : ExprD} (h : m.exprs[k]? = some x) : usesD m pr (k + 1) k run = (duseB m pr x run && (partsL x).all (okU m pr)) := by
  rw [usesD]
  simp only [Int.toNat_natCast, h]
  congr 1
  rw [Bool.eq_iff_iff, List.all_eq_true, List.all_eq_true]
  refine forall_congr' fun q => forall_congr' fun hq => ?_
  have h1 := (hx.ok _ _ h).2 q hq
  unfold okU
  rw [uses_more hx k q false (by omega)]
theorem parts_small {m : ModelD} (hx : EX m) {k : Nat} {x : ExprD} (h : m.exprs[k]? = some x) : (partsL x).length ≤ 4096 := by
  have h1 := hx.sum
  unfold partsN at h1
  have h2 : x ∈ m.exprs := List.mem_of_getElem? h
  have key : ∀ (l : List ExprD), x ∈ l → (partsL x).length ≤ (l.map fun x => (partsL x).length).sum := by
    intro l
    induction l with
    | nil => intro h; cases h
    | cons y r ih =>
      intro hm
      simp only [List.map_cons, List.sum_cons]
      rcases List.mem_cons.1 hm with rfl | hm
      · omega
      · have := ih hm; omega
  have := key _ h2
  omega
/-- What an expression that is a variable gives. -/
theorem var_of {m : ModelD} (hx : EX m) {k : Nat} {x : ExprD} (h : m.exprs[k]? = some x) (hop : x.op = 2) : (0 ≤ x.v.scope ∧ x.v.scope ≤ 2) ∧ (x.v.scope = 2 → 0 ≤ x.v.type ∧ x.v.type < m.procs.length) ∧ ∀ d ∈ x.v.dims, d.len ≤ 9223372036854775807 := by
  have h1 := (hx.ok _ _ h).1
  unfold exprB kindB at h1
  rw [if_neg (by omega), if_pos hop] at h1
  simp only [Bool.and_eq_true] at h1
  have h2 := h1.2
  unfold varB varHeadB varTailB at h2
  simp only [Bool.and_eq_true, Bool.not_eq_true', decide_eq_false_iff_not] at h2
  obtain ⟨⟨h3, h4⟩, h5⟩ := h2
  refine ⟨by omega, fun hs => ?_, fun d hd => ?_⟩
  · rw [if_pos hs] at h5
    have := ptypeB_of.1 h5
    omega
  · have h6 := List.all_eq_true.1 h4 d hd
    unfold dimB at h6
    simp only [Bool.not_eq_true', decide_eq_false_iff_not] at h6
    omega
theorem op_of {m : ModelD} (hx : EX m) {k : Nat} {x : ExprD} (h : m.exprs[k]? = some x) : 1 ≤ x.op ∧ x.op ≤ 39 := by
  have h1 := (hx.ok _ _ h).1
  unfold exprB at h1
  simp only [Bool.and_eq_true, decide_eq_true_eq] at h1
  exact h1.1.1

set_option maxRecDepth 100000 in
set_option maxHeartbeats 8000000 in
theorem usesStepH {h : MH} {m : ModelD} (hx : EX m) (pr : Nat) (hpr : pr < m.procs.length) (k : Nat) (x : ExprD) (hk : m.exprs[k]? = some x)
    (IH : ∀ (q : Nat), q < k → ∀ (W : World), MD W.heap.size W h m → Calls Try.prog 69 #[mV h m, .int .i64 pr, .int .i64 q, .bool false] W fun e w' => e = .returned (.bool (okU m pr q)) ∧ Below W.heap.size W w')
    (run : Bool) (w : World) (hd : MD w.heap.size w h m) : Calls Try.prog 69 #[mV h m, .int .i64 pr, .int .i64 k, .bool run] w fun e w' => e = .returned (.bool (usesD m pr (k + 1) k run)) ∧ Below w.heap.size w w' := by
  obtain ⟨CS, hCS⟩ : ∃ c, c = mCells h m := ⟨_, rfl⟩
  have hi := (List.getElem?_eq_some_iff.1 hk).1
  have hki : (k : Int) < m.exprs.length := by omega
  have hk0 : (0 : Int) ≤ k := by omega
  have l6 := hd.exprs.1
  obtain ⟨g, off, ho, hg, he⟩ := hd.exprs.get hk
  have HX0 := Lib.hid (Mx.new hd hCS)
  have c6 := HX0.out.c6
  rw [ho] at c6
  obtain ⟨vo, vc, ao, ac, mo, mc, hxc0, hr1, hr2, hr3⟩ := he.xc
  have hxc := hxc0.below hg (ball (.cells CS 29))
  have HR1 := Lib.hid hr1
  have HR2 := Lib.hid hr2
  have e0 := hxc.c0
  have e1 := hxc.c1
  have e2 := hxc.c2
  have e3 := hxc.c3
  have e4 := hxc.c4
  have e5 := hxc.v0
  have e6 := hxc.v1
  have e7 := hxc.v2
  have e8 := hxc.v3
  have e9 := hxc.v4
  have e10 := hxc.c6
  have e11 := hxc.c7
  have HX := Lib.hid (Ex.new (XS := xCells x vo ao mo vc ac mc) hd hCS)
  have HV : Hid (usesD m pr (k + 1) k run = ((!(useT (x.op == 39) run ((pr : Int) == m.claim) (x.op == 31) (x.op == 2) (x.v.scope == 1)) && !((x.op == 2) && decide (roomL m pr x.v < reachL x.v))) && (partsL x).all (okU m pr))) := Lib.hid (by rw [uses_step hx run hk, use_tests])
  have HVAR := Lib.hid (var_of hx hk)
  have HOP := Lib.hid (op_of hx hk)
  have HSM := Lib.hid (parts_small hx hk)
  have HPB : Hid (∀ q ∈ partsL x, 0 ≤ q ∧ q < (k : Int)) := Lib.hid (hx.ok _ _ hk).2
  have HPR := Lib.hid hpr
  unfold xCells at HX
  unfold mV
  rw [← hCS]
  clear hd hCS hk hi ho he hxc hxc0 hr1 hr2 hr3 HX0 hx hpr
  go_enter Try.func69, Try.ntmps69
  go_upto_region 2 with fail
  generalize (w.alloc (.cells CS 29)).alloc (.cells #[.int .i64 x.op, .int .i64 x.n, .int .i64 x.a, .int .i64 x.b, .int .i64 x.c, .int .i64 x.v.scope, .int .i64 x.v.slot, .int .i64 x.v.who, .int .i64 x.v.type, .slice vo x.v.dims.length vc, .slice ao x.args.length ac, .slice mo x.mat.length mc] 57) = W1 at HX ⊢
  clear e0 e1 e2 e3 e4 e5 e6 e7 e8 e9 e10 e11 c6 hg
  obtain ⟨q39, h39⟩ : ∃ q, (x.op == 39) = q := ⟨_, rfl⟩
  obtain ⟨q31, h31⟩ : ∃ q, (x.op == 31) = q := ⟨_, rfl⟩
  obtain ⟨q2, h2⟩ : ∃ q, (x.op == 2) = q := ⟨_, rfl⟩
  obtain ⟨qs, hs⟩ : ∃ q, (x.v.scope == 1) = q := ⟨_, rfl⟩
  obtain ⟨qc, hc⟩ : ∃ q, ((pr : Int) == m.claim) = q := ⟨_, rfl⟩
  have H2 := Lib.hid h2
  rw [h39, h31, h2, hs, hc] at HV
  have f0 : W1.cell? ⟨w.heap.size + 1, 0, none⟩ = some (.int .i64 x.op) := HX.out.xb.cell rfl
  have f5 : W1.cell? ⟨w.heap.size + 1, 5, none⟩ = some (.int .i64 x.v.scope) := HX.out.xb.cell rfl
  have c5 : W1.cell? ⟨w.heap.size, 5, none⟩ = some (.int .i64 m.claim) := HX.out.mx.c5
  go_cut [51] from 18 to 51 (fun v wx => v = .bool (useT q39 run qc q31 q2 qs) ∧ W1 = wx)
  case first =>
    cases q39 <;> cases run <;> cases qc
    all_goals first
      | (go_wp2_with fail
         go_meet
         case rel => exact ⟨rfl, rfl⟩)
      | (cases q31
         · first
             | (go_wp2_with fail
                go_meet
                case rel => exact ⟨rfl, rfl⟩)
             | (cases q2
                · go_wp2_with fail
                  go_meet
                  case rel => exact ⟨rfl, rfl⟩
                · cases qs
                  · go_wp2_with fail
                    go_meet
                    case rel => exact ⟨rfl, rfl⟩
                  · go_wp2_with fail
                    go_meet
                    case rel => exact ⟨rfl, rfl⟩)
         · go_wp2_with fail
           go_meet
           case rel => exact ⟨rfl, rfl⟩)
  case rest =>
  obtain ⟨rfl, hwx⟩ := hcut
  subst hwx
  clear f0 f5 c5 h39 h31 hs hc h2
  cases hut : useT q39 run qc q31 q2 qs
  rotate_left
  · have HZ : Hid (usesD m pr (k + 1) k run = false) := Lib.hid (by rw [HV.out, hut]; rfl)
    go_wp2_with fail
    go_ret
    exact ⟨retB HZ.out.symm, HX.out.xb.bel⟩
  have HV2 : Hid (usesD m pr (k + 1) k run = (!(q2 && decide (roomL m pr x.v < reachL x.v)) && (partsL x).all (okU m pr))) := Lib.hid (by rw [HV.out, hut]; rfl)
  clear hut HV
  have h2 := H2.out
  have f0 : W1.cell? ⟨w.heap.size + 1, 0, none⟩ = some (.int .i64 x.op) := HX.out.xb.cell rfl
  go_upto_region 4 with fail
  go_cut [65] from 52 to 65 (fun v wx => v = .bool (q2 && decide (roomL m pr x.v < reachL x.v)) ∧ Hid (Ex w CS #[.int .i64 x.op, .int .i64 x.n, .int .i64 x.a, .int .i64 x.b, .int .i64 x.c, .int .i64 x.v.scope, .int .i64 x.v.slot, .int .i64 x.v.who, .int .i64 x.v.type, .slice vo x.v.dims.length vc, .slice ao x.args.length ac, .slice mo x.mat.length mc] h m wx))
  case first =>
    cases q2
    · go_wp2_with fail
      go_quiet (fail)
      go_wp2_with fail
      go_meet
      case rel => exact ⟨rfl, Lib.hid (HX.out.drewN _)⟩
    · have hop2 : x.op = 2 := by simpa using h2
      obtain ⟨u1, u2, u3⟩ := HVAR.out hop2
      have HRE : Hid (∀ W, Below w.heap.size w W → Calls Try.prog 82 #[.agg #[.int .i64 x.v.scope, .int .i64 x.v.slot, .int .i64 x.v.who, .int .i64 x.v.type, .slice vo x.v.dims.length vc]] W fun e w' => e = .returned (.int .i64 (reachL x.v)) ∧ Below W.heap.size W w') := Lib.hid fun W hb => reachH x.v vo vc w.heap.size W (HR1.out.mono fun _ _ _ hg => dimAt.below hb hg) hb.size u3
      have HRO : Hid (∀ W, MD W.heap.size W h m → Calls Try.prog 83 #[.agg #[.slice h.go m.globals.length h.gc, .slice h.io m.init.length h.ic, .slice h.so m.shapes.length h.sc, .slice h.co m.chans.length h.cc, .slice h.po m.procs.length h.pc, .int .i64 m.claim, .slice h.eo m.exprs.length h.ec], .int .i64 pr, .agg #[.int .i64 x.v.scope, .int .i64 x.v.slot, .int .i64 x.v.who, .int .i64 x.v.type, .slice vo x.v.dims.length vc]] W fun e w' => e = .returned (.int .i64 (roomL m pr x.v)) ∧ Below W.heap.size W w') := Lib.hid fun W hd => roomH pr x.v vo vc W hd u1 (fun _ => HPR.out) u2
      clear u1 u2 u3 hop2
      have HXD := Lib.hid (HX.out.below (Below.refl _ _).drew)
      have g0 : W1.drew.cell? ⟨w.heap.size + 1, 0, none⟩ = some (.int .i64 x.op) := HXD.out.xb.cell rfl
      have g5 : W1.drew.cell? ⟨w.heap.size + 1, 5, none⟩ = some (.int .i64 x.v.scope) := HXD.out.xb.cell rfl
      have g6 : W1.drew.cell? ⟨w.heap.size + 1, 6, none⟩ = some (.int .i64 x.v.slot) := HXD.out.xb.cell rfl
      have g7 : W1.drew.cell? ⟨w.heap.size + 1, 7, none⟩ = some (.int .i64 x.v.who) := HXD.out.xb.cell rfl
      have g8 : W1.drew.cell? ⟨w.heap.size + 1, 8, none⟩ = some (.int .i64 x.v.type) := HXD.out.xb.cell rfl
      have g9 : W1.drew.cell? ⟨w.heap.size + 1, 9, none⟩ = some (.slice vo x.v.dims.length vc) := HXD.out.xb.cell rfl
      have m0 := HXD.out.mx.c0
      have m1 := HXD.out.mx.c1
      have m2 := HXD.out.mx.c2
      have m3 := HXD.out.mx.c3
      have m4 := HXD.out.mx.c4
      have m5 := HXD.out.mx.c5
      have m6 := HXD.out.mx.c6
      go_wp2_with fail
      go_region_law
        (first
          | (go_simp
             go_at_call 82
             refine (HRE.out _ HXD.out.xb.bel).mono ?_
             rintro e w1 ⟨rfl, hb1⟩
             have HX5 := Lib.hid (HXD.out.below hb1)
             have n5 : w1.cell? ⟨w.heap.size + 1, 5, none⟩ = some (.int .i64 x.v.scope) := HX5.out.xb.cell rfl
             have n6 : w1.cell? ⟨w.heap.size + 1, 6, none⟩ = some (.int .i64 x.v.slot) := HX5.out.xb.cell rfl
             have n7 : w1.cell? ⟨w.heap.size + 1, 7, none⟩ = some (.int .i64 x.v.who) := HX5.out.xb.cell rfl
             have n8 : w1.cell? ⟨w.heap.size + 1, 8, none⟩ = some (.int .i64 x.v.type) := HX5.out.xb.cell rfl
             have n9 : w1.cell? ⟨w.heap.size + 1, 9, none⟩ = some (.slice vo x.v.dims.length vc) := HX5.out.xb.cell rfl
             have k0 := HX5.out.mx.c0
             have k1 := HX5.out.mx.c1
             have k2 := HX5.out.mx.c2
             have k3 := HX5.out.mx.c3
             have k4 := HX5.out.mx.c4
             have k5 := HX5.out.mx.c5
             have k6 := HX5.out.mx.c6
             clear hb1)
          | (go_simp
             go_at_call 83
             refine (HRO.out _ HX5.out.mx.here).mono ?_
             rintro e w2 ⟨rfl, hb2⟩
             have HX6 := Lib.hid (HX5.out.below hb2)
             clear hb2))
      all_goals (
        try simp only [Exit.inBlock, Exit.then]
        go_wp2_with fail
        go_meet
        case rel => exact ⟨by first | rfl | simp, HX6⟩)
  case rest =>
  obtain ⟨rfl, HX7⟩ := hcut
  clear f0 h2
  cases hrt : (q2 && decide (roomL m pr x.v < reachL x.v))
  rotate_left
  · have HZ : Hid (usesD m pr (k + 1) k run = false) := Lib.hid (by rw [HV2.out, hrt]; rfl)
    go_wp2_with fail
    go_ret
    exact ⟨retB HZ.out.symm, HX7.out.xb.bel⟩
  have HV3 : Hid (usesD m pr (k + 1) k run = (partsL x).all (okU m pr)) := Lib.hid (by rw [HV2.out, hrt]; rfl)
  clear hrt HV2 HX
  have HHE := Lib.hid (heldH (B := w.heap.size) x vo ao mo vc ac mc wc HOP.out HX7.out.xb.bel.size (HR1.out.mono fun _ _ _ hg => dimAt.below HX7.out.xb.bel hg) (HR2.out.mono fun _ _ _ hg => intAt.below HX7.out.xb.bel hg) (by have := HSM.out; omega))
  have lsm := HSM.out
  go_wp2_with (refine wpList_load_row rfl _ _ rfl _ rfl _ #[.int .i64 x.op, .int .i64 x.n, .int .i64 x.a, .int .i64 x.b, .int .i64 x.c, .int .i64 x.v.scope, .int .i64 x.v.slot, .int .i64 x.v.who, .int .i64 x.v.type, .slice vo x.v.dims.length vc, .slice ao x.args.length ac, .slice mo x.mat.length mc] _ _ HX7.out.xb.box Try.underlying57 rfl (by kernel_rfl) ?_)
  refine HHE.out.mono ?_
  rintro e W8 ⟨lo, lc, rfl, ⟨hrl, -⟩, hb8⟩
  have HX8 := Lib.hid (HX7.out.below hb8)
  have HRL := Lib.hid hrl
  obtain ⟨L, hL⟩ : ∃ L, partsL x = L := ⟨_, rfl⟩
  rw [hL] at HRL HV3 HPB lsm
  rw [hL]
  have HB8 : Hid (Below W8.heap.size W8 W8) := Lib.hid (Below.refl _ _)
  clear hrl hb8 hL HHE HSM
  go_wp2_with fail
  go_loopw [11] (fun jv wr => ∃ j : Nat, jv = .int .i64 j ∧ j ≤ L.length ∧ Hid (∀ i (hi : i < L.length), i < j → okU m pr L[i] = true) ∧ Hid (Below W8.heap.size W8 wr)) (fun jv _ => L.length - (intOf jv).toNat)
  case atStart => exact ⟨0, rfl, by omega, Lib.hid fun j _ h => by omega, HB8⟩
  case round =>
    clear HB8
    obtain ⟨j, rfl, hj, HJ, HB⟩ := hrel
    have hj0 : (0 : Int) ≤ j := by omega
    have hj00 : 0 ≤ j := by omega
    by_cases hlt : j < L.length
    · have hlti : (j : Int) < L.length := by omega
      obtain ⟨gl, offl, hlo, hgl, el⟩ := HRL.out.cell hlt
      have hpb := HPB.out _ (List.getElem_mem hlt)
      obtain ⟨q, hq⟩ : ∃ q : Nat, L[j] = q := ⟨L[j].toNat, by omega⟩
      have HX := Lib.hid (HX8.out.below HB.out)
      have cl : wr.cell? ⟨gl, offl + j, none⟩ = some (.int .i64 q) := by
        have := (HB.out.cell (p := ⟨gl, offl + j * 1, none⟩) hgl).trans el
        rw [Nat.mul_one, hq] at this
        exact this
      have HIH := Lib.hid (fun (W : World) (hd : MD W.heap.size W h m) => IH q (by rw [hq] at hpb; omega) W hd)
      have HBAD : Hid (okU m pr q = false → usesD m pr (k + 1) k run = false) := Lib.hid fun h => by rw [HV3.out, all_bad hlt (by rw [hq]; exact h)]
      have HGO : Hid (okU m pr q = true → ∀ i (hi : i < L.length), i < j + 1 → okU m pr L[i] = true) := Lib.hid fun h i hi hij => by
        by_cases e : i = j
        · subst e; rw [hq]; exact h
        · exact HJ.out i hi (by omega)
      have HLO := Lib.hid hlo
      have m0 := HX.out.mx.c0
      have m1 := HX.out.mx.c1
      have m2 := HX.out.mx.c2
      have m3 := HX.out.mx.c3
      have m4 := HX.out.mx.c4
      have m5 := HX.out.mx.c5
      have m6 := HX.out.mx.c6
      have hlo2 : ∀ n : Nat, Value.slice lo n lc = Value.slice (some ⟨gl, offl, none⟩) n lc := fun n => by rw [HLO.out]
      rw [hlo2]
      clear hlo hlo2 el hpb hq hgl HJ
      go_wp2_with fail
      go_still_tail 6, (by kernel_rfl)
      change wpList _ _ _ _ _ wr.drew
      have HXD := Lib.hid (HX.out.below (Below.refl _ _).drew)
      have HBD : Hid (Below W8.heap.size W8 wr.drew) := Lib.hid HB.out.drew
      generalize wr.drew = W9 at HXD HBD ⊢
      have HIH2 := Lib.hid (HIH.out W9 HXD.out.mx.here)
      unfold mV mCells at HIH2
      clear m0 m1 m2 m3 m4 m5 m6 cl HIH HX
      go_wp2_with fail
      refine HIH2.out.mono ?_
      rintro e W10 ⟨rfl, hb10⟩
      have HB10 : Hid (Below W8.heap.size W8 W10) := Lib.hid (HBD.out.trans (hb10.mono HBD.out.size))
      clear hb10 HIH2 HXD HBD
      obtain ⟨t, ht⟩ : ∃ t, okU m pr q = t := ⟨_, rfl⟩
      rw [ht] at HBAD HGO
      rw [ht]
      clear ht
      cases t
      · have HZ := Lib.hid (HBAD.out rfl)
        go_wp2_with fail
        go_ret
        exact ⟨retB HZ.out.symm, (HX8.out.below HB10.out).xb.bel⟩
      · have HZ := Lib.hid (HGO.out rfl)
        go_wp2_with fail
        go_roundw
        case rel => exact ⟨j + 1, by go_num, by omega, HZ, HB10⟩
        case measure => simp [intOf]; omega
    · have hlti : ¬ (j : Int) < L.length := by omega
      have HZ : Hid (usesD m pr (k + 1) k run = true) := Lib.hid (by rw [HV3.out]; exact all_of fun i hi => HJ.out i hi (by omega))
      go_wp2_with fail
      go_ret
      exact ⟨retB HZ.out.symm, (HX8.out.below HB.out).xb.bel⟩
/-- Every expression of a model whose third part is as it should be. -/
theorem usesH {h : MH} {m : ModelD} (hx : EX m) (pr : Nat) (hpr : pr < m.procs.length) : ∀ (k : Nat), k < m.exprs.length → ∀ (run : Bool) (w : World), MD w.heap.size w h m → Calls Try.prog 69 #[mV h m, .int .i64 pr, .int .i64 k, .bool run] w fun e w' => e = .returned (.bool (usesD m pr (k + 1) k run)) ∧ Below w.heap.size w w'
  | k, hk, run, w, hd => usesStepH hx pr hpr k m.exprs[k] (List.getElem?_eq_getElem hk) (fun q hq W hW => usesH hx pr hpr q (by omega) false W hW) run w hd
termination_by k => k
end Go.Proofs.Ytofdfaopabmfoaa
