/- The document's answer: which models may be searched reduced. -/
import Derived.Test.YtofdfaopabmfoaaM27
import Derived.Test.YtofdfaopabmfoaaM41
import Derived.Test.YtofdfaopabmfoaaM24
import Derived.Test.YtofdfaopabmfoaaM38
import Derived.Test.YtofdfaopabmfoaaM39
namespace Go.Proofs.Ytofdfaopabmfoaa
open Go.ChangeShapes Go.WideShapes Go.ChangeAt Go.RowKit
set_option linter.unusedVariables false
set_option linter.unusedSimpArgs false

theorem adm_beq (m : ModelD) : admE m = if ((checkL m).1 == 0) = true then (if admB m = true then 0 else 44) else 40 := by
  have e : goodB m = ((checkL m).1 == 0) := by unfold goodB; rw [Bool.eq_iff_iff, decide_eq_true_eq, beq_iff_eq]
  unfold admE
  rw [e]

set_option maxRecDepth 100000 in
set_option maxHeartbeats 8000000 in
theorem dAdmitsH {h : MH} {m : ModelD} (w : World) (hd : MD w.heap.size w h m) (hab : ArgsB m) : Calls Try.prog 8 #[mV h m] w fun e w' => e = .returned (.int .i64 (admE m)) ∧ Below w.heap.size w w' := by
  obtain ⟨CS, hCS⟩ : ∃ c, c = mCells h m := ⟨_, rfl⟩
  have HX := Lib.hid (Mx.new hd hCS)
  have HMAY := Lib.hid (fun (W : World) (hd : MD W.heap.size W h m) => mayH W hd hab)
  have HV := Lib.hid (adm_beq m)
  have l4 := hd.procs.1
  have l6 := hd.exprs.1
  unfold mV at HMAY ⊢
  rw [← hCS] at HMAY ⊢
  clear hd hCS hab
  go_enter Try.func8, Try.ntmps8
  go_upto_region 1 with fail
  generalize w.alloc (.cells CS 29) = W1 at HX ⊢
  go_wp2_with (refine wpList_load_row rfl _ _ rfl _ rfl _ CS _ _ HX.out.bx.box Try.underlying29 rfl HX.out.info ?_)
  refine (HMAY.out W1 HX.out.here).mono ?_
  rintro e W2 ⟨rfl, hb2⟩
  have HX2 := Lib.hid (HX.out.below hb2)
  clear hb2 HX HMAY
  obtain ⟨u, hu⟩ : ∃ u, ((checkL m).1 == 0) = u := ⟨_, rfl⟩
  rw [hu] at HV ⊢
  clear hu
  cases u
  · have HZ : Hid (admE m = 40) := Lib.hid (by rw [HV.out]; rfl)
    go_wp2_with fail
    go_ret
    exact ⟨retI HZ.out.symm, HX2.out.bx.bel⟩
  have HY : Hid (admE m = if admB m = true then 0 else 44) := Lib.hid (by rw [HV.out]; rfl)
  have c5 := HX2.out.c5
  by_cases hcl : 0 ≤ m.claim
  · have HZ : Hid (admE m = 44) := Lib.hid (by rw [HY.out]; unfold admB; rw [decide_eq_false (by omega)]; rfl)
    go_wp2_with fail
    go_ret
    exact ⟨retI HZ.out.symm, HX2.out.bx.bel⟩
  have HY2 : Hid (admE m = if (m.procs.all (prioB m) && m.exprs.all okX && !(m.procs.any atomB && m.exprs.any timeB)) = true then 0 else 44) := Lib.hid (by rw [HY.out]; unfold admB; rw [decide_eq_true (by omega), Bool.true_and])
  have HBADP : Hid (∀ p ∈ m.procs, prioB m p = false → admE m = 44) := Lib.hid fun p hp h => by
    rw [HY2.out, show m.procs.all (prioB m) = false by rw [List.all_eq_false]; exact ⟨p, hp, by rw [h]; decide⟩]; rfl
  have hclb : ¬ 0 ≤ m.claim := hcl
  clear HY HV
  go_wp2_with fail
  clear c5
  go_loopw [4] (fun iv W => ∃ k : Nat, iv = .int .i64 k ∧ k ≤ m.procs.length ∧ Hid (∀ j (hj : j < m.procs.length), j < k → prioB m m.procs[j] = true) ∧ Hid (Mx w w.heap.size CS h m W)) (fun iv _ => m.procs.length - (intOf iv).toNat)
  case atStart => exact ⟨0, rfl, by omega, Lib.hid fun j _ h => by omega, HX2⟩
  case round =>
    clear HX2
    obtain ⟨k, rfl, hk, HJ, HX⟩ := hrel
    have hk0 : (0 : Int) ≤ k := by omega
    have c4 := HX.out.c4
    by_cases hlt : k < m.procs.length
    · have hlti : (k : Int) < m.procs.length := by omega
      have hlen : 0 < m.procs.length := by omega
      obtain ⟨g, off, ho, hg, hall⟩ := HX.out.md.procs.every hlen
      have hat0 := hall 0 hlen
      have hatk := hall k hlt
      obtain ⟨p, hp⟩ : ∃ p, m.procs[k] = p := ⟨_, rfl⟩
      rw [hp] at hatk
      have z8 := hat0.c8
      have e8 := hatk.c8
      rw [show off + 0 * 10 = off by omega] at z8
      obtain ⟨q0, hq0⟩ : ∃ q, m.procs[0].prio = q := ⟨_, rfl⟩
      have HQ0 : Hid (prio0 m = q0) := Lib.hid (by unfold prio0; rw [List.getElem?_eq_getElem hlen]; exact hq0)
      rw [hq0] at z8
      have HBP : Hid (prioB m p = false → admE m = 44) := Lib.hid fun h => HBADP.out p (by rw [← hp]; exact List.getElem_mem hlt) h
      have HGO : Hid (prioB m p = true → ∀ j (hj : j < m.procs.length), j < k + 1 → prioB m m.procs[j] = true) := Lib.hid fun h j hj hjk => by
        by_cases e : j = k
        · subst e; rw [hp]; exact h
        · exact HJ.out j hj (by omega)
      rw [ho] at c4
      obtain ⟨pr, hpr⟩ : ∃ q, p.prio = q := ⟨_, rfl⟩
      have HPB : Hid (prioB m p = decide (pr = q0)) := Lib.hid (by unfold prioB; rw [HQ0.out, hpr])
      rw [hpr] at e8
      clear ho hg hall hat0 hatk hp hq0 hpr HJ
      by_cases he : pr = q0
      · have hb : (pr != q0) = false := by rw [bne_eq_false_iff_eq]; exact he
        have HZ := Lib.hid (HGO.out (by rw [HPB.out]; exact decide_eq_true he))
        clear he
        go_wp2_with fail
        go_quiet (fail)
        have HXN := Lib.hid (HX.out.below (bdrew (Below.refl _ wr) nq))
        generalize wr.drewN nq = W4 at HXN ⊢
        clear z8 e8 c4
        go_wp2_with fail
        go_roundw
        case rel => exact ⟨k + 1, by go_num, by omega, HZ, HXN⟩
        case measure => simp [intOf]; omega
      · have hb : (pr != q0) = true := by rw [bne_iff_ne]; exact he
        have HZ := Lib.hid (HBP.out (by rw [HPB.out]; exact decide_eq_false he))
        clear he
        go_wp2_with fail
        go_quiet (fail)
        go_wp2_with fail
        go_ret
        exact ⟨retI HZ.out.symm, bdrew HX.out.bx.bel _⟩
    · have hlti : ¬ (k : Int) < m.procs.length := by omega
      have HALL : Hid (m.procs.all (prioB m) = true) := Lib.hid (all_of fun j hj => HJ.out j hj (by omega))
      have HY3 : Hid (admE m = if (m.exprs.all okX && !(m.procs.any atomB && m.exprs.any timeB)) = true then 0 else 44) := Lib.hid (by rw [HY2.out, HALL.out, Bool.true_and])
      have HBADX : Hid (∀ x ∈ m.exprs, okX x = false → admE m = 44) := Lib.hid fun x hx h => by
        rw [HY3.out, show m.exprs.all okX = false by rw [List.all_eq_false]; exact ⟨x, hx, by rw [h]; decide⟩]; rfl
      clear HJ HY2 HBADP
      go_wp2_with fail
      clear c4
      have HX0 := HX
      clear HX
      go_loopw [5, 6] (fun tv iv W => ∃ k : Nat, iv = .int .i64 k ∧ k ≤ m.exprs.length ∧ tv = .bool ((m.exprs.take k).any timeB) ∧ Hid (∀ j (hj : j < m.exprs.length), j < k → okX m.exprs[j] = true) ∧ Hid (Mx w w.heap.size CS h m W)) (fun tv iv _ => m.exprs.length - (intOf iv).toNat)
      case atStart => exact ⟨0, rfl, by omega, rfl, Lib.hid fun j _ h => by omega, HX0⟩
      case round =>
        clear HX0
        obtain ⟨k, rfl, hk, rfl, HJ, HX⟩ := hrel
        have hk0 : (0 : Int) ≤ k := by omega
        obtain ⟨T, hT⟩ : ∃ t, (m.exprs.take k).any timeB = t := ⟨_, rfl⟩
        rw [hT]
        have HT := Lib.hid hT
        clear hT
        have c6 := HX.out.c6
        by_cases hlt : k < m.exprs.length
        · have hlti : (k : Int) < m.exprs.length := by omega
          obtain ⟨g, off, ho, hg, he⟩ := HX.out.md.exprs.cell hlt
          obtain ⟨x, hx⟩ : ∃ x, m.exprs[k] = x := ⟨_, rfl⟩
          rw [hx] at he
          have HN : Hid ((m.exprs.take (k + 1)).any timeB = (T || timeB x)) := Lib.hid (by rw [any_take (by rw [List.getElem?_eq_getElem hlt, hx]), HT.out])
          have HBX : Hid (okX x = false → admE m = 44) := Lib.hid fun h => HBADX.out x (by rw [← hx]; exact List.getElem_mem hlt) h
          have HGO : Hid (okX x = true → ∀ j (hj : j < m.exprs.length), j < k + 1 → okX m.exprs[j] = true) := Lib.hid fun h j hj hjk => by
            by_cases e : j = k
            · subst e; rw [hx]; exact h
            · exact HJ.out j hj (by omega)
          obtain ⟨vo, vc, ao, ac, mo, mc, hxc, -, -, -⟩ := he.xc
          have e0 := hxc.c0
          have e1 := hxc.c1
          have e2 := hxc.c2
          have e3 := hxc.c3
          have e4 := hxc.c4
          have e5 := hxc.v0
          have e6 := hxc.v1
          have e7 := hxc.v2
          have e8 := hxc.v3
          have e9 := hxc.v4
          have e10 := hxc.c6
          have e11 := hxc.c7
          rw [ho] at c6
          have HOKX : Hid (okX x = !decide (x.op = 32 ∨ x.op = 36 ∨ x.op = 37 ∨ x.op = 38 ∨ (x.op = 2 ∧ x.v.scope = 2))) := Lib.hid rfl
          have HTX : Hid (timeB x = decide (x.op = 35)) := Lib.hid rfl
          clear ho hg he hx hxc HJ
          go_upto_region 16 with fail
          have HB4 : Hid (Bq wr wr.heap.size #[.int .i64 x.op, .int .i64 x.n, .int .i64 x.a, .int .i64 x.b, .int .i64 x.c, .int .i64 x.v.scope, .int .i64 x.v.slot, .int .i64 x.v.who, .int .i64 x.v.type, .slice vo x.v.dims.length vc, .slice ao x.args.length ac, .slice mo x.mat.length mc] 57 (wr.alloc (.cells #[.int .i64 x.op, .int .i64 x.n, .int .i64 x.a, .int .i64 x.b, .int .i64 x.c, .int .i64 x.v.scope, .int .i64 x.v.slot, .int .i64 x.v.who, .int .i64 x.v.type, .slice vo x.v.dims.length vc, .slice ao x.args.length ac, .slice mo x.mat.length mc] 57))) := Lib.hid (Bq.new (Below.refl _ _) _ _)
          generalize wr.alloc (.cells #[.int .i64 x.op, .int .i64 x.n, .int .i64 x.a, .int .i64 x.b, .int .i64 x.c, .int .i64 x.v.scope, .int .i64 x.v.slot, .int .i64 x.v.who, .int .i64 x.v.type, .slice vo x.v.dims.length vc, .slice ao x.args.length ac, .slice mo x.mat.length mc] 57) = W4 at HB4 ⊢
          have HX4 := Lib.hid (HX.out.below HB4.out.bel)
          clear e0 e1 e2 e3 e4 e5 e6 e7 e8 e9 e10 e11 c6
          have f0 : W4.cell? ⟨wr.heap.size, 0, none⟩ = some (.int .i64 x.op) := HB4.out.cell rfl
          have f5 : W4.cell? ⟨wr.heap.size, 5, none⟩ = some (.int .i64 x.v.scope) := HB4.out.cell rfl
          obtain ⟨op, hop⟩ : ∃ op, x.op = op := ⟨_, rfl⟩
          obtain ⟨sc, hsc⟩ : ∃ sc, x.v.scope = sc := ⟨_, rfl⟩
          rw [hop] at f0 HOKX HTX
          rw [hsc] at f5 HOKX
          clear hop hsc HB4 HX
          by_cases h32 : op = 32
          · have HZ := Lib.hid (HBX.out (by rw [HOKX.out, decide_eq_true (by omega)]; rfl))
            subst h32
            go_wp2_with fail
            go_ret
            exact ⟨retI HZ.out.symm, HX4.out.bx.bel⟩
          have b32 : (op == 32) = false := by rw [beq_eq_false_iff_ne]; exact h32
          by_cases hmid : 36 ≤ op ∧ op ≤ 38
          · have HZ := Lib.hid (HBX.out (by rw [HOKX.out, decide_eq_true (by omega)]; rfl))
            obtain ⟨m1, m2⟩ := hmid
            go_wp2_with fail
            go_ret
            exact ⟨retI HZ.out.symm, HX4.out.bx.bel⟩
          by_cases h2 : op = 2
          · subst h2
            by_cases hs2 : sc = 2
            · have HZ := Lib.hid (HBX.out (by rw [HOKX.out, decide_eq_true (by omega)]; rfl))
              subst hs2
              clear hmid b32 h32
              go_wp2_with fail
              go_ret
              exact ⟨retI HZ.out.symm, HX4.out.bx.bel⟩
            · have bs : (sc == 2) = false := by rw [beq_eq_false_iff_ne]; exact hs2
              have HZ := Lib.hid (HGO.out (by rw [HOKX.out, decide_eq_false (by omega)]; rfl))
              have HW : Hid (Value.bool T = Value.bool ((m.exprs.take (k + 1)).any timeB)) := Lib.hid (by rw [HN.out, HTX.out, decide_eq_false (by decide), Bool.or_false])
              clear hs2 hmid b32 h32
              cases T
              · go_wp2_with fail
                go_roundw
                case rel => exact ⟨k + 1, by go_num, by omega, HW.out, HZ, HX4⟩
                case measure => simp [intOf]; omega
              · go_wp2_with fail
                go_roundw
                case rel => exact ⟨k + 1, by go_num, by omega, HW.out, HZ, HX4⟩
                case measure => simp [intOf]; omega
          have b2 : (op == 2) = false := by rw [beq_eq_false_iff_ne]; exact h2
          have HZ := Lib.hid (HGO.out (by rw [HOKX.out, decide_eq_false (by omega)]; rfl))
          have HTN : Hid (∀ u, (op == 35) = u → (m.exprs.take (k + 1)).any timeB = (T || u)) := Lib.hid fun u hu => by
            rw [HN.out, HTX.out]
            rw [← hu]
            rfl
          have hm : op < 36 ∨ (36 ≤ op ∧ 38 < op) := by omega
          clear hmid h2 h32
          rcases hm with hm | ⟨hm, hm2⟩
          · have hmn : ¬ 36 ≤ op := by omega
            obtain ⟨u, hu⟩ : ∃ u, (op == 35) = u := ⟨_, rfl⟩
            have HW := Lib.hid (HTN.out u hu)
            cases T
            · have HW2 : Hid (Value.bool u = Value.bool ((m.exprs.take (k + 1)).any timeB)) := Lib.hid (by rw [HW.out]; rfl)
              go_wp2_with fail
              go_roundw
              case rel => exact ⟨k + 1, by go_num, by omega, HW2.out, HZ, HX4⟩
              case measure => simp [intOf]; omega
            · have HW2 : Hid (Value.bool true = Value.bool ((m.exprs.take (k + 1)).any timeB)) := Lib.hid (by rw [HW.out]; rfl)
              go_wp2_with fail
              go_roundw
              case rel => exact ⟨k + 1, by go_num, by omega, HW2.out, HZ, HX4⟩
              case measure => simp [intOf]; omega
          · have hmn : ¬ op ≤ 38 := by omega
            have b35 : (op == 35) = false := by rw [beq_eq_false_iff_ne]; omega
            have HW := Lib.hid (HTN.out false b35)
            cases T
            · have HW2 : Hid (Value.bool false = Value.bool ((m.exprs.take (k + 1)).any timeB)) := Lib.hid (by rw [HW.out]; rfl)
              go_wp2_with fail
              go_roundw
              case rel => exact ⟨k + 1, by go_num, by omega, HW2.out, HZ, HX4⟩
              case measure => simp [intOf]; omega
            · have HW2 : Hid (Value.bool true = Value.bool ((m.exprs.take (k + 1)).any timeB)) := Lib.hid (by rw [HW.out]; rfl)
              go_wp2_with fail
              go_roundw
              case rel => exact ⟨k + 1, by go_num, by omega, HW2.out, HZ, HX4⟩
              case measure => simp [intOf]; omega
        · have hlti : ¬ (k : Int) < m.exprs.length := by omega
          have hke : k = m.exprs.length := by omega
          have HXS : Hid (m.exprs.all okX = true) := Lib.hid (all_of fun j hj => HJ.out j hj (by omega))
          have HY4 : Hid (admE m = if (!(m.procs.any atomB && T)) = true then 0 else 44) := Lib.hid (by
            have h1 := HT.out
            rw [hke, List.take_length] at h1
            rw [HY3.out, HXS.out, h1, Bool.true_and])
          clear hke HJ HBADX HT
          go_wp2_with fail
          clear c6
          have HX0 := HX
          clear HX
          go_loopw [8] (fun iv W => ∃ k : Nat, iv = .int .i64 k ∧ k ≤ m.procs.length ∧ Hid (∀ j (hj : j < m.procs.length), j < k → (T && atomB m.procs[j]) = false) ∧ Hid (Mx w w.heap.size CS h m W)) (fun iv _ => m.procs.length - (intOf iv).toNat)
          case atStart => exact ⟨0, rfl, by omega, Lib.hid fun j _ h => by omega, HX0⟩
          case round =>
            clear HX0
            obtain ⟨k, rfl, hk, HJ, HX⟩ := hrel
            have hk0 : (0 : Int) ≤ k := by omega
            have c4 := HX.out.c4
            by_cases hlt : k < m.procs.length
            · have hlti : (k : Int) < m.procs.length := by omega
              obtain ⟨g, off, ho, hg, hat⟩ := HX.out.md.procs.cell hlt
              obtain ⟨p, hp⟩ : ∃ p, m.procs[k] = p := ⟨_, rfl⟩
              rw [hp] at hat
              obtain ⟨lo, lc, d4, hrl⟩ := hat.locs
              have HRL := Lib.hid hrl
              have ll := hrl.1
              have HBP : Hid ((T && atomB p) = true → admE m = 44) := Lib.hid fun h => by
                simp only [Bool.and_eq_true] at h
                rw [HY4.out, show m.procs.any atomB = true by rw [List.any_eq_true]; exact ⟨p, by rw [← hp]; exact List.getElem_mem hlt, h.2⟩, h.1]; rfl
              have HGO : Hid ((T && atomB p) = false → ∀ j (hj : j < m.procs.length), j < k + 1 → (T && atomB m.procs[j]) = false) := Lib.hid fun h j hj hjk => by
                by_cases e : j = k
                · subst e; rw [hp]; exact h
                · exact HJ.out j hj (by omega)
              rw [ho] at c4
              clear ho hg hat hp hrl HJ
              go_wp2_with fail
              go_loopw [9] (fun jv W => ∃ q : Nat, jv = .int .i64 q ∧ q ≤ p.locs.length ∧ Hid (∀ j (hj : j < p.locs.length), j < q → (T && p.locs[j].atomic) = false) ∧ wr = W) (fun jv _ => p.locs.length - (intOf jv).toNat)
              case atStart => exact ⟨0, rfl, by omega, Lib.hid fun j _ h => by omega, rfl⟩
              case round =>
                obtain ⟨q, rfl, hq, HJ2, hww⟩ := hrel
                subst hww
                have hq0 : (0 : Int) ≤ q := by omega
                by_cases hlq : q < p.locs.length
                · have hlqi : (q : Int) < p.locs.length := by omega
                  obtain ⟨gl, offl, hlo, hgl, hl⟩ := HRL.out.cell hlq
                  obtain ⟨l, hpl⟩ : ∃ l, p.locs[q] = l := ⟨_, rfl⟩
                  rw [hpl] at hl
                  have a2 := hl.c2
                  have HB2 : Hid ((T && l.atomic) = true → (T && atomB p) = true) := Lib.hid fun h => by
                    simp only [Bool.and_eq_true] at h ⊢
                    exact ⟨h.1, by unfold atomB; rw [List.any_eq_true]; exact ⟨l, by rw [← hpl]; exact List.getElem_mem hlq, h.2⟩⟩
                  have HG2 : Hid ((T && l.atomic) = false → ∀ j (hj : j < p.locs.length), j < q + 1 → (T && p.locs[j].atomic) = false) := Lib.hid fun h j hj hjk => by
                    by_cases e : j = q
                    · subst e; rw [hpl]; exact h
                    · exact HJ2.out j hj (by omega)
                  have d4' := d4
                  rw [hlo] at d4'
                  obtain ⟨la, hla⟩ : ∃ u, l.atomic = u := ⟨_, rfl⟩
                  rw [hla] at a2 HB2 HG2
                  have D4 := Lib.hid d4
                  clear hlo hgl hl hpl hla HJ2 d4
                  cases T
                  · have HZ := Lib.hid (HG2.out rfl)
                    go_wp2_with fail
                    go_roundw
                    case rel => exact ⟨q + 1, by go_num, by omega, HZ, by first | trivial | rfl⟩
                    case measure => simp [intOf]; omega
                  cases la
                  · have HZ := Lib.hid (HG2.out rfl)
                    go_wp2_with fail
                    go_roundw
                    case rel => exact ⟨q + 1, by go_num, by omega, HZ, by first | trivial | rfl⟩
                    case measure => simp [intOf]; omega
                  · have HZ := Lib.hid (HBP.out (HB2.out rfl))
                    go_wp2_with fail
                    go_ret
                    exact ⟨retI HZ.out.symm, HX.out.bx.bel⟩
                · have hlqi : ¬ (q : Int) < p.locs.length := by omega
                  have HZ := Lib.hid (HGO.out (by
                    cases T
                    · rfl
                    · rw [Bool.true_and]
                      unfold atomB
                      rw [List.any_eq_false]
                      intro l hl
                      obtain ⟨j, hj, rfl⟩ := List.mem_iff_getElem.1 hl
                      have := HJ2.out j hj (by omega)
                      rw [Bool.true_and] at this
                      rw [this]
                      decide))
                  go_wp2_with fail
                  go_roundw
                  case rel => exact ⟨k + 1, by go_num, by omega, HZ, HX⟩
                  case measure => simp [intOf]; omega
            · have hlti : ¬ (k : Int) < m.procs.length := by omega
              have HZ : Hid (admE m = 0) := Lib.hid (by
                rw [HY4.out, if_pos]
                rw [Bool.not_eq_true', Bool.and_eq_false_iff]
                cases T
                · exact .inr rfl
                · left
                  rw [List.any_eq_false]
                  intro p hp
                  obtain ⟨j, hj, rfl⟩ := List.mem_iff_getElem.1 hp
                  have := HJ.out j hj (by omega)
                  rw [Bool.true_and] at this
                  rw [this]
                  decide)
              go_wp2_with fail
              go_ret
              exact ⟨retI HZ.out.symm, HX.out.bx.bel⟩
end Go.Proofs.Ytofdfaopabmfoaa
/- A model that came in: no row of numbers is too long for a machine. -/
namespace Go.Proofs.Ytofdfaopabmfoaa
open Go.ChangeShapes Go.WideShapes Go.ChangeAt Go.RowKit
set_option linter.unusedVariables false
variable {H : Type} {enc : TypeId × Value → H} {W : World} {base : Nat} {sp : Nat → Bool} {hd : Bool} {fuel : Nat}

theorem row_both {α : Type} {B : Nat} {o : Option Addr} {k : Nat} {R : Nat → Nat → α → Prop} {P : α → Prop} {l : List α} (h : Row B o k (fun g a x => R g a x ∧ P x) l) : Row B o k R l ∧ ∀ x ∈ l, P x := by
  refine ⟨h.mono fun _ _ _ _ h => h.1, fun x hx => ?_⟩
  obtain ⟨i, hi, rfl⟩ := List.mem_iff_getElem.1 hx
  obtain ⟨g, off, -, -, h2⟩ := h.cell hi
  exact h2.2
theorem opens_sliP {α : Type} {R : Nat → Nat → α → Prop} {P : α → Prop} {t e : TypeId} {kk bb : Nat} (ht : Try.prog.underlying t = some (.slice e)) (hk : Try.prog.cellsOf e = kk) (hk1 : 0 < kk) (hbb : Try.prog.bytesOf e = bb) (hb1 : 0 < bb) (he : Opens enc W base sp hd e (fun g a x => R g a x ∧ P x)) :
    Opens enc W base sp hd t (fun g a (l : List α) => Sli W.heap.size W g a kk R l ∧ ∀ x ∈ l, P x) := by
  intro g off h
  obtain ⟨l, o, c, h1, h2⟩ := opens_sli ht hk hk1 hbb hb1 he g off h
  exact ⟨l, ⟨o, c, h1, (row_both h2).1⟩, (row_both h2).2⟩
set_option maxRecDepth 100000 in
theorem opens_intsB : Opens enc W base sp hd 25 (fun g a (l : List Int) => Sli W.heap.size W g a 1 (intAt W) l ∧ l.length ≤ 17592186044416) := by
  rintro g off ⟨m, ds, y, hl, h, hw⟩
  obtain ⟨o, n, c, hcs, hnb, -⟩ := open_rowS Try.underlying25 c_int.1 (by decide) c_int.2 h hw
  obtain ⟨o', l, c', hcs', hr⟩ := open_sli Try.underlying25 c_int.1 (by decide) c_int.2 (by decide) (opens_int Try.underlying3) h hw
  have hn : n = l.length := by
    rw [hcs] at hcs'
    injection hcs' with e
    injection e
  subst hcs'
  have h2 : reachBytes = 140737488351232 := rfl
  exact ⟨l, ⟨o', c', hl 0 (by simp), hr⟩, by omega⟩
theorem opens_exprB : Opens enc W base sp hd 57 (fun g a x => exprAt W.heap.size W g a x ∧ x.args.length ≤ 17592186044416) := by
  intro g off h
  have P := open_parts Try.underlying57 h
  obtain ⟨x0, h0⟩ := opens_int Try.underlying3 _ _ (P 0 _ rfl)
  obtain ⟨x1, h1⟩ := opens_int Try.underlying2 _ _ (P 1 _ rfl)
  obtain ⟨x2, h2⟩ := opens_int Try.underlying3 _ _ (P 2 _ rfl)
  obtain ⟨x3, h3⟩ := opens_int Try.underlying3 _ _ (P 3 _ rfl)
  obtain ⟨x4, h4⟩ := opens_int Try.underlying3 _ _ (P 4 _ rfl)
  obtain ⟨x5, h5⟩ := opens_var _ _ (P 5 _ rfl)
  obtain ⟨x6, h6, hb⟩ := opens_intsB _ _ (P 6 _ rfl)
  obtain ⟨x7, h7⟩ := opens_ints _ _ (P 7 _ rfl)
  exact ⟨⟨x0, x1, x2, x3, x4, x5, x6, x7⟩, ⟨h0, h1, h2, h3, h4, h5, h6, h7⟩, hb⟩
theorem opens_stmtB : Opens enc W base sp hd 61 (fun g a s => stmtAt W.heap.size W g a s ∧ s.args.length ≤ 17592186044416) := by
  intro g off h
  have P := open_parts Try.underlying61 h
  obtain ⟨x0, h0⟩ := opens_int Try.underlying3 _ _ (P 0 _ rfl)
  obtain ⟨x1, h1⟩ := opens_int Try.underlying3 _ _ (P 1 _ rfl)
  obtain ⟨x2, h2⟩ := opens_int Try.underlying3 _ _ (P 2 _ rfl)
  obtain ⟨x3, h3⟩ := opens_int Try.underlying3 _ _ (P 3 _ rfl)
  obtain ⟨x4, h4, hb⟩ := opens_intsB _ _ (P 4 _ rfl)
  obtain ⟨x5, h5⟩ := opens_ints _ _ (P 5 _ rfl)
  obtain ⟨x6, h6⟩ := opens_str Try.underlying9 _ _ (P 6 _ rfl)
  exact ⟨⟨x0, x1, x2, x3, x4, x5, x6⟩, ⟨h0, h1, h2, h3, h4, h5, h6⟩, hb⟩
def TrB (t : TransD) : Prop := t.s.args.length ≤ 17592186044416
theorem opens_transB : Opens enc W base sp hd 63 (fun g a t => transAt W.heap.size W g a t ∧ TrB t) := by
  intro g off h
  have P := open_parts Try.underlying63 h
  obtain ⟨x0, h0, hb⟩ := opens_stmtB _ _ (P 0 _ rfl)
  obtain ⟨x1, h1⟩ := opens_int Try.underlying3 _ _ (P 1 _ rfl)
  obtain ⟨x2, h2⟩ := opens_int Try.underlying3 _ _ (P 2 _ rfl)
  exact ⟨⟨x0, x1, x2⟩, ⟨h0, h1, h2⟩, hb⟩
theorem opens_transsB : Opens enc W base sp hd 64 (fun g a (l : List TransD) => Sli W.heap.size W g a 9 (transAt W.heap.size W) l ∧ ∀ t ∈ l, TrB t) := opens_sliP Try.underlying64 (by kernel_rfl) (by decide) (bb := 112) (by kernel_rfl) (by decide) opens_transB
def LcB (l : LocD) : Prop := ∀ t ∈ l.out, TrB t
theorem opens_locB : Opens enc W base sp hd 67 (fun g a l => locAt W.heap.size W g a l ∧ LcB l) := by
  intro g off h
  have P := open_parts Try.underlying67 h
  obtain ⟨x0, h0, hb⟩ := opens_transsB _ _ (P 0 _ rfl)
  obtain ⟨x1, h1⟩ := opens_escs _ _ (P 1 _ rfl)
  obtain ⟨x2, h2⟩ := opens_bool Try.underlying4 _ _ (P 2 _ rfl)
  obtain ⟨x3, h3⟩ := opens_bool Try.underlying4 _ _ (P 3 _ rfl)
  obtain ⟨x4, h4⟩ := opens_bool Try.underlying4 _ _ (P 4 _ rfl)
  obtain ⟨x5, h5⟩ := opens_bool Try.underlying4 _ _ (P 5 _ rfl)
  obtain ⟨x6, h6⟩ := opens_bool Try.underlying4 _ _ (P 6 _ rfl)
  exact ⟨⟨x0, x1, x2, x3, x4, x5, x6⟩, ⟨h0, h1, h2, h3, h4, h5, h6⟩, hb⟩
theorem opens_locsB : Opens enc W base sp hd 38 (fun g a (l : List LocD) => Sli W.heap.size W g a 7 (locAt W.heap.size W) l ∧ ∀ x ∈ l, LcB x) := opens_sliP Try.underlying38 (by kernel_rfl) (by decide) (bb := 56) (by kernel_rfl) (by decide) opens_locB
def PrB (p : ProcD) : Prop := ∀ l ∈ p.locs, LcB l
set_option maxRecDepth 100000 in
theorem opens_procB : Opens enc W base sp hd 40 (fun g a p => procAt W.heap.size W g a p ∧ PrB p) := by
  intro g off h
  have P := open_parts Try.underlying40 h
  obtain ⟨x0, h0⟩ := opens_str Try.underlying9 _ _ (P 0 _ rfl)
  obtain ⟨x1, h1⟩ := opens_int Try.underlying3 _ _ (P 1 _ rfl)
  obtain ⟨x2, h2⟩ := opens_tys _ _ (P 2 _ rfl)
  obtain ⟨x3, h3⟩ := opens_int64s _ _ (P 3 _ rfl)
  obtain ⟨x4, h4, hb⟩ := opens_locsB _ _ (P 4 _ rfl)
  obtain ⟨x5, h5⟩ := opens_int Try.underlying3 _ _ (P 5 _ rfl)
  obtain ⟨x6, h6⟩ := opens_int Try.underlying3 _ _ (P 6 _ rfl)
  obtain ⟨x7, h7⟩ := opens_int Try.underlying3 _ _ (P 7 _ rfl)
  obtain ⟨x8, h8⟩ := opens_int Try.underlying3 _ _ (P 8 _ rfl)
  obtain ⟨x9, h9⟩ := opens_int Try.underlying3 _ _ (P 9 _ rfl)
  exact ⟨⟨x0, x1, x2, x3, x4, x5, x6, x7, x8, x9⟩, ⟨h0, h1, h2, h3, h4, h5, h6, h7, h8, h9⟩, hb⟩
set_option maxRecDepth 100000 in
/-- A model, by value. -/
theorem open_modelB {v : Value} {r : Reach} {b0 : Nat} {d : DataW H} {p : List MemPlace} (hv : Value.okWide Try.prog W r b0 29 v) (h : DataW.Trod enc Try.prog W base sp hd 29 v d p) (hw : Fits 29 d) : ∃ h m, v = mV h m ∧ MD W.heap.size W h m ∧ ArgsB m ∧ SArgsB m := by
  obtain ⟨cs, rfl, hsz⟩ := okWide_struct Try.underlying29 hv
  obtain ⟨l⟩ := cs
  have hC : Try.prog.cellsOf 29 = 7 := by kernel_rfl
  have hl : l.length = 7 := hsz.trans hC
  obtain ⟨fu, hf⟩ := h
  have P := open_fits Try.underlying29 hf hw
  obtain ⟨n0, y0, p0, w0⟩ := P 0 _ rfl
  obtain ⟨n1, y1, p1, w1⟩ := P 1 _ rfl
  obtain ⟨n2, y2, p2, w2⟩ := P 2 _ rfl
  obtain ⟨n3, y3, p3, w3⟩ := P 3 _ rfl
  obtain ⟨n4, y4, p4, w4⟩ := P 4 _ rfl
  obtain ⟨n5, y5, p5, w5⟩ := P 5 _ rfl
  obtain ⟨n6, y6, p6, w6⟩ := P 6 _ rfl
  clear P
  obtain ⟨o0, l0, c0, e0, r0⟩ := open_sli Try.underlying22 (kk := 2) (by kernel_rfl) (by decide) (bb := 16) (by kernel_rfl) (by decide) opens_ty p0 w0
  obtain ⟨o1, l1, c1, e1, r1⟩ := open_sli Try.underlying23 c_int64.1 (by decide) c_int64.2 (by decide) (opens_int Try.underlying2) p1 w1
  obtain ⟨o2, l2, c2, e2, r2⟩ := open_sli Try.underlying24 (kk := 2) (by kernel_rfl) (by decide) (bb := 32) (by kernel_rfl) (by decide) opens_shape p2 w2
  obtain ⟨o3, l3, c3, e3, r3⟩ := open_sli Try.underlying25 c_int.1 (by decide) c_int.2 (by decide) (opens_int Try.underlying3) p3 w3
  obtain ⟨o4, l4, c4, e4, r4⟩ := open_sli Try.underlying26 (kk := 10) (by kernel_rfl) (by decide) (bb := 136) (by kernel_rfl) (by decide) opens_procB p4 w4
  obtain ⟨v5, e5, _, _⟩ := DataW.trod_int Try.underlying3 p5
  obtain ⟨o6, l6, c6, e6, r6⟩ := open_sli Try.underlying27 (kk := 12) (by kernel_rfl) (by decide) (bb := 144) (by kernel_rfl) (by decide) opens_exprB p6 w6
  have f0 := (one_cs (l := l) (o := 0) (by omega) (by kernel_rfl)).symm.trans e0
  have f1 := (one_cs (l := l) (o := 1) (by omega) (by kernel_rfl)).symm.trans e1
  have f2 := (one_cs (l := l) (o := 2) (by omega) (by kernel_rfl)).symm.trans e2
  have f3 := (one_cs (l := l) (o := 3) (by omega) (by kernel_rfl)).symm.trans e3
  have f4 := (one_cs (l := l) (o := 4) (by omega) (by kernel_rfl)).symm.trans e4
  have f5 := (one_cs (l := l) (o := 5) (by omega) (by kernel_rfl)).symm.trans e5
  have f6 := (one_cs (l := l) (o := 6) (by omega) (by kernel_rfl)).symm.trans e6
  clear e0 e1 e2 e3 e4 e5 e6 p0 p1 p2 p3 p4 p5 p6 w0 w1 w2 w3 w4 w5 w6 hf hw hsz hv
  obtain ⟨a0, a1, a2, a3, a4, a5, a6, rfl⟩ := seven_of hl
  simp only [List.getElem_cons_zero, List.getElem_cons_succ, List.cons.injEq, and_true] at f0 f1 f2 f3 f4 f5 f6
  subst f0 f1 f2 f3 f4 f5 f6
  exact ⟨⟨o0, c0, o1, c1, o2, c2, o3, c3, o4, c4, o6, c6⟩, ⟨l0, l1, l2, l3, l4, v5, l6⟩, rfl, ⟨r0, r1, r2, r3, (row_both r4).1, (row_both r6).1⟩, fun x hx => (row_both r6).2 x hx, fun p hp l hl t ht => (row_both r4).2 p hp l hl t ht⟩
end Go.Proofs.Ytofdfaopabmfoaa
