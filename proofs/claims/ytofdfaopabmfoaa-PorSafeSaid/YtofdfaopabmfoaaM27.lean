/- Which models may be searched reduced, every model: the program's answer. -/
import Derived.Test.YtofdfaopabmfoaaM04
import Derived.Test.YtofdfaopabmfoaaM20
import Derived.Test.YtofdfaopabmfoaaM26
import Derived.BigQuiet
namespace Go.Proofs.Ytofdfaopabmfoaa
open Go.ChangeShapes Go.WideShapes Go.ChangeAt Go.RowKit
set_option linter.unusedVariables false
set_option linter.unusedSimpArgs false

theorem check_kind (m : ModelD) : (checkL m).1 = 40 ∨ (checkL m).1 = 0 := by
  unfold checkL
  repeat' split
  all_goals first | exact .inl rfl | exact .inr rfl
theorem adm_no {m : ModelD} (h : (checkL m).1 ≠ 0) : (checkL m).1 = admE m := by
  have h1 : (checkL m).1 = 40 := by
    rcases check_kind m with h2 | h2
    · exact h2
    · exact absurd h2 h
  have h2 : goodB m = false := by unfold goodB; exact decide_eq_false h
  unfold admE
  rw [h1, h2]
  rfl
theorem adm_yes {m : ModelD} (h : (checkL m).1 = 0) : admE m = if admB m = true then 0 else 44 := by
  have h2 : goodB m = true := by unfold goodB; exact decide_eq_true h
  unfold admE
  rw [h2]
  rfl
theorem any_take {α : Type} {p : α → Bool} {l : List α} {k : Nat} {x : α} (h : l[k]? = some x) : (l.take (k + 1)).any p = ((l.take k).any p || p x) := by
  obtain ⟨hk, rfl⟩ := List.getElem?_eq_some_iff.1 h
  rw [List.take_succ_eq_append_getElem hk, List.any_append]
  simp
/-- A row of at least one. -/
theorem Row.every {α : Type} {B : Nat} {o : Option Addr} {k : Nat} {R : Nat → Nat → α → Prop} {l : List α} (h : Row B o k R l) (h0 : 0 < l.length) : ∃ g off, o = some ⟨g, off, none⟩ ∧ g < B ∧ ∀ i (hi : i < l.length), R g (off + i * k) l[i] := by
  rcases h.2 with h1 | h1
  · omega
  · exact h1

set_option maxRecDepth 100000 in
set_option maxHeartbeats 4000000 in
theorem admitsC {h : MH} {m : ModelD} (w : World) (hd : MD w.heap.size w h m) : Calls Try.prog 6 #[mV h m] w fun e w' => e = .returned (.int .i64 (admE m)) ∧ Below w.heap.size w w' := by
  obtain ⟨CS, hCS⟩ : ∃ c, c = mCells h m := ⟨_, rfl⟩
  have HX := Lib.hid (Mx.new hd hCS)
  have HCK := Lib.hid (fun (W : World) (hd : MD W.heap.size W h m) => checkC W (Nat.le_refl _) hd)
  have l4 := hd.procs.1
  have l6 := hd.exprs.1
  unfold mV at HCK ⊢
  rw [← hCS] at HCK ⊢
  clear hd hCS
  go_enter Try.func6, Try.ntmps6
  go_upto_region 1 with fail
  generalize w.alloc (.cells CS 29) = W1 at HX ⊢
  go_wp2_with (refine wpList_load_row rfl _ _ rfl _ rfl _ CS _ _ HX.out.bx.box Try.underlying29 rfl HX.out.info ?_)
  refine (HCK.out W1 HX.out.here).mono ?_
  rintro e W2 ⟨rfl, hb2⟩
  have HX2 := Lib.hid (HX.out.below hb2)
  clear hb2 HX HCK
  have HNO := Lib.hid (adm_no (m := m))
  have HYES := Lib.hid (adm_yes (m := m))
  have HGM := Lib.hid (fun (h : (checkL m).1 = 0) => GM.of (m := m) (by unfold goodB; exact decide_eq_true h))
  obtain ⟨r1, r2, r3, hr⟩ : ∃ r1 r2 r3, checkL m = (r1, r2, r3) := ⟨_, _, _, rfl⟩
  rw [hr] at HNO HYES HGM ⊢
  clear hr
  simp only at HNO HYES HGM ⊢
  by_cases h0 : r1 = 0
  rotate_left
  · have HZ := Lib.hid (HNO.out h0)
    have hb : (r1 != 0) = true := by rw [bne_iff_ne]; exact h0
    clear h0
    go_wp2_with fail
    go_ret
    exact ⟨retI HZ.out, HX2.out.bx.bel⟩
  have HY := Lib.hid (HYES.out h0)
  have HG := Lib.hid (HGM.out h0)
  have hb : (r1 != 0) = false := by rw [bne_eq_false_iff_eq]; exact h0
  clear h0 HNO HYES HGM
  have c5 := HX2.out.c5
  by_cases hcl : 0 ≤ m.claim
  · have HZ : Hid (admE m = 44) := Lib.hid (by rw [HY.out]; unfold admB; rw [decide_eq_false (by omega)]; rfl)
    go_wp2_with fail
    go_ret
    exact ⟨retI HZ.out.symm, HX2.out.bx.bel⟩
  have HY2 : Hid (admE m = if (m.procs.all (prioB m) && m.exprs.all okX && !(m.procs.any atomB && m.exprs.any timeB)) = true then 0 else 44) := Lib.hid (by rw [HY.out]; unfold admB; rw [decide_eq_true (by omega), Bool.true_and])
  have HBADP : Hid (∀ p ∈ m.procs, prioB m p = false → admE m = 44) := Lib.hid fun p hp h => by
    rw [HY2.out, show m.procs.all (prioB m) = false by rw [List.all_eq_false]; exact ⟨p, hp, by rw [h]; decide⟩]; rfl
  have hclb : ¬ 0 ≤ m.claim := hcl
  clear HY
  have c4 := HX2.out.c4
  have hlen := HG.out.least
  go_wp2_with fail
  clear c4 c5
  have HAT0 : Hid (((m.procs.take 0).any atomB) = false) := Lib.hid rfl
  go_loopw [6, 28] (fun av iv W => ∃ k : Nat, iv = .int .i64 k ∧ k ≤ m.procs.length ∧ av = .bool ((m.procs.take k).any atomB) ∧ Hid (∀ j (hj : j < m.procs.length), j < k → prioB m m.procs[j] = true) ∧ Hid (Mx w w.heap.size CS h m W)) (fun av iv _ => m.procs.length - (intOf iv).toNat)
  case atStart => exact ⟨0, rfl, by omega, rfl, Lib.hid fun j _ h => by omega, HX2⟩
  case round =>
    clear HX2
    obtain ⟨k, rfl, hk, rfl, HJ, HX⟩ := hrel
    have hk0 : (0 : Int) ≤ k := by omega
    by_cases hlt : k < m.procs.length
    · have hlti : (k : Int) < m.procs.length := by omega
      have c4 := HX.out.c4
      obtain ⟨g, off, ho, hg, hall⟩ := HX.out.md.procs.every (by omega)
      have hat0 := hall 0 (by omega)
      have hatk := hall k hlt
      obtain ⟨p, hp⟩ : ∃ p, m.procs[k] = p := ⟨_, rfl⟩
      have HPK : Hid (m.procs[k]? = some p) := Lib.hid (by rw [List.getElem?_eq_getElem hlt, hp])
      rw [hp] at hatk
      have z8 := hat0.c8
      obtain ⟨fo, fc, io, ic, lo, lc, hpc, -, -, hr3⟩ := hatk.pcH
      have HR3 := Lib.hid hr3
      have e0 := hpc.c0
      have e1 := hpc.c1
      have e2 := hpc.c2
      have e3 := hpc.c3
      have e4 := hpc.c4
      have e5 := hpc.c5
      have e6 := hpc.c6
      have e7 := hpc.c7
      have e8 := hpc.c8
      have e9 := hpc.c9
      rw [show off + 0 * 10 = off by omega] at z8
      obtain ⟨q0, hq0⟩ : ∃ q, m.procs[0].prio = q := ⟨_, rfl⟩
      have HQ0 : Hid (prio0 m = q0) := Lib.hid (by unfold prio0; rw [List.getElem?_eq_getElem hlen]; exact hq0)
      rw [hq0] at z8
      have HBP : Hid (prioB m p = false → admE m = 44) := Lib.hid fun h => HBADP.out p (by rw [← hp]; exact List.getElem_mem hlt) h
      rw [ho] at c4
      have HS : Hid (∀ n : Nat, Value.slice h.po n h.pc = Value.slice (some ⟨g, off, none⟩) n h.pc) := Lib.hid fun n => by rw [ho]
      rw [HS.out]
      have HGW : Hid (g < wr.heap.size) := Lib.hid (by have := HX.out.bx.bel.size; omega)
      have HZ8 := Lib.hid z8
      clear ho hall hat0 hatk hpc hr3 hp hq0 hg z8
      go_wp2_with fail
      have HPB : Hid (Bq wr wr.heap.size #[.string p.name, .int .i64 p.params, .slice fo p.frame.length fc, .slice io p.init.length ic, .slice lo p.locs.length lc, .int .i64 p.start, .int .i64 p.final, .int .i64 p.active, .int .i64 p.prio, .int .i64 p.provided] 40 (wr.alloc (.cells #[.string p.name, .int .i64 p.params, .slice fo p.frame.length fc, .slice io p.init.length ic, .slice lo p.locs.length lc, .int .i64 p.start, .int .i64 p.final, .int .i64 p.active, .int .i64 p.prio, .int .i64 p.provided] 40))) := Lib.hid (Bq.new (Below.refl _ _) _ _)
      generalize wr.alloc (.cells #[.string p.name, .int .i64 p.params, .slice fo p.frame.length fc, .slice io p.init.length ic, .slice lo p.locs.length lc, .int .i64 p.start, .int .i64 p.final, .int .i64 p.active, .int .i64 p.prio, .int .i64 p.provided] 40) = W4 at HPB ⊢
      have HX4 := Lib.hid (HX.out.below HPB.out.bel)
      have z8 : W4.cell? ⟨g, off + 8, none⟩ = some (.int .i64 q0) := (HPB.out.bel.cell (p := ⟨g, off + 8, none⟩) HGW.out).trans HZ8.out
      have f8 : W4.cell? ⟨wr.heap.size, 8, none⟩ = some (.int .i64 p.prio) := HPB.out.cell rfl
      clear e0 e1 e2 e3 e4 e5 e6 e7 e8 e9
      have d4 : W4.cell? ⟨w.heap.size, 4, none⟩ = some (.slice (some ⟨g, off, none⟩) m.procs.length h.pc) := by rw [← c4]; exact HPB.out.bel.cell (p := ⟨w.heap.size, 4, none⟩) (lt_of_block HX.out.bx.box)
      clear c4
      by_cases hpr : p.prio = q0
      rotate_left
      · have hpb : (p.prio != q0) = true := by rw [bne_iff_ne]; exact hpr
        have HZ := Lib.hid (HBP.out (by unfold prioB; rw [HQ0.out]; exact decide_eq_false hpr))
        clear hpr
        go_quiet (fail)
        go_wp2_with fail
        go_ret
        exact ⟨retI HZ.out.symm, bdrew HX4.out.bx.bel _⟩
      have hpb : (p.prio != q0) = false := by rw [bne_eq_false_iff_eq]; exact hpr
      have HZ : Hid (prioB m p = true) := Lib.hid (by unfold prioB; rw [HQ0.out]; exact decide_eq_true hpr)
      clear hpr
      go_quiet (fail)
      have HX5 := Lib.hid (HX4.out.below (bdrew (Below.refl _ W4) nq))
      have HPB5 := Lib.hid (HPB.out.below (bdrew (Below.refl _ W4) nq)).box
      have HB45 : Hid (Below wr.heap.size wr (W4.drewN nq)) := Lib.hid (bdrew HPB.out.bel nq)
      generalize W4.drewN nq = W5 at HX5 HPB5 HB45 ⊢
      have HR5 : Hid (Row w.heap.size lo 7 (locAt w.heap.size W5) p.locs) := Lib.hid (HR3.out.mono fun _ _ _ hg => locAt.below (HB45.out.mono HX.out.bx.bel.size) hg)
      clear z8 f8 d4 HPB HX HX4
      generalize wr.heap.size = pb at HPB5 HGW ⊢
      have f4 : W5.cell? ⟨pb, 4, none⟩ = some (.slice lo p.locs.length lc) := (cell_of_row _ _ _ _ _ _ HPB5.out).trans rfl
      have ll := HR3.out.1
      obtain ⟨A0, hA0⟩ : ∃ a, (m.procs.take k).any atomB = a := ⟨_, rfl⟩
      rw [hA0]
      have HA0 := Lib.hid hA0
      clear hA0
      go_wp2_with fail
      clear f4
      go_loopw [6, 43] (fun av iv W => ∃ q : Nat, iv = .int .i64 q ∧ q ≤ p.locs.length ∧ av = .bool (A0 || (p.locs.take q).any (·.atomic)) ∧ Hid (Mx w w.heap.size CS h m W) ∧ Hid (W.heap[pb]? = some (.cells #[.string p.name, .int .i64 p.params, .slice fo p.frame.length fc, .slice io p.init.length ic, .slice lo p.locs.length lc, .int .i64 p.start, .int .i64 p.final, .int .i64 p.active, .int .i64 p.prio, .int .i64 p.provided] 40 (0, 0))) ∧ Hid (Row w.heap.size lo 7 (locAt w.heap.size W) p.locs)) (fun av iv _ => p.locs.length - (intOf iv).toNat)
      case atStart => exact ⟨0, rfl, by omega, by simp, HX5, HPB5, HR5⟩
      case round =>
        clear HX5 HPB5 HR5
        obtain ⟨q, rfl, hq, rfl, HX6, HPB6, HR6⟩ := hrel
        have hq0 : (0 : Int) ≤ q := by omega
        have f4 : wr.cell? ⟨pb, 4, none⟩ = some (.slice lo p.locs.length lc) := (cell_of_row _ _ _ _ _ _ HPB6.out).trans rfl
        by_cases hlq : q < p.locs.length
        · have hlqi : (q : Int) < p.locs.length := by omega
          obtain ⟨gl, offl, hlo, hgl, hl⟩ := HR6.out.cell hlq
          obtain ⟨l, hpl⟩ : ∃ l, p.locs[q] = l := ⟨_, rfl⟩
          rw [hpl] at hl
          have l2 := hl.c2
          have HN : Hid ((p.locs.take (q + 1)).any (·.atomic) = ((p.locs.take q).any (·.atomic) || l.atomic)) := Lib.hid (any_take (by rw [List.getElem?_eq_getElem hlq, hpl]))
          obtain ⟨u, hu⟩ : ∃ u, (A0 || (p.locs.take q).any (·.atomic)) = u := ⟨_, rfl⟩
          rw [hu]
          have HU := Lib.hid hu
          have HLO := Lib.hid hlo
          rw [hlo] at f4
          have HS : Hid (∀ n : Nat, Value.slice lo n lc = Value.slice (some ⟨gl, offl, none⟩) n lc) := Lib.hid fun n => by rw [HLO.out]
          clear hlo hl hpl hu hgl
          obtain ⟨la, hla⟩ : ∃ u, l.atomic = u := ⟨_, rfl⟩
          rw [hla] at l2 HN
          clear hla
          cases u
          · have HW : Hid (Value.bool la = Value.bool (A0 || (p.locs.take (q + 1)).any (·.atomic))) := Lib.hid (by rw [HN.out, ← Bool.or_assoc, HU.out]; rfl)
            go_wp2_with fail
            go_roundw
            case rel => exact ⟨q + 1, by go_num, by omega, HW.out, HX6, HPB6, HR6⟩
            case measure => simp [intOf]; omega
          · have HW : Hid (Value.bool true = Value.bool (A0 || (p.locs.take (q + 1)).any (·.atomic))) := Lib.hid (by rw [HN.out, ← Bool.or_assoc, HU.out]; rfl)
            go_wp2_with fail
            go_roundw
            case rel => exact ⟨q + 1, by go_num, by omega, HW.out, HX6, HPB6, HR6⟩
            case measure => simp [intOf]; omega
        · have hlqi : ¬ (q : Int) < p.locs.length := by omega
          obtain rfl : q = p.locs.length := by omega
          have HW : Hid (Value.bool (A0 || (p.locs.take p.locs.length).any (·.atomic)) = Value.bool ((m.procs.take (k + 1)).any atomB)) := Lib.hid (by rw [any_take HPK.out, HA0.out, List.take_length]; rfl)
          have HJ2 : Hid (∀ j (hj : j < m.procs.length), j < k + 1 → prioB m m.procs[j] = true) := Lib.hid fun j hj hjk => by
            by_cases e : j = k
            · subst e
              have h1 := HPK.out
              rw [List.getElem?_eq_getElem hj] at h1
              injection h1 with h1
              rw [h1]; exact HZ.out
            · exact HJ.out j hj (by omega)
          rw [HW.out]
          go_wp2_with fail
          go_roundw
          case rel => exact ⟨k + 1, by go_num, by omega, rfl, HJ2, HX6⟩
          case measure => simp [intOf]; omega
    · have hlti : ¬ (k : Int) < m.procs.length := by omega
      obtain rfl : k = m.procs.length := by omega
      have HALL : Hid (m.procs.all (prioB m) = true) := Lib.hid (all_of fun j hj => HJ.out j hj hj)
      obtain ⟨A, hA⟩ : ∃ a, (m.procs.take m.procs.length).any atomB = a := ⟨_, rfl⟩
      rw [hA]
      have HY3 : Hid (admE m = if (m.exprs.all okX && !(A && m.exprs.any timeB)) = true then 0 else 44) := Lib.hid (by rw [List.take_length] at hA; rw [HY2.out, HALL.out, hA, Bool.true_and])
      have HBADX : Hid (∀ x ∈ m.exprs, okX x = false → admE m = 44) := Lib.hid fun x hx h => by
        rw [HY3.out, show m.exprs.all okX = false by rw [List.all_eq_false]; exact ⟨x, hx, by rw [h]; decide⟩]; rfl
      have c6 := HX.out.c6
      clear hA HJ HY2 HBADP
      go_wp2_with fail
      clear c6
      have HX0 := HX
      clear HX
      go_loopw [7, 60] (fun tv iv W => ∃ k : Nat, iv = .int .i64 k ∧ k ≤ m.exprs.length ∧ tv = .bool ((m.exprs.take k).any timeB) ∧ Hid (∀ j (hj : j < m.exprs.length), j < k → okX m.exprs[j] = true) ∧ Hid (Mx w w.heap.size CS h m W)) (fun tv iv _ => m.exprs.length - (intOf iv).toNat)
      case atStart => exact ⟨0, rfl, by omega, rfl, Lib.hid fun j _ h => by omega, HX0⟩
      case round =>
        clear HX0
        obtain ⟨k, rfl, hk, rfl, HJ, HX⟩ := hrel
        have hk0 : (0 : Int) ≤ k := by omega
        obtain ⟨T, hT⟩ : ∃ t, (m.exprs.take k).any timeB = t := ⟨_, rfl⟩
        rw [hT]
        have HT := Lib.hid hT
        clear hT
        by_cases hlt : k < m.exprs.length
        · have hlti : (k : Int) < m.exprs.length := by omega
          have c6 := HX.out.c6
          obtain ⟨g, off, ho, hg, he⟩ := HX.out.md.exprs.cell hlt
          obtain ⟨x, hx⟩ : ∃ x, m.exprs[k] = x := ⟨_, rfl⟩
          rw [hx] at he
          have HN : Hid ((m.exprs.take (k + 1)).any timeB = (T || timeB x)) := Lib.hid (by rw [any_take (by rw [List.getElem?_eq_getElem hlt, hx]), HT.out])
          have HBX : Hid (okX x = false → admE m = 44) := Lib.hid fun h => HBADX.out x (by rw [← hx]; exact List.getElem_mem hlt) h
          have HGO : Hid (okX x = true → ∀ j (hj : j < m.exprs.length), j < k + 1 → okX m.exprs[j] = true) := Lib.hid fun h j hj hjk => by
            by_cases e : j = k
            · subst e; rw [hx]; exact h
            · exact HJ.out j hj (by omega)
          have e0 := he.c0
          have e5 := he.v.c0
          rw [ho] at c6
          have HOKX : Hid (okX x = !decide (x.op = 32 ∨ x.op = 36 ∨ x.op = 37 ∨ x.op = 38 ∨ (x.op = 2 ∧ x.v.scope = 2))) := Lib.hid rfl
          have HTX : Hid (timeB x = decide (x.op = 35)) := Lib.hid rfl
          obtain ⟨op, hop⟩ : ∃ op, x.op = op := ⟨_, rfl⟩
          obtain ⟨sc, hsc⟩ : ∃ sc, x.v.scope = sc := ⟨_, rfl⟩
          rw [hop] at e0 HOKX HTX
          rw [hsc] at e5 HOKX
          clear ho hg he hx hop hsc HJ
          by_cases hbad : op = 32 ∨ op = 36 ∨ op = 37 ∨ op = 38
          · have HZ := Lib.hid (HBX.out (by rw [HOKX.out, decide_eq_true (by omega)]; rfl))
            rcases hbad with rfl | rfl | rfl | rfl <;> (go_wp2_with fail; go_ret; exact ⟨retI HZ.out.symm, HX.out.bx.bel⟩)
          have b32 : (op == 32) = false := by rw [beq_eq_false_iff_ne]; omega
          have b36 : (op == 36) = false := by rw [beq_eq_false_iff_ne]; omega
          have b37 : (op == 37) = false := by rw [beq_eq_false_iff_ne]; omega
          have b38 : (op == 38) = false := by rw [beq_eq_false_iff_ne]; omega
          by_cases h2 : op = 2
          · subst h2
            by_cases hs2 : sc = 2
            · have HZ := Lib.hid (HBX.out (by rw [HOKX.out, decide_eq_true (by omega)]; rfl))
              subst hs2
              clear hbad b32 b36 b37 b38
              go_wp2_with fail
              go_ret
              exact ⟨retI HZ.out.symm, HX.out.bx.bel⟩
            · have bs : (sc == 2) = false := by rw [beq_eq_false_iff_ne]; exact hs2
              have HZ := Lib.hid (HGO.out (by rw [HOKX.out, decide_eq_false (by omega)]; rfl))
              have HW : Hid (Value.bool T = Value.bool ((m.exprs.take (k + 1)).any timeB)) := Lib.hid (by rw [HN.out, HTX.out, decide_eq_false (by decide), Bool.or_false])
              clear hs2 hbad b32 b36 b37 b38
              go_wp2_with fail
              go_roundw
              case rel => exact ⟨k + 1, by go_num, by omega, HW.out, HZ, HX⟩
              case measure => simp [intOf]; omega
          have b2 : (op == 2) = false := by rw [beq_eq_false_iff_ne]; exact h2
          have HZ := Lib.hid (HGO.out (by rw [HOKX.out, decide_eq_false (by omega)]; rfl))
          by_cases h35 : op = 35
          · subst h35
            have HW : Hid (Value.bool true = Value.bool ((m.exprs.take (k + 1)).any timeB)) := Lib.hid (by rw [HN.out, HTX.out, decide_eq_true rfl, Bool.or_true])
            clear hbad b32 b36 b37 b38 b2 h2
            go_wp2_with fail
            go_roundw
            case rel => exact ⟨k + 1, by go_num, by omega, HW.out, HZ, HX⟩
            case measure => simp [intOf]; omega
          · have b35 : (op == 35) = false := by rw [beq_eq_false_iff_ne]; exact h35
            have HW : Hid (Value.bool T = Value.bool ((m.exprs.take (k + 1)).any timeB)) := Lib.hid (by rw [HN.out, HTX.out, decide_eq_false h35, Bool.or_false])
            clear hbad h2 h35
            go_wp2_with fail
            go_roundw
            case rel => exact ⟨k + 1, by go_num, by omega, HW.out, HZ, HX⟩
            case measure => simp [intOf]; omega
        · have hlti : ¬ (k : Int) < m.exprs.length := by omega
          obtain rfl : k = m.exprs.length := by omega
          have HXS : Hid (m.exprs.all okX = true) := Lib.hid (all_of fun j hj => HJ.out j hj hj)
          have HY4 : Hid (admE m = if (!(A && T)) = true then 0 else 44) := Lib.hid (by have h1 := HT.out; rw [List.take_length] at h1; rw [HY3.out, HXS.out, h1, Bool.true_and])
          cases A <;> cases T <;> (go_wp2_with fail; go_ret; exact ⟨retI HY4.out.symm, HX.out.bx.bel⟩)
end Go.Proofs.Ytofdfaopabmfoaa
