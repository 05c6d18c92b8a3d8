/- ExprBounds: what is reckoned fits 33 bits, truths are 0 or 1, what was stored is read again. -/
import Derived.Test.YtbeikhgjkbnldaaDoorM37
import Derived.Test.YtbeikhgjkbnldaaDoorM42
import Derived.Deep.MidRow
import Derived.Deep.WholeRow
import Derived.Deep.CutRange
namespace Go.Proofs.YtbeikhgjkbnldaaDoor.exprBounds
open Go.ChangeShapes Go.WideShapes Go.ChangeAt Go.RowKit
set_option linter.unusedVariables false
set_option linter.unusedSimpArgs false

/-- What a law's step needs of the Env: its cells as one letter. -/
structure Ev (w : World) (CS : Array Value) (h : MH) (hs : SH) (ao : Option Addr) (ac : Nat) (E : EnvD) (W : World) : Prop where
  eq : CS = eCells h hs ao ac E
  bx : Bx w CS 39 W
  ed : ED w.heap.size W h hs ao E
section
variable {w W W' : World} {CS : Array Value} {h : MH} {hs : SH} {ao : Option Addr} {ac : Nat} {E : EnvD}
theorem Ev.below (k : Ev w CS h hs ao ac E W) (hb : Below W.heap.size W W') : Ev w CS h hs ao ac E W' := ⟨k.eq, k.bx.below hb, k.ed.below (hb.mono k.bx.bel.size)⟩
theorem Ev.info (k : Ev w CS h hs ao ac E W) : (Tryd.prog.info? 39).map (·.size) = some CS.size := by
  rw [k.eq]
  show _ = some 16
  kernel_rfl
theorem Ev.c6 (k : Ev w CS h hs ao ac E W) : W.cell? ⟨w.heap.size, 6, none⟩ = some (.slice h.eo E.m.exprs.length h.ec) := k.bx.cell (by rw [k.eq]; rfl)
theorem Ev.eval (k : Ev w CS h hs ao ac E W) (x : Int) : Calls Tryd.prog 8 #[.agg CS, .int .i64 x] W fun e W' => e = .returned (.tuple #[.int .i64 (envEval E x).1, .int .i64 (envEval E x).2]) ∧ Below W.heap.size W W' := by
  rw [k.eq]
  exact eEvalC x W k.bx.bel.size k.ed
theorem Ev.slot (k : Ev w CS h hs ao ac E W) (x : Int) : Calls Tryd.prog 9 #[.agg CS, .int .i64 x] W fun e W' => e = .returned (.tuple #[.int .i64 (envSlot E x).1, .int .i64 (envSlot E x).2.1, .int .i64 (envSlot E x).2.2]) ∧ Below W.heap.size W W' := by
  rw [k.eq]
  exact eSlotC x W k.bx.bel.size k.ed
theorem Ev.store (k : Ev w CS h hs ao ac E W) (x v : Int) : Calls Tryd.prog 10 #[.agg CS, .int .i64 x, .int .i64 v] W (StoreP W (envStore E x v)) := by
  rw [k.eq]
  exact eStoreC x v W k.bx.bel.size k.ed
end

theorem sC_info (h : SH) (s : StateD) : (Tryd.prog.info? 36).map (·.size) = some (sCells h s).size := by
  show _ = some 6
  kernel_rfl
theorem sC_one (h : SH) (s : StateD) : (sCells h s).all (·.oneCell') = true := by simp [sCells, Value.oneCell']
theorem eC_one (h : MH) (hs : SH) (ao : Option Addr) (ac : Nat) (E : EnvD) : (eCells h hs ao ac E).all (·.oneCell') = true := by simp [eCells, Value.oneCell']
/-- A state is stored into an Env's block. -/
theorem store_put6 {W : World} {b : Nat} {CS : Array Value} {T : TypeId} {h : SH} {s : StateD} (hb : W.heap[b]? = some (.cells CS T (0, 0))) (hsz : CS.size = 16) :
    (storeCells ⟨b, 7, none⟩ (sCells h s).toList).run Tryd.prog W = .ok () (put6 W b 7 h s) := by
  refine (run_storeCells_cells b 7 (sCells h s).toList 0 W (fun j hj => ?_) (fun j hj => frozen_of_row _ _ _ _ _ hb) ?_).trans rfl
  · rw [cell_of_row _ _ _ _ _ _ hb]
    have : j < 6 := hj
    have h2 : 7 + 0 + j < CS.size := by omega
    simp [h2]
  · intro v hv
    simp [sCells] at hv
    rcases hv with rfl | rfl | rfl | rfl | rfl | rfl <;> rfl
theorem wpList_store_new {P : Program} {ops : Array Oper} {rest : List Oper} {o : Oper} {a : Act} {w : World} {Q : Exit → Act → World → Prop} (hgd : o.guard = none) (ty : TypeId) (x y : Operand) (ho : o.op = .store ty x y)
    (c c' : Array Value) (hx : a.eval x = .pointer (some ⟨w.heap.size, 0, none⟩)) (hy : a.eval y = .agg c') (hi : (P.info? ty).map (·.size) = some c'.size) (hc : c.size = c'.size) (h1 : c'.all (·.oneCell') = true)
    (h : wpList P ops Q rest (a.put o.dst undef) (w.alloc (.cells c' ty))) : wpList P ops Q (o :: rest) a (w.alloc (.cells c ty)) :=
  wpList_plain hgd fun _ hK => by
    unfold Oper.wp execOp
    simp only [ho, hx, hy, Instr.storeAt, Instr.sureAddr, Sem.run_bind, Sem.run_pure, Result.andThen_ok, run_storeVar_new w ty c c' hi hc h1]
    exact hK _ _ h

set_option maxRecDepth 100000 in
set_option maxHeartbeats 1000000 in
theorem walk {h : MH} {hs : SH} {ao : Option Addr} {ac : Nat} {E : EnvD} (v : Int) (w : World) (hd : ED w.heap.size w h hs ao E) (ht : TabW w) : Calls Tryd.prog 4 #[.agg (eCells h hs ao ac E), .int .i64 v] w fun e w' => e = .returned (.bool true) ∧ Below w.heap.size w w' := by
  obtain ⟨CS, hCS⟩ : ∃ c, c = eCells h hs ao ac E := ⟨_, rfl⟩
  have HEV0 : Hid (Ev w CS h hs ao ac E (w.alloc (.cells CS 39))) := Lib.hid ⟨hCS, Bx.new w CS _, hd.below (ball _)⟩
  have HT0 : Hid (TabW (w.alloc (.cells CS 39))) := Lib.hid (ht.below (ball _))
  rw [← hCS]
  clear hd ht hCS
  go_enter Tryd.func4, Tryd.ntmps4
  go_wp2_with fail
  refine (shownC _ HT0.out).mono ?_
  rintro e w1 ⟨rfl, hb1⟩
  have HEV1 := Lib.hid (HEV0.out.below hb1)
  clear hb1 HEV0 HT0
  go_wp2_with fail
  go_loopw [6] (fun xv W => ∃ x : Nat, xv = .int .i64 x ∧ x ≤ 201 ∧ Hid (Ev w CS h hs ao ac E W)) (fun xv _ => 201 - (intOf xv).toNat)
  case atStart => exact ⟨0, rfl, by omega, HEV1⟩
  case round =>
    clear HEV1
    obtain ⟨x, rfl, hx, HEV⟩ := hrel
    have c6 := HEV.out.c6
    have hi0 : (0 : Int) ≤ x := by omega
    by_cases hlt : x < E.m.exprs.length ∧ x ≤ 200
    · have hl1 : (x : Int) < E.m.exprs.length := by omega
      have hl2 : (x : Int) ≤ 200 := by omega
      obtain ⟨xx, hxx⟩ : ∃ y, E.m.exprs[x]? = some y := ⟨_, List.getElem?_eq_getElem (by omega)⟩
      have HXX := Lib.hid hxx
      clear hxx
      go_wp2_with (refine wpList_load_row rfl _ _ rfl _ rfl _ CS _ _ HEV.out.bx.box Tryd.underlying39 rfl HEV.out.info ?_)
      refine (HEV.out.eval _).mono ?_
      rintro e W1 ⟨rfl, hb1⟩
      have HEV1 := Lib.hid (HEV.out.below hb1)
      clear hb1 c6 HEV
      obtain ⟨⟨n, f⟩, hev⟩ : ∃ r, envEval E x = r := ⟨_, rfl⟩
      rw [hev]
      have HN := Lib.hid hev
      clear hev
      by_cases h0 : f = 0
      · have hd0 : (f != 0) = false := by rw [bne_eq_false_iff_eq]; exact h0
        have HZ := Lib.hid (show (envEval E x).2 = 0 by rw [HN.out]; exact h0)
        have HBD := Lib.hid (show Bd xx.op (n, 0) by
          obtain ⟨e1, e2⟩ := eval_ok HZ.out
          have := evE_bd (envE_ok e1).1 HXX.out
          rw [← e2, HN.out, h0] at this
          exact this)
        obtain ⟨o, ho⟩ : ∃ o, h.eo = o := ⟨_, rfl⟩
        have c6 := HEV1.out.c6
        obtain ⟨g, off, hog, hg, hxa⟩ := HEV1.out.ed.md.exprs.get HXX.out
        have c0 := hxa.c0
        rw [hog] at c6
        obtain ⟨op, hop⟩ : ∃ q, xx.op = q := ⟨_, rfl⟩
        have HOP := Lib.hid hop
        rw [hop] at c0 HBD
        clear hog hg hxa ho h0 hop
        go_upto_region 10 with fail
        refine reg10C op W1 _ _ _ _ _ _ _ _ _ _ _ _ _ _ _ _ _ _ _ _ _ _ _ _ _ _ _ _ _ _ _ _ _ _ _ _ _ _ _ _ _ _ _ _ _ _ _ _ _ _ _ _ _ _ _ _ _ _ _ _ _ _ _ _ _ _ _ _ _ _ _ _ _ _ _ _ _ _ _ _ _ _ _ _ _ _ _ _ _ _ _ _ _ _ _ _ _ _ _ _ _ _ _ _ _ _ _ _ _ _ _ _ _ _ _ _ _ _ _ _ _ _ _ _ _ _ _ _ _ _ _ _ _ _ _ _ _ _ _ _ _ _ _ _ _ _ _ _ _ _ _ _ _ _ _ _ _ _ _ _ _ _ _ _ _ _ _ _ _ _ _ _ _ _ _ _ _ _ _ _ _ _ _ (Lib.hid fun b u53 u54 u55 u56 u57 u58 u59 u60 u61 u62 u63 u64 u65 u66 u67 u68 u69 u70 u71 u72 u73 u74 u75 u76 u77 u78 u79 u80 u81 u82 u83 u84 u85 u86 u87 u88 u89 u90 u91 u92 u93 u94 HTR => ?_)
        · dsimp only
          obtain ⟨hb1, hb2⟩ := HBD.out rfl
          unfold inR at hb1
          dsimp only at hb1
          have q1 : decide (n < -2147483648) = false := decide_eq_false (by omega)
          have q2 : decide (4294967295 < n) = false := decide_eq_false (by omega)
          have HB2 := Lib.hid hb2
          clear hb2
          go_upto_region 11 with fail
          go_cut [111] from 26 to 180 (fun tv wx => tv = .bool false ∧ W1 = wx)
          case first =>
            cases b with
            | false =>
              go_wp2_with fail
              go_meet
              exact ⟨rfl, rfl⟩
            | true =>
              have hb3 := HB2.out (HTR.out rfl)
              unfold bit at hb3
              rcases hb3 with hb3 | hb3
              · dsimp only at hb3
                have r1 : (n != 0) = false := by rw [hb3]; rfl
                clear hb3
                go_wp2_with fail
                go_meet
                exact ⟨rfl, rfl⟩
              · dsimp only at hb3
                have r1 : (n != 0) = true := by rw [hb3]; rfl
                have r2 : (n != 1) = false := by rw [hb3]; rfl
                clear hb3
                go_wp2_with fail
                go_meet
                exact ⟨rfl, rfl⟩
          case rest =>
            obtain ⟨rfl, hwc⟩ := hcut
            subst hwc
            clear q1 q2 hb1 HBD HTR HB2
            by_cases h2 : op = 2
            · have r1 : (op != 2) = false := by rw [h2]; rfl
              have HV := Lib.hid (round_var v HXX.out HZ.out (HOP.out.trans h2))
              clear h2
              go_wp2_with (refine wpList_load_row rfl _ _ rfl _ rfl _ CS _ _ HEV1.out.bx.box Tryd.underlying39 rfl HEV1.out.info ?_)
              refine (HEV1.out.slot _).mono ?_
              rintro e W2 ⟨rfl, hb1⟩
              have HEV2 := Lib.hid (HEV1.out.below hb1)
              obtain ⟨q, j, hV1, hV2, hV3, hV4, hV5⟩ := HV.out
              clear hb1 c6 c0 HEV1 HV
              rw [hV1]
              have HV2 := Lib.hid hV2
              have HV5 := Lib.hid hV5
              have HV3 := Lib.hid hV3
              have HV4 := Lib.hid hV4
              clear hV1 hV2 hV3 hV4 hV5
              go_wp2_with (refine wpList_load_row rfl _ _ rfl _ rfl _ CS _ _ HEV2.out.bx.box Tryd.underlying39 rfl HEV2.out.info ?_)
              refine (HEV2.out.store _ _).mono ?_
              rintro e W3 ⟨h2, rfl, hso, hb⟩
              rw [HV2.out] at hso ⊢
              have HSO := Lib.hid hso
              have HEV3 := Lib.hid (HEV2.out.below hb)
              clear hso hb HEV2 HV2
              unfold sV
              go_wp2_with (refine wpList_load_row rfl _ _ rfl _ rfl _ CS _ _ HEV3.out.bx.box Tryd.underlying39 rfl HEV3.out.info ?_)
              rw [run_storeCells_new W3 36 #[.slice none 0 0, .slice none 0 0, .slice none 0 0, .int .i64 0, .int .i64 0, .int .i64 0] (sCells h2 (setS E q j v)) (sC_info _ _) rfl (sC_one _ _)]
              go_upto_region 18 with fail
              have HBS := Lib.hid (Bx.new W3 (sCells h2 (setS E q j v)) 36)
              have HW4 := Lib.hid (HEV3.out.below (ball (.cells (sCells h2 (setS E q j v)) 36)))
              have HSD : Hid (SD W3.heap.size (W3.alloc (.cells (sCells h2 (setS E q j v)) 36)) h2 (setS E q j v)) := Lib.hid ((HSO.out.sd (Lens.put (SD.lens HEV3.out.ed.sd) _ _ _)).below (ball _))
              obtain ⟨W4, hW4⟩ : ∃ W4, W4 = W3.alloc (.cells (sCells h2 (setS E q j v)) 36) := ⟨_, rfl⟩
              rw [← hW4] at HBS HW4 HSD ⊢
              clear hW4 HEV3 HSO
              have hsz : CS.size = 16 := by rw [HW4.out.eq]; rfl
              go_wp2_with (refine wpList_load_row rfl _ _ rfl _ rfl _ CS _ _ HW4.out.bx.box Tryd.underlying39 rfl HW4.out.info ?_)
              rw [run_storeCells_new W4 39 #[.slice none 0 0, .slice none 0 0, .slice none 0 0, .slice none 0 0, .slice none 0 0, .int .i64 0, .slice none 0 0, .slice none 0 0, .slice none 0 0, .slice none 0 0, .int .i64 0, .int .i64 0, .int .i64 0, .int .i64 0, .bool false, .slice none 0 0] CS HW4.out.info hsz.symm (by rw [HW4.out.eq]; exact eC_one _ _ _ _ _)]
              have HSZ := Lib.hid hsz
              clear hsz
              go_upto_region 19 with fail
              have HBX5 := Lib.hid (heap_alloc_new W4 (.cells CS 39))
              have HBS5 := Lib.hid (HBS.out.below (ball (.cells CS 39)))
              have HB5 := Lib.hid (ball (w := W4) (.cells CS 39))
              have hlt5 : W4.heap.size < (W4.alloc (.cells CS 39)).heap.size := lt_of_block HBX5.out
              obtain ⟨W5, hW5⟩ : ∃ W5, W5 = W4.alloc (.cells CS 39) := ⟨_, rfl⟩
              rw [← hW5] at HBX5 HBS5 HB5 hlt5 ⊢
              have HBS0 := HBS
              clear hW5 HBS
              go_wp2_with (refine wpList_load_row rfl _ _ rfl _ rfl _ (sCells h2 (setS E q j v)) _ _ HBS5.out.box Tryd.underlying36 rfl (sC_info _ _) ?_)
              rw [store_put6 HBX5.out HSZ.out]
              have HB6 : Hid (Below W4.heap.size W4 (put6 W5 W4.heap.size 7 h2 (setS E q j v))) := Lib.hid (HB5.out.trans (put6_below (Nat.le_refl _)))
              have HE2 : Hid (Ev W4 (eCells h h2 ao ac (withS E (setS E q j v))) h h2 ao ac (withS E (setS E q j v)) (put6 W5 W4.heap.size 7 h2 (setS E q j v))) := Lib.hid ⟨rfl, ⟨by rw [put6_heap HBX5.out, HW4.out.eq]; rfl, HB6.out⟩,
                ED.below ⟨HW4.out.ed.md.lift HW4.out.bx.bel.size, HSD.out.lift (Nat.le_trans (Nat.le_succ _) (lt_of_block HBS0.out.box)), HW4.out.ed.able.up HW4.out.bx.bel.size⟩ HB6.out⟩
              have HEV6 := Lib.hid (HW4.out.below HB6.out)
              have HBS6 := Lib.hid (HBS0.out.below HB6.out)
              have HSD6 := Lib.hid (HSD.out.below (HB6.out.mono HBS0.out.bel.size))
              obtain ⟨W6, hW6⟩ : ∃ W6, W6 = put6 W5 W4.heap.size 7 h2 (setS E q j v) := ⟨_, rfl⟩
              rw [← hW6] at HE2 HEV6 HBS6 HSD6 ⊢
              obtain ⟨C2, hC2⟩ : ∃ c, c = eCells h h2 ao ac (withS E (setS E q j v)) := ⟨_, rfl⟩
              rw [← hC2] at HE2
              clear hW6 hC2 HB6 HBX5 HBS5 HB5 hlt5 HSZ HW4 HSD HBS0
              go_wp2_with (refine wpList_load_row rfl _ _ rfl _ rfl _ C2 _ _ HE2.out.bx.box Tryd.underlying39 rfl HE2.out.info ?_)
              refine (HE2.out.slot _).mono ?_
              rintro e W7 ⟨rfl, hb7⟩
              have HE7 := Lib.hid (HE2.out.below hb7)
              have HEV7 := Lib.hid (HEV6.out.below hb7)
              have HBS7 := Lib.hid (HBS6.out.below hb7)
              have HSD7 := Lib.hid (HSD6.out.below (hb7.mono HBS6.out.bel.size))
              clear hb7 HE2 HEV6 HBS6 HSD6
              go_wp2_with (refine wpList_load_row rfl _ _ rfl _ rfl _ C2 _ _ HE7.out.bx.box Tryd.underlying39 rfl HE7.out.info ?_)
              refine (HE7.out.eval _).mono ?_
              rintro e W8 ⟨rfl, hb8⟩
              have HEV8 := Lib.hid (HEV7.out.below hb8)
              have HBS8 := Lib.hid (HBS7.out.below hb8)
              have HSD8 := Lib.hid (HSD7.out.below (hb8.mono HBS7.out.bel.size))
              clear hb8 HE7 HEV7 HBS7 HSD7
              have HJ := Lib.hid (show j < (slotsL (withS E (setS E q j v)) q).length by rw [slots_set _ _ _ HV3.out]; exact HV4.out)
              have HP := Lib.hid (show q < (setS E q j v).procs.length by rw [procs_set]; exact HV3.out)
              clear HV3 HV4
              obtain ⟨q', j', f', hs'⟩ : ∃ a b c, envSlot (withS E (setS E q j v)) x = (a, b, c) := ⟨_, _, _, rfl⟩
              obtain ⟨n', i', he'⟩ : ∃ a b, envEval (withS E (setS E q j v)) x = (a, b) := ⟨_, _, rfl⟩
              rw [hs', he'] at HV5
              rw [hs', he']
              clear hs' he'
              by_cases a0 : f' = 0
              · have e0 : (f' == 0) = true := by rw [beq_iff_eq]; exact a0
                by_cases a1 : q' = q
                · have e1 : (q' == q) = true := by rw [beq_iff_eq]; exact a1
                  by_cases a2 : j' = j
                  · have e2 : (j' == (j : Int)) = true := by rw [beq_iff_eq]; exact a2
                    have hv := HV5.out a0 (by rw [a0, a1, a2])
                    injection hv with hv1 hv2
                    have HN' := Lib.hid hv1
                    have e3 : (i' != 0) = false := by rw [hv2]; rfl
                    obtain rfl : q = q' := a1.symm
                    clear a0 a1 a2 hv1 hv2 HV5
                    obtain ⟨S, hS⟩ : ∃ S, setS E q j v = S := ⟨_, rfl⟩
                    rw [hS] at HBS8 HSD8 HN' HJ HP
                    clear hS
                    have hj0 : (0 : Int) ≤ j := by omega
                    have hjt : (j' : Int) = j := by have := e2; rwa [beq_iff_eq] at this
                    subst hjt
                    by_cases hn : q < 0
                    · have d1 : decide (q < 0) = true := decide_eq_true hn
                      have hSl : slotsL (withS E S) q = S.globals := by unfold slotsL; rw [if_pos hn]; rfl
                      rw [hSl] at HN' HJ
                      have hjl := HJ.out
                      have hji : (j : Int) < S.globals.length := by omega
                      have hgl := HSD8.out.globals.1
                      have c0 : W8.cell? ⟨W3.heap.size, 0, none⟩ = some (.slice h2.go S.globals.length h2.gc) := HBS8.out.cell rfl
                      obtain ⟨g, off, hgo, hg, hv0⟩ := HSD8.out.globals.cell hjl
                      rw [hgo] at c0
                      unfold intAt at hv0
                      rw [Nat.mul_one] at hv0
                      have HE3 : Hid (n' = S.globals[j]) := Lib.hid (by rw [HN'.out, List.getD_eq_getElem?_getD, List.getElem?_eq_getElem hjl]; rfl)
                      have d2 : (n' != S.globals[j]) = false := by rw [bne_eq_false_iff_eq]; exact HE3.out
                      clear hSl hgo hg HN'
                      go_wp2_with fail
                      go_roundw
                      case rel => exact ⟨x + 1, by go_num, by omega, HEV8⟩
                      case measure => simp [intOf]; omega
                    · have d1 : decide (q < 0) = false := decide_eq_false hn
                      obtain ⟨k, rfl⟩ : ∃ k : Nat, q = k := ⟨q.toNat, by omega⟩
                      have hk0 : (0 : Int) ≤ k := by omega
                      have hkl : k < S.procs.length := by have := HP.out; omega
                      have hki : (k : Int) < S.procs.length := by omega
                      obtain ⟨pr, hpr⟩ : ∃ p, S.procs[k]? = some p := ⟨_, List.getElem?_eq_getElem hkl⟩
                      have hSl : slotsL (withS E S) k = pr.frame := by unfold slotsL withS; rw [if_neg hn, Int.toNat_natCast, hpr]; rfl
                      rw [hSl] at HN' HJ
                      have hjl := HJ.out
                      have hji : (j : Int) < pr.frame.length := by omega
                      have hpl := HSD8.out.procs.1
                      have c2 : W8.cell? ⟨W3.heap.size, 2, none⟩ = some (.slice h2.po S.procs.length h2.pc) := HBS8.out.cell rfl
                      obtain ⟨g, off, hgo, hg, hpa⟩ := HSD8.out.procs.get hpr
                      rw [hgo] at c2
                      obtain ⟨qo, qc, q3, hq⟩ := hpa.frame
                      have hfl := hq.1
                      obtain ⟨g2, off2, hqo, hg2, hv0⟩ := hq.cell hjl
                      rw [hqo] at q3
                      unfold intAt at hv0
                      rw [Nat.mul_one] at hv0
                      have HE3 : Hid (n' = pr.frame[j]) := Lib.hid (by rw [HN'.out, List.getD_eq_getElem?_getD, List.getElem?_eq_getElem hjl]; rfl)
                      have d2 : (n' != pr.frame[j]) = false := by rw [bne_eq_false_iff_eq]; exact HE3.out
                      clear hSl hgo hg HN' hqo hg2 hpa hq hpr hn
                      go_wp2_with fail
                      go_roundw
                      case rel => exact ⟨x + 1, by go_num, by omega, HEV8⟩
                      case measure => simp [intOf]; omega
                  · have e2 : (j' == (j : Int)) = false := by rw [beq_eq_false_iff_ne]; exact a2
                    clear a0 a1 a2
                    go_wp2_with fail
                    go_roundw
                    case rel => exact ⟨x + 1, by go_num, by omega, HEV8⟩
                    case measure => simp [intOf]; omega
                · have e1 : (q' == q) = false := by rw [beq_eq_false_iff_ne]; exact a1
                  clear a0 a1
                  go_wp2_with fail
                  go_roundw
                  case rel => exact ⟨x + 1, by go_num, by omega, HEV8⟩
                  case measure => simp [intOf]; omega
              · have e0 : (f' == 0) = false := by rw [beq_eq_false_iff_ne]; exact a0
                clear a0
                go_wp2_with fail
                go_roundw
                case rel => exact ⟨x + 1, by go_num, by omega, HEV8⟩
                case measure => simp [intOf]; omega
            · have r1 : (op != 2) = true := by rw [bne_iff_ne]; exact h2
              go_wp2_with fail
              go_roundw
              case rel => exact ⟨x + 1, by go_num, by omega, HEV1⟩
              case measure => simp [intOf]; omega
      · have hd0 : (f != 0) = true := by rw [bne_iff_ne]; exact h0
        go_wp2_with fail
        go_roundw
        case rel => exact ⟨x + 1, by go_num, by omega, HEV1⟩
        case measure => simp [intOf]; omega
    · have HL := Lib.hid hlt
      by_cases hl1 : x < E.m.exprs.length
      · have hl2 : ¬ x ≤ 200 := fun h => hlt ⟨hl1, h⟩
        have d1 : decide ((x : Int) < E.m.exprs.length) = true := decide_eq_true (by omega)
        have d2 : decide ((x : Int) ≤ 200) = false := decide_eq_false (by omega)
        clear hlt
        go_wp2_with fail
        go_ret
        exact ⟨rfl, HEV.out.bx.bel⟩
      · have d1 : decide ((x : Int) < E.m.exprs.length) = false := decide_eq_false (by omega)
        clear hlt
        go_wp2_with fail
        go_ret
        exact ⟨rfl, HEV.out.bx.bel⟩
end Go.Proofs.YtbeikhgjkbnldaaDoor.exprBounds
