/- The looker at a model's places: laid; which expressions touch their own alone. -/
import Derived.Test.YtofdfaopabmfoaaM27
import Derived.Test.YtofdfaopabmfoaaM28
import Derived.Deep.RegionLaw
import Derived.Deep.RegionHeld3
import Derived.StillTailTactics
namespace Go.Proofs.Ytofdfaopabmfoaa
open Go.ChangeShapes Go.WideShapes Go.ChangeAt Go.RowKit
set_option linter.unusedVariables false
set_option linter.unusedSimpArgs false

/-- A looker in memory: its box, its own variable's, its model's. -/
structure Lk (B pl pm pp : Nat) (CS : Array Value) (h : MH) (m : ModelD) (W : World) : Prop where
  eq : CS = mCells h m
  bl : W.heap[pl]? = some (.cells #[.bool (meetsB m), .func (.func 28) #[] #[.pointer (some ⟨pm, 0, none⟩), .pointer (some ⟨pp, 0, none⟩)]] 93 (0, 0))
  bm : W.heap[pm]? = some (.cells CS 29 (0, 0))
  bp : W.heap[pp]? = some (.cells #[.pointer (some ⟨pl, 0, none⟩)] 71 (0, 0))
  le : B ≤ W.heap.size
  md : MD B W h m
section
variable {B pl pm pp : Nat} {CS : Array Value} {h : MH} {m : ModelD} {W W' : World}
theorem Lk.below (k : Lk B pl pm pp CS h m W) (hb : Below W.heap.size W W') : Lk B pl pm pp CS h m W' :=
  ⟨k.eq, (hb.block _ (lt_of_block k.bl)).trans k.bl, (hb.block _ (lt_of_block k.bm)).trans k.bm, (hb.block _ (lt_of_block k.bp)).trans k.bp, Nat.le_trans k.le hb.size, k.md.below (hb.mono k.le)⟩
theorem Lk.l0 (k : Lk B pl pm pp CS h m W) : W.cell? ⟨pl, 0, none⟩ = some (.bool (meetsB m)) := (cell_of_row _ _ _ _ _ _ k.bl).trans rfl
theorem Lk.l1 (k : Lk B pl pm pp CS h m W) : W.cell? ⟨pl, 1, none⟩ = some (.func (.func 28) #[] #[.pointer (some ⟨pm, 0, none⟩), .pointer (some ⟨pp, 0, none⟩)]) := (cell_of_row _ _ _ _ _ _ k.bl).trans rfl
theorem Lk.p0 (k : Lk B pl pm pp CS h m W) : W.cell? ⟨pp, 0, none⟩ = some (.pointer (some ⟨pl, 0, none⟩)) := (cell_of_row _ _ _ _ _ _ k.bp).trans rfl
theorem Lk.c4 (k : Lk B pl pm pp CS h m W) : W.cell? ⟨pm, 4, none⟩ = some (.slice h.po m.procs.length h.pc) := (cell_of_row _ _ _ _ _ _ k.bm).trans (by rw [k.eq]; rfl)
theorem Lk.c6 (k : Lk B pl pm pp CS h m W) : W.cell? ⟨pm, 6, none⟩ = some (.slice h.eo m.exprs.length h.ec) := (cell_of_row _ _ _ _ _ _ k.bm).trans (by rw [k.eq]; rfl)
end
/-- A function's value, run. -/
theorem own_run (args : Array Value) (w : World) : (callFunc 28 args).run Try.prog w = .ok (.enter 28 args) w := by
  unfold callFunc
  rfl
theorem info_int3 : (Try.prog.info? 3).map (fun i => (i.zero, i.size, i.bytes)) = some (some (.int .i64 0), 1, 8) := by kernel_rfl
theorem index3 (cs : Array Value) (k : Nat) (v : Value) (hk : k < 3) (w : World) (h : cs[k]? = some v) : (Instr.index 98 (.agg cs) (.int .i64 (k : Int))).run Try.prog w = .ok v w := by
  have hi : (0 : Int) ≤ k ∧ (k : Int) < 3 := by omega
  have hs : ∀ w, (sizeOf 3).run Try.prog w = .ok 1 w := fun w => by
    obtain ⟨i, hi, _, h1, _⟩ := held.info_parts info_int3
    simp [sizeOf, typeInfo, hi, h1, go_sem]
  simp [Instr.index, asIntOf, run_underlying Try.underlying98, hi, hs, go_sem]
  rw [if_pos hk, h]
  rfl

/-! ### Which expressions touch their own alone -/
theorem own_var {m : ModelD} {x : ExprD} {f : Int → Bool} (h : x.op = 2) : ownX f x = (decide (x.v.scope = 1) && x.v.dims.all (fun d => f d.i)) := by
  unfold ownX
  rw [if_neg (by omega)]
  by_cases hs : x.v.scope = 1
  · rw [if_neg (by omega), decide_eq_true hs, Bool.true_and]
    unfold partsL moreL
    have h0 : partsOf x.op = 0 := by rw [h]; rfl
    rw [h0, if_pos h, if_neg (by omega)]
    simp [List.all_map]
    rfl
  · rw [if_pos (.inr ⟨h, hs⟩), decide_eq_false hs]
    rfl
def okPart (f : Int → Bool) (q : Int) : Bool := decide (q < 0) || f q
theorem own_mid {m : ModelD} {x : ExprD} {f : Int → Bool} {k : Nat} (hex : EX m) (hx : m.exprs[k]? = some x) (h1 : 3 ≤ x.op) (h2 : x.op ≤ 24) : ownX f x = (abcL x).all (okPart f) := by
  unfold ownX
  rw [if_neg (by omega), if_neg (by omega)]
  have hb := hex.ok k x hx
  have hr : restB x = true := by
    have := hb.1
    unfold exprB at this
    simp only [Bool.and_eq_true] at this
    exact this.1.2
  have hm : moreL x = [] := by unfold moreL; rw [if_neg (by omega), if_neg (by omega)]
  have hp : partsL x = (abcL x).take (partsOf x.op) := by unfold partsL; rw [hm, List.append_nil]
  have hsplit : (abcL x).all (okPart f) = (((abcL x).take (partsOf x.op)).all (okPart f) && ((abcL x).drop (partsOf x.op)).all (okPart f)) := by
    rw [← List.all_append, List.take_append_drop]
  have hd : ((abcL x).drop (partsOf x.op)).all (okPart f) = true := by
    rw [List.all_eq_true]
    intro q hq
    unfold restB at hr
    have := List.all_eq_true.1 hr q hq
    have hq1 : q = -1 := by simpa using this
    unfold okPart
    rw [hq1]
    rfl
  rw [hsplit, hd, Bool.and_true, ← hp, Bool.eq_iff_iff, List.all_eq_true, List.all_eq_true]
  have hpos : ∀ q ∈ partsL x, okPart f q = f q := fun q hq => by
    unfold okPart
    rw [decide_eq_false (by have := (hb.2 q hq).1; omega), Bool.false_or]
  exact ⟨fun a q hq => by rw [hpos q hq]; exact a q hq, fun a q hq => by rw [← hpos q hq]; exact a q hq⟩
theorem abc_bound {m : ModelD} {x : ExprD} {k : Nat} (hex : EX m) (hx : m.exprs[k]? = some x) : ∀ q ∈ abcL x, 0 ≤ q → q < (k : Int) := by
  intro q hq h0
  have hb := hex.ok k x hx
  have hr : restB x = true := by
    have := hb.1
    unfold exprB at this
    simp only [Bool.and_eq_true] at this
    exact this.1.2
  rw [← List.take_append_drop (partsOf x.op) (abcL x)] at hq
  rcases List.mem_append.1 hq with h | h
  · exact (hb.2 q (List.mem_append_left _ h)).2
  · unfold restB at hr
    have := List.all_eq_true.1 hr q h
    have hq1 : q = -1 := by simpa using this
    omega
theorem own_high {x : ExprD} {f : Int → Bool} (h1 : 24 < x.op) (h2 : x.op ≠ 31) : ownX f x = false := by
  unfold ownX
  rw [if_neg (by omega), if_pos (by omega)]
theorem abc_val {x : ExprD} {k : Nat} (hk : k < 3) : ∃ q, (#[.int .i64 x.a, .int .i64 x.b, .int .i64 x.c] : Array Value)[k]? = some (.int .i64 q) ∧ ∃ h : k < (abcL x).length, (abcL x)[k] = q := by
  match k, hk with
  | 0, _ => exact ⟨x.a, rfl, by simp [abcL], rfl⟩
  | 1, _ => exact ⟨x.b, rfl, by simp [abcL], rfl⟩
  | 2, _ => exact ⟨x.c, rfl, by simp [abcL], rfl⟩

set_option maxRecDepth 100000 in
set_option maxHeartbeats 4000000 in
theorem ownStepC {B pl pm pp : Nat} {CS : Array Value} {h : MH} {m : ModelD} (hex : EX m) (k : Nat) (x : ExprD) (hx : m.exprs[k]? = some x)
    (IH : ∀ (q : Nat), q < k → ∀ (W : World), Lk B pl pm pp CS h m W → Calls Try.prog 28 #[.int .i64 q, .pointer (some ⟨pm, 0, none⟩), .pointer (some ⟨pp, 0, none⟩)] W fun e w' => e = .returned (.bool (ownB m q)) ∧ Below W.heap.size W w')
    (w : World) (hl : Lk B pl pm pp CS h m w) :
    Calls Try.prog 28 #[.int .i64 k, .pointer (some ⟨pm, 0, none⟩), .pointer (some ⟨pp, 0, none⟩)] w fun e w' => e = .returned (.bool (ownB m k)) ∧ Below w.heap.size w w' := by
  have hk := (List.getElem?_eq_some_iff.1 hx).1
  have hki : (k : Int) < m.exprs.length := by omega
  have hk0 : (0 : Int) ≤ k := by omega
  have HL := Lib.hid hl
  obtain ⟨g, off, ho, hg, he⟩ := hl.md.exprs.get hx
  obtain ⟨o1, p1, o2, p2, o3, p3, hxc, hd1, -, -⟩ := he.xc
  have HXC := Lib.hid hxc
  have HD := Lib.hid hd1
  have ln := hd1.1
  have c6 := hl.c6
  rw [ho] at c6
  have e0 := hxc.c0
  have HV : Hid (ownB m k = ownX (ownB m) x) := Lib.hid (ownB_is hex hk0 (by rw [Int.toNat_natCast]; exact hx))
  have HM := Lib.hid (fun h1 h2 => own_mid (f := ownB m) hex hx h1 h2)
  have HP : Hid (∀ p ∈ partsL x, 0 ≤ p ∧ p < (k : Int)) := Lib.hid (hex.ok k x hx).2
  have HPB := Lib.hid (abc_bound hex hx)
  have HIH := Lib.hid IH
  have HRANGE : Hid (1 ≤ x.op ∧ x.op ≤ 39) := Lib.hid (by
    have := (hex.ok k x hx).1
    unfold exprB at this
    simp only [Bool.and_eq_true, decide_eq_true_eq] at this
    exact this.1.1)
  have HG : Hid (g < B) := Lib.hid hg
  have HBL : Hid (∀ W, Below w.heap.size w W → XC W g (off + k * 12) x o1 p1 o2 p2 o3 p3) := Lib.hid fun W hb => hxc.below (by have := hl.le; omega) hb
  clear ho he hxc hd1 hl IH hx hg
  by_cases hn : x.op = 1 ∨ x.op = 31
  · have HZ : Hid (ownB m k = true) := Lib.hid (by rw [HV.out]; unfold ownX; rw [if_pos hn])
    obtain ⟨op, hop⟩ : ∃ op, x.op = op := ⟨_, rfl⟩
    rw [hop] at e0 hn
    clear hop
    go_enter Try.func28, Try.ntmps28
    rcases hn with rfl | rfl <;> (go_wp2_with fail; go_ret; exact ⟨retB HZ.out.symm, Below.refl _ _⟩)
  have b1 : (x.op == 1) = false := by rw [beq_eq_false_iff_ne]; omega
  have b31 : (x.op == 31) = false := by rw [beq_eq_false_iff_ne]; omega
  by_cases h2 : x.op = 2
  · have b2 : (x.op == 2) = true := by rw [beq_iff_eq]; exact h2
    have HZ : Hid (ownB m k = (decide (x.v.scope = 1) && x.v.dims.all (fun d => ownB m d.i))) := Lib.hid (by rw [HV.out, own_var (m := m) h2])
    have HPD : Hid (x.v.scope = 1 → ∀ d ∈ x.v.dims, 0 ≤ d.i ∧ d.i < k) := Lib.hid fun hs d hd => HP.out d.i (by
      unfold partsL moreL
      rw [if_pos h2, if_neg (by omega)]
      exact List.mem_append_right _ (List.mem_append_right _ (List.mem_map_of_mem hd)))
    have HPD2 : Hid (∀ d ∈ x.v.dims, 0 ≤ d.i ∧ d.i < k) := Lib.hid fun d hd => HP.out d.i (by
      unfold partsL moreL
      rw [if_pos h2]
      exact List.mem_append_right _ (List.mem_append_right _ (List.mem_map_of_mem hd)))
    have e9 := HXC.out.v4
    clear h2 hn HV HM HP
    go_enter Try.func28, Try.ntmps28
    go_wp2_with fail
    clear e0 e9 b1 b31 b2 c6
    go_loopw [37] (fun iv W => ∃ j : Nat, iv = .int .i64 j ∧ j ≤ x.v.dims.length ∧ Hid (∀ i (hi : i < x.v.dims.length), i < j → ownB m x.v.dims[i].i = true) ∧ Hid (Below w.heap.size w W)) (fun iv _ => x.v.dims.length - (intOf iv).toNat)
    case atStart => exact ⟨0, rfl, by omega, Lib.hid fun j _ h => by omega, Lib.hid (Below.refl _ _)⟩
    case round =>
      obtain ⟨j, rfl, hj, HJ, HB⟩ := hrel
      have hj0 : (0 : Int) ≤ j := by omega
      by_cases hlt : j < x.v.dims.length
      · have hlti : (j : Int) < x.v.dims.length := by omega
        obtain ⟨g1, off1, ho1, hg1, hdim⟩ := HD.out.cell hlt
        obtain ⟨d, hd⟩ : ∃ d, x.v.dims[j] = d := ⟨_, rfl⟩
        rw [hd] at hdim
        have hdi := HPD2.out d (by rw [← hd]; exact List.getElem_mem hlt)
        have hdim1 := dimAt.below (HB.out.mono HL.out.le) hg1 hdim
        obtain ⟨t0, t1, t2⟩ := hdim1
        have HBAD : Hid (ownB m d.i = false → ownB m k = false) := Lib.hid fun h => by
          rw [HZ.out, show x.v.dims.all (fun d => ownB m d.i) = false by exact all_bad hlt (by rw [hd]; exact h), Bool.and_false]
        have HGO : Hid (ownB m d.i = true → ∀ i (hi : i < x.v.dims.length), i < j + 1 → ownB m x.v.dims[i].i = true) := Lib.hid fun h i hi hij => by
          by_cases e : i = j
          · subst e; rw [hd]; exact h
          · exact HJ.out i hi (by omega)
        obtain ⟨q, hq⟩ : ∃ q : Nat, d.i = q := ⟨d.i.toNat, by omega⟩
        rw [hq] at t0 HBAD HGO
        have HIQ := Lib.hid (HIH.out q (by omega))
        have HS : Hid (∀ n : Nat, Value.slice o1 n p1 = Value.slice (some ⟨g1, off1, none⟩) n p1) := Lib.hid fun n => by rw [ho1]
        rw [HS.out]
        clear ho1 hdim hd hdi hq hg1 HJ
        go_wp2_with fail
        have HB1 := Lib.hid (HB.out.trans ((ball (Obj.cells #[.int .i64 q, .int .i64 d.len, .int .i64 d.stride] 97)).mono HB.out.size))
        have HDB : Hid (Bq wr wr.heap.size #[.int .i64 q, .int .i64 d.len, .int .i64 d.stride] 97 (wr.alloc (Obj.cells #[.int .i64 q, .int .i64 d.len, .int .i64 d.stride] 97))) := Lib.hid (Bq.new (Below.refl _ _) _ _)
        generalize wr.alloc (Obj.cells #[.int .i64 q, .int .i64 d.len, .int .i64 d.stride] 97) = W1 at HB1 HDB ⊢
        clear t0 t1 t2
        have HL1 := Lib.hid (HL.out.below HB1.out)
        have u0 := HL1.out.p0
        have u1 := HL1.out.l1
        have u2 : W1.cell? ⟨wr.heap.size, 0, none⟩ = some (.int .i64 q) := HDB.out.cell rfl
        go_still_tail 6, (by kernel_rfl)
        change wpList _ _ _ _ _ W1.drew
        have HL2 := Lib.hid (HL1.out.below (Below.refl _ _).drew)
        have HB2 : Hid (Below w.heap.size w W1.drew) := Lib.hid HB1.out.drew
        generalize W1.drew = W2 at HL2 HB2 ⊢
        clear u0 u1 u2
        have hrun := own_run
        go_wp2_with fail
        clear hrun
        refine (HIQ.out W2 HL2.out).mono ?_
        rintro e W3 ⟨rfl, hb3⟩
        have HB3 := Lib.hid (HB2.out.trans (hb3.mono HB2.out.size))
        clear hb3
        obtain ⟨u, hu⟩ : ∃ u, ownB m q = u := ⟨_, rfl⟩
        rw [hu] at HBAD HGO ⊢
        clear hu
        cases u
        · have HZ2 := Lib.hid (HBAD.out rfl)
          go_wp2_with fail
          go_ret
          exact ⟨retB HZ2.out.symm, HB3.out⟩
        · have HZ2 := Lib.hid (HGO.out rfl)
          go_wp2_with fail
          go_roundw
          case rel => exact ⟨j + 1, by go_num, by omega, HZ2, HB3⟩
          case measure => simp [intOf]; omega
      · have hlti : ¬ (j : Int) < x.v.dims.length := by omega
        have HZ2 : Hid (ownB m k = (x.v.scope == 1)) := Lib.hid (by
          rw [HZ.out, show x.v.dims.all (fun d => ownB m d.i) = true by exact all_of fun i hi => HJ.out i hi (by omega), Bool.and_true, Bool.eq_iff_iff]
          simp)
        have e5 := (HBL.out wr HB.out).v0
        go_wp2_with fail
        go_ret
        exact ⟨retB HZ2.out.symm, HB.out⟩
  have b2 : (x.op == 2) = false := by rw [beq_eq_false_iff_ne]; exact h2
  by_cases hmid : 3 ≤ x.op ∧ x.op ≤ 24
  · obtain ⟨h3, h24⟩ := hmid
    have HZ : Hid (ownB m k = (abcL x).all (okPart (ownB m))) := Lib.hid (by rw [HV.out, HM.out h3 h24])
    have e2 := HXC.out.c2
    have e3 := HXC.out.c3
    have e4 := HXC.out.c4
    clear hn h2 HV HM HP
    go_enter Try.func28, Try.ntmps28
    go_wp2_with fail
    go_quiet (fail)
    have HB0 : Hid (Below w.heap.size w (w.drewN nq)) := Lib.hid (bdrew (Below.refl _ _) nq)
    generalize w.drewN nq = W0 at HB0 ⊢
    clear e0 e2 e3 e4 b1 b31 b2 c6 h3 h24
    go_wp2_with fail
    go_loopw [82] (fun iv W => ∃ j : Nat, iv = .int .i64 j ∧ j ≤ 3 ∧ Hid (∀ i (hi : i < (abcL x).length), i < j → okPart (ownB m) (abcL x)[i] = true) ∧ Hid (Below w.heap.size w W)) (fun iv _ => 3 - (intOf iv).toNat)
    case atStart => exact ⟨0, rfl, by omega, Lib.hid fun j _ h => by omega, HB0⟩
    case round =>
      clear HB0
      obtain ⟨j, rfl, hj, HJ, HB⟩ := hrel
      have hj0 : (0 : Int) ≤ j := by omega
      by_cases hlt : j < 3
      · have hlti : (j : Int) < 3 := by omega
        obtain ⟨q, hq1, hql, hq2⟩ := abc_val (x := x) hlt
        have hidx : ∀ w, (Instr.index 98 (.agg #[.int .i64 x.a, .int .i64 x.b, .int .i64 x.c]) (.int .i64 (j : Int))).run Try.prog w = .ok (.int .i64 q) w := fun w => index3 _ j _ hlt w hq1
        have HBAD : Hid (okPart (ownB m) q = false → ownB m k = false) := Lib.hid fun h => by
          rw [HZ.out]; exact all_bad hql (by rw [hq2]; exact h)
        have HGO : Hid (okPart (ownB m) q = true → ∀ i (hi : i < (abcL x).length), i < j + 1 → okPart (ownB m) (abcL x)[i] = true) := Lib.hid fun h i hi hij => by
          by_cases e : i = j
          · subst e; rw [hq2]; exact h
          · exact HJ.out i hi (by omega)
        have HQ := Lib.hid (HPB.out q (by rw [← hq2]; exact List.getElem_mem hql))
        clear hq1 hq2 hql HJ
        by_cases hneg : q < 0
        · have HZ2 := Lib.hid (HGO.out (by unfold okPart; rw [decide_eq_true hneg]; rfl))
          have hnb : ¬ 0 ≤ q := by omega
          clear hneg
          go_wp2_with fail
          go_roundw
          case rel => exact ⟨j + 1, by go_num, by omega, HZ2, HB⟩
          case measure => simp [intOf]; omega
        · have hq0 : 0 ≤ q := by omega
          obtain ⟨n, rfl⟩ : ∃ n : Nat, q = n := ⟨q.toNat, by omega⟩
          have hnk := HQ.out hq0
          have HIQ := Lib.hid (HIH.out n (by omega))
          have HOK : Hid (okPart (ownB m) n = ownB m n) := Lib.hid (by unfold okPart; rw [decide_eq_false (by omega), Bool.false_or])
          rw [HOK.out] at HBAD HGO
          have HL1 := Lib.hid (HL.out.below HB.out)
          have u0 := HL1.out.p0
          have u1 := HL1.out.l1
          have hrun := own_run
          clear hneg hnk
          go_wp2_with fail
          clear hrun u0 u1 hidx
          refine (HIQ.out wr HL1.out).mono ?_
          rintro e W3 ⟨rfl, hb3⟩
          have HB3 := Lib.hid (HB.out.trans (hb3.mono HB.out.size))
          clear hb3
          obtain ⟨u, hu⟩ : ∃ u, ownB m n = u := ⟨_, rfl⟩
          rw [hu] at HBAD HGO ⊢
          clear hu
          cases u
          · have HZ2 := Lib.hid (HBAD.out rfl)
            go_wp2_with fail
            go_ret
            exact ⟨retB HZ2.out.symm, HB3.out⟩
          · have HZ2 := Lib.hid (HGO.out rfl)
            go_wp2_with fail
            go_roundw
            case rel => exact ⟨j + 1, by go_num, by omega, HZ2, HB3⟩
            case measure => simp [intOf]; omega
      · have hlti : ¬ (j : Int) < 3 := by omega
        have HZ2 : Hid (ownB m k = true) := Lib.hid (by rw [HZ.out]; exact all_of fun i hi => HJ.out i hi (by simp [abcL] at hi; omega))
        go_wp2_with fail
        go_ret
        exact ⟨retB HZ2.out.symm, HB.out⟩
  · have hr := HRANGE.out
    have h24 : 24 < x.op := by omega
    have HZ : Hid (ownB m k = false) := Lib.hid (by rw [HV.out]; exact own_high h24 (by omega))
    have hb3 : ¬ x.op ≤ 24 := by omega
    have hb4 : 3 ≤ x.op := by omega
    clear hmid hr h2 hn
    go_enter Try.func28, Try.ntmps28
    go_wp2_with fail
    go_ret
    exact ⟨retB HZ.out.symm, Below.refl _ _⟩
/-- Every expression. -/
theorem ownC {B pl pm pp : Nat} {CS : Array Value} {h : MH} {m : ModelD} (hex : EX m) : ∀ (f k : Nat), k < f → k < m.exprs.length → ∀ (W : World), Lk B pl pm pp CS h m W →
    Calls Try.prog 28 #[.int .i64 k, .pointer (some ⟨pm, 0, none⟩), .pointer (some ⟨pp, 0, none⟩)] W fun e w' => e = .returned (.bool (ownB m k)) ∧ Below W.heap.size W w'
  | 0, k, h0, _, _, _ => by omega
  | f + 1, k, hk, hl, W, hL => ownStepC hex k m.exprs[k] (List.getElem?_eq_getElem hl) (fun q hq V hV => ownC hex f q (by omega) (by omega) V hV) W hL
theorem ownAt {B pl pm pp : Nat} {CS : Array Value} {h : MH} {m : ModelD} (hex : EX m) (q : Int) (h0 : 0 ≤ q) (h1 : q < m.exprs.length) (W : World) (hL : Lk B pl pm pp CS h m W) :
    Calls Try.prog 28 #[.int .i64 q, .pointer (some ⟨pm, 0, none⟩), .pointer (some ⟨pp, 0, none⟩)] W fun e w' => e = .returned (.bool (ownB m q)) ∧ Below W.heap.size W w' := by
  obtain ⟨n, rfl⟩ : ∃ n : Nat, q = n := ⟨q.toNat, by omega⟩
  exact ownC hex (n + 1) n (by omega) (by omega) W hL
end Go.Proofs.Ytofdfaopabmfoaa
/- The looker: statements, marks, receives. -/
namespace Go.Proofs.Ytofdfaopabmfoaa
open Go.ChangeShapes Go.WideShapes Go.ChangeAt Go.RowKit
set_option linter.unusedVariables false
set_option linter.unusedSimpArgs false

theorem markedC {B g a : Nat} (l : LocD) (w : World) (hl : locAt B w g a l) : Calls Try.prog 29 #[.pointer (some ⟨g, a, none⟩)] w fun e w' => e = .returned (.bool (markB l)) ∧ w = w' := by
  have HV : Hid (markB l = (l.atomic || l.dstep || l.accept || l.progress)) := Lib.hid rfl
  have c2 := hl.c2
  have c3 := hl.c3
  have c5 := hl.c5
  have c6 := hl.c6
  generalize l.atomic = b2 at c2 HV
  generalize l.dstep = b3 at c3 HV
  generalize l.accept = b5 at c5 HV
  generalize l.progress = b6 at c6 HV
  clear hl
  go_enter Try.func29, Try.ntmps29
  cases b2
  rotate_left
  · go_wp2_with fail
    go_ret
    exact ⟨retB HV.out.symm, rfl⟩
  cases b3
  rotate_left
  · go_wp2_with fail
    go_ret
    exact ⟨retB HV.out.symm, rfl⟩
  cases b5
  rotate_left
  · go_wp2_with fail
    go_ret
    exact ⟨retB HV.out.symm, rfl⟩
  cases b6 <;> (go_wp2_with fail; go_ret; exact ⟨retB HV.out.symm, rfl⟩)

def outEsc (l : LocD) : List (List TransD) := l.out :: l.esc
theorem recv_bad {l : LocD} {k : Nat} {T : List TransD} (hk : (outEsc l)[k]? = some T) (h : takesL T = true) : recvLB l = true := by
  unfold recvLB
  rw [List.any_eq_true]
  exact ⟨T, List.mem_of_getElem? hk, h⟩
theorem recv_ok {l : LocD} (h : ∀ (k : Nat) (T : List TransD), (outEsc l)[k]? = some T → takesL T = false) : recvLB l = false := by
  unfold recvLB
  rw [List.any_eq_false]
  intro T hT
  obtain ⟨k, hk⟩ := List.mem_iff_getElem?.1 hT
  rw [h k T hk]
  decide
set_option maxRecDepth 100000 in
set_option maxHeartbeats 4000000 in
theorem pReceivesC {B g a : Nat} (l : LocD) (w : World) (hl : locAt B w g a l) : Calls Try.prog 31 #[.pointer (some ⟨g, a, none⟩)] w fun e w' => e = .returned (.bool (recvLB l)) ∧ w = w' := by
  obtain ⟨oo, oc, c0, hO⟩ := hl.out
  obtain ⟨eo, ec, c1, hE⟩ := hl.esc
  have HO := Lib.hid hO
  have HE := Lib.hid hE
  have le := hE.1
  have lo := hO.1
  have HBAD : Hid (∀ (k : Nat) (T : List TransD), (outEsc l)[k]? = some T → takesL T = true → recvLB l = true) := Lib.hid fun k T h1 h2 => recv_bad h1 h2
  have HOK := Lib.hid (recv_ok (l := l))
  have HOE0 : Hid ((outEsc l)[0]? = some l.out) := Lib.hid rfl
  have HOES : Hid (∀ (n : Nat) (T : List TransD), l.esc[n]? = some T → (outEsc l)[n + 1]? = some T) := Lib.hid fun n T h => h
  have HOEL : Hid ((outEsc l).length = l.esc.length + 1) := Lib.hid rfl
  clear hO hE hl
  go_enter Try.func31, Try.ntmps31
  go_wp2_with fail
  go_loop [3] (fun iv => ∃ i : Int, iv = .int .i64 i ∧ -1 ≤ i ∧ i ≤ l.esc.length ∧ Hid (∀ (j : Nat) T, (j : Int) - 1 < i → (outEsc l)[j]? = some T → takesL T = false)) (fun iv => ((l.esc.length : Int) - intOf iv).toNat)
  case atStart => exact ⟨-1, rfl, by omega, by omega, Lib.hid fun j T h => by omega⟩
  case round =>
    obtain ⟨i, rfl, hi1, hi2, HJ⟩ := hrel
    by_cases hm : i = -1
    · subst hm
      have hlt : (-1 : Int) < l.esc.length := by omega
      have HK0 := HOE0.out
      have HJ0 := HJ.out
      generalize l.out = T at *
      clear HOE0
      have HK : Hid ((outEsc l)[0]? = some T) := Lib.hid HK0
      have HJGO : Hid (takesL T = false → ∀ (j : Nat) U, (j : Int) - 1 < 0 → (outEsc l)[j]? = some U → takesL U = false) := Lib.hid fun h j U hj hU => by
        obtain rfl : j = 0 := by omega
        rw [HK0] at hU
        injection hU with hU
        rw [← hU]; exact h
      have HT := HO
      clear HK0 HJ0 HO HJ
      go_wp2_with fail
      go_loop [31] (fun iv => ∃ q : Nat, iv = .int .i64 q ∧ q ≤ T.length ∧ Hid (∀ j (hj : j < T.length), j < q → takesB T[j] = false)) (fun iv => T.length - (intOf iv).toNat)
      case atStart => exact ⟨0, rfl, by omega, Lib.hid fun j _ h => by omega⟩
      case round =>
        obtain ⟨q, rfl, hq, HJ2⟩ := hrel
        have hq0 : (0 : Int) ≤ q := by omega
        by_cases hlq : q < T.length
        · have hlqi : (q : Int) < T.length := by omega
          obtain ⟨gt, offt, hto, hgt, htr⟩ := HT.out.cell hlq
          obtain ⟨t, ht⟩ : ∃ t, T[q] = t := ⟨_, rfl⟩
          rw [ht] at htr
          have y0 := htr.s.c0
          have y3 := htr.s.c3
          have HBD : Hid (takesB t = true → recvLB l = true) := Lib.hid fun h => HBAD.out 0 T HK.out (by unfold takesL; rw [List.any_eq_true]; exact ⟨t, by rw [← ht]; exact List.getElem_mem hlq, h⟩)
          have HGO : Hid (takesB t = false → ∀ j (hj : j < T.length), j < q + 1 → takesB T[j] = false) := Lib.hid fun h j hj hjk => by
            by_cases e : j = q
            · subst e; rw [ht]; exact h
            · exact HJ2.out j hj (by omega)
          have HTB : Hid (takesB t = decide (t.s.kind = 6 ∧ t.s.n ≤ 1)) := Lib.hid rfl
          obtain ⟨kd, hkd⟩ : ∃ kd, t.s.kind = kd := ⟨_, rfl⟩
          obtain ⟨nn, hnn⟩ : ∃ nn, t.s.n = nn := ⟨_, rfl⟩
          rw [hkd, hnn] at HTB
          rw [hkd] at y0
          rw [hnn] at y3
          have HS : Hid (∀ n : Nat, Value.slice oo n oc = Value.slice (some ⟨gt, offt, none⟩) n oc) := Lib.hid fun n => by rw [hto]
          rw [HS.out]
          clear hto hgt htr ht hkd hnn HJ2
          by_cases h6 : kd = 6
          rotate_left
          · have hb : (kd == 6) = false := by rw [beq_eq_false_iff_ne]; exact h6
            have HZ := Lib.hid (HGO.out (by rw [HTB.out]; exact decide_eq_false (by omega)))
            clear h6
            go_wp2_with fail
            go_round
            case rel => exact ⟨q + 1, by go_num, by omega, HZ⟩
            case measure => simp [intOf]; omega
          subst h6
          by_cases h1 : nn ≤ 1
          · have HZ := Lib.hid (HBD.out (by rw [HTB.out]; exact decide_eq_true (by omega)))
            go_wp2_with fail
            go_ret
            exact ⟨retB HZ.out.symm, rfl⟩
          · have HZ := Lib.hid (HGO.out (by rw [HTB.out]; exact decide_eq_false (by omega)))
            go_wp2_with fail
            go_round
            case rel => exact ⟨q + 1, by go_num, by omega, HZ⟩
            case measure => simp [intOf]; omega
        · have hlqi : ¬ (q : Int) < T.length := by omega
          have HZ := Lib.hid (HJGO.out (by unfold takesL; rw [List.any_eq_false]; intro t ht; obtain ⟨j, hj, rfl⟩ := List.mem_iff_getElem.1 ht; rw [HJ2.out j hj (by omega)]; decide))
          go_wp2_with fail
          go_round
          case rel => exact ⟨0, by first | rfl | go_num, by omega, by omega, HZ⟩
          case measure => (simp [intOf]) <;> omega
    by_cases hlt : i < l.esc.length
    · obtain ⟨n, rfl⟩ : ∃ n : Nat, i = n := ⟨i.toNat, by omega⟩
      have hn0 : (0 : Int) ≤ n := by omega
      have hln : n < l.esc.length := by omega
      obtain ⟨ge, offe, heo, hge, hes⟩ := HE.out.cell hln
      obtain ⟨T, hT⟩ : ∃ T, l.esc[n] = T := ⟨_, rfl⟩
      rw [hT] at hes
      obtain ⟨tO, tc, t0, hrT⟩ := hes
      rw [Nat.mul_one] at t0
      have HT := Lib.hid hrT
      have lt := hrT.1
      have HK : Hid ((outEsc l)[n + 1]? = some T) := Lib.hid (HOES.out n T (by rw [List.getElem?_eq_getElem hln, hT]))
      have HJGO : Hid (takesL T = false → ∀ (j : Nat) U, (j : Int) - 1 < (n : Int) + 1 → (outEsc l)[j]? = some U → takesL U = false) := Lib.hid fun h j U hj hU => by
        by_cases e : j = n + 1
        · subst e
          rw [HK.out] at hU
          injection hU with hU
          rw [← hU]; exact h
        · exact HJ.out j U (by omega) hU
      rw [heo] at c1
      clear heo hge hrT hT HJ hm
      go_wp2_with fail
      go_loop [31] (fun iv => ∃ q : Nat, iv = .int .i64 q ∧ q ≤ T.length ∧ Hid (∀ j (hj : j < T.length), j < q → takesB T[j] = false)) (fun iv => T.length - (intOf iv).toNat)
      case atStart => exact ⟨0, rfl, by omega, Lib.hid fun j _ h => by omega⟩
      case round =>
        obtain ⟨q, rfl, hq, HJ2⟩ := hrel
        have hq0 : (0 : Int) ≤ q := by omega
        by_cases hlq : q < T.length
        · have hlqi : (q : Int) < T.length := by omega
          obtain ⟨gt, offt, hto, hgt, htr⟩ := HT.out.cell hlq
          obtain ⟨t, ht⟩ : ∃ t, T[q] = t := ⟨_, rfl⟩
          rw [ht] at htr
          have y0 := htr.s.c0
          have y3 := htr.s.c3
          have HBD : Hid (takesB t = true → recvLB l = true) := Lib.hid fun h => HBAD.out (n + 1) T HK.out (by unfold takesL; rw [List.any_eq_true]; exact ⟨t, by rw [← ht]; exact List.getElem_mem hlq, h⟩)
          have HGO : Hid (takesB t = false → ∀ j (hj : j < T.length), j < q + 1 → takesB T[j] = false) := Lib.hid fun h j hj hjk => by
            by_cases e : j = q
            · subst e; rw [ht]; exact h
            · exact HJ2.out j hj (by omega)
          have HTB : Hid (takesB t = decide (t.s.kind = 6 ∧ t.s.n ≤ 1)) := Lib.hid rfl
          obtain ⟨kd, hkd⟩ : ∃ kd, t.s.kind = kd := ⟨_, rfl⟩
          obtain ⟨nn, hnn⟩ : ∃ nn, t.s.n = nn := ⟨_, rfl⟩
          rw [hkd, hnn] at HTB
          rw [hkd] at y0
          rw [hnn] at y3
          have HS : Hid (∀ n : Nat, Value.slice tO n tc = Value.slice (some ⟨gt, offt, none⟩) n tc) := Lib.hid fun n => by rw [hto]
          rw [HS.out]
          clear hto hgt htr ht hkd hnn HJ2
          by_cases h6 : kd = 6
          rotate_left
          · have hb : (kd == 6) = false := by rw [beq_eq_false_iff_ne]; exact h6
            have HZ := Lib.hid (HGO.out (by rw [HTB.out]; exact decide_eq_false (by omega)))
            clear h6
            go_wp2_with fail
            go_round
            case rel => exact ⟨q + 1, by go_num, by omega, HZ⟩
            case measure => simp [intOf]; omega
          subst h6
          by_cases h1 : nn ≤ 1
          · have HZ := Lib.hid (HBD.out (by rw [HTB.out]; exact decide_eq_true (by omega)))
            go_wp2_with fail
            go_ret
            exact ⟨retB HZ.out.symm, rfl⟩
          · have HZ := Lib.hid (HGO.out (by rw [HTB.out]; exact decide_eq_false (by omega)))
            go_wp2_with fail
            go_round
            case rel => exact ⟨q + 1, by go_num, by omega, HZ⟩
            case measure => simp [intOf]; omega
        · have hlqi : ¬ (q : Int) < T.length := by omega
          have HZ := Lib.hid (HJGO.out (by unfold takesL; rw [List.any_eq_false]; intro t ht; obtain ⟨j, hj, rfl⟩ := List.mem_iff_getElem.1 ht; rw [HJ2.out j hj (by omega)]; decide))
          go_wp2_with fail
          go_round
          case rel => exact ⟨(n : Int) + 1, by first | rfl | go_num, by omega, by omega, HZ⟩
          case measure => (simp [intOf]) <;> omega
    · have HZ : Hid (recvLB l = false) := Lib.hid (HOK.out fun k T hk => HJ.out k T (by have := (List.getElem?_eq_some_iff.1 hk).1; have := HOEL.out; omega) hk)
      have hnl : ¬ i < l.esc.length := hlt
      clear hlt
      go_wp2_with fail
      go_ret
      exact ⟨retB HZ.out.symm, rfl⟩
end Go.Proofs.Ytofdfaopabmfoaa
