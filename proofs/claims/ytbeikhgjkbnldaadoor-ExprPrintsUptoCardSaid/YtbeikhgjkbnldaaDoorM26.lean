/- A part is reckoned, and its number kept. -/
import Derived.Test.YtbeikhgjkbnldaaDoorM25
namespace Go.Proofs.YtbeikhgjkbnldaaDoor
open Go.ChangeShapes Go.WideShapes Go.ChangeAt Go.RowKit
set_option linter.unusedVariables false
set_option linter.unusedSimpArgs false

def put3 (i : Nat) (v : Int) (p : Int × Int × Int) : Int × Int × Int := if i = 0 then (v, p.2.1, p.2.2) else if i = 1 then (p.1, v, p.2.2) else (p.1, p.2.1, v)
def get3 (i : Nat) (p : Int × Int × Int) : Int := if i = 0 then p.1 else if i = 1 then p.2.1 else p.2.2
/-- The boxes of an Eval: its Env, its parts' numbers, its parts. -/
structure PS3 (w0 : World) (pe : Nat) (x : ExprD) (ps : Int × Int × Int) (W : World) : Prop where
  be : W.heap[w0.heap.size]? = some (.cells #[.pointer (some ⟨pe, 0, none⟩)] 75 (0, 0))
  bp : W.heap[w0.heap.size + 1]? = some (.cells #[.int .i64 ps.1, .int .i64 ps.2.1, .int .i64 ps.2.2] 88 (0, 0))
  ba : W.heap[w0.heap.size + 2]? = some (.cells #[.int .i64 x.a, .int .i64 x.b, .int .i64 x.c] 89 (0, 0))
  bel : Below w0.heap.size w0 W
theorem PS3.below {w0 W W' : World} {pe : Nat} {x : ExprD} {ps : Int × Int × Int} (k : PS3 w0 pe x ps W) (hb : Below W.heap.size W W') : PS3 w0 pe x ps W' :=
  ⟨(hb.block _ (lt_of_block k.be)).trans k.be, (hb.block _ (lt_of_block k.bp)).trans k.bp, (hb.block _ (lt_of_block k.ba)).trans k.ba, k.bel.trans (hb.mono k.bel.size)⟩
theorem PS3.put {w0 W : World} {pe : Nat} {x : ExprD} {ps : Int × Int × Int} (k : PS3 w0 pe x ps W) {i : Nat} (hi : i < 3) (v : Int) : PS3 w0 pe x (put3 i v ps) (W.setCell ⟨w0.heap.size + 1, i, none⟩ (.int .i64 v)) := by
  refine ⟨?_, ?_, ?_, k.bel.setCell (by show _ ≤ w0.heap.size + 1; omega) _⟩
  · rw [heap_setCell_other _ _ _ _ (by simp)]; exact k.be
  · have h := heap_setCell_same W (w0.heap.size + 1) i _ _ (.int .i64 v) k.bp
    rw [h]
    have hc : i = 0 ∨ i = 1 ∨ i = 2 := by omega
    rcases hc with rfl | rfl | rfl <;> rfl
  · rw [heap_setCell_other _ _ _ _ (by simp)]; exact k.ba

theorem PS3.start (w : World) (pe : Nat) (x : ExprD) : PS3 w pe x (0, 0, 0) ((((w.alloc (Obj.cells #[Value.pointer (some ⟨pe, 0, none⟩)] 75)).alloc (Obj.cells #[Value.int .i64 0, Value.int .i64 0, Value.int .i64 0] 88)).alloc (Obj.cells #[Value.int .i64 x.a, Value.int .i64 x.b, Value.int .i64 x.c] 89)).drew) := by
  have s1 : (w.alloc (Obj.cells #[Value.pointer (some ⟨pe, 0, none⟩)] 75)).heap.size = w.heap.size + 1 := by simp
  generalize hA : w.alloc (Obj.cells #[Value.pointer (some ⟨pe, 0, none⟩)] 75) = A at s1 ⊢
  have a1 : A.heap[w.heap.size]? = some (.cells #[Value.pointer (some ⟨pe, 0, none⟩)] 75 (0, 0)) := by rw [← hA]; exact heap_alloc_new w _
  have ba : Below w.heap.size w A := by rw [← hA]; exact ball _
  have s2 : (A.alloc (Obj.cells #[Value.int .i64 0, Value.int .i64 0, Value.int .i64 0] 88)).heap.size = w.heap.size + 2 := by simp [s1]
  generalize hB : A.alloc (Obj.cells #[Value.int .i64 0, Value.int .i64 0, Value.int .i64 0] 88) = B at s2 ⊢
  have b1 : B.heap[w.heap.size + 1]? = some (.cells #[Value.int .i64 0, Value.int .i64 0, Value.int .i64 0] 88 (0, 0)) := by rw [← hB, ← s1]; exact heap_alloc_new A _
  have bb : Below A.heap.size A B := by rw [← hB]; exact ball _
  have c1 : (B.alloc (Obj.cells #[Value.int .i64 x.a, Value.int .i64 x.b, Value.int .i64 x.c] 89)).heap[w.heap.size + 2]? = some (.cells #[Value.int .i64 x.a, Value.int .i64 x.b, Value.int .i64 x.c] 89 (0, 0)) := by rw [← s2]; exact heap_alloc_new B _
  have bc : Below B.heap.size B (B.alloc (Obj.cells #[Value.int .i64 x.a, Value.int .i64 x.b, Value.int .i64 x.c] 89)) := ball _
  have a2 := (bb.block _ (by omega)).trans a1
  have bd : Below w.heap.size w (B.alloc (Obj.cells #[Value.int .i64 x.a, Value.int .i64 x.b, Value.int .i64 x.c] 89)) := ba.trans ((bb.mono (by omega)).trans (bc.mono (by omega)))
  exact ⟨(bc.block _ (by omega)).trans a2, (bc.block _ (by omega)).trans b1, c1, bd.drew⟩
def part3 (i : Nat) (x : ExprD) : Int := if i = 0 then x.a else if i = 1 then x.b else x.c

set_option maxHeartbeats 4000000 in
set_option maxRecDepth 100000 in
theorem partC {B pe : Nat} {h : MH} {hs : SH} {ao : Option Addr} {ac : Nat} {E : EnvD} {ev : Int → Int × Int} {N : Nat} {x : ExprD} {ps : Int × Int × Int} {w0 : World} (i : Nat) (W : World) (hi : i < 3) (hk : Ek B w0 pe h hs ao ac E) (he : EvC B pe h hs ao ac E ev N) (hps : PS3 w0 pe x ps W) (hq0 : 0 ≤ part3 i x) (hqN : part3 i x < N) :
    Calls Tryd.prog 27 #[.int .i64 i, .pointer (some ⟨w0.heap.size, 0, none⟩), .pointer (some ⟨w0.heap.size + 2, 0, none⟩), .pointer (some ⟨w0.heap.size + 1, 0, none⟩)] W fun e W' => e = .returned (.int .i64 (ev (part3 i x)).2) ∧ PS3 w0 pe x (put3 i (ev (part3 i x)).1 ps) W' := by
  have HPS := Lib.hid hps
  have HP1 := Lib.hid (hps.below (Below.refl _ W).drew)
  have HEC := Lib.hid (he (part3 i x) W.drew hq0 hqN (hk.below HP1.out.bel))
  obtain ⟨⟨v, er⟩, hev⟩ : ∃ q, ev (part3 i x) = q := ⟨_, rfl⟩
  rw [hev] at HEC
  simp only at HEC
  rw [hev]
  have hi0 : (0 : Int) ≤ i := by omega
  have hi3 : (i : Int) < 3 := by omega
  have c0 : W.cell? ⟨w0.heap.size, 0, none⟩ = some (.pointer (some ⟨pe, 0, none⟩)) := (cell_of_row _ _ _ _ _ _ hps.be).trans rfl
  have c1 : W.cell? ⟨w0.heap.size + 2, i, none⟩ = some (.int .i64 (part3 i x)) := (cell_of_row _ _ _ _ _ _ hps.ba).trans (by
    have hc : i = 0 ∨ i = 1 ∨ i = 2 := by omega
    rcases hc with rfl | rfl | rfl <;> rfl)
  have HIV : Hid (i < 3) := Lib.hid hi
  generalize part3 i x = q at *
  clear hk he hps hev
  go_enter Tryd.func27, Tryd.ntmps27
  go_wp2_with fail
  go_region_law (
    go_simp
    go_at_call 17
    refine HEC.out.mono ?_
    rintro e W1 ⟨rfl, hb1⟩
    have HP2 := Lib.hid (HP1.out.below hb1)
    have d1 : ∃ u, W1.cell? ⟨w0.heap.size + 1, i, none⟩ = some u := ⟨_, (cell_of_row _ _ _ _ _ _ HP2.out.bp).trans (Array.getElem?_eq_getElem (by simpa using HIV.out))⟩
    obtain ⟨u, d1⟩ := d1
    have d2 : W1.frozen? ⟨w0.heap.size + 1, i, none⟩ = false := frozen_of_row _ _ _ _ _ HP2.out.bp
    clear hb1)
  all_goals (
    have HP3 := Lib.hid (HP2.out.put HIV.out v)
    go_wp2_with fail
    go_ret
    exact ⟨rfl, HP3.out⟩)
end Go.Proofs.YtbeikhgjkbnldaaDoor
/- What leaves parts out. -/
namespace Go.Proofs.YtbeikhgjkbnldaaDoor
open Go.ChangeShapes Go.WideShapes Go.ChangeAt Go.RowKit
set_option linter.unusedVariables false
set_option linter.unusedSimpArgs false

theorem PS3.c0 {w0 W : World} {pe : Nat} {x : ExprD} {ps : Int × Int × Int} (k : PS3 w0 pe x ps W) : W.cell? ⟨w0.heap.size + 1, 0, none⟩ = some (.int .i64 ps.1) := (cell_of_row _ _ _ _ _ _ k.bp).trans rfl
theorem PS3.c1 {w0 W : World} {pe : Nat} {x : ExprD} {ps : Int × Int × Int} (k : PS3 w0 pe x ps W) : W.cell? ⟨w0.heap.size + 1, 1, none⟩ = some (.int .i64 ps.2.1) := (cell_of_row _ _ _ _ _ _ k.bp).trans rfl
theorem PS3.c2 {w0 W : World} {pe : Nat} {x : ExprD} {ps : Int × Int × Int} (k : PS3 w0 pe x ps W) : W.cell? ⟨w0.heap.size + 1, 2, none⟩ = some (.int .i64 ps.2.2) := (cell_of_row _ _ _ _ _ _ k.bp).trans rfl
theorem PS3.ce {w0 W : World} {pe : Nat} {x : ExprD} {ps : Int × Int × Int} (k : PS3 w0 pe x ps W) : W.cell? ⟨w0.heap.size, 0, none⟩ = some (.pointer (some ⟨pe, 0, none⟩)) := (cell_of_row _ _ _ _ _ _ k.be).trans rfl
/-- The func value that reckons a part. -/
def partV (w0 : World) : Value := .func (.func 27) #[] #[.pointer (some ⟨w0.heap.size, 0, none⟩), .pointer (some ⟨w0.heap.size + 2, 0, none⟩), .pointer (some ⟨w0.heap.size + 1, 0, none⟩)]

set_option maxHeartbeats 4000000 in
set_option maxRecDepth 100000 in
theorem chosenC {B pe : Nat} {h : MH} {hs : SH} {ao : Option Addr} {ac : Nat} {E : EnvD} {ev : Int → Int × Int} {N : Nat} {x : ExprD} {ps : Int × Int × Int} {w0 : World} (W : World) (hk : Ek B w0 pe h hs ao ac E) (he : EvC B pe h hs ao ac E ev N) (hps : PS3 w0 pe x ps W) (hop : 22 ≤ x.op ∧ x.op ≤ 24) (ha : 0 ≤ x.a ∧ x.a < N) (hb : 0 ≤ x.b ∧ x.b < N) (hc : x.op = 24 → 0 ≤ x.c ∧ x.c < N) :
    Calls Tryd.prog 30 #[.int .i64 x.op, partV w0, .pointer (some ⟨w0.heap.size + 1, 0, none⟩)] W fun e W' => e = .returned (.tuple #[.int .i64 (chosenB ev x).1, .int .i64 (chosenB ev x).2]) ∧ Below w0.heap.size w0 W' := by
  have HP0 := Lib.hid (partC 0 W (by omega) hk he hps ha.1 ha.2)
  have HPB := Lib.hid (fun (ps1 : Int × Int × Int) (W1 : World) (h1 : PS3 w0 pe x ps1 W1) => partC 1 W1 (by omega) hk he h1 hb.1 hb.2)
  have HPC : Hid (x.op = 24 → ∀ (ps1 : Int × Int × Int) (W1 : World), PS3 w0 pe x ps1 W1 → Calls Tryd.prog 27 #[.int .i64 (2 : Nat), .pointer (some ⟨w0.heap.size, 0, none⟩), .pointer (some ⟨w0.heap.size + 2, 0, none⟩), .pointer (some ⟨w0.heap.size + 1, 0, none⟩)] W1 fun e W' => e = .returned (.int .i64 (ev (part3 2 x)).2) ∧ PS3 w0 pe x (put3 2 (ev (part3 2 x)).1 ps1) W') := Lib.hid fun e24 ps1 W1 h1 => partC 2 W1 (by omega) hk he h1 (hc e24).1 (hc e24).2
  rw [show part3 0 x = x.a from rfl] at HP0
  rw [show part3 1 x = x.b from rfl] at HPB
  rw [show part3 2 x = x.c from rfl] at HPC
  clear hk he hps hc
  obtain ⟨⟨v, er⟩, hev⟩ : ∃ q, ev x.a = q := ⟨_, rfl⟩
  obtain ⟨⟨v1, er1⟩, hev1⟩ : ∃ q, ev x.b = q := ⟨_, rfl⟩
  obtain ⟨⟨v2, er2⟩, hev2⟩ : ∃ q, ev x.c = q := ⟨_, rfl⟩
  rw [hev] at HP0
  rw [hev1] at HPB
  rw [hev2] at HPC
  simp only at HP0 HPB HPC
  have HV : Hid (chosenB ev x = if er ≠ 0 then (0, er) else if x.op = 22 ∧ v = 0 then (0, 0) else if x.op = 23 ∧ v ≠ 0 then (1, 0) else if x.op = 24 ∧ v = 0 then (if er2 ≠ 0 then (0, er2) else (v2, 0)) else if er1 ≠ 0 then (0, er1) else if x.op = 24 then (v1, 0) else (truthI (decide (v1 ≠ 0)), 0)) := Lib.hid (by unfold chosenB; rw [hev, hev1, hev2])
  clear hev hev1 hev2
  unfold partV
  generalize chosenB ev x = R at HV ⊢
  generalize x.op = op at HV HPC hop ⊢
  have hcs : op = 22 ∨ op = 23 ∨ op = 24 := by omega
  clear hop
  rcases hcs with rfl | rfl | rfl
  · go_enter Tryd.func30, Tryd.ntmps30
    go_wp2_with fail
    refine HP0.out.mono ?_
    rintro e W1 ⟨rfl, hp1⟩
    have HP1 := Lib.hid hp1
    clear hp1
    by_cases h0 : er = 0
    · have hd0 : (er != 0) = false := by rw [bne_eq_false_iff_eq]; exact h0
      subst h0
      have c0 : W1.cell? ⟨w0.heap.size + 1, 0, none⟩ = some (.int .i64 v) := HP1.out.c0
      by_cases hv : v = 0
      · have hb1 : (v == 0) = true := by rw [beq_iff_eq]; exact hv
        have hb2 : (v != 0) = false := by rw [bne_eq_false_iff_eq]; exact hv
        have HR : Hid (R = (0, 0)) := Lib.hid (by rw [HV.out]; simp [hv])
        clear hv
        go_wp2_with fail
        go_ret2
        exact ⟨ret2 (by rw [HR.out]) (by rw [HR.out]), HP1.out.bel⟩
      · have hb1 : (v == 0) = false := by rw [beq_eq_false_iff_ne]; exact hv
        have hb2 : (v != 0) = true := by rw [bne_iff_ne]; exact hv
        go_wp2_with fail
        refine (HPB.out _ W1 HP1.out).mono ?_
        rintro e W2 ⟨rfl, hp2⟩
        have HP2 := Lib.hid hp2
        clear hp2 c0
        by_cases h1 : er1 = 0
        · have hd1 : (er1 != 0) = false := by rw [bne_eq_false_iff_eq]; exact h1
          subst h1
          have c1 : W2.cell? ⟨w0.heap.size + 1, 1, none⟩ = some (.int .i64 v1) := HP2.out.c1
          by_cases h2 : v1 = 0
          · have hd2 : (v1 != 0) = false := by rw [bne_eq_false_iff_eq]; exact h2
            have HR : Hid (R = (0, 0)) := Lib.hid (by rw [HV.out]; simp [hv, h2, truthI])
            clear hv h2
            go_wp2_with fail
            refine (truthC _ _).mono ?_
            rintro e W3 ⟨rfl, rfl⟩
            go_wp2_with fail
            go_ret2
            exact ⟨ret2 (by rw [HR.out]; rfl) (by rw [HR.out]), HP2.out.bel⟩
          · have hd2 : (v1 != 0) = true := by rw [bne_iff_ne]; exact h2
            have HR : Hid (R = (1, 0)) := Lib.hid (by rw [HV.out]; simp [hv, h2, truthI])
            clear hv h2
            go_wp2_with fail
            refine (truthC _ _).mono ?_
            rintro e W3 ⟨rfl, rfl⟩
            go_wp2_with fail
            go_ret2
            exact ⟨ret2 (by rw [HR.out]; rfl) (by rw [HR.out]), HP2.out.bel⟩
        · have hd1 : (er1 != 0) = true := by rw [bne_iff_ne]; exact h1
          have HR : Hid (R = (0, er1)) := Lib.hid (by rw [HV.out]; simp [hv, h1])
          clear hv
          go_wp2_with fail
          go_ret2
          exact ⟨ret2 (by rw [HR.out]) (by rw [HR.out]), HP2.out.bel⟩
    · have hd0 : (er != 0) = true := by rw [bne_iff_ne]; exact h0
      have HR : Hid (R = (0, er)) := Lib.hid (by rw [HV.out, if_pos h0])
      go_wp2_with fail
      go_ret2
      exact ⟨ret2 (by rw [HR.out]) (by rw [HR.out]), HP1.out.bel⟩
  · go_enter Tryd.func30, Tryd.ntmps30
    go_wp2_with fail
    refine HP0.out.mono ?_
    rintro e W1 ⟨rfl, hp1⟩
    have HP1 := Lib.hid hp1
    clear hp1
    by_cases h0 : er = 0
    · have hd0 : (er != 0) = false := by rw [bne_eq_false_iff_eq]; exact h0
      subst h0
      have c0 : W1.cell? ⟨w0.heap.size + 1, 0, none⟩ = some (.int .i64 v) := HP1.out.c0
      by_cases hv : v = 0
      · have hb1 : (v == 0) = true := by rw [beq_iff_eq]; exact hv
        have hb2 : (v != 0) = false := by rw [bne_eq_false_iff_eq]; exact hv
        go_wp2_with fail
        refine (HPB.out _ W1 HP1.out).mono ?_
        rintro e W2 ⟨rfl, hp2⟩
        have HP2 := Lib.hid hp2
        clear hp2 c0
        by_cases h1 : er1 = 0
        · have hd1 : (er1 != 0) = false := by rw [bne_eq_false_iff_eq]; exact h1
          subst h1
          have c1 : W2.cell? ⟨w0.heap.size + 1, 1, none⟩ = some (.int .i64 v1) := HP2.out.c1
          by_cases h2 : v1 = 0
          · have hd2 : (v1 != 0) = false := by rw [bne_eq_false_iff_eq]; exact h2
            have HR : Hid (R = (0, 0)) := Lib.hid (by rw [HV.out]; simp [hv, h2, truthI])
            clear hv h2
            go_wp2_with fail
            refine (truthC _ _).mono ?_
            rintro e W3 ⟨rfl, rfl⟩
            go_wp2_with fail
            go_ret2
            exact ⟨ret2 (by rw [HR.out]; rfl) (by rw [HR.out]), HP2.out.bel⟩
          · have hd2 : (v1 != 0) = true := by rw [bne_iff_ne]; exact h2
            have HR : Hid (R = (1, 0)) := Lib.hid (by rw [HV.out]; simp [hv, h2, truthI])
            clear hv h2
            go_wp2_with fail
            refine (truthC _ _).mono ?_
            rintro e W3 ⟨rfl, rfl⟩
            go_wp2_with fail
            go_ret2
            exact ⟨ret2 (by rw [HR.out]; rfl) (by rw [HR.out]), HP2.out.bel⟩
        · have hd1 : (er1 != 0) = true := by rw [bne_iff_ne]; exact h1
          have HR : Hid (R = (0, er1)) := Lib.hid (by rw [HV.out]; simp [hv, h1])
          clear hv
          go_wp2_with fail
          go_ret2
          exact ⟨ret2 (by rw [HR.out]) (by rw [HR.out]), HP2.out.bel⟩
      · have hb1 : (v == 0) = false := by rw [beq_eq_false_iff_ne]; exact hv
        have hb2 : (v != 0) = true := by rw [bne_iff_ne]; exact hv
        have HR : Hid (R = (1, 0)) := Lib.hid (by rw [HV.out]; simp [hv])
        clear hv
        go_wp2_with fail
        go_ret2
        exact ⟨ret2 (by rw [HR.out]) (by rw [HR.out]), HP1.out.bel⟩
    · have hd0 : (er != 0) = true := by rw [bne_iff_ne]; exact h0
      have HR : Hid (R = (0, er)) := Lib.hid (by rw [HV.out, if_pos h0])
      go_wp2_with fail
      go_ret2
      exact ⟨ret2 (by rw [HR.out]) (by rw [HR.out]), HP1.out.bel⟩
  · go_enter Tryd.func30, Tryd.ntmps30
    go_wp2_with fail
    refine HP0.out.mono ?_
    rintro e W1 ⟨rfl, hp1⟩
    have HP1 := Lib.hid hp1
    clear hp1
    by_cases h0 : er = 0
    · have hd0 : (er != 0) = false := by rw [bne_eq_false_iff_eq]; exact h0
      subst h0
      have c0 : W1.cell? ⟨w0.heap.size + 1, 0, none⟩ = some (.int .i64 v) := HP1.out.c0
      by_cases hv : v = 0
      · have hb1 : (v == 0) = true := by rw [beq_iff_eq]; exact hv
        have hb2 : (v != 0) = false := by rw [bne_eq_false_iff_eq]; exact hv
        go_wp2_with fail
        refine (HPC.out (by simp) _ W1 HP1.out).mono ?_
        rintro e W2 ⟨rfl, hp2⟩
        have HP2 := Lib.hid hp2
        clear hp2 c0
        by_cases h1 : er2 = 0
        · have hd1 : (er2 != 0) = false := by rw [bne_eq_false_iff_eq]; exact h1
          subst h1
          have c1 : W2.cell? ⟨w0.heap.size + 1, 2, none⟩ = some (.int .i64 v2) := HP2.out.c2
          have HR : Hid (R = (v2, 0)) := Lib.hid (by rw [HV.out]; simp [hv])
          clear hv
          go_wp2_with fail
          go_ret2
          exact ⟨ret2 (by rw [HR.out]) (by rw [HR.out]), HP2.out.bel⟩
        · have hd1 : (er2 != 0) = true := by rw [bne_iff_ne]; exact h1
          have HR : Hid (R = (0, er2)) := Lib.hid (by rw [HV.out]; simp [hv, h1])
          clear hv
          go_wp2_with fail
          go_ret2
          exact ⟨ret2 (by rw [HR.out]) (by rw [HR.out]), HP2.out.bel⟩
      · have hb1 : (v == 0) = false := by rw [beq_eq_false_iff_ne]; exact hv
        have hb2 : (v != 0) = true := by rw [bne_iff_ne]; exact hv
        go_wp2_with fail
        refine (HPB.out _ W1 HP1.out).mono ?_
        rintro e W2 ⟨rfl, hp2⟩
        have HP2 := Lib.hid hp2
        clear hp2 c0
        by_cases h1 : er1 = 0
        · have hd1 : (er1 != 0) = false := by rw [bne_eq_false_iff_eq]; exact h1
          subst h1
          have c1 : W2.cell? ⟨w0.heap.size + 1, 1, none⟩ = some (.int .i64 v1) := HP2.out.c1
          have HR : Hid (R = (v1, 0)) := Lib.hid (by rw [HV.out]; simp [hv])
          clear hv
          go_wp2_with fail
          go_ret2
          exact ⟨ret2 (by rw [HR.out]) (by rw [HR.out]), HP2.out.bel⟩
        · have hd1 : (er1 != 0) = true := by rw [bne_iff_ne]; exact h1
          have HR : Hid (R = (0, er1)) := Lib.hid (by rw [HV.out]; simp [hv, h1])
          clear hv
          go_wp2_with fail
          go_ret2
          exact ⟨ret2 (by rw [HR.out]) (by rw [HR.out]), HP2.out.bel⟩
    · have hd0 : (er != 0) = true := by rw [bne_iff_ne]; exact h0
      have HR : Hid (R = (0, er)) := Lib.hid (by rw [HV.out, if_pos h0])
      go_wp2_with fail
      go_ret2
      exact ⟨ret2 (by rw [HR.out]) (by rw [HR.out]), HP1.out.bel⟩
end Go.Proofs.YtbeikhgjkbnldaaDoor
/- One step of the reckoning. -/
namespace Go.Proofs.YtbeikhgjkbnldaaDoor
open Go.ChangeShapes Go.WideShapes Go.ChangeAt Go.RowKit
set_option linter.unusedVariables false
set_option linter.unusedSimpArgs false

theorem evalB_num {E : EnvD} {ev : Int → Int × Int} {x : ExprD} (h : x.op = 1) : evalB E ev x = (x.n, 0) := by
  unfold evalB
  rw [if_pos (by omega)]
theorem evalB_var {E : EnvD} {ev : Int → Int × Int} {x : ExprD} (h : x.op = 2) : evalB E ev x = if (rslotB E ev x).2.2 ≠ 0 then (0, (rslotB E ev x).2.2) else (slotVal E (rslotB E ev x).1 (rslotB E ev x).2.1, 0) := by
  unfold evalB
  rw [if_neg (by omega), if_pos (by omega)]
theorem evalB_one {E : EnvD} {ev : Int → Int × Int} {x : ExprD} (h : 3 ≤ x.op ∧ x.op ≤ 5) : evalB E ev x = if (ev x.a).2 ≠ 0 then (0, (ev x.a).2) else val.one x.op (ev x.a).1 := by
  unfold evalB
  rw [if_neg (by omega), if_neg (by omega), if_pos (by omega)]
theorem evalB_cho {E : EnvD} {ev : Int → Int × Int} {x : ExprD} (h : 22 ≤ x.op ∧ x.op ≤ 24) : evalB E ev x = chosenB ev x := by
  unfold evalB
  rw [if_neg (by omega), if_neg (by omega), if_neg (by omega), if_pos (by omega)]
theorem evalB_roo {E : EnvD} {ev : Int → Int × Int} {x : ExprD} (h : 25 ≤ x.op ∧ x.op ≤ 29) : evalB E ev x = rroomB E ev x := by
  unfold evalB
  rw [if_neg (by omega), if_neg (by omega), if_neg (by omega), if_neg (by omega), if_pos (by omega)]
theorem evalB_pol {E : EnvD} {ev : Int → Int × Int} {x : ExprD} (h : x.op = 30) : evalB E ev x = rpollB E ev x := by
  unfold evalB
  rw [if_neg (by omega), if_neg (by omega), if_neg (by omega), if_neg (by omega), if_neg (by omega), if_pos (by omega)]
theorem evalB_kno {E : EnvD} {ev : Int → Int × Int} {x : ExprD} (h : 31 ≤ x.op ∧ x.op ≤ 35) : evalB E ev x = (knownB E x.op, 0) := by
  unfold evalB
  rw [if_neg (by omega), if_neg (by omega), if_neg (by omega), if_neg (by omega), if_neg (by omega), if_neg (by omega), if_pos (by omega)]
theorem evalB_ask {E : EnvD} {ev : Int → Int × Int} {x : ExprD} (h : 36 ≤ x.op ∧ x.op ≤ 38) : evalB E ev x = if (ev x.a).2 ≠ 0 then (0, (ev x.a).2) else askedB E x (ev x.a).1 := by
  unfold evalB
  rw [if_neg (by omega), if_neg (by omega), if_neg (by omega), if_neg (by omega), if_neg (by omega), if_neg (by omega), if_neg (by omega), if_pos (by omega)]
theorem evalB_run {E : EnvD} {ev : Int → Int × Int} {x : ExprD} (h : x.op = 39) : evalB E ev x = (0, 42) := by
  unfold evalB
  rw [if_neg (by omega), if_neg (by omega), if_neg (by omega), if_neg (by omega), if_neg (by omega), if_neg (by omega), if_neg (by omega), if_neg (by omega), if_pos (by omega)]
theorem evalB_two {E : EnvD} {ev : Int → Int × Int} {x : ExprD} (h : 6 ≤ x.op ∧ x.op ≤ 21) : evalB E ev x = if (ev x.a).2 ≠ 0 then (0, (ev x.a).2) else if (ev x.b).2 ≠ 0 then (0, (ev x.b).2) else val.two x.op (ev x.a).1 (ev x.b).1 := by
  unfold evalB
  rw [if_neg (by omega), if_neg (by omega), if_neg (by omega), if_neg (by omega), if_neg (by omega), if_neg (by omega), if_neg (by omega), if_neg (by omega), if_neg (by omega)]
theorem dims_reach {ev : Int → Int × Int} : ∀ (l : List DimD) (a b : Int), (∀ d ∈ l, 1 ≤ d.len ∧ d.len ≤ 128 ∧ 0 ≤ d.stride ∧ d.stride ≤ 128) → 0 ≤ a → a + 1 ≤ b → (dimsF ev l a).2 = 0 → 0 ≤ (dimsF ev l a).1 ∧ (dimsF ev l a).1 + 1 ≤ reachR l b
  | [], a, b, _, h0, h1, _ => ⟨h0, h1⟩
  | d :: r, a, b, hd, h0, h1, h2 => by
    have hd0 := hd d (List.mem_cons_self ..)
    have hr : reachR (d :: r) b = reachR r (b + (d.len - 1) * d.stride) := (if_neg (by omega) : (if d.len < 1 ∨ 1073741825 < d.len ∨ d.stride < 0 ∨ 1073741824 < d.stride then 0 else reachR r (b + (d.len - 1) * d.stride)) = _)
    rw [hr]
    unfold dimsF at h2 ⊢
    split at h2
    · rename_i hh
      exact absurd h2 hh
    · rename_i hh
      rw [if_neg hh]
      split at h2
      · simp at h2
      · rename_i hj
        rw [if_neg hj]
        have hm0 : 0 ≤ (ev d.i).1 * d.stride := Int.mul_nonneg (by omega) (by omega)
        have hm1 : (ev d.i).1 * d.stride ≤ (d.len - 1) * d.stride := Int.mul_le_mul_of_nonneg_right (by omega) (by omega)
        exact dims_reach r _ _ (fun q hq => hd q (List.mem_cons_of_mem _ hq)) (by omega) (by omega) h2
theorem pid_range {E : EnvD} {ev : Int → Int × Int} {v : VarD} (hok : Ok E) (h : (pidB E ev v).2 = 0) : (pidB E ev v).1 < E.s.procs.length := by
  have h0 := hok.pid
  unfold pidB at h ⊢
  split
  · rename_i h1
    rw [if_pos h1] at h
    split
    · rename_i h3
      rw [if_pos h3] at h
      simp at h
    · exact h0.2
  · rename_i h1
    rw [if_neg h1] at h
    split
    · rename_i h2
      rw [if_pos h2] at h
      split
      · rename_i h3
        rw [if_pos h3] at h
        exact absurd h h3
      · rename_i h3
        rw [if_neg h3] at h
        split
        · rename_i h4
          rw [if_pos h4] at h
          simp at h
        · rename_i h4
          show (ev v.who).1 < _
          omega
    · show (-1 : Int) < _
      omega
theorem slot_range {E : EnvD} {ev : Int → Int × Int} {x : ExprD} (hok : Ok E) (hv : VarF x.v) (h : (rslotB E ev x).2.2 = 0) : (rslotB E ev x).1 < E.s.procs.length ∧ ∃ k : Nat, (rslotB E ev x).2.1 = k ∧ k < (slotsL E (rslotB E ev x).1).length := by
  unfold rslotB at h ⊢
  split at h
  · simp at h
  · rename_i h1
    rw [if_neg h1]
    split at h
    · rename_i h2
      exact absurd h h2
    · rename_i h2
      rw [if_neg h2]
      split at h
      · simp at h
      · rename_i h3
        rw [if_neg h3]
        split at h
        · rename_i h4
          exact absurd h h4
        · rename_i h4
          rw [if_neg h4]
          have h5 := dims_reach (ev := ev) x.v.dims x.v.slot (x.v.slot + 1) hv.d hv.t0 (Int.le_refl _) (by simpa using h4)
          have h6 : reachL x.v = reachR x.v.dims (x.v.slot + 1) := by
            unfold reachL
            have := hv.t0; have := hv.t1; have := hv.n
            rw [if_neg (by omega)]
          refine ⟨pid_range hok (by simpa using h2), ((dimsF ev x.v.dims x.v.slot).1).toNat, ?_, ?_⟩
          · show (dimsF ev x.v.dims x.v.slot).1 = _
            omega
          · show _ < (slotsL E (pidB E ev x.v).1).length
            omega

end Go.Proofs.YtbeikhgjkbnldaaDoor
