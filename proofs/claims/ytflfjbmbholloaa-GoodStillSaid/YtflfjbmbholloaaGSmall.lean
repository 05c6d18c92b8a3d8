/- The checker's small questions. -/
import Derived.Test.YtflfjbmbholloaaGFit
namespace Go.Proofs.Ytflfjbmbholloaa
open Go.ChangeShapes Go.WideShapes Go.ChangeAt Go.RowKit
set_option linter.unusedVariables false
set_option linter.unusedSimpArgs false

theorem partsOfC (op : Int) (w : World) : Calls Try.prog 24 #[.int .i64 op] w fun e w' => e = .returned (.int .i64 (partsOf op)) ∧ w = w' := by
  have HP : Hid (∀ n : Nat, partsOf op = n → ((partsOf op : Nat) : Int) = n) := Lib.hid fun n h => by rw [h]
  go_enter Try.func24, Try.ntmps24
  go_wp2
  all_goals (go_ret; refine ⟨retI ?_, rfl⟩)
  all_goals (unfold partsOf; repeat' split)
  all_goals first | rfl | omega | (exfalso; simp only [beq_iff_eq, beq_eq_false_iff_ne, ne_eq] at *; omega)
theorem proctypeC {B p : Nat} {h : MH} {m : ModelD} (n : Int) (w : World) (hk : Ck B w p h m) : Calls Try.prog 27 #[.pointer (some ⟨p, 0, none⟩), .int .i64 n] w fun e w' => e = .returned (.bool (ptypeB m n)) ∧ w = w' := by
  have c4 := hk.c4
  have c5 := hk.c5
  have hl := hk.md.procs.1
  clear hk
  go_enter Try.func27, Try.ntmps27
  go_wp2
  all_goals (go_ret; refine ⟨retB ?_, rfl⟩)
  all_goals (unfold ptypeB; rw [Bool.eq_iff_iff]; simp_all)
  all_goals omega
theorem isExprC {B p : Nat} {h : MH} {m : ModelD} (n : Int) (w : World) (hk : Ck B w p h m) : Calls Try.prog 33 #[.pointer (some ⟨p, 0, none⟩), .int .i64 n] w fun e w' => e = .returned (.bool (isExprB m n)) ∧ w = w' := by
  have c6 := hk.c6
  have hl := hk.md.exprs.1
  clear hk
  go_enter Try.func33, Try.ntmps33
  go_wp2
  all_goals (go_ret; refine ⟨retB ?_, rfl⟩)
  all_goals (unfold isExprB; rw [Bool.eq_iff_iff]; simp_all)
  all_goals omega
theorem opAt_get {m : ModelD} {n : Int} {x : ExprD} (h : m.exprs[n.toNat]? = some x) : opAt m n = x.op := by unfold opAt; rw [h]; rfl
theorem isVarC {B p : Nat} {h : MH} {m : ModelD} (n : Int) (w : World) (hk : Ck B w p h m) : Calls Try.prog 34 #[.pointer (some ⟨p, 0, none⟩), .int .i64 n] w fun e w' => e = .returned (.bool (isVarB m n)) ∧ w = w' := by
  have HK := Lib.hid hk
  have c6 := hk.c6
  have hl := hk.md.exprs.1
  clear hk
  cases hx : isExprB m n
  · have hv : isVarB m n = false := by unfold isVarB; rw [hx]; rfl
    have HV := Lib.hid hv
    have HX := Lib.hid hx
    clear hv hx
    go_enter Try.func34, Try.ntmps34
    go_wp2_with fail
    refine (isExprC n w HK.out).mono ?_
    rintro e w' ⟨rfl, rfl⟩
    rw [HX.out]
    go_wp2
    go_ret
    exact ⟨retB HV.out.symm, rfl⟩
  · have hb : 0 ≤ n ∧ n < m.exprs.length := by unfold isExprB at hx; simpa using hx
    obtain ⟨k, rfl⟩ : ∃ k : Nat, n = k := ⟨n.toNat, by omega⟩
    have hk : k < m.exprs.length := by omega
    obtain ⟨g, off, ho, hg, he⟩ := HK.out.md.exprs.cell hk
    have hv : isVarB m (k : Int) = decide (m.exprs[k].op = 2) := by
      unfold isVarB
      rw [hx, opAt_get (x := m.exprs[k]) (by rw [Int.toNat_natCast]; exact List.getElem?_eq_getElem hk)]
      rfl
    have HV := Lib.hid hv
    have HX := Lib.hid hx
    have c0 := he.c0
    obtain ⟨op, hop⟩ : ∃ op, m.exprs[k].op = op := ⟨_, rfl⟩
    rw [hop] at c0 HV
    rw [ho] at c6
    have h1 : (k : Int) < m.exprs.length := by omega
    clear hv hx hb he ho hop
    go_enter Try.func34, Try.ntmps34
    go_wp2_with fail
    refine (isExprC k w HK.out).mono ?_
    rintro e w' ⟨rfl, rfl⟩
    rw [HX.out]
    go_wp2
    all_goals (go_ret; refine ⟨retB ?_, rfl⟩)
    all_goals (rw [HV.out])
    all_goals (rw [Bool.eq_iff_iff]; simp)
end Go.Proofs.Ytflfjbmbholloaa
