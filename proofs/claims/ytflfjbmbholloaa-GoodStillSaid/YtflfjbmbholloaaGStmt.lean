/- One statement's fields. -/
import Derived.Test.YtflfjbmbholloaaGProcs
import Derived.Deep.DeepCutAuto
import Derived.Deep.CutBlock
namespace Go.Proofs.Ytflfjbmbholloaa
open Go.ChangeShapes Go.WideShapes Go.ChangeAt Go.RowKit
set_option linter.unusedVariables false
set_option linter.unusedSimpArgs false

theorem claimsC (k : Int) (w : World) : Calls Try.prog 29 #[.int .i64 k] w fun e w' => e = .returned (.bool (claimsB k)) ∧ w = w' := by
  have key : ∀ a b c d : Bool, (k == 1) = a → (k == 3) = b → (k == 7) = c → (k == 8) = d → claimsB k = (a || b || c || d) := by
    intro a b c d h1 h2 h3 h4
    subst h1 h2 h3 h4
    unfold claimsB
    rw [Bool.eq_iff_iff]
    simp
    omega
  obtain ⟨a, ha⟩ : ∃ a, (k == 1) = a := ⟨_, rfl⟩
  obtain ⟨b, hb⟩ : ∃ a, (k == 3) = a := ⟨_, rfl⟩
  obtain ⟨c, hc⟩ : ∃ a, (k == 7) = a := ⟨_, rfl⟩
  obtain ⟨d, hd⟩ : ∃ a, (k == 8) = a := ⟨_, rfl⟩
  have HV := Lib.hid (key a b c d ha hb hc hd)
  clear key
  go_enter Try.func29, Try.ntmps29
  cases a <;> cases b <;> cases c <;> cases d
  all_goals (
    go_wp2_with fail
    go_ret
    exact ⟨retB HV.out.symm, rfl⟩)
theorem settableC {B p : Nat} {h : MH} {m : ModelD} (n : Int) (w : World) (hk : Ck B w p h m) : Calls Try.prog 35 #[.pointer (some ⟨p, 0, none⟩), .int .i64 n] w fun e w' => e = .returned (.bool (settableB m n)) ∧ w = w' := by
  have HK := Lib.hid hk
  have c6 := hk.c6
  clear hk
  cases hx : isVarB m n
  · have hv : settableB m n = false := by unfold settableB; rw [hx]; rfl
    have HV := Lib.hid hv
    have HX := Lib.hid hx
    clear hv hx
    go_enter Try.func35, Try.ntmps35
    go_wp2_with fail
    refine (isVarC n w HK.out).mono ?_
    rintro e w' ⟨rfl, rfl⟩
    rw [HX.out]
    go_wp2_with fail
    go_ret
    exact ⟨retB HV.out.symm, rfl⟩
  · have hie : isExprB m n = true := by unfold isVarB at hx; rw [Bool.and_eq_true] at hx; exact hx.1
    have hb : 0 ≤ n ∧ n < m.exprs.length := by unfold isExprB at hie; simpa using hie
    obtain ⟨k, rfl⟩ : ∃ k : Nat, n = k := ⟨n.toNat, by omega⟩
    have hk : k < m.exprs.length := by omega
    obtain ⟨x, hget⟩ : ∃ x, m.exprs[k]? = some x := ⟨_, List.getElem?_eq_getElem hk⟩
    obtain ⟨g, off, ho, hg, he⟩ := HK.out.md.exprs.get hget
    have hsc : scopeAt m (k : Int) = x.v.scope := by unfold scopeAt; rw [Int.toNat_natCast, hget]; rfl
    have hv : settableB m (k : Int) = decide (x.v.scope ≠ 2) := by unfold settableB; rw [hx, hsc]; rfl
    have HV := Lib.hid hv
    have HX := Lib.hid hx
    have c0 := he.v.c0
    rw [ho] at c6
    have h1 : (k : Int) < m.exprs.length := by omega
    obtain ⟨sc, hs⟩ : ∃ s, x.v.scope = s := ⟨_, rfl⟩
    rw [hs] at c0 HV
    clear hv hx hb he ho hie hsc hs hget
    go_enter Try.func35, Try.ntmps35
    go_wp2_with fail
    refine (isVarC k w HK.out).mono ?_
    rintro e w' ⟨rfl, rfl⟩
    rw [HX.out]
    by_cases h2 : sc = 2
    · have HZ : Hid (settableB m (k : Int) = false) := Lib.hid (by rw [HV.out, h2]; rfl)
      have hb2 : (sc != 2) = false := by simp [h2]
      clear h2
      go_wp2_with fail
      go_ret
      exact ⟨retB HZ.out.symm, rfl⟩
    · have HZ : Hid (settableB m (k : Int) = true) := Lib.hid (by rw [HV.out]; exact decide_eq_true h2)
      have hb2 : (sc != 2) = true := by rw [bne_iff_ne]; exact h2
      clear h2
      go_wp2_with fail
      go_ret
      exact ⟨retB HZ.out.symm, rfl⟩

/-- A statement's cells. -/
structure SC (w : World) (g a : Nat) (s : StmtD) (o1 : Option Addr) (p1 : Nat) (o2 : Option Addr) (p2 : Nat) : Prop where
  c0 : w.cell? ⟨g, a, none⟩ = some (.int .i64 s.kind)
  c1 : w.cell? ⟨g, a + 1, none⟩ = some (.int .i64 s.a)
  c2 : w.cell? ⟨g, a + 2, none⟩ = some (.int .i64 s.b)
  c3 : w.cell? ⟨g, a + 3, none⟩ = some (.int .i64 s.n)
  c4 : w.cell? ⟨g, a + 4, none⟩ = some (.slice o1 s.args.length p1)
  c5 : w.cell? ⟨g, a + 5, none⟩ = some (.slice o2 s.mat.length p2)
  c6 : w.cell? ⟨g, a + 6, none⟩ = some (.string s.text)
theorem stmtAt.sc {B g a : Nat} {w : World} {s : StmtD} (h : stmtAt B w g a s) : ∃ o1 p1 o2 p2, SC w g a s o1 p1 o2 p2 ∧ Row B o1 1 (intAt w) s.args ∧ Row B o2 1 (intAt w) s.mat := by
  obtain ⟨o1, p1, a1, a2⟩ := h.args
  obtain ⟨o2, p2, m1, m2⟩ := h.mat
  exact ⟨o1, p1, o2, p2, ⟨h.c0, h.c1, h.c2, h.c3, a1, m1, h.c6⟩, a2, m2⟩

set_option maxHeartbeats 2000000 in
set_option maxRecDepth 100000 in
theorem receivesC {B p g a : Nat} {h : MH} {m : ModelD} {s : StmtD} (w : World) (hk : Ck B w p h m) (hs : stmtAt B w g a s) (hg : g < B) :
    Calls Try.prog 36 #[.pointer (some ⟨p, 0, none⟩), .pointer (some ⟨g, a, none⟩)] w fun e w' => e = .returned (.bool (receivesB m s)) ∧ Below w.heap.size w w' := by
  have HK := Lib.hid hk
  obtain ⟨o1, p1, o2, p2, hsc, hr1, hr2⟩ := hs.sc
  have HSC := Lib.hid hsc
  have HR := Lib.hid (And.intro hr1 hr2)
  have c4 := hsc.c4
  have c5 := hsc.c5
  have l1 := hr1.1
  have l2 := hr2.1
  have hBw : B ≤ w.heap.size := by have := hk.le; have := hk.lt; omega
  have HC : Hid (∀ nn, Calls Try.prog 26 #[.pointer (some ⟨p, 0, none⟩), .slice o1 s.args.length p1, .slice o2 s.mat.length p2] (w.drewN nn) fun e w' => e = .returned (.bool (fieldsB m s.args s.mat)) ∧ w' = w.drewN nn) := Lib.hid fun nn => by
    have hbb : Below B w (w.drewN nn) := bdrew (Below.refl _ _) nn
    exact (fieldsC s.args s.mat o1 o2 p1 p2 (w.drewN nn) (HK.out.below (bdrew (Below.refl _ _) nn)) (HR.out.1.mono fun _ _ _ hg => intAt.below hbb hg) (HR.out.2.mono fun _ _ _ hg => intAt.below hbb hg)).mono fun _ _ ⟨h1, h2⟩ => ⟨h1, h2.symm⟩
  have HKN : Hid (∀ nn, Ck B (w.drewN nn) p h m) := Lib.hid fun nn => HK.out.below (bdrew (Below.refl _ _) nn)
  have HBN : Hid (∀ nn, Below w.heap.size w (w.drewN nn)) := Lib.hid fun nn => bdrew (Below.refl _ _) nn
  obtain ⟨fb, hfb⟩ : ∃ b, fieldsB m s.args s.mat = b := ⟨_, rfl⟩
  rw [hfb] at HC
  have HFB := Lib.hid hfb
  clear hsc hr1 hr2 hs hk hfb
  cases fb
  · have HV : Hid (receivesB m s = false) := Lib.hid (by unfold receivesB; rw [HFB.out]; rfl)
    go_enter Try.func36, Try.ntmps36
    go_wp2_with fail
    go_quiet ((go_at_call 26; exact Calls.quiet_of_same (HC.out _)))
    go_wp2_with fail
    go_ret
    exact ⟨retB HV.out.symm, HBN.out _⟩
  · have HV : Hid (receivesB m s = (s.args.zip s.mat).all (recvB m)) := Lib.hid (by unfold receivesB; rw [HFB.out]; rfl)
    have HLE : Hid (s.mat.length = s.args.length) := Lib.hid (by have h0 := HFB.out; unfold fieldsB at h0; simp at h0; omega)
    have m1 : (s.mat.length : Int) ≤ s.args.length := by have := HLE.out; omega
    have m2 : (s.args.length : Int) ≤ s.mat.length := by have := HLE.out; omega
    go_enter Try.func36, Try.ntmps36
    go_wp2_with fail
    go_quiet ((go_at_call 26; exact Calls.quiet_of_same (HC.out _)))
    have HW := Lib.hid (And.intro (HKN.out nq) (HBN.out nq))
    have d4 : (w.drewN nq).cell? ⟨g, a + 4, none⟩ = some (.slice o1 s.args.length p1) := c4
    have d5 : (w.drewN nq).cell? ⟨g, a + 5, none⟩ = some (.slice o2 s.mat.length p2) := c5
    have HR2 : Hid (Row B o1 1 (intAt (w.drewN nq)) s.args ∧ Row B o2 1 (intAt (w.drewN nq)) s.mat) := Lib.hid ⟨HR.out.1.mono fun _ _ _ hg => intAt.below (bdrew (Below.refl _ _) nq) hg, HR.out.2.mono fun _ _ _ hg => intAt.below (bdrew (Below.refl _ _) nq) hg⟩
    generalize w.drewN nq = W at HW d4 d5 HR2 ⊢
    clear c4 c5 HC HKN HBN
    go_wp2_with fail
    go_loop [23] (fun iv => ∃ k : Nat, iv = .int .i64 k ∧ k ≤ s.args.length ∧ Hid (∀ j (hj : j < (s.args.zip s.mat).length), j < k → recvB m (s.args.zip s.mat)[j] = true)) (fun iv => s.args.length - (intOf iv).toNat)
    case atStart => exact ⟨0, rfl, by omega, Lib.hid fun j _ h => by omega⟩
    case round =>
      obtain ⟨k, rfl, hk, HD⟩ := hrel
      have hk0 : (0 : Int) ≤ k := by omega
      by_cases hlt : k < s.args.length
      · have hlti : (k : Int) < s.args.length := by omega
        have hltm : k < s.mat.length := by have := HLE.out; omega
        have hltmi : (k : Int) < s.mat.length := by omega
        obtain ⟨ga, offa, hoa, hga, e0⟩ := HR2.out.1.cell hlt
        obtain ⟨gm, offm, hom, hgm, e2⟩ := HR2.out.2.cell hltm
        subst hoa hom
        obtain ⟨hz, hzip⟩ := zip_get hlt hltm
        obtain ⟨x, hx⟩ : ∃ x, s.args[k] = x := ⟨_, rfl⟩
        obtain ⟨q, hq⟩ : ∃ q, s.mat[k] = q := ⟨_, rfl⟩
        rw [hx, hq] at hzip
        have f0 : W.cell? ⟨ga, offa + k, none⟩ = some (.int .i64 x) := by have := e0; unfold intAt at this; rw [Nat.mul_one, hx] at this; exact this
        have f2 : W.cell? ⟨gm, offm + k, none⟩ = some (.int .i64 q) := by have := e2; unfold intAt at this; rw [Nat.mul_one, hq] at this; exact this
        have HBAD : Hid (recvB m (x, q) = false → receivesB m s = false) := Lib.hid fun h => by rw [HV.out, all_bad hz (by rw [hzip]; exact h)]
        have HGO : Hid (recvB m (x, q) = true → ∀ j (hj : j < (s.args.zip s.mat).length), j < k + 1 → recvB m (s.args.zip s.mat)[j] = true) := Lib.hid fun h j hj hjk => by
          by_cases e : j = k
          · subst e; rw [hzip]; exact h
          · exact HD.out j hj (by omega)
        clear e0 e2 hx hq hz hzip
        by_cases hq0 : q = 0
        · have hqb : (q == 0) = true := by simp [hq0]
          have HQ := Lib.hid hq0
          clear hq0
          go_wp2_with fail
          refine (settableC x W HW.out.1).mono ?_
          rintro e w' ⟨rfl, rfl⟩
          obtain ⟨u, hu⟩ : ∃ u, settableB m x = u := ⟨_, rfl⟩
          rw [hu]
          have HU := Lib.hid hu
          clear hu
          cases u
          · have HZ := Lib.hid (HBAD.out (by unfold recvB; rw [HU.out]; simp [HQ.out]))
            go_wp2_with fail
            go_ret
            exact ⟨retB HZ.out.symm, HW.out.2⟩
          · have HZ := Lib.hid (HGO.out (by unfold recvB; rw [HU.out]; simp))
            go_wp2_with fail
            go_round
            case rel => exact ⟨k + 1, by go_num, by omega, HZ⟩
            case measure => simp [intOf]; omega
        · have hqb : (q == 0) = false := by simp [hq0]
          have HZ := Lib.hid (HGO.out (by unfold recvB; simp [hq0]))
          clear hq0
          go_wp2_with fail
          go_round
          case rel => exact ⟨k + 1, by go_num, by omega, HZ⟩
          case measure => simp [intOf]; omega
      · have hlti : ¬ (k : Int) < s.args.length := by omega
        have HZ : Hid (receivesB m s = true) := Lib.hid (by rw [HV.out]; exact all_of fun j hj => HD.out j hj (by rw [List.length_zip] at hj; omega))
        go_wp2_with fail
        go_ret
        exact ⟨retB HZ.out.symm, HW.out.2⟩
end Go.Proofs.Ytflfjbmbholloaa
