/- Are two channels the same? -/
import Derived.Test.YtfcoljioojidnaaCopied
namespace Go.Proofs.Ytfcoljioojidnaa
open Go.ChangeShapes Go.WideShapes Go.ChangeAt Go.RowKit
set_option linter.unusedVariables false
set_option linter.unusedSimpArgs false

theorem two_boxes (w : World) (o1 o2 : Obj) : ((w.alloc o1).alloc o2).heap[w.heap.size]? = some o1 ∧ ((w.alloc o1).alloc o2).heap[w.heap.size + 1]? = some o2 ∧ Below w.heap.size w ((w.alloc o1).alloc o2) := by
  refine ⟨?_, ?_, ((Below.refl _ w).alloc (Nat.le_refl _) _).alloc (by simp) _⟩
  · rw [Below.heap_alloc _ _ _ (by simp)]
    exact heap_alloc_new w _
  · rw [show w.heap.size + 1 = (w.alloc o1).heap.size by simp]
    exact heap_alloc_new _ _

set_option maxHeartbeats 4000000 in
set_option maxRecDepth 100000 in
theorem same10 (r1 r2 : Int) (s1 s2 : SL) (L1 L2 : List SL) (Q1 Q2 : List (List Int)) (w : World) (n1 : s1.n = L1.length) (n2 : s2.n = L2.length) (h1 : QRow w s1.o L1) (h2 : QRow w s2.o L2) (m1 : Msgs w L1 Q1) (m2 : Msgs w L2 Q2) (hb1 : L1.length ≤ 9223372036854775806) (hb2 : L2.length ≤ 9223372036854775806) (hq1 : ∀ q ∈ Q1, q.length ≤ 9223372036854775806) (hq2 : ∀ q ∈ Q2, q.length ≤ 9223372036854775806) :
    Calls Try.prog 10 #[chV r1 s1, chV r2 s2] w fun e w' => e = .returned (.bool (decide (r1 = r2 ∧ Q1 = Q2))) ∧ Below w.heap.size w w' := by
  obtain ⟨so1, sn1, sc1⟩ := s1
  obtain ⟨so2, sn2, sc2⟩ := s2
  simp only at n1 n2
  subst n1 n2
  have H1 := Lib.hid h1
  have H2 := Lib.hid h2
  have M1 := Lib.hid m1
  have M2 := Lib.hid m2
  have HQ1 := Lib.hid hq1
  have HQ2 := Lib.hid hq2
  have T2 := Lib.hid (two_boxes w (Obj.cells #[.int .i64 r1, .slice so1 L1.length sc1] 27) (Obj.cells #[.int .i64 r2, .slice so2 L2.length sc2] 27))
  obtain ⟨R, hR⟩ : ∃ R, decide (r1 = r2 ∧ Q1 = Q2) = R := ⟨_, rfl⟩
  rw [hR]
  have HR := Lib.hid hR
  clear h1 h2 m1 m2 hq1 hq2 hR
  unfold chV slV
  simp only at H1 H2 ⊢
  by_cases hr : r1 = r2
  · have hrb : (r1 != r2) = false := by simp [hr]
    by_cases hl : L1.length = L2.length
    · have hlb : ((L1.length : Int) != (L2.length : Int)) = false := by simp [hl]
      have HL := Lib.hid hl
      have HRR := Lib.hid hr
      clear hl hr
      go_enter Try.func10, Try.ntmps10
      go_wp2_with fail
      obtain ⟨W, hW⟩ : ∃ W, (w.alloc (Obj.cells #[.int .i64 r1, .slice so1 L1.length sc1] 27)).alloc (Obj.cells #[.int .i64 r2, .slice so2 L2.length sc2] 27) = W := ⟨_, rfl⟩
      rw [hW] at T2 ⊢
      clear hW
      go_loopw [5] (fun iv wr => ∃ (i m : Nat), iv = .int .i64 i ∧ i ≤ L1.length ∧ wr = W.drewN m ∧ Hid (∀ j (a : j < Q1.length) (b : j < Q2.length), j < i → Q1[j] = Q2[j])) (fun i _ => L1.length - (intOf i).toNat)
      case atStart => exact ⟨0, 0, rfl, by omega, rfl, Lib.hid fun j _ _ h => by omega⟩
      case round =>
        obtain ⟨i, m, rfl, hi, rfl, HE⟩ := hrel
        have hi0 : (0 : Int) ≤ i := by omega
        have c1 : ∀ q, (W.drewN q).cell? ⟨w.heap.size, 1, none⟩ = some (.slice so1 L1.length sc1) := fun q => (cell_of_row _ _ _ _ _ _ T2.out.1).trans rfl
        have c2 : ∀ q, (W.drewN q).cell? ⟨w.heap.size + 1, 1, none⟩ = some (.slice so2 L2.length sc2) := fun q => (cell_of_row _ _ _ _ _ _ T2.out.2.1).trans rfl
        by_cases hlt : i < L1.length
        · have hlti : (i : Int) < L1.length := by omega
          have hlt2 : i < L2.length := by have := HL.out; omega
          have hlti2 : (i : Int) < L2.length := by omega
          obtain ⟨g1, f1, rfl, hg1, hc1⟩ : ∃ g off, so1 = some ⟨g, off, none⟩ ∧ g < w.heap.size ∧ ∀ i (h : i < L1.length), w.cell? ⟨g, off + i, none⟩ = some (slV L1[i]) := by
            rcases H1.out with h | h
            · omega
            · exact h
          obtain ⟨g2, f2, rfl, hg2, hc2⟩ : ∃ g off, so2 = some ⟨g, off, none⟩ ∧ g < w.heap.size ∧ ∀ i (h : i < L2.length), w.cell? ⟨g, off + i, none⟩ = some (slV L2[i]) := by
            rcases H2.out with h | h
            · omega
            · exact h
          obtain ⟨⟨o1, k1, e1⟩, hm1⟩ : ∃ s, L1[i] = s := ⟨_, rfl⟩
          obtain ⟨⟨o2, k2, e2⟩, hm2⟩ : ∃ s, L2[i] = s := ⟨_, rfl⟩
          have a1 : ∀ q, (W.drewN q).cell? ⟨g1, f1 + i, none⟩ = some (.slice o1 k1 e1) := fun q => (T2.out.2.2.cell hg1).trans ((hc1 i hlt).trans (by rw [hm1]; rfl))
          have a2 : ∀ q, (W.drewN q).cell? ⟨g2, f2 + i, none⟩ = some (.slice o2 k2 e2) := fun q => (T2.out.2.2.cell hg2).trans ((hc2 i hlt2).trans (by rw [hm2]; rfl))
          have hq1 : i < Q1.length := by have := M1.out.1; omega
          have hq2 : i < Q2.length := by have := M2.out.1; omega
          have hN : ∀ q, Calls Try.prog 15 #[.slice o1 k1 e1, .slice o2 k2 e2] (W.drewN q) fun e w' => e = .returned (.bool (decide (Q1[i] = Q2[i]))) ∧ ∃ n, w' = (W.drewN q).drewN n := fun q =>
            numbers15 ⟨o1, k1, e1⟩ ⟨o2, k2, e2⟩ Q1[i] Q2[i] (W.drewN q) (hm1 ▸ (M1.out.2 i hlt hq1).below (bdrew T2.out.2.2 q)) (hm2 ▸ (M2.out.2 i hlt2 hq2).below (bdrew T2.out.2.2 q)) (HQ1.out _ (List.getElem_mem hq1)) (HQ2.out _ (List.getElem_mem hq2))
          obtain ⟨b, hb⟩ : ∃ b, decide (Q1[i] = Q2[i]) = b := ⟨_, rfl⟩
          have HBB := Lib.hid hb
          have HNN : Hid (∀ q, Calls Try.prog 15 #[.slice o1 k1 e1, .slice o2 k2 e2] ((W.drewN m).drewN q) fun e w' => e = .returned (.bool b) ∧ ∃ n, w' = ((W.drewN m).drewN q).drewN n) := Lib.hid (by subst hb; exact fun q => by rw [← drewN_add]; exact hN (m + q))
          have HBW := Lib.hid (bdrew T2.out.2.2 m)
          have b0 := a1 m
          have b1 := a2 m
          have b2 := c1 m
          have b3 := c2 m
          clear hc1 hc2 hm1 hm2 hN hb c1 c2 a1 a2
          obtain ⟨X, hX⟩ : ∃ X, W.drewN m = X := ⟨_, rfl⟩
          rw [hX] at HNN b0 b1 b2 b3 HBW ⊢
          have HX := Lib.hid hX
          clear hX
          go_wp2_with fail
          go_quiet ((go_at_call 15; exact Calls.quiet_of (HNN.out _)))
          clear b0 b1 b2 b3
          simp only [Exit.then]
          cases b
          · have HK : Hid (R = false) := Lib.hid (by
              rw [← HR.out, decide_eq_false_iff_not]
              rintro ⟨_, e⟩
              subst e
              simpa using HBB.out)
            go_wp2_with fail
            go_ret
            exact ⟨by rw [HK.out]; rfl, bdrew HBW.out _⟩
          · go_wp2_with fail
            go_roundw
            case rel => exact ⟨i + 1, m + nq, by go_num, by omega, by rw [drewN_add, HX.out], Lib.hid fun j a b hji => by
              by_cases e : j = i
              · subst e
                simpa using HBB.out
              · exact HE.out j a b (by omega)⟩
            case measure => simp [intOf]; omega
        · have hlti : ¬ (i : Int) < L1.length := by omega
          have HK : Hid (R = true) := Lib.hid (by
            rw [← HR.out, decide_eq_true_iff]
            exact ⟨HRR.out, List.ext_getElem (by rw [← M1.out.1, ← M2.out.1, HL.out]) fun j a b => HE.out j a b (by have := M1.out.1; omega)⟩)
          have b4 := c1 m
          clear c1 c2
          go_wp2_with fail
          go_ret
          exact ⟨by rw [HK.out]; rfl, bdrew T2.out.2.2 m⟩
    · have hlb : ((L1.length : Int) != (L2.length : Int)) = true := by rw [bne_iff_ne]; omega
      have HK : Hid (R = false) := Lib.hid (by
        rw [← HR.out, decide_eq_false_iff_not]
        rintro ⟨_, rfl⟩
        exact hl (M1.out.1.trans M2.out.1.symm))
      clear hl hr
      go_enter Try.func10, Try.ntmps10
      go_wp2_with fail
      go_ret
      exact ⟨by rw [HK.out]; rfl, T2.out.2.2⟩
  · have hrb : (r1 != r2) = true := by simp [hr]
    have HK : Hid (R = false) := Lib.hid (by
      rw [← HR.out, decide_eq_false_iff_not]
      exact fun h => hr h.1)
    clear hr
    go_enter Try.func10, Try.ntmps10
    go_wp2_with fail
    go_ret
    exact ⟨by rw [HK.out]; rfl, T2.out.2.2⟩
end Go.Proofs.Ytfcoljioojidnaa
