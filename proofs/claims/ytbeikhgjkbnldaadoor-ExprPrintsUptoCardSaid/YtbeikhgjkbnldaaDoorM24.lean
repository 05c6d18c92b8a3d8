/- The place of the message that is received. -/
import Derived.Test.YtbeikhgjkbnldaaDoorM23
import Derived.WalkMore
namespace Go.Proofs.YtbeikhgjkbnldaaDoor
open Go.ChangeShapes Go.WideShapes Go.ChangeAt Go.RowKit
set_option linter.unusedVariables false
set_option linter.unusedSimpArgs false

theorem matches_short {want mat msg : List Int} (h : msg.length < mat.length ∨ want.length < mat.length) : matchesB want mat msg = false := by
  unfold matchesB
  rw [decide_eq_false (by omega)]
  rfl
theorem getD_at {l : List Int} {j : Nat} (h : j < l.length) : l.getD j 0 = l[j] := by
  rw [List.getD_eq_getElem?_getD, List.getElem?_eq_getElem h]; rfl
theorem matches_bad {want mat msg : List Int} {j : Nat} (h1 : j < mat.length) (h2 : j < msg.length) (h3 : j < want.length) (h4 : mat[j] = 1) (h5 : msg[j] ≠ want[j]) : matchesB want mat msg = false := by
  unfold matchesB
  rw [show ((List.range mat.length).all (fun i => !(decide (mat.getD i 0 = 1) && decide (msg.getD i 0 ≠ want.getD i 0)))) = false from by
    rw [List.all_eq_false]
    refine ⟨j, List.mem_range.2 h1, ?_⟩
    rw [getD_at h1, getD_at h2, getD_at h3, decide_eq_true h4, decide_eq_true h5]
    simp]
  rw [Bool.and_false]
theorem matches_ok {want mat msg : List Int} (h1 : mat.length ≤ msg.length) (h2 : mat.length ≤ want.length) (h : ∀ j (hj : j < mat.length), ¬ (mat[j] = 1 ∧ msg[j] ≠ want[j])) : matchesB want mat msg = true := by
  unfold matchesB
  rw [decide_eq_true ⟨h1, h2⟩, Bool.true_and, List.all_eq_true]
  intro j hj
  have hj := List.mem_range.1 hj
  rw [getD_at hj, getD_at (by omega : j < msg.length), getD_at (by omega : j < want.length)]
  have := h j hj
  simp only [Bool.not_eq_true', Bool.and_eq_false_iff, decide_eq_false_iff_not]
  by_cases e : mat[j] = 1
  · exact .inr fun e2 => this ⟨e, e2⟩
  · exact .inl e
theorem find_step {want mat : List Int} {any : Bool} {q : List (List Int)} {i : Nat} {R : Int} (hi : i < q.length) (h : findF want mat any (q.drop i) i = R) : (if 0 < i ∧ any = false then -1 else if matchesB want mat q[i] = true then (i : Int) else findF want mat any (q.drop (i + 1)) (i + 1)) = R := by
  rw [List.drop_eq_getElem_cons hi] at h
  exact h
theorem find_end {want mat : List Int} {any : Bool} {q : List (List Int)} {i : Nat} {R : Int} (hi : ¬ i < q.length) (h : findF want mat any (q.drop i) i = R) : R = -1 := by
  rw [List.drop_eq_nil_of_le (by omega)] at h
  exact h.symm

set_option maxHeartbeats 4000000 in
set_option maxRecDepth 100000 in
theorem findC {B : Nat} (sh : Int) (q : List (List Int)) (want mat : List Int) (any : Bool) (qo o1 o2 : Option Addr) (qc p1 p2 : Nat) (w : World) (hB : B ≤ w.heap.size) (hq : Row B qo 1 (msgAt B w) q) (h1 : Row B o1 1 (intAt w) want) (h2 : Row B o2 1 (intAt w) mat) :
    Calls Tryd.prog 51 #[.agg #[.int .i64 sh, .slice qo q.length qc], .slice o1 want.length p1, .slice o2 mat.length p2, .bool any] w fun e w' => e = .returned (.int .i64 (findF want mat any q 0)) ∧ Below w.heap.size w w' := by
  have HR := Lib.hid (And.intro hq (And.intro h1 h2))
  have lq := hq.1
  have l1 := h1.1
  have l2 := h2.1
  clear hq h1 h2
  obtain ⟨R, hR⟩ : ∃ R, findF want mat any q 0 = R := ⟨_, rfl⟩
  have HF0 : Hid (findF want mat any (q.drop 0) 0 = R) := Lib.hid hR
  rw [hR]
  clear hR
  have HX := Lib.hid (Bx.new w #[.int .i64 sh, .slice qo q.length qc] 104)
  go_enter Tryd.func51, Tryd.ntmps51
  go_wp2
  go_step3
  go_wp2_with fail
  go_step3
  go_wp2_with fail
  have HBX := Lib.hid HX.out.bel
  generalize w.alloc (Obj.cells #[.int .i64 sh, .slice qo q.length qc] 104) = W0 at HX HBX ⊢
  go_loopw [16] (fun iv W => ∃ i : Nat, iv = .int .i64 i ∧ i ≤ q.length ∧ Hid (findF want mat any (q.drop i) i = R) ∧ Hid (Below w.heap.size w W)) (fun iv _ => q.length - (intOf iv).toNat)
  case atStart => exact ⟨0, rfl, by omega, HF0, HBX⟩
  case round =>
    clear HF0 HX HBX
    obtain ⟨i, rfl, hi, HF, HB⟩ := hrel
    have hi0 : (0 : Int) ≤ i := by omega
    by_cases hlt : i < q.length
    · have hlti : (i : Int) < q.length := by omega
      have HS := Lib.hid (find_step hlt HF.out)
      obtain ⟨g1, off1, ho1, hg1, mo, mc, e0, hms⟩ := HR.out.1.cell hlt
      have e1 := (HB.out.mono hB).cell hg1 |>.trans e0
      clear e0
      subst ho1
      obtain ⟨msg, hmsg⟩ : ∃ x, q[i] = x := ⟨_, rfl⟩
      rw [hmsg] at e1 hms HS
      rw [Nat.mul_one] at e1
      have HM := Lib.hid hms
      have lm := hms.1
      clear hms hmsg
      by_cases hz : 0 < i
      · have hz1 : decide (0 < (i : Int)) = true := decide_eq_true (by omega)
        cases any
        · have HE : Hid (R = -1) := Lib.hid (by have := HS.out; rw [if_pos ⟨hz, rfl⟩] at this; exact this.symm)
          go_wp2_with fail
          go_ret
          exact ⟨retI HE.out.symm, HB.out⟩
        have HN : Hid ((if matchesB want mat msg = true then (i : Int) else findF want mat true (q.drop (i + 1)) (i + 1)) = R) := Lib.hid (by have := HS.out; rw [if_neg (by simp)] at this; exact this)
        clear HS
        by_cases hs1 : msg.length < mat.length
        · have hs1' : decide ((msg.length : Int) < (mat.length : Int)) = true := decide_eq_true (by omega)
          have hs1n : decide (msg.length < mat.length) = true := decide_eq_true (by omega)
          have HG : Hid (findF want mat true (q.drop (i + 1)) (i + 1) = R) := Lib.hid (by have := HN.out; rw [matches_short (.inl hs1), if_neg (by simp)] at this; exact this)
          go_wp2_with fail
          go_roundw
          case rel => exact ⟨i + 1, by go_num, by omega, HG, HB⟩
          case measure => simp [intOf]; omega
        · have hs1' : decide ((msg.length : Int) < (mat.length : Int)) = false := decide_eq_false (by omega)
          have hs1n : decide (msg.length < mat.length) = false := decide_eq_false (by omega)
          by_cases hs2 : want.length < mat.length
          · have hs2' : decide ((want.length : Int) < (mat.length : Int)) = true := decide_eq_true (by omega)
            have hs2n : decide (want.length < mat.length) = true := decide_eq_true (by omega)
            have HG : Hid (findF want mat true (q.drop (i + 1)) (i + 1) = R) := Lib.hid (by have := HN.out; rw [matches_short (.inr hs2), if_neg (by simp)] at this; exact this)
            go_wp2_with fail
            go_roundw
            case rel => exact ⟨i + 1, by go_num, by omega, HG, HB⟩
            case measure => simp [intOf]; omega
          · have hs2' : decide ((want.length : Int) < (mat.length : Int)) = false := decide_eq_false (by omega)
            have hs2n : decide (want.length < mat.length) = false := decide_eq_false (by omega)
            go_wp2_with fail
            clear e1
            go_loopw [41] (fun jv W => ∃ j : Nat, jv = .int .i64 j ∧ j ≤ mat.length ∧ Hid (∀ k (hk : k < mat.length), k < j → ∀ (hk2 : k < msg.length) (hk3 : k < want.length), ¬ (mat[k] = 1 ∧ msg[k] ≠ want[k])) ∧ Hid (Below w.heap.size w W)) (fun jv _ => mat.length - (intOf jv).toNat)
            case atStart => exact ⟨0, rfl, by omega, Lib.hid fun k _ h => by omega, HB⟩
            case round =>
              obtain ⟨j, rfl, hj, HJ, HB2⟩ := hrel
              have hj0 : (0 : Int) ≤ j := by omega
              by_cases hjl : j < mat.length
              · have hjli : (j : Int) < mat.length := by omega
                have hjm : j < msg.length := by omega
                have hjw : j < want.length := by omega
                have hjmi : (j : Int) < msg.length := by omega
                have hjwi : (j : Int) < want.length := by omega
                obtain ⟨gm, offm, hom, -, em⟩ := (HM.out.mono fun _ _ _ hg => intAt.below (B := B) (HB2.out.mono hB) hg).cell hjm
                obtain ⟨gw, offw, how, -, ew⟩ := (HR.out.2.1.mono fun _ _ _ hg => intAt.below (HB2.out.mono hB) hg).cell hjw
                obtain ⟨ga, offa, hoa, -, ea⟩ := (HR.out.2.2.mono fun _ _ _ hg => intAt.below (HB2.out.mono hB) hg).cell hjl
                obtain ⟨a, ha⟩ : ∃ x, mat[j] = x := ⟨_, rfl⟩
                obtain ⟨m, hm⟩ : ∃ x, msg[j] = x := ⟨_, rfl⟩
                obtain ⟨v, hv⟩ : ∃ x, want[j] = x := ⟨_, rfl⟩
                rw [ha] at ea
                rw [hm] at em
                rw [hv] at ew
                unfold intAt at ea em ew
                rw [Nat.mul_one] at ea em ew
                subst hom how hoa
                have HBAD : Hid (a = 1 → m ≠ v → findF want mat true (q.drop (i + 1)) (i + 1) = R) := Lib.hid fun h1 h2 => by
                  have := HN.out
                  rw [matches_bad hjl hjm hjw (by rw [ha]; exact h1) (by rw [hm, hv]; exact h2), if_neg (by simp)] at this
                  exact this
                have HGO : Hid (¬ (a = 1 ∧ m ≠ v) → ∀ k (hk : k < mat.length), k < j + 1 → ∀ (hk2 : k < msg.length) (hk3 : k < want.length), ¬ (mat[k] = 1 ∧ msg[k] ≠ want[k])) := Lib.hid fun h k hk hkj hk2 hk3 => by
                  by_cases e : k = j
                  · subst e; rw [ha, hm, hv]; exact h
                  · exact HJ.out k hk (by omega) hk2 hk3
                clear ha hm hv
                by_cases h1 : a = 1
                · have h1' : (a == 1) = true := by rw [beq_iff_eq]; exact h1
                  by_cases h2 : m = v
                  · have h2' : (m != v) = false := by rw [bne_eq_false_iff_eq]; exact h2
                    have HZ := Lib.hid (HGO.out fun h => h.2 h2)
                    clear h1 h2
                    go_wp2_with fail
                    go_quiet (fail)
                    have HB3 : Hid (Below w.heap.size w (wr.drewN nq)) := Lib.hid (bdrew HB2.out nq)
                    generalize wr.drewN nq = W3 at HB3 ⊢
                    clear ea em ew
                    go_wp2_with fail
                    go_roundw
                    case rel => exact ⟨j + 1, by go_num, by omega, HZ, HB3⟩
                    case measure => simp [intOf]; omega
                  · have h2' : (m != v) = true := by rw [bne_iff_ne]; exact h2
                    have HZ := Lib.hid (HBAD.out h1 h2)
                    clear h1 h2
                    go_wp2_with fail
                    go_quiet (fail)
                    have HB3 : Hid (Below w.heap.size w (wr.drewN nq)) := Lib.hid (bdrew HB2.out nq)
                    generalize wr.drewN nq = W3 at HB3 ⊢
                    clear ea em ew
                    go_wp2_with fail
                    go_roundw
                    case rel => exact ⟨i + 1, by go_num, by omega, HZ, HB3⟩
                    case measure => simp [intOf]; omega
                · have h1' : (a == 1) = false := by rw [beq_eq_false_iff_ne]; exact h1
                  have HZ := Lib.hid (HGO.out fun h => h1 h.1)
                  clear h1
                  go_wp2_with fail
                  go_quiet (fail)
                  have HB3 : Hid (Below w.heap.size w (wr.drewN nq)) := Lib.hid (bdrew HB2.out nq)
                  generalize wr.drewN nq = W3 at HB3 ⊢
                  clear ea em ew
                  go_wp2_with fail
                  go_roundw
                  case rel => exact ⟨j + 1, by go_num, by omega, HZ, HB3⟩
                  case measure => simp [intOf]; omega
              · have hjli : ¬ (j : Int) < mat.length := by omega
                have HE : Hid (R = (i : Int)) := Lib.hid (by
                  have := HN.out
                  rw [matches_ok (by omega) (by omega) fun k hk => HJ.out k hk (by omega) (by omega) (by omega), if_pos rfl] at this
                  exact this.symm)
                go_wp2_with fail
                go_ret
                exact ⟨retI HE.out.symm, HB2.out⟩
      · have hz1 : decide (0 < (i : Int)) = false := decide_eq_false (by omega)
        have HN : Hid ((if matchesB want mat msg = true then (i : Int) else findF want mat any (q.drop (i + 1)) (i + 1)) = R) := Lib.hid (by have := HS.out; rw [if_neg (fun h => hz h.1)] at this; exact this)
        clear HS
        by_cases hs1 : msg.length < mat.length
        · have hs1' : decide ((msg.length : Int) < (mat.length : Int)) = true := decide_eq_true (by omega)
          have hs1n : decide (msg.length < mat.length) = true := decide_eq_true (by omega)
          have HG : Hid (findF want mat any (q.drop (i + 1)) (i + 1) = R) := Lib.hid (by have := HN.out; rw [matches_short (.inl hs1), if_neg (by simp)] at this; exact this)
          go_wp2_with fail
          go_roundw
          case rel => exact ⟨i + 1, by go_num, by omega, HG, HB⟩
          case measure => simp [intOf]; omega
        · have hs1' : decide ((msg.length : Int) < (mat.length : Int)) = false := decide_eq_false (by omega)
          have hs1n : decide (msg.length < mat.length) = false := decide_eq_false (by omega)
          by_cases hs2 : want.length < mat.length
          · have hs2' : decide ((want.length : Int) < (mat.length : Int)) = true := decide_eq_true (by omega)
            have hs2n : decide (want.length < mat.length) = true := decide_eq_true (by omega)
            have HG : Hid (findF want mat any (q.drop (i + 1)) (i + 1) = R) := Lib.hid (by have := HN.out; rw [matches_short (.inr hs2), if_neg (by simp)] at this; exact this)
            go_wp2_with fail
            go_roundw
            case rel => exact ⟨i + 1, by go_num, by omega, HG, HB⟩
            case measure => simp [intOf]; omega
          · have hs2' : decide ((want.length : Int) < (mat.length : Int)) = false := decide_eq_false (by omega)
            have hs2n : decide (want.length < mat.length) = false := decide_eq_false (by omega)
            go_wp2_with fail
            clear e1
            go_loopw [41] (fun jv W => ∃ j : Nat, jv = .int .i64 j ∧ j ≤ mat.length ∧ Hid (∀ k (hk : k < mat.length), k < j → ∀ (hk2 : k < msg.length) (hk3 : k < want.length), ¬ (mat[k] = 1 ∧ msg[k] ≠ want[k])) ∧ Hid (Below w.heap.size w W)) (fun jv _ => mat.length - (intOf jv).toNat)
            case atStart => exact ⟨0, rfl, by omega, Lib.hid fun k _ h => by omega, HB⟩
            case round =>
              obtain ⟨j, rfl, hj, HJ, HB2⟩ := hrel
              have hj0 : (0 : Int) ≤ j := by omega
              by_cases hjl : j < mat.length
              · have hjli : (j : Int) < mat.length := by omega
                have hjm : j < msg.length := by omega
                have hjw : j < want.length := by omega
                have hjmi : (j : Int) < msg.length := by omega
                have hjwi : (j : Int) < want.length := by omega
                obtain ⟨gm, offm, hom, -, em⟩ := (HM.out.mono fun _ _ _ hg => intAt.below (B := B) (HB2.out.mono hB) hg).cell hjm
                obtain ⟨gw, offw, how, -, ew⟩ := (HR.out.2.1.mono fun _ _ _ hg => intAt.below (HB2.out.mono hB) hg).cell hjw
                obtain ⟨ga, offa, hoa, -, ea⟩ := (HR.out.2.2.mono fun _ _ _ hg => intAt.below (HB2.out.mono hB) hg).cell hjl
                obtain ⟨a, ha⟩ : ∃ x, mat[j] = x := ⟨_, rfl⟩
                obtain ⟨m, hm⟩ : ∃ x, msg[j] = x := ⟨_, rfl⟩
                obtain ⟨v, hv⟩ : ∃ x, want[j] = x := ⟨_, rfl⟩
                rw [ha] at ea
                rw [hm] at em
                rw [hv] at ew
                unfold intAt at ea em ew
                rw [Nat.mul_one] at ea em ew
                subst hom how hoa
                have HBAD : Hid (a = 1 → m ≠ v → findF want mat any (q.drop (i + 1)) (i + 1) = R) := Lib.hid fun h1 h2 => by
                  have := HN.out
                  rw [matches_bad hjl hjm hjw (by rw [ha]; exact h1) (by rw [hm, hv]; exact h2), if_neg (by simp)] at this
                  exact this
                have HGO : Hid (¬ (a = 1 ∧ m ≠ v) → ∀ k (hk : k < mat.length), k < j + 1 → ∀ (hk2 : k < msg.length) (hk3 : k < want.length), ¬ (mat[k] = 1 ∧ msg[k] ≠ want[k])) := Lib.hid fun h k hk hkj hk2 hk3 => by
                  by_cases e : k = j
                  · subst e; rw [ha, hm, hv]; exact h
                  · exact HJ.out k hk (by omega) hk2 hk3
                clear ha hm hv
                by_cases h1 : a = 1
                · have h1' : (a == 1) = true := by rw [beq_iff_eq]; exact h1
                  by_cases h2 : m = v
                  · have h2' : (m != v) = false := by rw [bne_eq_false_iff_eq]; exact h2
                    have HZ := Lib.hid (HGO.out fun h => h.2 h2)
                    clear h1 h2
                    go_wp2_with fail
                    go_quiet (fail)
                    have HB3 : Hid (Below w.heap.size w (wr.drewN nq)) := Lib.hid (bdrew HB2.out nq)
                    generalize wr.drewN nq = W3 at HB3 ⊢
                    clear ea em ew
                    go_wp2_with fail
                    go_roundw
                    case rel => exact ⟨j + 1, by go_num, by omega, HZ, HB3⟩
                    case measure => simp [intOf]; omega
                  · have h2' : (m != v) = true := by rw [bne_iff_ne]; exact h2
                    have HZ := Lib.hid (HBAD.out h1 h2)
                    clear h1 h2
                    go_wp2_with fail
                    go_quiet (fail)
                    have HB3 : Hid (Below w.heap.size w (wr.drewN nq)) := Lib.hid (bdrew HB2.out nq)
                    generalize wr.drewN nq = W3 at HB3 ⊢
                    clear ea em ew
                    go_wp2_with fail
                    go_roundw
                    case rel => exact ⟨i + 1, by go_num, by omega, HZ, HB3⟩
                    case measure => simp [intOf]; omega
                · have h1' : (a == 1) = false := by rw [beq_eq_false_iff_ne]; exact h1
                  have HZ := Lib.hid (HGO.out fun h => h1 h.1)
                  clear h1
                  go_wp2_with fail
                  go_quiet (fail)
                  have HB3 : Hid (Below w.heap.size w (wr.drewN nq)) := Lib.hid (bdrew HB2.out nq)
                  generalize wr.drewN nq = W3 at HB3 ⊢
                  clear ea em ew
                  go_wp2_with fail
                  go_roundw
                  case rel => exact ⟨j + 1, by go_num, by omega, HZ, HB3⟩
                  case measure => simp [intOf]; omega
              · have hjli : ¬ (j : Int) < mat.length := by omega
                have HE : Hid (R = (i : Int)) := Lib.hid (by
                  have := HN.out
                  rw [matches_ok (by omega) (by omega) fun k hk => HJ.out k hk (by omega) (by omega) (by omega), if_pos rfl] at this
                  exact this.symm)
                go_wp2_with fail
                go_ret
                exact ⟨retI HE.out.symm, HB2.out⟩
    · have hlti : ¬ (i : Int) < q.length := by omega
      have HE := Lib.hid (find_end hlt HF.out)
      go_wp2_with fail
      go_ret
      exact ⟨retI HE.out.symm, HB.out⟩
end Go.Proofs.YtbeikhgjkbnldaaDoor
