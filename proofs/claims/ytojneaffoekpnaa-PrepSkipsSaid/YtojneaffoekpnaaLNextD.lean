/- The contract of the document's Next at a mark. -/
import Derived.Test.YtojneaffoekpnaaLNextA
import Derived.RegionTactic
import Derived.ChangeAlike
namespace Go.Proofs.Ytojneaffoekpnaa.lx
set_option linter.unusedVariables false
set_option linter.unusedSimpArgs false
open Go.ChangeShapes Go.WideShapes Go.ChangeAt Go.RowKit


theorem marks_cell (i : Nat) (h : i < 41) : marksC[i]? = some (.string (marksB.getD i ByteArray.empty)) := by
  rw [marksC_is]
  have h' : i < marksB.length := h
  simp [List.getElem?_eq_getElem h', List.getD_eq_getElem?_getD]

set_option maxRecDepth 100000 in
set_option maxHeartbeats 1000000 in
theorem next_mark (u : ByteArray) (k : Nat) (w : World) (hs : u.size ≤ 65535) (hk : k < u.size) (c : Nat) (hc0 : byt u k = c) (hl : isL c = false) (hd : isD c = false) (x1 : ¬ c = 39) (x2 : ¬ c = 34) (V : Value)
    (hV : (∃ i, i < 41 ∧ (∀ j, j < i → pre u k (marksB.getD j ByteArray.empty) = false) ∧ pre u k (marksB.getD i ByteArray.empty) = true ∧ V = .tuple #[.agg #[.int .i64 4, .int .i64 k, .int .i64 0, .string (marksB.getD i ByteArray.empty), .int .i64 0], .int .i64 (marksB.getD i ByteArray.empty).size, .int .i64 0]) ∨ ((∀ j, j < 41 → pre u k (marksB.getD j ByteArray.empty) = false) ∧ V = .tuple #[.agg #[.int .i64 0, .int .i64 0, .int .i64 0, .string ⟨#[]⟩, .int .i64 0], .int .i64 0, .int .i64 2])) :
    Calls Try.prog 27 #[.string u, .int .i64 k] w fun e w' => e = .returned V ∧ Below w.heap.size w w' := by
  have e0 := byt_at u k hk
  rw [hc0] at e0
  have HV := Lib.hid hV
  have m39 : ((c : Int) == 39) = false := by rw [beq_eq_false_iff_ne]; omega
  have m34 : ((c : Int) == 34) = false := by rw [beq_eq_false_iff_ne]; omega
  clear hc0 hV x1 x2
  have hki : (k : Int) < u.size := by omega
  have hkl : k ≤ u.size := by omega
  go_enter Try.func27, Try.ntmps27
  go_wp2_with (first | (go_at_call 36; refine (letter_any _ _).mono ?_; rintro e w ⟨rfl, rfl⟩) | (go_at_call 37; refine (digit_any _ _).mono ?_; rintro e w ⟨rfl, rfl⟩) | (go_at_call 40; refine (marks_any _).mono ?_; rintro e w' ⟨rfl, rfl⟩))
  go_loop [15] (fun n => ∃ i : Nat, n = .int .i64 i ∧ i ≤ 41 ∧ Hid (∀ j, j < i → pre u k (marksB.getD j ByteArray.empty) = false)) (fun n => 41 - (intOf n).toNat)
  case atStart => exact ⟨0, rfl, by omega, Lib.hid fun i hi => by omega⟩
  case round =>
    obtain ⟨i, rfl, hi, HA⟩ := hrel
    by_cases hlt : i < 41
    · have hi2 : (i : Int) < 41 := by omega
      obtain ⟨p, hp⟩ : ∃ p, marksB.getD i ByteArray.empty = p := ⟨_, rfl⟩
      have hp2 : p.size ≤ 2 := by
        have hb : i < marksB.length := hlt
        rw [← hp, List.getD_eq_getElem?_getD, List.getElem?_eq_getElem hb]
        exact marks_size _ (List.getElem_mem hb)
      have hcell : ∀ o : Obj, ((w.alloc o).alloc (.cells marksC 9)).cell? ⟨w.heap.size + 1, i, none⟩ = some (.string p) := fun o => by
        have h1 := cell_of_row _ _ i _ _ _ (heap_alloc_new (w.alloc o) (.cells marksC 9))
        rw [marks_cell i hlt, hp] at h1
        simpa using h1
      have HP := Lib.hid hp
      clear hp
      cases hb : pre u k p with
      | true =>
        have hfin : Hid (V = .tuple #[.agg #[.int .i64 4, .int .i64 k, .int .i64 0, .string p, .int .i64 0], .int .i64 p.size, .int .i64 0]) := Lib.hid (by
          rcases HV.out with ⟨i', h1, h2, h3, h4⟩ | ⟨h1, _⟩
          · have : i' = i := by
              rcases Nat.lt_trichotomy i' i with h | h | h
              · rw [HA.out i' h] at h3; cases h3
              · exact h
              · have := h2 i h; rw [HP.out, hb] at this; cases this
            subst this
            rw [h4, HP.out]
          · have := h1 i hlt; rw [HP.out, hb] at this; cases this)
        have HB := Lib.hid hb
        clear hb
        go_wp2_with fail
        refine (begins_gen u k p true HB _ hs hp2 hkl).mono ?_
        rintro e w' ⟨rfl, rfl⟩
        go_wp2
        go_region
        all_goals
          go_wp2
          exact bodyPost_ret (v := .tuple #[.agg #[.int .i64 4, .int .i64 k, .int .i64 0, .string p, .int .i64 0], .int .i64 p.size, .int .i64 0]) (by simp [results, Try.results27, go_sem]) rfl ⟨by rw [hfin.out], (by repeat (first | exact Below.refl _ _ | (refine Below.drew ?_) | (refine Below.alloc ?_ (by simp) _)))⟩
      | false =>
        have HB := Lib.hid hb
        have hnx : Hid (∀ j, j < i + 1 → pre u k (marksB.getD j ByteArray.empty) = false) := Lib.hid fun j hj => by
          by_cases h : j < i
          · exact HA.out j h
          · rw [show j = i by omega, HP.out]; exact HB.out
        clear hb
        go_wp2_with fail
        refine (begins_gen u k p false HB _ hs hp2 hkl).mono ?_
        rintro e w' ⟨rfl, rfl⟩
        go_wp2
        go_round
        case rel => exact ⟨i + 1, by go_num, by omega, hnx⟩
        case measure => simp [intOf]; omega
    · have hfin : Hid (V = .tuple #[.agg #[.int .i64 0, .int .i64 0, .int .i64 0, .string ⟨#[]⟩, .int .i64 0], .int .i64 0, .int .i64 2]) := Lib.hid (by
        rcases HV.out with ⟨i', h1, h2, h3, h4⟩ | ⟨_, h1⟩
        · have := HA.out i' (by omega); rw [h3] at this; cases this
        · exact h1)
      have hi2 : ¬ (i : Int) < 41 := by omega
      go_wp2
      exact bodyPost_ret (v := .tuple #[.agg #[.int .i64 0, .int .i64 0, .int .i64 0, .string ⟨#[]⟩, .int .i64 0], .int .i64 0, .int .i64 2]) (by simp [results, Try.results27, go_sem]) rfl ⟨by rw [hfin.out], (by repeat (first | exact Below.refl _ _ | (refine Below.setCell ?_ (by simp) _) | (refine Below.alloc ?_ (by simp) _)))⟩
end Go.Proofs.Ytojneaffoekpnaa.lx
