/- Where a directive stands, how far its line goes, whether what stands there is kept. -/
import Derived.Test.YtojneaffoekpnaaTell
namespace Go.Proofs.Ytojneaffoekpnaa
open Go.ChangeShapes Go.WideShapes Go.ChangeAt Go.RowKit
set_option linter.unusedVariables false
set_option linter.unusedSimpArgs false

theorem keeps_nil (m : Nat) (w : World) (h1 : w.cell? ⟨m, 1, none⟩ = some (.slice none 0 0)) : Calls Try.prog 16 #[.pointer (some ⟨m, 0, none⟩)] w fun e w' => e = .returned (.bool true) ∧ ∃ n, w' = w.drewN n := by
  go_enter Try.func16, Try.ntmps16
  go_wp2
  go_quiet (fail)
  go_wp2
  go_ret
  exact ⟨rfl, _, rfl⟩
theorem keeps_one (m og c : Nat) (x : Bool) (w : World) (h1 : w.cell? ⟨m, 1, none⟩ = some (.slice (some ⟨og, 0, none⟩) 1 c)) (h2 : w.cell? ⟨og, 0, none⟩ = some (.bool x)) : Calls Try.prog 16 #[.pointer (some ⟨m, 0, none⟩)] w fun e w' => e = .returned (.bool x) ∧ ∃ n, w' = w.drewN n := by
  go_enter Try.func16, Try.ntmps16
  go_wp2
  go_quiet (fail)
  go_wp2
  go_ret
  exact ⟨rfl, _, rfl⟩
theorem new_any (fl : Bool) (w : World) : Calls Try.prog 12 #[.bool fl] w fun e w' => e = .returned (.pointer (some ⟨w.heap.size + 1, 0, none⟩)) ∧ w' = (w.alloc (.map #[] 0)).alloc (.cells #[.bool fl, .map (some w.heap.size), .int .i64 0, .slice none 0 0] 49) := by
  have hmk : ∀ w : World, (Instr.makeMap 47 none).run Try.prog w = .ok (.map (some w.heap.size)) (w.alloc (.map #[] 0)) := fun w => by simp [Instr.makeMap, go_sem]
  go_enter Try.func12, Try.ntmps12
  go_wp2
  go_ret
  exact ⟨rfl, rfl⟩

theorem at_no (mp : Value) (g off cap : Nat) (ts : List TK) (k : Nat) (w : World) (ht : Toks w g off ts) (hk : k < ts.length) (hm : isMk ts[k] ⟨#[35]⟩ = false) :
    Calls Try.prog 13 #[mp, .slice (some ⟨g, off, none⟩) ts.length cap, .int .i64 k] w fun e w' => e = .returned (.bool false) ∧ Below w.heap.size w w' := by
  have HT := Lib.hid ht
  have HM := Lib.hid hm
  obtain ⟨c0, c1, c2, c3, c4⟩ := ht.2 k hk
  have HC := Lib.hid fun w' => mark_any ts[k] ⟨#[35]⟩ w'
  rw [hm] at HC
  clear ht hm
  have hk1 : (k : Int) < ts.length := by omega
  have hk0 : (0 : Int) ≤ k := by omega
  go_enter Try.func13, Try.ntmps13
  go_wp2_with fail
  refine wp_region_kept (by kernel_rfl) (by kernel_rfl) (fun ι hne f hf hcl => ?_)
  have hgw : g < w.heap.size := HT.out.1
  have g0 : ∀ n, (f n).cell? ⟨g, off + k * 5, none⟩ = some (.int .i64 ts[k].kind) := fun n => ((hf n).cell hgw).trans c0
  have g1 : ∀ n, (f n).cell? ⟨g, off + k * 5 + 1, none⟩ = some (.int .i64 ts[k].pos) := fun n => ((hf n).cell hgw).trans c1
  have g2 : ∀ n, (f n).cell? ⟨g, off + k * 5 + 2, none⟩ = some (.int .i64 ts[k].line) := fun n => ((hf n).cell hgw).trans c2
  have g3 : ∀ n, (f n).cell? ⟨g, off + k * 5 + 3, none⟩ = some (.string ts[k].text) := fun n => ((hf n).cell hgw).trans c3
  have g4 : ∀ n, (f n).cell? ⟨g, off + k * 5 + 4, none⟩ = some (.int .i64 ts[k].num) := fun n => ((hf n).cell hgw).trans c4
  have HF := Lib.hid hcl
  clear hcl hf
  repeat (go_big_quiet_step ((go_at_call 20; exact kept_of HF.out _ (HC.out _))))
  refine wpQuiet_nil ?_
  intro w1 hb1
  have HB := Lib.hid hb1
  clear hb1 g0 g1 g2 g3 g4
  go_wp2_with fail
  go_ret
  exact ⟨rfl, HB.out⟩

theorem at_zero (mp : Value) (g off cap : Nat) (ts : List TK) (w : World) (ht : Toks w g off ts) (hk : 0 < ts.length) (hm : isMk ts[0] ⟨#[35]⟩ = true) :
    Calls Try.prog 13 #[mp, .slice (some ⟨g, off, none⟩) ts.length cap, .int .i64 0] w fun e w' => e = .returned (.bool true) ∧ Below w.heap.size w w' := by
  have HT := Lib.hid ht
  obtain ⟨t, htt⟩ : ∃ t, ts[0] = t := ⟨_, rfl⟩
  have hc := ht.2 0 hk
  rw [htt] at hc hm
  simp only [Nat.zero_mul, Nat.add_zero] at hc
  obtain ⟨c0, c1, c2, c3, c4⟩ := hc
  have HC := Lib.hid fun w' => mark_any t ⟨#[35]⟩ w'
  rw [hm] at HC
  clear ht hm htt
  have hk1 : (0 : Int) < ts.length := by omega
  go_enter Try.func13, Try.ntmps13
  go_wp2_with fail
  refine wp_region_kept (by kernel_rfl) (by kernel_rfl) (fun ι hne f hf hcl => ?_)
  have hgw : g < w.heap.size := HT.out.1
  have g0 : ∀ n, (f n).cell? ⟨g, off, none⟩ = some (.int .i64 t.kind) := fun n => ((hf n).cell hgw).trans c0
  have g1 : ∀ n, (f n).cell? ⟨g, off + 1, none⟩ = some (.int .i64 t.pos) := fun n => ((hf n).cell hgw).trans c1
  have g2 : ∀ n, (f n).cell? ⟨g, off + 2, none⟩ = some (.int .i64 t.line) := fun n => ((hf n).cell hgw).trans c2
  have g3 : ∀ n, (f n).cell? ⟨g, off + 3, none⟩ = some (.string t.text) := fun n => ((hf n).cell hgw).trans c3
  have g4 : ∀ n, (f n).cell? ⟨g, off + 4, none⟩ = some (.int .i64 t.num) := fun n => ((hf n).cell hgw).trans c4
  have HF := Lib.hid hcl
  clear hcl hf
  repeat (go_big_quiet_step ((go_at_call 20; exact kept_of HF.out _ (HC.out _))))
  refine wpQuiet_nil ?_
  intro w1 hb1
  have HB := Lib.hid hb1
  clear hb1 g0 g1 g2 g3 g4
  go_wp2_with fail
  go_ret
  exact ⟨rfl, HB.out⟩

set_option maxRecDepth 100000 in
set_option maxHeartbeats 1600000 in
/-- The tokens of the first line. -/
theorem line_end (g off cap : Nat) (ts : List TK) (h : Nat) (w : World) (ht : Toks w g off ts) (hm : ts.length ≤ maxLen) (h1 : 1 ≤ h) (h2 : h < ts.length) (hl : ∀ i (hi : i < ts.length), i < h → ts[i].line = ts[0].line) (hs : h + 1 = ts.length ∨ ts[h].line ≠ ts[0].line) :
    Calls Try.prog 14 #[.slice (some ⟨g, off, none⟩) ts.length cap, .int .i64 0] w fun e w' => e = .returned (.int .i64 h) ∧ Below w.heap.size w w' := by
  have HT := Lib.hid ht
  have HL := Lib.hid hl
  have HS := Lib.hid hs
  have hm2 : (ts.length : Int) ≤ 9223372036854775807 := by unfold maxLen at hm; omega
  obtain ⟨m, hmm⟩ : ∃ m, ts.length = m + 1 := ⟨ts.length - 1, by omega⟩
  have hn1 : IntKind.i64.wrap ((ts.length : Int) - 1) = (m : Int) := by rw [IntWalk.i64_in _ (by omega)]; omega
  have HMM := Lib.hid hmm
  clear ht hm hl hs hmm
  have hz00 : 0 < ts.length := by omega
  obtain ⟨s, hss⟩ : ∃ s, ts[0]'hz00 = s := ⟨_, rfl⟩
  have HSS := Lib.hid hss
  clear hss
  go_enter Try.func14, Try.ntmps14
  go_wp2_with fail
  go_loopw [5] (fun i wr => ∃ k : Nat, i = .int .i64 k ∧ 1 ≤ k ∧ k ≤ h ∧ Hid (Below w.heap.size w wr)) (fun i _ => h - (intOf i).toNat)
  case atStart => exact ⟨1, rfl, by omega, h1, Lib.hid (Below.refl _ _)⟩
  case round =>
    obtain ⟨k, rfl, hk1, hk2, HB⟩ := hrel
    have hm0 := HMM.out
    obtain ⟨t, htt⟩ : ∃ t, ts[k]'(by omega) = t := ⟨_, rfl⟩
    have hkl : k < ts.length := by omega
    have d2 := ((HT.out.below HB.out).2 k hkl).2.2.1
    have e2 := ((HT.out.below HB.out).2 0 hz00).2.2.1
    rw [htt] at d2
    rw [HSS.out] at e2
    simp only [Nat.zero_mul, Nat.add_zero] at e2
    have hki : (k : Int) < ts.length := by omega
    have hk0 : (0 : Int) ≤ k := by omega
    have hz0 : (0 : Int) < ts.length := by omega
    by_cases hlt : k < h
    · have hq : (t.line == s.line) = true := by
        have h3 := HL.out k (by omega) hlt
        rw [htt, HSS.out] at h3
        simpa using h3
      have hkm : (k : Int) < m := by omega
      clear htt hm0
      go_wp2_with fail
      go_quiet (fail)
      go_wp2_with fail
      go_roundw
      case rel => exact ⟨k + 1, by go_num, by omega, by omega, Lib.hid (bdrew HB.out _)⟩
      case measure => simp [intOf]; omega
    · obtain rfl : k = h := by omega
      by_cases hkm : (k : Int) < m
      · have hq : (t.line == s.line) = false := by
          rcases HS.out with h3 | h3
          · omega
          · rw [htt, HSS.out] at h3
            simpa using h3
        clear htt hm0
        go_wp2_with fail
        go_quiet (fail)
        go_wp2_with fail
        go_ret
        exact ⟨rfl, bdrew HB.out _⟩
      · clear htt hm0
        have hkm2 : decide (k < m) = false := by simp; omega
        clear hkm
        go_wp2_with fail
        go_quiet (fail)
        go_wp2_with fail
        go_ret
        exact ⟨rfl, bdrew HB.out _⟩
end Go.Proofs.Ytojneaffoekpnaa
