/- A directive that stands behind another line, and how far its line goes. -/
import Derived.Test.YtojneaffoekpnaaDir
namespace Go.Proofs.Ytojneaffoekpnaa
open Go.ChangeShapes Go.WideShapes Go.ChangeAt Go.RowKit
set_option linter.unusedVariables false
set_option linter.unusedSimpArgs false

set_option maxRecDepth 100000 in
set_option maxHeartbeats 1600000 in
theorem at_line (mp : Value) (g off cap : Nat) (ts : List TK) (j k : Nat) (w : World) (ht : Toks w g off ts) (hjk : j + 1 = k) (hk : k < ts.length) (hm : isMk ts[k] ⟨#[35]⟩ = true) (hl : ts[j].line ≠ ts[k].line) (hmax : ts.length ≤ 8192) :
    Calls Try.prog 13 #[mp, .slice (some ⟨g, off, none⟩) ts.length cap, .int .i64 k] w fun e w' => e = .returned (.bool true) ∧ Below w.heap.size w w' := by
  have HT := Lib.hid ht
  obtain ⟨t, htt⟩ : ∃ t, ts[k] = t := ⟨_, rfl⟩
  obtain ⟨s, hss⟩ : ∃ s, ts[j] = s := ⟨_, rfl⟩
  have hc := ht.2 k hk
  have hd := ht.2 j (by omega)
  rw [htt] at hc hm hl
  rw [hss] at hd hl
  obtain ⟨c0, c1, c2, c3, c4⟩ := hc
  obtain ⟨_, _, d2, _, _⟩ := hd
  have HC := Lib.hid fun w' => mark_any t ⟨#[35]⟩ w'
  rw [hm] at HC
  have hne : (s.line != t.line) = true := by simpa using hl
  have hne2 : ¬ s.line = t.line := hl
  have hk1 : (k : Int) < ts.length := by omega
  have hk0 : (0 : Int) ≤ (k : Int) := by omega
  have hj1 : (j : Int) < ts.length := by omega
  have hj0 : (0 : Int) ≤ (j : Int) := by omega
  have hk2 : ¬ k = 0 := by omega
  have hk2b : ((k : Int) == 0) = false := by simp; omega
  have hk3 : IntKind.i64.wrap ((k : Int) - 1) = (j : Int) := by rw [IntWalk.i64_in _ (by omega)]; omega
  clear ht hm htt hss hl hjk hmax
  go_enter Try.func13, Try.ntmps13
  go_wp2_with fail
  refine wp_region_kept (by kernel_rfl) (by kernel_rfl) (fun ι hne f hf hcl => ?_)
  have hgw : g < w.heap.size := HT.out.1
  have g0 : ∀ n, (f n).cell? ⟨g, off + k * 5, none⟩ = some (.int .i64 t.kind) := fun n => ((hf n).cell hgw).trans c0
  have g1 : ∀ n, (f n).cell? ⟨g, off + k * 5 + 1, none⟩ = some (.int .i64 t.pos) := fun n => ((hf n).cell hgw).trans c1
  have g2 : ∀ n, (f n).cell? ⟨g, off + k * 5 + 2, none⟩ = some (.int .i64 t.line) := fun n => ((hf n).cell hgw).trans c2
  have g3 : ∀ n, (f n).cell? ⟨g, off + k * 5 + 3, none⟩ = some (.string t.text) := fun n => ((hf n).cell hgw).trans c3
  have g4 : ∀ n, (f n).cell? ⟨g, off + k * 5 + 4, none⟩ = some (.int .i64 t.num) := fun n => ((hf n).cell hgw).trans c4
  have e2 : ∀ n, (f n).cell? ⟨g, off + j * 5 + 2, none⟩ = some (.int .i64 s.line) := fun n => ((hf n).cell hgw).trans d2
  have HF := Lib.hid hcl
  clear hcl hf
  repeat (go_big_quiet_step ((go_at_call 20; exact kept_of HF.out _ (HC.out _))))
  refine wpQuiet_nil ?_
  intro w1 hb1
  have HB := Lib.hid hb1
  clear hb1 g0 g1 g2 g3 g4
  go_wp2_with fail
  go_ret
  exact ⟨rfl, HB.out⟩

set_option maxRecDepth 100000 in
set_option maxHeartbeats 1600000 in
/-- The tokens of a line. -/
theorem line_from (g off cap : Nat) (ts : List TK) (a h : Nat) (w : World) (ht : Toks w g off ts) (hm : ts.length ≤ maxLen) (h1 : a + 1 ≤ h) (h2 : h < ts.length) (hl : ∀ i (hi : i < ts.length), a < i → i < h → ts[i].line = ts[a].line) (hs : h + 1 = ts.length ∨ ts[h].line ≠ ts[a].line) :
    Calls Try.prog 14 #[.slice (some ⟨g, off, none⟩) ts.length cap, .int .i64 a] w fun e w' => e = .returned (.int .i64 h) ∧ Below w.heap.size w w' := by
  have HT := Lib.hid ht
  have HL := Lib.hid hl
  have HS := Lib.hid hs
  have hm2 : (ts.length : Int) ≤ 9223372036854775807 := by unfold maxLen at hm; omega
  obtain ⟨m, hmm⟩ : ∃ m, ts.length = m + 1 := ⟨ts.length - 1, by omega⟩
  have hn1 : IntKind.i64.wrap ((ts.length : Int) - 1) = (m : Int) := by rw [IntWalk.i64_in _ (by omega)]; omega
  have HMM := Lib.hid hmm
  clear ht hm hl hs hmm
  have hz00 : a < ts.length := by omega
  obtain ⟨s, hss⟩ : ∃ s, ts[a]'hz00 = s := ⟨_, rfl⟩
  have HSS := Lib.hid hss
  clear hss
  go_enter Try.func14, Try.ntmps14
  go_wp2_with fail
  go_loopw [5] (fun i wr => ∃ k : Nat, i = .int .i64 k ∧ a + 1 ≤ k ∧ k ≤ h ∧ Hid (Below w.heap.size w wr)) (fun i _ => h - (intOf i).toNat)
  case atStart => exact ⟨a + 1, by go_num, by omega, h1, Lib.hid (Below.refl _ _)⟩
  case round =>
    obtain ⟨k, rfl, hk1, hk2, HB⟩ := hrel
    have hm0 := HMM.out
    obtain ⟨t, htt⟩ : ∃ t, ts[k]'(by omega) = t := ⟨_, rfl⟩
    have hkl : k < ts.length := by omega
    have d2 := ((HT.out.below HB.out).2 k hkl).2.2.1
    have e2 := ((HT.out.below HB.out).2 a hz00).2.2.1
    rw [htt] at d2
    rw [HSS.out] at e2
    have hki : (k : Int) < ts.length := by omega
    have hk0 : (0 : Int) ≤ k := by omega
    have hz0 : (a : Int) < ts.length := by omega
    have hz1 : (0 : Int) ≤ a := by omega
    by_cases hlt : k < h
    · have hq : (t.line == s.line) = true := by
        have h3 := HL.out k (by omega) (by omega) hlt
        rw [htt, HSS.out] at h3
        simpa using h3
      have hkm : (k : Int) < m := by omega
      clear htt hm0
      go_wp2_with fail
      go_quiet (fail)
      go_wp2_with fail
      go_roundw
      case rel => exact ⟨k + 1, by go_num, by omega, by omega, Lib.hid (bdrew HB.out _)⟩
      case measure => simp [intOf]; omega
    · obtain rfl : k = h := by omega
      by_cases hkm : (k : Int) < m
      · have hq : (t.line == s.line) = false := by
          rcases HS.out with h3 | h3
          · omega
          · rw [htt, HSS.out] at h3
            simpa using h3
        clear htt hm0
        go_wp2_with fail
        go_quiet (fail)
        go_wp2_with fail
        go_ret
        exact ⟨rfl, bdrew HB.out _⟩
      · clear htt hm0
        have hkm2 : decide (k < m) = false := by simp; omega
        clear hkm
        go_wp2_with fail
        go_quiet (fail)
        go_wp2_with fail
        go_ret
        exact ⟨rfl, bdrew HB.out _⟩
end Go.Proofs.Ytojneaffoekpnaa
