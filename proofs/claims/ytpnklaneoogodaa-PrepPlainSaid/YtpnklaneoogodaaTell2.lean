/- Nothing is told. -/
import Derived.Test.YtpnklaneoogodaaTell
import Derived.Test.YtpnklaneoogodaaKept
namespace Go.Proofs.Ytpnklaneoogodaa
open Go.ChangeShapes Go.WideShapes Go.ChangeAt Go.RowKit

set_option maxRecDepth 100000 in
set_option maxHeartbeats 1600000 in
theorem tell_nil (b r c : Nat) (fl : Bool) (g off cap : Nat) (w : World) (hu : Usr w b r c fl (.slice none 0 0)) (hg : g < w.heap.size) :
    Calls Try.prog 16 #[.pointer (some ⟨b, 0, none⟩), .slice (some ⟨g, off, none⟩) 0 cap] w fun e w' => e = .returned (.tuple #[]) ∧ Told w w' b fl r c [] := by
  have HU := Lib.hid hu
  have hb0 : b < w.heap.size := lt_of_block hu.obj
  have HW : Hid (∀ w' (h : Below w.heap.size w w'), Calls Try.prog 27 #[.pointer (some ⟨b, 0, none⟩), .slice (some ⟨g, off, none⟩) 0 cap] w' fun e w'' => ∃ v, e = .returned v ∧ Row w' w'' v [] ∧ (([] : List TK).length = 0 → v = .slice none 0 0)) := Lib.hid fun w' (h : Below w.heap.size w w') => whole_any b r c fl (.slice none 0 0) g off cap [] w' (hu.below h) ⟨Nat.lt_of_lt_of_le hg h.size, fun i hi => by cases hi⟩ (by decide) (Nat.zero_le _)
  have f3 : w.cell? ⟨b, 3, none⟩ = some (.slice none 0 0) := (cell_of_row _ _ _ _ _ _ hu.obj).trans rfl
  clear hu hg
  go_enter Try.func16, Try.ntmps16
  go_wp2_with fail
  go_region_law
    (first
      | (go_simp
         go_at_call 27
         refine (HW.out _ (Below.refl _ _).drew).mono ?_
         rintro e w1 ⟨v, rfl, hr, hnz⟩
         have HR := Lib.hid (hr.base (Below.refl _ _).drew).bel
         obtain rfl := hnz rfl
         clear hr hnz
         have f13 : w1.cell? ⟨b, 3, none⟩ = some (.slice none 0 0) := (HR.out.cell hb0).trans f3
         have f14 : w1.frozen? ⟨b, 3, none⟩ = false := frozen_of_row _ _ _ _ _ ((HR.out.block b hb0).trans HU.out.obj)))
  all_goals (
    have HTD := Lib.hid fun n => set_told (fl := fl) (r := r) (c := c) (ts := []) (v := .slice none 0 0) ((HR.out.block b hb0).trans HU.out.obj) hb0 HR.out (World.ownsRow_nil _ _ _ _) n
    clear f3
    go_wp2_with fail
    first | go_end0 | skip
    exact ⟨rfl, HTD.out 0⟩)

theorem keeps_any (m p : Nat) (w : World) (h1 : w.cell? ⟨m, 1, none⟩ = some (.slice none 0 0)) : Calls Try.prog 15 #[.pointer (some ⟨m, 0, none⟩)] w fun e w' => e = .returned (.bool true) ∧ ∃ n, w' = w.drewN n := by
  go_enter Try.func15, Try.ntmps15
  go_wp2
  go_quiet (fail)
  go_wp2
  go_ret
  exact ⟨rfl, _, rfl⟩

theorem new_any (fl : Bool) (w : World) : Calls Try.prog 11 #[.bool fl] w fun e w' => e = .returned (.pointer (some ⟨w.heap.size + 1, 0, none⟩)) ∧ w' = (w.alloc (.map #[] 0)).alloc (.cells #[.bool fl, .map (some w.heap.size), .int .i64 0, .slice none 0 0] 48) := by
  have hmk : ∀ w : World, (Instr.makeMap 46 none).run Try.prog w = .ok (.map (some w.heap.size)) (w.alloc (.map #[] 0)) := fun w => by simp [Instr.makeMap, go_sem]
  go_enter Try.func11, Try.ntmps11
  go_wp2
  go_ret
  exact ⟨rfl, rfl⟩

/-- No directive stands at a place. -/
theorem at_any (mp : Value) (g off cap : Nat) (ts : List TK) (k : Nat) (w : World) (ht : Toks w g off ts) (hk : k < ts.length) (hm : isMk ts[k] ⟨#[35]⟩ = false) :
    Calls Try.prog 12 #[mp, .slice (some ⟨g, off, none⟩) ts.length cap, .int .i64 k] w fun e w' => e = .returned (.bool false) ∧ Below w.heap.size w w' := by
  have HT := Lib.hid ht
  have HM := Lib.hid hm
  obtain ⟨c0, c1, c2, c3, c4⟩ := ht.2 k hk
  have HC := Lib.hid fun w' => mark_any ts[k] ⟨#[35]⟩ w'
  rw [hm] at HC
  clear ht hm
  have hk1 : (k : Int) < ts.length := by omega
  have hk0 : (0 : Int) ≤ k := by omega
  go_enter Try.func12, Try.ntmps12
  go_wp2_with fail
  refine wp_region_kept (by kernel_rfl) (by kernel_rfl) (fun ι hne f hf hcl => ?_)
  have hgw : g < w.heap.size := HT.out.1
  have g0 : ∀ n, (f n).cell? ⟨g, off + k * 5, none⟩ = some (.int .i64 ts[k].kind) := fun n => ((hf n).cell hgw).trans c0
  have g1 : ∀ n, (f n).cell? ⟨g, off + k * 5 + 1, none⟩ = some (.int .i64 ts[k].pos) := fun n => ((hf n).cell hgw).trans c1
  have g2 : ∀ n, (f n).cell? ⟨g, off + k * 5 + 2, none⟩ = some (.int .i64 ts[k].line) := fun n => ((hf n).cell hgw).trans c2
  have g3 : ∀ n, (f n).cell? ⟨g, off + k * 5 + 3, none⟩ = some (.string ts[k].text) := fun n => ((hf n).cell hgw).trans c3
  have g4 : ∀ n, (f n).cell? ⟨g, off + k * 5 + 4, none⟩ = some (.int .i64 ts[k].num) := fun n => ((hf n).cell hgw).trans c4
  have HF := Lib.hid hcl
  clear hcl hf
  repeat (go_big_quiet_step ((go_at_call 22; exact kept_of HF.out _ (HC.out _))))
  refine wpQuiet_nil ?_
  intro w1 hb1
  have HB := Lib.hid hb1
  clear hb1 g0 g1 g2 g3 g4
  go_wp2_with fail
  go_ret
  exact ⟨rfl, HB.out⟩
end Go.Proofs.Ytpnklaneoogodaa
