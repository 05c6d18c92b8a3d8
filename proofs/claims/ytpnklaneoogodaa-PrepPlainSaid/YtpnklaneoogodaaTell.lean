/- A row of tokens is told. -/
import Derived.Test.YtpnklaneoogodaaDone
import Derived.Deep.Onto
import Derived.Deep.RegionLawGrows

namespace Go.Proofs.Ytpnklaneoogodaa
open Go.ChangeShapes Go.WideShapes Go.ChangeAt Go.RowKit

theorem Row.base {w w0 w' : World} {v : Value} {ts : List TK} (h : Row w0 w' v ts) (hb : Below w.heap.size w w0) : Row w w' v ts :=
  ⟨h.own.mono hb.size, hb.trans (h.bel.mono hb.size)⟩

set_option maxRecDepth 100000 in
theorem whole_any (b r c : Nat) (fl : Bool) (tv : Value) (g off cap : Nat) (ts : List TK) (w : World) (hu : Usr w b r c fl tv) (ht : Toks w g off ts) (hn : ts.length ≤ 8192) (hcap : ts.length ≤ cap) :
    Calls Try.prog 27 #[.pointer (some ⟨b, 0, none⟩), .slice (some ⟨g, off, none⟩) ts.length cap] w fun e w' => ∃ v, e = .returned v ∧ Row w w' v ts ∧ (ts.length = 0 → v = .slice none 0 0) := by
  have hmf : ∀ (fn : Fn) (first cap : Array Value) (w : World), (Instr.makeFunc fn first cap).run Try.prog w = .ok (.func fn first cap) w := fun _ _ _ _ => rfl
  have HU := Lib.hid hu
  have HT := Lib.hid ht
  clear hu ht
  go_enter Try.func27, Try.ntmps27
  go_wp2_with fail
  obtain ⟨W, hW⟩ : ∃ W, (w.alloc (.cells #[.pointer (some ⟨b, 0, none⟩)] 35)).alloc (.cells #[.func (.func 30) #[] #[.pointer (some ⟨w.heap.size, 0, none⟩), .pointer (some ⟨w.heap.size + 1, 0, none⟩)]] 64) = W := ⟨_, rfl⟩
  have HB : Hid (Below w.heap.size w W) := Lib.hid (by rw [← hW]; exact ((Below.refl _ _).alloc (Nat.le_refl _) _).alloc (by simp) _)
  have hp : W.cell? ⟨w.heap.size, 0, none⟩ = some (.pointer (some ⟨b, 0, none⟩)) := by
    rw [← hW]
    refine (World.cell?_alloc_past _ _ _ (by simp)).trans ?_
    exact (cell_of_row _ _ _ _ _ _ (heap_alloc_new _ _)).trans rfl
  rw [hW]
  clear hW
  refine (done_any b r c fl tv _ _ g off cap ts 0 W (HU.out.below HB.out) hp (HT.out.below HB.out) hn hcap).mono ?_
  rintro e w1 ⟨v, rfl, hr, hz⟩
  have HR := Lib.hid (hr.base HB.out)
  have HZ := Lib.hid hz
  clear hr hz hp
  go_wp2_with fail
  go_ret
  exact ⟨_, rfl, HR.out, HZ.out⟩

theorem info22 : (Try.prog.info? 22).map (fun i => (i.zero, i.size, i.bytes)) = some (some (.slice none 0 0), 1, 24) := by kernel_rfl

/-- The world behind what is told: the user's own block has turned, and no other. -/
def Told (w w' : World) (b : Nat) (fl : Bool) (r c : Nat) (ts : List TK) : Prop :=
  w.grownBy w' (some b) ∧ ∃ v, w'.heap[b]? = some (.cells #[.bool fl, .map (some r), .int .i64 0, v] 48 (0, 0)) ∧ w'.ownsRow w.heap.size 26 5 v ts.length (cellsOf ts)

theorem set_told {w w2 : World} {b r c : Nat} {fl : Bool} {ts : List TK} {v : Value} (hb : w2.heap[b]? = some (.cells #[.bool fl, .map (some r), .int .i64 0, .slice none 0 0] 48 (0, 0))) (hbw : b < w.heap.size) (h : Below w.heap.size w w2) (hv : w2.ownsRow w.heap.size 26 5 v ts.length (cellsOf ts)) (n : Nat) :
    Told w ((w2.setCell ⟨b, 3, none⟩ v).drewN n) b fl r c ts := by
  have hs : (w2.setCell ⟨b, 3, none⟩ v).heap.size = w2.heap.size := by simp [World.setCell]
  refine ⟨⟨h.os, h.tape, h.output, by show _ ≤ (w2.setCell ⟨b, 3, none⟩ v).heap.size; rw [hs]; exact h.size, fun k hk hkb => ?_⟩, v, ?_, ?_⟩
  · show (w2.setCell ⟨b, 3, none⟩ v).heap[k]? = _
    have hne : k ≠ b := fun e => hkb (by rw [e])
    rw [heap_setCell_other _ _ _ _ hne]
    exact h.block k hk
  · show (w2.setCell ⟨b, 3, none⟩ v).heap[b]? = _
    rw [heap_setCell_same _ _ _ _ _ _ hb]
    rfl
  · refine hv.kept (row := some b) ⟨rfl, rfl, rfl, by show _ ≤ (w2.setCell ⟨b, 3, none⟩ v).heap.size; rw [hs]; exact Nat.le_refl _, fun k hk hkb => ?_⟩ ?_
    · show (w2.setCell ⟨b, 3, none⟩ v).heap[k]? = _
      exact heap_setCell_other _ _ _ _ fun e => hkb (by rw [e])
    · cases hvb : v.ownBlock with
      | none => exact .inl rfl
      | some g =>
        right
        have := (hv.lt g hvb).1
        intro e
        cases e
        omega

theorem form_of {w : World} {base : Nat} {v : Value} {ts : List TK} (h : w.ownsRow base 26 5 v ts.length (cellsOf ts)) (hz : 0 < ts.length) : ∃ g cap, v = .slice (some ⟨g, 0, none⟩) ts.length cap ∧ base ≤ g ∧ g < w.heap.size ∧ ts.length ≤ cap := by
  rcases h.2 with ⟨_, h0⟩ | ⟨g, cap, cur, hv, hg, hh, hc, _⟩
  · omega
  · exact ⟨g, cap, hv, hg, lt_of_block hh, hc⟩
theorem cells_one (ts : List TK) : ∀ u ∈ cellsOf ts, u.oneCell' = true := by
  intro u hu
  simp only [cellsOf, List.mem_flatMap] at hu
  obtain ⟨t, _, ht⟩ := hu
  simp [tkCells] at ht
  rcases ht with rfl | rfl | rfl | rfl | rfl <;> rfl

set_option maxRecDepth 100000 in
set_option maxHeartbeats 1600000 in
theorem tell_any (b r c : Nat) (fl : Bool) (g off cap : Nat) (ts : List TK) (w : World) (hu : Usr w b r c fl (.slice none 0 0)) (ht : Toks w g off ts) (hn : ts.length ≤ 8192) (hcap : ts.length ≤ cap) (hz : 0 < ts.length) :
    Calls Try.prog 16 #[.pointer (some ⟨b, 0, none⟩), .slice (some ⟨g, off, none⟩) ts.length cap] w fun e w' => e = .returned (.tuple #[]) ∧ Told w w' b fl r c ts := by
  obtain ⟨i26, hi26, ha26, hb26, hc26⟩ := info_parts info26
  have HI := Lib.hid (And.intro hi26 (And.intro ha26 (And.intro hb26 hc26)))
  clear hi26 ha26 hb26 hc26
  have HU := Lib.hid hu
  have hb0 : b < w.heap.size := lt_of_block hu.obj
  have HW := Lib.hid fun w' (h : Below w.heap.size w w') => whole_any b r c fl (.slice none 0 0) g off cap ts w' (hu.below h) (ht.below h) hn hcap
  have f3 : w.cell? ⟨b, 3, none⟩ = some (.slice none 0 0) := (cell_of_row _ _ _ _ _ _ hu.obj).trans rfl
  clear hu ht
  go_enter Try.func16, Try.ntmps16
  go_wp2_with fail
  go_region_law
    (first
      | (go_simp
         go_at_call 27
         refine (HW.out _ (Below.refl _ _).drew).mono ?_
         rintro e w1 ⟨v, rfl, hr, hnz⟩
         have HR := Lib.hid (hr.base (Below.refl _ _).drew)
         clear hr hnz
         obtain ⟨g1, cap1, rfl, hg1, hg2, hc1⟩ := form_of HR.out.own hz
         have f13 : w1.cell? ⟨b, 3, none⟩ = some (.slice none 0 0) := (HR.out.bel.cell hb0).trans f3)
      | (refine step_append_grows rfl (.tmp 8) (.tmp 11) 22 rfl 26 i26 zeroTok 5 48 Try.underlying22 HI.out.1 HI.out.2.1 HI.out.2.2.1 HI.out.2.2.2 rfl (by decide) none 0 0 [] (by simp [Act.eval, Act.put]) (fun _ => ⟨rfl, rfl⟩) rfl (fun _ h => by cases h) ⟨_, 0, none⟩ ts.length _ (cellsOf ts) (by simp [Act.eval, Act.put]; rfl) (by simpa using HR.out.own.1) (HR.out.own.cells rfl) (cells_one ts) (by omega) (by unfold maxLen; omega) (by omega) ?_
         intro v2 w2 hown2 hgrow2
         rw [Nat.zero_add, List.nil_append] at hown2
         have hb2 : Below w.heap.size w w2 := HR.out.bel.grown hgrow2 HR.out.bel.size (fun k hk => by cases hk)
         have HO2 := Lib.hid (hown2.mono HR.out.bel.size)
         have HB2 := Lib.hid hb2
         clear hown2 hgrow2
         obtain ⟨g2, cap2, rfl, hg3, hg4, hc2⟩ := form_of HO2.out hz
         have f23 : w2.cell? ⟨b, 3, none⟩ = some (.slice none 0 0) := (hb2.cell hb0).trans f3
         have f24 : w2.frozen? ⟨b, 3, none⟩ = false := frozen_of_row _ _ _ _ _ ((hb2.block b hb0).trans HU.out.obj)
         clear hb2
         simp only [Act.put, List.setIfInBounds_toArray, List.set_cons_zero, List.set_cons_succ]))
  all_goals (
    have hle : ¬ (8192 : Int) < (ts.length : Int) := by omega
    have HTD := Lib.hid fun n => set_told (fl := fl) (r := r) (c := c) ((HB2.out.block b hb0).trans HU.out.obj) hb0 HB2.out HO2.out n
    clear f3 f13
    go_wp2_with fail
    first | go_end0 | skip
    exact ⟨rfl, HTD.out 0⟩)
end Go.Proofs.Ytpnklaneoogodaa
