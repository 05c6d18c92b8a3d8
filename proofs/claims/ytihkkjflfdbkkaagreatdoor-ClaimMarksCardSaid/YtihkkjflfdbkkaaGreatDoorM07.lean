/- May a channel be, may a process? -/
import Derived.Test.YtihkkjflfdbkkaaGreatDoorM06
import Derived.BigQuiet
namespace Go.Proofs.YtihkkjflfdbkkaaGreatDoor
open Go.ChangeShapes Go.WideShapes Go.ChangeAt Go.RowKit
set_option linter.unusedVariables false
set_option linter.unusedSimpArgs false

set_option maxHeartbeats 4000000 in
set_option maxRecDepth 100000 in
theorem chanMayC {B pm g a : Nat} {h : MH} {m : ModelD} {c : ChanD} (w : World) (hk : Ck B w pm h m) (hc : chanAt B w g a c) (hg : g < B) :
    Calls Tryz.prog 74 #[.pointer (some ⟨pm, 0, none⟩), .pointer (some ⟨g, a, none⟩)] w fun e w' => e = .returned (.bool (chanMayB m c)) ∧ Below w.heap.size w w' := by
  have HK := Lib.hid hk
  have HC := Lib.hid hc
  have hB : B ≤ w.heap.size := by have := hk.le; have := hk.lt; omega
  have c2 := hk.c2
  have q0 := hc.c0
  obtain ⟨qo, qc, q1, hq⟩ := hc.queue
  have HQ := Lib.hid hq
  have hql := hq.1
  have hsl := hk.md.shapes.1
  clear hk hc hq
  by_cases s0 : c.shape < 0
  · have d0 : decide (c.shape < 0) = true := decide_eq_true s0
    have HV : Hid (chanMayB m c = false) := Lib.hid (by unfold chanMayB chanHeadB; rw [decide_eq_false (by omega)]; rfl)
    clear s0
    go_enter Tryz.func74, Tryz.ntmps74
    go_wp2_with fail
    go_quiet (fail)
    go_wp2_with fail
    go_ret
    exact ⟨retB HV.out.symm, bdrew (Below.refl _ _) _⟩
  · have d0 : decide (c.shape < 0) = false := decide_eq_false s0
    by_cases s1 : (m.shapes.length : Int) ≤ c.shape
    · have d1 : decide ((m.shapes.length : Int) ≤ c.shape) = true := decide_eq_true s1
      have HV : Hid (chanMayB m c = false) := Lib.hid (by unfold chanMayB chanHeadB; rw [decide_eq_false (by omega)]; rfl)
      clear s0 s1
      go_enter Tryz.func74, Tryz.ntmps74
      go_wp2_with fail
      go_quiet (fail)
      go_wp2_with fail
      go_ret
      exact ⟨retB HV.out.symm, bdrew (Below.refl _ _) _⟩
    · have d1 : decide ((m.shapes.length : Int) ≤ c.shape) = false := decide_eq_false s1
      obtain ⟨k, hk⟩ : ∃ k : Nat, c.shape = k := ⟨c.shape.toNat, by omega⟩
      rw [hk] at q0 d0 d1
      have hkl : k < m.shapes.length := by omega
      have d1n : decide (m.shapes.length ≤ k) = false := decide_eq_false (by omega)
      have hki : (k : Int) < m.shapes.length := by omega
      have hkz : (0 : Int) ≤ k := by omega
      obtain ⟨s, hs⟩ : ∃ s, m.shapes[k]? = some s := ⟨_, List.getElem?_eq_getElem hkl⟩
      have HV : Hid (chanMayB m c = (decide ((c.queue.length : Int) ≤ s.room) && c.queue.all (fitsL s.fields))) := Lib.hid (by unfold chanMayB chanHeadB chanFB; rw [hk, decide_eq_true (by omega), Int.toNat_natCast, hs]; rfl)
      obtain ⟨g3, off3, ho3, hg3, hsa⟩ := HK.out.md.shapes.get hs
      have r0 := hsa.c0
      rw [ho3] at c2
      obtain ⟨fo, fc, r1, hf⟩ := hsa.fields
      have HF := Lib.hid hf
      clear hf hsa ho3 hs hk s0 s1
      by_cases s2 : s.room < (c.queue.length : Int)
      · have d2 : decide (s.room < (c.queue.length : Int)) = true := decide_eq_true s2
        have HZ : Hid (chanMayB m c = false) := Lib.hid (by rw [HV.out, decide_eq_false (by omega)]; rfl)
        clear s2
        go_enter Tryz.func74, Tryz.ntmps74
        go_wp2_with fail
        go_quiet (fail)
        go_wp2_with fail
        go_ret
        exact ⟨retB HZ.out.symm, bdrew (Below.refl _ _) _⟩
      · have d2 : decide (s.room < (c.queue.length : Int)) = false := decide_eq_false s2
        have HZ : Hid (chanMayB m c = c.queue.all (fitsL s.fields)) := Lib.hid (by rw [HV.out, decide_eq_true (by omega)]; rfl)
        clear s2
        have HCE : Hid (∀ W, Below w.heap.size w W → W.cell? ⟨pm, 2, none⟩ = some (.slice (some ⟨g3, off3, none⟩) m.shapes.length h.sc) ∧ W.cell? ⟨g, a, none⟩ = some (.int .i64 k) ∧ W.cell? ⟨g, a + 1, none⟩ = some (.slice qo c.queue.length qc) ∧ W.cell? ⟨g3, off3 + k * 2 + 1, none⟩ = some (.slice fo s.fields.length fc) ∧ Row B fo 2 (tyAt W) s.fields ∧ Row B qo 1 (msgAt B W) c.queue) := Lib.hid fun W hb =>
          ⟨(hb.cell HK.out.lt).trans c2, (hb.cell (by show g < _; omega)).trans q0, (hb.cell (by show g < _; omega)).trans q1, (hb.cell (by show g3 < _; omega)).trans r1, HF.out.mono fun _ _ _ hg => tyAt.below (hb.mono hB) hg, HQ.out.mono fun _ _ _ hg => msgAt.below (hb.mono hB) hg⟩
        go_enter Tryz.func74, Tryz.ntmps74
        go_wp2_with fail
        go_quiet (fail)
        have HB0 : Hid (Below w.heap.size w (w.drewN nq)) := Lib.hid (bdrew (Below.refl _ _) nq)
        generalize w.drewN nq = W0 at HB0 ⊢
        clear c2 q0 q1 r0 r1 d0 d1 d2 d1n
        have q1 := (HCE.out _ HB0.out).2.2.1
        go_wp2_with fail
        clear q1
        go_loopw [48] (fun iv W => ∃ i : Nat, iv = .int .i64 i ∧ i ≤ c.queue.length ∧ Hid (∀ j (hj : j < c.queue.length), j < i → fitsL s.fields c.queue[j] = true) ∧ Hid (Below w.heap.size w W)) (fun iv _ => c.queue.length - (intOf iv).toNat)
        case atStart => exact ⟨0, rfl, by omega, Lib.hid fun j _ h => by omega, HB0⟩
        case round =>
          clear HB0
          obtain ⟨i, rfl, hi, HJ, HB⟩ := hrel
          have hi0 : (0 : Int) ≤ i := by omega
          by_cases hlt : i < c.queue.length
          · have hlti : (i : Int) < c.queue.length := by omega
            have hce := HCE.out _ HB.out
            obtain ⟨gq, offq, hoq, hgq, ms, mc, e0, hms⟩ := hce.2.2.2.2.2.cell hlt
            obtain ⟨msg, hmsg⟩ : ∃ x, c.queue[i] = x := ⟨_, rfl⟩
            rw [hmsg] at e0 hms
            rw [Nat.mul_one] at e0
            have HMS := Lib.hid hms
            have c2 := hce.1
            have q0 := hce.2.1
            have r1 := hce.2.2.2.1
            have HBAD : Hid (fitsL s.fields msg = false → chanMayB m c = false) := Lib.hid fun h => by rw [HZ.out, all_bad hlt (by rw [hmsg]; exact h)]
            have HGO : Hid (fitsL s.fields msg = true → ∀ j (hj : j < c.queue.length), j < i + 1 → fitsL s.fields c.queue[j] = true) := Lib.hid fun h j hj hjk => by
              by_cases e : j = i
              · subst e; rw [hmsg]; exact h
              · exact HJ.out j hj (by omega)
            subst hoq
            clear hce hms hmsg hgq
            go_wp2_with fail
            go_still_tail 12, (by kernel_rfl)
            change wpList _ _ _ _ _ wr.drew
            have HB2 : Hid (Below w.heap.size w wr.drew) := Lib.hid HB.out.drew
            have HM2 : Hid (Row B ms 1 (intAt wr.drew) msg) := Lib.hid (HMS.out.mono fun _ _ _ hg => intAt.below (Below.refl _ _).drew hg)
            generalize wr.drew = W2 at HB2 HM2 ⊢
            clear c2 q0 r1 e0
            go_wp2_with fail
            refine (sfitsC s.fields msg fo ms fc mc W2 (by have := HB2.out.size; omega) (HCE.out _ HB2.out).2.2.2.2.1 HM2.out).mono ?_
            rintro e W3 ⟨rfl, hb3⟩
            have HB3 := Lib.hid (HB2.out.trans (hb3.mono HB2.out.size))
            clear hb3
            obtain ⟨u, hu⟩ : ∃ u, fitsL s.fields msg = u := ⟨_, rfl⟩
            rw [hu]
            have HU := Lib.hid hu
            clear hu
            cases u
            · have HZ2 := Lib.hid (HBAD.out HU.out)
              go_wp2_with fail
              go_ret
              exact ⟨retB HZ2.out.symm, HB3.out⟩
            · have HZ2 := Lib.hid (HGO.out HU.out)
              go_wp2_with fail
              go_roundw
              case rel => exact ⟨i + 1, by go_num, by omega, HZ2, HB3⟩
              case measure => simp [intOf]; omega
          · have hlti : ¬ (i : Int) < c.queue.length := by omega
            have HA : Hid (chanMayB m c = true) := Lib.hid (by rw [HZ.out]; exact all_of fun j hj => HJ.out j hj (by omega))
            go_wp2_with fail
            go_ret
            exact ⟨retB HA.out.symm, HB.out⟩

set_option maxHeartbeats 4000000 in
set_option maxRecDepth 100000 in
theorem processMayC {B pm g a : Nat} {h : MH} {m : ModelD} {c : ProcessD} (w : World) (hk : Ck B w pm h m) (hc : processAt B w g a c) (hg : g < B) :
    Calls Tryz.prog 75 #[.pointer (some ⟨pm, 0, none⟩), .pointer (some ⟨g, a, none⟩)] w fun e w' => e = .returned (.bool (procMayB m c)) ∧ Below w.heap.size w w' := by
  have HK := Lib.hid hk
  have hB : B ≤ w.heap.size := by have := hk.le; have := hk.lt; omega
  have c4 := hk.c4
  have c5 := hk.c5
  have q0 := hc.c0
  have q1 := hc.c1
  have q2 := hc.c2
  obtain ⟨qo, qc, q3, hq⟩ := hc.frame
  have HQ := Lib.hid hq
  have hql := hq.1
  have hsl := hk.md.procs.1
  clear hk hc hq
  by_cases s0 : c.type < 0
  · have d0 : decide (c.type < 0) = true := decide_eq_true s0
    have HV : Hid (procMayB m c = false) := Lib.hid (by unfold procMayB procHeadB; rw [decide_eq_false (by omega)]; rfl)
    clear s0
    go_enter Tryz.func75, Tryz.ntmps75
    go_wp2_with fail
    go_quiet (fail)
    go_wp2_with fail
    go_ret
    exact ⟨retB HV.out.symm, bdrew (Below.refl _ _) _⟩
  · have d0 : decide (c.type < 0) = false := decide_eq_false s0
    by_cases s1 : (m.procs.length : Int) ≤ c.type
    · have d1 : decide ((m.procs.length : Int) ≤ c.type) = true := decide_eq_true s1
      have HV : Hid (procMayB m c = false) := Lib.hid (by unfold procMayB procHeadB; rw [decide_eq_false (by omega)]; rfl)
      clear s0 s1
      go_enter Tryz.func75, Tryz.ntmps75
      go_wp2_with fail
      go_quiet (fail)
      go_wp2_with fail
      go_ret
      exact ⟨retB HV.out.symm, bdrew (Below.refl _ _) _⟩
    · have d1 : decide ((m.procs.length : Int) ≤ c.type) = false := decide_eq_false s1
      by_cases s2 : c.type = m.claim
      · have d2 : (c.type == m.claim) = true := by rw [beq_iff_eq]; exact s2
        have HV : Hid (procMayB m c = false) := Lib.hid (by unfold procMayB procHeadB; rw [decide_eq_false (by omega)]; rfl)
        clear s0 s1 s2
        go_enter Tryz.func75, Tryz.ntmps75
        go_wp2_with fail
        go_quiet (fail)
        go_wp2_with fail
        go_ret
        exact ⟨retB HV.out.symm, bdrew (Below.refl _ _) _⟩
      · have d2 : (c.type == m.claim) = false := by rw [beq_eq_false_iff_ne]; exact s2
        obtain ⟨k, hk⟩ : ∃ k : Nat, c.type = k := ⟨c.type.toNat, by omega⟩
        have hkl : k < m.procs.length := by omega
        have hki : (k : Int) < m.procs.length := by omega
        have hkz : (0 : Int) ≤ k := by omega
        obtain ⟨t, hs⟩ : ∃ s, m.procs[k]? = some s := ⟨_, List.getElem?_eq_getElem hkl⟩
        have HV : Hid (procMayB m c = (decide (0 ≤ c.loc ∧ c.loc < t.locs.length ∧ c.prio = t.prio) && fitsL t.frame c.frame)) := Lib.hid (by unfold procMayB procHeadB procFB; rw [decide_eq_true (by omega), hk, Int.toNat_natCast, hs]; rfl)
        rw [hk] at q0 d0 d1 d2
        obtain ⟨g3, off3, ho3, hg3, hsa⟩ := HK.out.md.procs.get hs
        rw [ho3] at c4
        obtain ⟨fo, fc, r2, hf⟩ := hsa.frame
        obtain ⟨lo, lc, r4, hlr⟩ := hsa.locs
        have r8 := hsa.c8
        have HF := Lib.hid hf
        have hll := hlr.1
        clear hf hsa ho3 hs hk s0 s1 s2 hlr
        by_cases s3 : 0 ≤ c.loc
        · have d3 : decide (0 ≤ c.loc) = true := decide_eq_true s3
          by_cases s4 : c.loc < (t.locs.length : Int)
          · have d4 : decide (c.loc < (t.locs.length : Int)) = true := decide_eq_true s4
            by_cases s5 : c.prio = t.prio
            · have d5 : (c.prio == t.prio) = true := by rw [beq_iff_eq]; exact s5
              have HZ : Hid (procMayB m c = fitsL t.frame c.frame) := Lib.hid (by rw [HV.out, decide_eq_true ⟨s3, s4, s5⟩]; rfl)
              clear s3 s4 s5
              go_enter Tryz.func75, Tryz.ntmps75
              go_wp2_with fail
              go_quiet (fail)
              have HB0 : Hid (Below w.heap.size w (w.drewN nq)) := Lib.hid (bdrew (Below.refl _ _) nq)
              have HCE : Hid (∀ W, Below w.heap.size w W → W.cell? ⟨pm, 4, none⟩ = some (.slice (some ⟨g3, off3, none⟩) m.procs.length h.pc) ∧ W.cell? ⟨g, a, none⟩ = some (.int .i64 k) ∧ W.cell? ⟨g, a + 1, none⟩ = some (.int .i64 c.loc) ∧ W.cell? ⟨g, a + 2, none⟩ = some (.int .i64 c.prio) ∧ W.cell? ⟨g, a + 3, none⟩ = some (.slice qo c.frame.length qc) ∧ W.cell? ⟨g3, off3 + k * 10 + 2, none⟩ = some (.slice fo t.frame.length fc) ∧ W.cell? ⟨g3, off3 + k * 10 + 4, none⟩ = some (.slice lo t.locs.length lc) ∧ W.cell? ⟨g3, off3 + k * 10 + 8, none⟩ = some (.int .i64 t.prio) ∧ Row B fo 2 (tyAt W) t.frame ∧ Row B qo 1 (intAt W) c.frame) := Lib.hid fun W hb =>
                ⟨(hb.cell HK.out.lt).trans c4, (hb.cell (by show g < _; omega)).trans q0, (hb.cell (by show g < _; omega)).trans q1, (hb.cell (by show g < _; omega)).trans q2, (hb.cell (by show g < _; omega)).trans q3, (hb.cell (by show g3 < _; omega)).trans r2, (hb.cell (by show g3 < _; omega)).trans r4, (hb.cell (by show g3 < _; omega)).trans r8, HF.out.mono fun _ _ _ hg => tyAt.below (hb.mono hB) hg, HQ.out.mono fun _ _ _ hg => intAt.below (hb.mono hB) hg⟩
              generalize w.drewN nq = W0 at HB0 ⊢
              clear c4 c5 q0 q1 q2 q3 r2 r4 r8 d0 d1 d2
              obtain ⟨c4, q0, q1, q2, q3, r2, r4, r8, -, -⟩ := HCE.out _ HB0.out
              go_wp2_with fail
              go_quiet (fail)
              have HB1 : Hid (Below w.heap.size w (W0.drewN nq)) := Lib.hid (bdrew HB0.out nq)
              generalize W0.drewN nq = W1 at HB1 ⊢
              clear c4 q0 q1 q2 q3 r2 r4 r8
              obtain ⟨c4, q0, q1, q2, q3, r2, r4, r8, -, -⟩ := HCE.out _ HB1.out
              go_wp2_with fail
              go_still_tail 37, (by kernel_rfl)
              change wpList _ _ _ _ _ W1.drew
              have HB2 : Hid (Below w.heap.size w W1.drew) := Lib.hid HB1.out.drew
              generalize W1.drew = W2 at HB2 ⊢
              clear c4 q0 q1 q2 q3 r2 r4 r8 d3 d4 d5
              go_wp2_with fail
              refine (sfitsC t.frame c.frame fo qo fc qc W2 (by have := HB2.out.size; omega) (HCE.out _ HB2.out).2.2.2.2.2.2.2.2.1 (HCE.out _ HB2.out).2.2.2.2.2.2.2.2.2).mono ?_
              rintro e W3 ⟨rfl, hb3⟩
              have HB3 := Lib.hid (HB2.out.trans (hb3.mono HB2.out.size))
              clear hb3
              go_wp2_with fail
              go_ret
              exact ⟨retB HZ.out.symm, HB3.out⟩
            · have d5 : (c.prio == t.prio) = false := by rw [beq_eq_false_iff_ne]; exact s5
              have HZ : Hid (procMayB m c = false) := Lib.hid (by rw [HV.out, decide_eq_false (fun h => s5 h.2.2)]; rfl)
              clear s3 s4 s5
              have HCE : Hid (∀ W, Below w.heap.size w W → W.cell? ⟨pm, 4, none⟩ = some (.slice (some ⟨g3, off3, none⟩) m.procs.length h.pc) ∧ W.cell? ⟨g, a, none⟩ = some (.int .i64 k) ∧ W.cell? ⟨g, a + 1, none⟩ = some (.int .i64 c.loc) ∧ W.cell? ⟨g, a + 2, none⟩ = some (.int .i64 c.prio) ∧ W.cell? ⟨g3, off3 + k * 10 + 4, none⟩ = some (.slice lo t.locs.length lc) ∧ W.cell? ⟨g3, off3 + k * 10 + 8, none⟩ = some (.int .i64 t.prio)) := Lib.hid fun W hb =>
                ⟨(hb.cell HK.out.lt).trans c4, (hb.cell (by show g < _; omega)).trans q0, (hb.cell (by show g < _; omega)).trans q1, (hb.cell (by show g < _; omega)).trans q2, (hb.cell (by show g3 < _; omega)).trans r4, (hb.cell (by show g3 < _; omega)).trans r8⟩
              go_enter Tryz.func75, Tryz.ntmps75
              go_wp2_with fail
              go_quiet (fail)
              have HB0 : Hid (Below w.heap.size w (w.drewN nq)) := Lib.hid (bdrew (Below.refl _ _) nq)
              generalize w.drewN nq = W0 at HB0 ⊢
              clear c4 c5 q0 q1 q2 q3 r2 r4 r8 d0 d1 d2
              obtain ⟨c4, q0, q1, q2, r4, r8⟩ := HCE.out _ HB0.out
              go_wp2_with fail
              go_quiet (fail)
              have HB1 : Hid (Below w.heap.size w (W0.drewN nq)) := Lib.hid (bdrew HB0.out nq)
              generalize W0.drewN nq = W1 at HB1 ⊢
              clear c4 q0 q1 q2 r4 r8
              obtain ⟨c4, q0, q1, q2, r4, r8⟩ := HCE.out _ HB1.out
              go_wp2_with fail
              go_quiet (fail)
              go_wp2_with fail
              go_ret
              exact ⟨retB HZ.out.symm, bdrew HB1.out _⟩
          · have d4 : decide (c.loc < (t.locs.length : Int)) = false := decide_eq_false s4
            have HZ : Hid (procMayB m c = false) := Lib.hid (by rw [HV.out, decide_eq_false (fun h => s4 h.2.1)]; rfl)
            clear s3 s4
            have HCE : Hid (∀ W, Below w.heap.size w W → W.cell? ⟨pm, 4, none⟩ = some (.slice (some ⟨g3, off3, none⟩) m.procs.length h.pc) ∧ W.cell? ⟨g, a, none⟩ = some (.int .i64 k) ∧ W.cell? ⟨g, a + 1, none⟩ = some (.int .i64 c.loc) ∧ W.cell? ⟨g, a + 2, none⟩ = some (.int .i64 c.prio) ∧ W.cell? ⟨g3, off3 + k * 10 + 4, none⟩ = some (.slice lo t.locs.length lc) ∧ W.cell? ⟨g3, off3 + k * 10 + 8, none⟩ = some (.int .i64 t.prio)) := Lib.hid fun W hb =>
              ⟨(hb.cell HK.out.lt).trans c4, (hb.cell (by show g < _; omega)).trans q0, (hb.cell (by show g < _; omega)).trans q1, (hb.cell (by show g < _; omega)).trans q2, (hb.cell (by show g3 < _; omega)).trans r4, (hb.cell (by show g3 < _; omega)).trans r8⟩
            go_enter Tryz.func75, Tryz.ntmps75
            go_wp2_with fail
            go_quiet (fail)
            have HB0 : Hid (Below w.heap.size w (w.drewN nq)) := Lib.hid (bdrew (Below.refl _ _) nq)
            generalize w.drewN nq = W0 at HB0 ⊢
            clear c4 c5 q0 q1 q2 q3 r2 r4 r8 d0 d1 d2
            obtain ⟨c4, q0, q1, q2, r4, r8⟩ := HCE.out _ HB0.out
            go_wp2_with fail
            go_quiet (fail)
            have HB1 : Hid (Below w.heap.size w (W0.drewN nq)) := Lib.hid (bdrew HB0.out nq)
            generalize W0.drewN nq = W1 at HB1 ⊢
            clear c4 q0 q1 q2 r4 r8
            obtain ⟨c4, q0, q1, q2, r4, r8⟩ := HCE.out _ HB1.out
            go_wp2_with fail
            go_quiet (fail)
            go_wp2_with fail
            go_ret
            exact ⟨retB HZ.out.symm, bdrew HB1.out _⟩
        · have d3 : decide (0 ≤ c.loc) = false := decide_eq_false s3
          have HZ : Hid (procMayB m c = false) := Lib.hid (by rw [HV.out, decide_eq_false (fun h => s3 h.1)]; rfl)
          clear s3
          have HCE : Hid (∀ W, Below w.heap.size w W → W.cell? ⟨pm, 4, none⟩ = some (.slice (some ⟨g3, off3, none⟩) m.procs.length h.pc) ∧ W.cell? ⟨g, a, none⟩ = some (.int .i64 k) ∧ W.cell? ⟨g, a + 1, none⟩ = some (.int .i64 c.loc) ∧ W.cell? ⟨g, a + 2, none⟩ = some (.int .i64 c.prio) ∧ W.cell? ⟨g3, off3 + k * 10 + 4, none⟩ = some (.slice lo t.locs.length lc) ∧ W.cell? ⟨g3, off3 + k * 10 + 8, none⟩ = some (.int .i64 t.prio)) := Lib.hid fun W hb =>
            ⟨(hb.cell HK.out.lt).trans c4, (hb.cell (by show g < _; omega)).trans q0, (hb.cell (by show g < _; omega)).trans q1, (hb.cell (by show g < _; omega)).trans q2, (hb.cell (by show g3 < _; omega)).trans r4, (hb.cell (by show g3 < _; omega)).trans r8⟩
          go_enter Tryz.func75, Tryz.ntmps75
          go_wp2_with fail
          go_quiet (fail)
          have HB0 : Hid (Below w.heap.size w (w.drewN nq)) := Lib.hid (bdrew (Below.refl _ _) nq)
          generalize w.drewN nq = W0 at HB0 ⊢
          clear c4 c5 q0 q1 q2 q3 r2 r4 r8 d0 d1 d2
          obtain ⟨c4, q0, q1, q2, r4, r8⟩ := HCE.out _ HB0.out
          go_wp2_with fail
          go_quiet (fail)
          have HB1 : Hid (Below w.heap.size w (W0.drewN nq)) := Lib.hid (bdrew HB0.out nq)
          generalize W0.drewN nq = W1 at HB1 ⊢
          clear c4 q0 q1 q2 r4 r8
          obtain ⟨c4, q0, q1, q2, r4, r8⟩ := HCE.out _ HB1.out
          go_wp2_with fail
          go_quiet (fail)
          go_wp2_with fail
          go_ret
          exact ⟨retB HZ.out.symm, bdrew HB1.out _⟩
end Go.Proofs.YtihkkjflfdbkkaaGreatDoor
