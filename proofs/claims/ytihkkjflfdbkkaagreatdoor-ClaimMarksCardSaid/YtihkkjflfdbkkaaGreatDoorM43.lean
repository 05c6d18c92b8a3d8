/- The document's first answer: may a model be, and a state. -/
import Derived.Test.YtihkkjflfdbkkaaGreatDoorM42
import Derived.Test.YtihkkjflfdbkkaaGreatDoorM22
namespace Go.Proofs.YtihkkjflfdbkkaaGreatDoor
open Go.ChangeShapes Go.WideShapes Go.ChangeAt Go.RowKit
set_option linter.unusedVariables false
set_option linter.unusedSimpArgs false

theorem Ys.sinfo {w W : World} {CS SS : Array Value} {h : MH} {m : ModelD} {hs : SH} {s : StateD} (k : Ys w CS SS h m hs s W) : (Tryz.prog.info? 33).map (·.size) = some SS.size := by
  rw [k.es]
  show _ = some 6
  kernel_rfl
set_option maxRecDepth 100000 in
set_option maxHeartbeats 2000000 in
theorem check12H {B : Nat} {h : MH} {m : ModelD} {hs : SH} {s : StateD} (hab : ArgsB m) (w : World) (hB : B ≤ w.heap.size) (hmd : MD B w h m) (hsd : SD B w hs s) : Calls Tryz.prog 6 #[mV h m, sV hs s] w fun e w' => e = .returned (.int .i64 (stateE m s)) ∧ Below w.heap.size w w' := by
  have HMAY := Lib.hid (fun (hg : goodB m = true) (W : World) (hd : MD W.heap.size W h m) (hsd : SD W.heap.size W hs s) => may12H (good_head hg).1 W hd hsd)
  have HGOOD := Lib.hid (fun (W : World) (hd : MD W.heap.size W h m) => mayH W hd hab)
  obtain ⟨CS, hCS⟩ : ∃ c, c = mCells h m := ⟨_, rfl⟩
  obtain ⟨SS, hSS⟩ : ∃ c, c = sCells hs s := ⟨_, rfl⟩
  have HX := Lib.hid (Ys.new (hmd.lift hB) hCS (hsd.lift hB) hSS)
  have HV : Hid (stateE m s = if goodB m = true then (if mayB m s = true then 0 else 41) else 40) := Lib.hid rfl
  have HG : Hid (goodB m = ((checkL m).1 == 0)) := Lib.hid (by unfold goodB; rw [Bool.eq_iff_iff, decide_eq_true_eq, beq_iff_eq])
  unfold mV at HMAY HGOOD ⊢
  unfold sV at HMAY ⊢
  rw [← hCS] at HMAY HGOOD ⊢
  rw [← hSS] at HMAY ⊢
  clear hmd hsd hCS hSS hab
  go_enter Tryz.func6, Tryz.ntmps6
  go_upto_region 1 with fail
  generalize (w.alloc (.cells CS 29)).alloc (.cells SS 33) = W1 at HX ⊢
  go_wp2_with (refine wpList_load_row rfl _ _ rfl _ rfl _ CS _ _ HX.out.mx.bx.box Tryz.underlying29 rfl HX.out.mx.info ?_)
  refine (HGOOD.out W1 HX.out.mx.here).mono ?_
  rintro e W2 ⟨rfl, hb2⟩
  have HX2 := Lib.hid (HX.out.below hb2)
  clear hb2 HX
  obtain ⟨u, hu⟩ : ∃ u, ((checkL m).1 == 0) = u := ⟨_, rfl⟩
  rw [hu] at HG
  rw [hu]
  clear hu HGOOD
  cases u
  · have HZ : Hid (stateE m s = 40) := Lib.hid (by rw [HV.out, HG.out]; rfl)
    go_wp2_with fail
    go_ret
    exact ⟨retI HZ.out.symm, HX2.out.sx.bel⟩
  go_wp2_with (first | refine wpList_load_row rfl _ _ rfl _ rfl _ CS _ _ HX2.out.mx.bx.box Tryz.underlying29 rfl HX2.out.mx.info ?_ | refine wpList_load_row rfl _ _ rfl _ rfl _ SS _ _ HX2.out.sx.box Tryz.underlying33 rfl HX2.out.sinfo ?_)
  refine (HMAY.out HG.out W2 HX2.out.mx.here (HX2.out.sd.lift HX2.out.sx.bel.size)).mono ?_
  rintro e W3 ⟨rfl, hb3⟩
  have HX3 := Lib.hid (HX2.out.below hb3)
  clear hb3 HX2 HMAY
  obtain ⟨v, hv⟩ : ∃ v, mayB m s = v := ⟨_, rfl⟩
  rw [hv] at HV
  rw [hv]
  clear hv
  cases v
  · have HZ : Hid (stateE m s = 41) := Lib.hid (by rw [HV.out, HG.out]; rfl)
    go_wp2_with fail
    go_ret
    exact ⟨retI HZ.out.symm, HX3.out.sx.bel⟩
  · have HZ : Hid (stateE m s = 0) := Lib.hid (by rw [HV.out, HG.out]; rfl)
    go_wp2_with fail
    go_ret
    exact ⟨retI HZ.out.symm, HX3.out.sx.bel⟩

end Go.Proofs.YtihkkjflfdbkkaaGreatDoor
/- A claim's marks, as functions of data: has it ended, is a state one of acceptance. -/

namespace Go.Proofs.YtihkkjflfdbkkaaGreatDoor
open Go.ChangeShapes Go.WideShapes Go.ChangeAt Go.RowKit
set_option linter.unusedVariables false
set_option linter.unusedSimpArgs false

def endedB (m : ModelD) (s : StateD) : Bool := match m.procs[m.claim.toNat]? with
  | none => false
  | some p => decide (0 ≤ m.claim) && decide (s.claim = p.final)
def claimAcc (m : ModelD) (s : StateD) : Bool := match m.procs[m.claim.toNat]? with
  | none => false
  | some p => match p.locs[s.claim.toNat]? with
    | none => false
    | some l => decide (0 ≤ m.claim) && l.accept
def procAcc (m : ModelD) (q : ProcessD) : Bool := match m.procs[q.type.toNat]? with
  | none => false
  | some p => match p.locs[q.loc.toNat]? with
    | none => false
    | some l => l.accept
def accB (m : ModelD) (s : StateD) : Bool := claimAcc m s || s.procs.any (procAcc m)
/-- A claim of a model that may be stands at a place of its proctype. -/
theorem claim_at {m : ModelD} {s : StateD} (hg : goodB m = true) (h : mayB m s = true) (hc : 0 ≤ m.claim) : ∃ p l, m.procs[m.claim.toNat]? = some p ∧ p.locs[s.claim.toNat]? = some l ∧ 0 ≤ s.claim ∧ s.claim < p.locs.length := by
  have h1 := good_head hg
  have hp : m.claim.toNat < m.procs.length := by omega
  refine ⟨m.procs[m.claim.toNat], ?_⟩
  have hpp : m.procs[m.claim.toNat]? = some m.procs[m.claim.toNat] := List.getElem?_eq_getElem hp
  unfold mayB mayTailB at h
  simp only [Bool.and_eq_true] at h
  have h2 := h.2.2
  rw [if_neg (by omega)] at h2
  have hcl : claimLocs m = m.procs[m.claim.toNat].locs.length := by unfold claimLocs; rw [hpp]; rfl
  rw [hcl, decide_eq_true_eq] at h2
  exact ⟨m.procs[m.claim.toNat].locs[s.claim.toNat]'(by omega), hpp, List.getElem?_eq_getElem _, h2.1, h2.2⟩
theorem state_may {m : ModelD} {s : StateD} (h : stateE m s = 0) : goodB m = true ∧ mayB m s = true := by
  unfold stateE at h
  split at h
  · rename_i h1
    split at h
    · rename_i h2
      exact ⟨h1, h2⟩
    · cases h
  · cases h
theorem proc_at {m : ModelD} {s : StateD} (h : mayB m s = true) {q : ProcessD} (hq : q ∈ s.procs) : ∃ p l, m.procs[q.type.toNat]? = some p ∧ p.locs[q.loc.toNat]? = some l ∧ 0 ≤ q.type ∧ q.type < m.procs.length ∧ 0 ≤ q.loc ∧ q.loc < p.locs.length := by
  unfold mayB at h
  simp only [Bool.and_eq_true] at h
  have h2 := List.all_eq_true.1 h.1.2 q hq
  unfold procMayB procHeadB procFB at h2
  simp only [Bool.and_eq_true, decide_eq_true_eq] at h2
  obtain ⟨⟨h4, h5, _⟩, h6⟩ := h2
  split at h6
  · rename_i p hp
    simp only [Bool.and_eq_true, decide_eq_true_eq] at h6
    obtain ⟨⟨h7, h8, _⟩, _⟩ := h6
    exact ⟨p, p.locs[q.loc.toNat]'(by omega), hp, List.getElem?_eq_getElem _, h4, h5, h7, h8⟩
  · cases h6
end Go.Proofs.YtihkkjflfdbkkaaGreatDoor
