/- A claim's marks: the program's two, and the document's two. -/
import Derived.Test.YtihkkjflfdbkkaaGreatDoorM43
import Derived.Test.YtihkkjflfdbkkaaGreatDoorM01
namespace Go.Proofs.YtihkkjflfdbkkaaGreatDoor
open Go.ChangeShapes Go.WideShapes Go.ChangeAt Go.RowKit
set_option linter.unusedVariables false
set_option linter.unusedSimpArgs false

theorem retBI {a b : Int} {c d : Bool} (h : c = d) (h2 : a = b) : Ending.returned (.tuple #[.bool c, .int .i64 a]) = .returned (.tuple #[.bool d, .int .i64 b]) := by rw [h, h2]
def markV (m : ModelD) (s : StateD) (f : ModelD → StateD → Bool) : Bool := if stateE m s = 0 then f m s else false
/-- The place where a process stands, in memory. -/
theorem place_at {w W : World} {h : MH} {m : ModelD} {tn ln : Nat} {p : ProcD} {l : LocD} (hmd : MD w.heap.size W h m) (hp : m.procs[tn]? = some p) (hl : p.locs[ln]? = some l) :
    ∃ gp offp gl offl lc, h.po = some ⟨gp, offp, none⟩ ∧ W.cell? ⟨gp, offp + tn * 10 + 4, none⟩ = some (.slice (some ⟨gl, offl, none⟩) p.locs.length lc) ∧ W.cell? ⟨gl, offl + ln * 7 + 5, none⟩ = some (.bool l.accept) ∧ W.cell? ⟨gp, offp + tn * 10 + 6, none⟩ = some (.int .i64 p.final) ∧ tn < m.procs.length ∧ ln < p.locs.length ∧ p.locs.length ≤ maxLen := by
  obtain ⟨gp, offp, hpo, hgp, hpr⟩ := hmd.procs.get hp
  obtain ⟨lo, lc, e4, hrl⟩ := hpr.locs
  have ll := hrl.1
  obtain ⟨gl, offl, hlo, hgl, hla⟩ := hrl.get hl
  subst hlo
  exact ⟨gp, offp, gl, offl, lc, hpo, e4, hla.c5, hpr.c6, (List.getElem?_eq_some_iff.1 hp).1, (List.getElem?_eq_some_iff.1 hl).1, by unfold maxLen; omega⟩
theorem procAcc_at {m : ModelD} {q : ProcessD} {tn ln : Nat} {p : ProcD} {l : LocD} (ht : q.type = tn) (hl0 : q.loc = ln) (hp : m.procs[tn]? = some p) (hl : p.locs[ln]? = some l) : procAcc m q = l.accept := by
  unfold procAcc
  rw [ht, hl0, Int.toNat_natCast, Int.toNat_natCast, hp]
  simp only
  rw [hl]
theorem any_none {α : Type} {l : List α} {f : α → Bool} {k : Nat} (hk : l.length ≤ k) (h : ∀ j (hj : j < l.length), j < k → f l[j] = false) : l.any f = false := by
  rw [List.any_eq_false]
  intro x hx
  obtain ⟨i, hi, rfl⟩ := List.mem_iff_getElem.1 hx
  rw [h i hi (by omega)]
  simp
theorem any_some {α : Type} {l : List α} {f : α → Bool} {k : Nat} (hk : k < l.length) (h : f l[k] = true) : l.any f = true := List.any_eq_true.2 ⟨_, List.getElem_mem hk, h⟩

set_option maxRecDepth 100000 in
set_option maxHeartbeats 8000000 in
theorem endedC {h : MH} {m : ModelD} {hs : SH} {s : StateD} (w : World) (hd : MD w.heap.size w h m) (hsd : SD w.heap.size w hs s) : Calls Tryz.prog 7 #[mV h m, sV hs s] w fun e w' => e = .returned (.tuple #[.bool (markV m s endedB), .int .i64 (stateE m s)]) ∧ Below w.heap.size w w' := by
  obtain ⟨CS, hCS⟩ : ∃ c, c = mCells h m := ⟨_, rfl⟩
  obtain ⟨SS, hSS⟩ : ∃ c, c = sCells hs s := ⟨_, rfl⟩
  have HX := Lib.hid (Ys.new hd hCS hsd hSS)
  have HSC := Lib.hid (fun (W : World) (hd : MD W.heap.size W h m) (hsd : SD W.heap.size W hs s) => stateCheckC W (Nat.le_refl _) hd hsd)
  have l4 := hd.procs.1
  have ls := hsd.procs.1
  unfold mV sV
  unfold mV sV at HSC
  rw [← hCS, ← hSS] at HSC
  rw [← hCS, ← hSS]
  clear hd hsd hCS hSS
  go_enter Tryz.func7, Tryz.ntmps7
  go_upto_region 1 with fail
  generalize (w.alloc (.cells CS 29)).alloc (.cells SS 33) = W1 at HX ⊢
  go_wp2_with (first | refine wpList_load_row rfl _ _ rfl _ rfl _ CS _ _ HX.out.mx.bx.box Tryz.underlying29 rfl HX.out.mx.info ?_ | refine wpList_load_row rfl _ _ rfl _ rfl _ SS _ _ HX.out.sx.box Tryz.underlying33 rfl HX.out.sinfo ?_)
  refine (HSC.out W1 HX.out.mx.here (HX.out.sd.lift HX.out.sx.bel.size)).mono ?_
  rintro e W2 ⟨rfl, hb2⟩
  have HX2 := Lib.hid (HX.out.below hb2)
  clear hb2 HX HSC
  by_cases hs0 : stateE m s = 0
  rotate_left
  · have HE : Hid (markV m s endedB = false) := Lib.hid (if_neg hs0)
    obtain ⟨a, hA⟩ : ∃ a, stateE m s = a := ⟨_, rfl⟩
    have HA := Lib.hid hA
    rw [hA] at hs0 ⊢
    have hb : (a != 0) = true := by rw [bne_iff_ne]; exact hs0
    clear hA hs0
    go_wp2_with fail
    go_ret2
    exact ⟨retBI HE.out.symm HA.out.symm, HX2.out.sx.bel⟩
  have HE : Hid (markV m s endedB = endedB m s) := Lib.hid (if_pos hs0)
  have HS0 := Lib.hid hs0
  rw [hs0]
  obtain ⟨hgood, hmay⟩ := state_may hs0
  clear hs0
  generalize W2 = W1 at HX2 ⊢
  have HX := Lib.hid HX2.out
  clear HX2
  have c5 := HX.out.mx.c5
  have s5 := HX.out.s5
  have c4 := HX.out.mx.c4
  by_cases z1 : 0 ≤ m.claim
  · obtain ⟨p, l, hp, hl, hk0, hk1⟩ := claim_at hgood hmay z1
    obtain ⟨cn, hcn⟩ : ∃ n : Nat, m.claim = n := ⟨m.claim.toNat, by omega⟩
    obtain ⟨kn, hkn⟩ : ∃ n : Nat, s.claim = n := ⟨s.claim.toNat, by omega⟩
    have HV : Hid (decide (s.claim = p.final) = endedB m s) := Lib.hid (by
      unfold endedB
      rw [hp]
      simp only
      rw [decide_eq_true z1, Bool.true_and])
    rw [hcn, Int.toNat_natCast] at hp
    rw [hkn, Int.toNat_natCast] at hl
    obtain ⟨gp, offp, gl, offl, lc, hpo, e4, e5, e6, htn, hln, hml⟩ := place_at HX.out.mx.md hp hl
    have htn1 : (cn : Int) < m.procs.length := by omega
    have htn0 : (0 : Int) ≤ cn := by omega
    have d0 : decide ((0 : Int) ≤ cn) = true := decide_eq_true htn0
    have hml2 := hml
    unfold maxLen at hml2
    rw [hpo] at c4
    rw [hcn] at c5
    clear z1 hp hl hk0 hk1 hcn hkn hpo e4 e5 hgood hmay
    obtain ⟨sc, hsc⟩ : ∃ x, s.claim = x := ⟨_, rfl⟩
    rw [hsc] at s5 HV
    obtain ⟨pf, hpf⟩ : ∃ x, p.final = x := ⟨_, rfl⟩
    rw [hpf] at e6 HV
    clear hsc hpf
    go_wp2_with fail
    go_quiet (fail)
    go_wp2_with fail
    go_ret2
    exact ⟨retBI (((by first | exact HV.out | (rw [← HV.out]; first | rfl | simp) : _ = endedB m s)).trans HE.out.symm) HS0.out.symm, (HX.out.drewN _).sx.bel⟩
  · have d0 : decide (0 ≤ m.claim) = false := decide_eq_false z1
    have HV : Hid (false = endedB m s) := Lib.hid (by
      unfold endedB
      cases m.procs[m.claim.toNat]? with
      | none => rfl
      | some p => simp only; rw [decide_eq_false z1, Bool.false_and])
    clear z1 hgood hmay
    go_wp2_with fail
    go_quiet (fail)
    go_wp2_with fail
    go_ret2
    exact ⟨retBI ((HV.out).trans HE.out.symm) HS0.out.symm, (HX.out.drewN _).sx.bel⟩

set_option maxRecDepth 100000 in
set_option maxHeartbeats 8000000 in
theorem dEndedH {h : MH} {m : ModelD} {hs : SH} {s : StateD} (hok : stateE m s = 0) (w : World) (hd : MD w.heap.size w h m) (hsd : SD w.heap.size w hs s) : Calls Tryz.prog 9 #[mV h m, sV hs s] w fun e w' => e = .returned (.bool (endedB m s)) ∧ Below w.heap.size w w' := by
  obtain ⟨CS, hCS⟩ : ∃ c, c = mCells h m := ⟨_, rfl⟩
  obtain ⟨SS, hSS⟩ : ∃ c, c = sCells hs s := ⟨_, rfl⟩
  have HX := Lib.hid (Ys.new hd hCS hsd hSS)
  have l4 := hd.procs.1
  have ls := hsd.procs.1
  unfold mV sV
  rw [← hCS, ← hSS]
  clear hd hsd hCS hSS
  go_enter Tryz.func9, Tryz.ntmps9
  go_upto_region 1 with fail
  generalize (w.alloc (.cells CS 29)).alloc (.cells SS 33) = W1 at HX ⊢
  obtain ⟨hgood, hmay⟩ := state_may hok
  clear hok
  have c5 := HX.out.mx.c5
  have s5 := HX.out.s5
  have c4 := HX.out.mx.c4
  by_cases z1 : 0 ≤ m.claim
  · obtain ⟨p, l, hp, hl, hk0, hk1⟩ := claim_at hgood hmay z1
    obtain ⟨cn, hcn⟩ : ∃ n : Nat, m.claim = n := ⟨m.claim.toNat, by omega⟩
    obtain ⟨kn, hkn⟩ : ∃ n : Nat, s.claim = n := ⟨s.claim.toNat, by omega⟩
    have HV : Hid (decide (s.claim = p.final) = endedB m s) := Lib.hid (by
      unfold endedB
      rw [hp]
      simp only
      rw [decide_eq_true z1, Bool.true_and])
    rw [hcn, Int.toNat_natCast] at hp
    rw [hkn, Int.toNat_natCast] at hl
    obtain ⟨gp, offp, gl, offl, lc, hpo, e4, e5, e6, htn, hln, hml⟩ := place_at HX.out.mx.md hp hl
    have htn1 : (cn : Int) < m.procs.length := by omega
    have htn0 : (0 : Int) ≤ cn := by omega
    have d0 : decide ((0 : Int) ≤ cn) = true := decide_eq_true htn0
    have hml2 := hml
    unfold maxLen at hml2
    rw [hpo] at c4
    rw [hcn] at c5
    clear z1 hp hl hk0 hk1 hcn hkn hpo e4 e5 hgood hmay
    obtain ⟨sc, hsc⟩ : ∃ x, s.claim = x := ⟨_, rfl⟩
    rw [hsc] at s5 HV
    obtain ⟨pf, hpf⟩ : ∃ x, p.final = x := ⟨_, rfl⟩
    rw [hpf] at e6 HV
    clear hsc hpf
    go_wp2_with fail
    go_quiet (fail)
    go_wp2_with fail
    go_ret
    exact ⟨retB (by first | exact HV.out | (rw [← HV.out]; first | rfl | simp) : _ = endedB m s), (HX.out.drewN _).sx.bel⟩
  · have d0 : decide (0 ≤ m.claim) = false := decide_eq_false z1
    have HV : Hid (false = endedB m s) := Lib.hid (by
      unfold endedB
      cases m.procs[m.claim.toNat]? with
      | none => rfl
      | some p => simp only; rw [decide_eq_false z1, Bool.false_and])
    clear z1 hgood hmay
    go_wp2_with fail
    go_quiet (fail)
    go_wp2_with fail
    go_ret
    exact ⟨retB HV.out, (HX.out.drewN _).sx.bel⟩

set_option maxRecDepth 100000 in
set_option maxHeartbeats 8000000 in
theorem acceptsC {h : MH} {m : ModelD} {hs : SH} {s : StateD} (w : World) (hd : MD w.heap.size w h m) (hsd : SD w.heap.size w hs s) : Calls Tryz.prog 8 #[mV h m, sV hs s] w fun e w' => e = .returned (.tuple #[.bool (markV m s accB), .int .i64 (stateE m s)]) ∧ Below w.heap.size w w' := by
  obtain ⟨CS, hCS⟩ : ∃ c, c = mCells h m := ⟨_, rfl⟩
  obtain ⟨SS, hSS⟩ : ∃ c, c = sCells hs s := ⟨_, rfl⟩
  have HX := Lib.hid (Ys.new hd hCS hsd hSS)
  have HSC := Lib.hid (fun (W : World) (hd : MD W.heap.size W h m) (hsd : SD W.heap.size W hs s) => stateCheckC W (Nat.le_refl _) hd hsd)
  have l4 := hd.procs.1
  have ls := hsd.procs.1
  unfold mV sV
  unfold mV sV at HSC
  rw [← hCS, ← hSS] at HSC
  rw [← hCS, ← hSS]
  clear hd hsd hCS hSS
  go_enter Tryz.func8, Tryz.ntmps8
  go_upto_region 1 with fail
  generalize (w.alloc (.cells CS 29)).alloc (.cells SS 33) = W1 at HX ⊢
  go_wp2_with (first | refine wpList_load_row rfl _ _ rfl _ rfl _ CS _ _ HX.out.mx.bx.box Tryz.underlying29 rfl HX.out.mx.info ?_ | refine wpList_load_row rfl _ _ rfl _ rfl _ SS _ _ HX.out.sx.box Tryz.underlying33 rfl HX.out.sinfo ?_)
  refine (HSC.out W1 HX.out.mx.here (HX.out.sd.lift HX.out.sx.bel.size)).mono ?_
  rintro e W2 ⟨rfl, hb2⟩
  have HX2 := Lib.hid (HX.out.below hb2)
  clear hb2 HX HSC
  by_cases hs0 : stateE m s = 0
  rotate_left
  · have HE : Hid (markV m s accB = false) := Lib.hid (if_neg hs0)
    obtain ⟨a, hA⟩ : ∃ a, stateE m s = a := ⟨_, rfl⟩
    have HA := Lib.hid hA
    rw [hA] at hs0 ⊢
    have hb : (a != 0) = true := by rw [bne_iff_ne]; exact hs0
    clear hA hs0
    go_wp2_with fail
    go_ret2
    exact ⟨retBI HE.out.symm HA.out.symm, HX2.out.sx.bel⟩
  have HE : Hid (markV m s accB = accB m s) := Lib.hid (if_pos hs0)
  have HS0 := Lib.hid hs0
  rw [hs0]
  obtain ⟨hgood, hmay⟩ := state_may hs0
  clear hs0
  generalize W2 = W1 at HX2 ⊢
  have HX := Lib.hid HX2.out
  clear HX2
  have HMAY := Lib.hid hmay
  have HAB : Hid (accB m s = (claimAcc m s || s.procs.any (procAcc m))) := Lib.hid rfl
  go_upto_region 4 with fail
  go_cut [31] from 15 to 31 (fun v wx => v = .bool (claimAcc m s) ∧ Hid (Ys w CS SS h m hs s wx))
  case first =>
    have c5 := HX.out.mx.c5
    have s5 := HX.out.s5
    have c4 := HX.out.mx.c4
    by_cases z1 : 0 ≤ m.claim
    · obtain ⟨p, l, hp, hl, hk0, hk1⟩ := claim_at hgood hmay z1
      obtain ⟨cn, hcn⟩ : ∃ n : Nat, m.claim = n := ⟨m.claim.toNat, by omega⟩
      obtain ⟨kn, hkn⟩ : ∃ n : Nat, s.claim = n := ⟨s.claim.toNat, by omega⟩
      have HV : Hid (l.accept = claimAcc m s) := Lib.hid (by
        unfold claimAcc
        rw [hp]
        simp only
        rw [hl]
        simp only
        rw [decide_eq_true z1, Bool.true_and])
      rw [hcn, Int.toNat_natCast] at hp
      rw [hkn, Int.toNat_natCast] at hl
      obtain ⟨gp, offp, gl, offl, lc, hpo, e4, e5, e6, htn, hln, hml⟩ := place_at HX.out.mx.md hp hl
      have htn1 : (cn : Int) < m.procs.length := by omega
      have htn0 : (0 : Int) ≤ cn := by omega
      have hln1 : (kn : Int) < p.locs.length := by omega
      have hln0 : (0 : Int) ≤ kn := by omega
      have d0 : decide ((0 : Int) ≤ cn) = true := decide_eq_true htn0
      have hml2 := hml
      unfold maxLen at hml2
      rw [hpo] at c4
      rw [hcn] at c5
      rw [hkn] at s5
      obtain ⟨LN, hLN⟩ : ∃ n, p.locs.length = n := ⟨_, rfl⟩
      rw [hLN] at e4 hln hln1 hml hml2
      obtain ⟨b, hb⟩ : ∃ b, l.accept = b := ⟨_, rfl⟩
      rw [hb] at e5 HV
      clear z1 hp hl hk0 hk1 hcn hkn hpo e6 hgood hmay hLN hb
      go_wp2_with fail
      go_quiet (fail)
      go_wp2_with fail
      go_meet
      case rel => exact ⟨by rw [← HV.out], Lib.hid (HX.out.drewN _)⟩
    · have d0 : decide (0 ≤ m.claim) = false := decide_eq_false z1
      have HV : Hid (false = claimAcc m s) := Lib.hid (by
        unfold claimAcc
        cases m.procs[m.claim.toNat]? with
        | none => rfl
        | some p =>
          simp only
          cases p.locs[s.claim.toNat]? with
          | none => rfl
          | some l => simp only; rw [decide_eq_false z1, Bool.false_and])
      clear z1 hgood
      go_wp2_with fail
      go_quiet (fail)
      go_wp2_with fail
      go_meet
      case rel => exact ⟨by rw [← HV.out], Lib.hid (HX.out.drewN _)⟩
  case rest =>
  obtain ⟨rfl, HX3⟩ := hcut
  generalize claimAcc m s = a at HAB ⊢
  clear hgood hmay HX
  cases a
  rotate_left
  · go_wp2_with fail
    go_ret2
    exact ⟨retBI ((show true = accB m s by rw [HAB.out, Bool.true_or]).trans HE.out.symm) HS0.out.symm, HX3.out.sx.bel⟩
  have HAB2 : Hid (accB m s = s.procs.any (procAcc m)) := Lib.hid (by rw [HAB.out, Bool.false_or])
  clear HAB
  have s2 := HX3.out.s2
  go_wp2_with fail
  clear s2
  go_loopw [35] (fun iv W => ∃ k : Nat, iv = .int .i64 k ∧ k ≤ s.procs.length ∧ Hid (∀ j (hj : j < s.procs.length), j < k → procAcc m s.procs[j] = false) ∧ Hid (Ys w CS SS h m hs s W)) (fun iv _ => s.procs.length - (intOf iv).toNat)
  case atStart => exact ⟨0, rfl, by omega, Lib.hid fun j _ h => by omega, HX3⟩
  case round =>
    clear HX3
    obtain ⟨k, rfl, hk, HJ2, HJ⟩ := hrel
    have hk0 : (0 : Int) ≤ k := by omega
    by_cases hlt : k < s.procs.length
    · have hlti : (k : Int) < s.procs.length := by omega
      obtain ⟨gs, offs, hso, hgs, hat⟩ := HJ.out.sd.procs.cell hlt
      obtain ⟨pr, hpr⟩ : ∃ pr, s.procs[k] = pr := ⟨_, rfl⟩
      have HACC : Hid (∀ b, procAcc m pr = b → procAcc m s.procs[k] = b) := Lib.hid fun b hb => by rw [hpr]; exact hb
      have hpm : pr ∈ s.procs := hpr ▸ List.getElem_mem hlt
      rw [hpr] at hat
      obtain ⟨p, l, hp, hl, ht0, ht1, hl0, hl1⟩ := proc_at HMAY.out hpm
      obtain ⟨tn, htn⟩ : ∃ t : Nat, pr.type = t := ⟨pr.type.toNat, by omega⟩
      obtain ⟨ln, hln⟩ : ∃ t : Nat, pr.loc = t := ⟨pr.loc.toNat, by omega⟩
      rw [htn, Int.toNat_natCast] at hp
      rw [hln, Int.toNat_natCast] at hl
      have HPA := Lib.hid (procAcc_at htn hln hp hl)
      have HPL := Lib.hid (fun (W : World) (hmd : MD w.heap.size W h m) => place_at hmd hp hl)
      obtain ⟨fo, fc, d3, -⟩ := hat.frame
      have d0 := hat.c0
      have d1 := hat.c1
      have d2 := hat.c2
      rw [htn] at d0
      rw [hln] at d1
      have HNX : Hid (l.accept = false → ∀ j (hj : j < s.procs.length), j < k + 1 → procAcc m s.procs[j] = false) := Lib.hid fun e j hj hjk => by
        by_cases e2 : j = k
        · subst e2; exact HACC.out _ (by rw [HPA.out, e])
        · exact HJ2.out j hj (by omega)
      have HYE : Hid (l.accept = true → s.procs.any (procAcc m) = true) := Lib.hid fun e => any_some hlt (HACC.out _ (by rw [HPA.out, e]))
      have HS : Hid (∀ n : Nat, Value.slice hs.po n hs.pc = Value.slice (some ⟨gs, offs, none⟩) n hs.pc) := Lib.hid fun n => by rw [hso]
      rw [HS.out]
      clear HS HJ2 hso hgs hat hpr hpm hp hl ht0 ht1 hl0 hl1 htn hln HACC HPA
      go_upto_region 9 with fail
      have HJ4 := Lib.hid (HJ.out.below (ball (.cells #[.int .i64 tn, .int .i64 ln, .int .i64 pr.prio, .slice fo pr.frame.length fc] 66)))
      have HPB : Hid (Bq wr wr.heap.size #[.int .i64 tn, .int .i64 ln, .int .i64 pr.prio, .slice fo pr.frame.length fc] 66 (wr.alloc (.cells #[.int .i64 tn, .int .i64 ln, .int .i64 pr.prio, .slice fo pr.frame.length fc] 66))) := Lib.hid (Bq.new (Below.refl _ _) _ _)
      generalize wr.alloc (.cells #[.int .i64 tn, .int .i64 ln, .int .i64 pr.prio, .slice fo pr.frame.length fc] 66) = W4 at HJ4 HPB ⊢
      have r0 := HPB.out.cell (i := 0) rfl
      have r1 := HPB.out.cell (i := 1) rfl
      generalize wr.heap.size = pb at r0 r1 ⊢
      clear HJ d0 d1 d2 d3 HPB
      obtain ⟨gp, offp, gl, offl, lc, hpo, e4, e5, -, htl, hll, hml⟩ := HPL.out W4 HJ4.out.mx.md
      have c4 := HJ4.out.mx.c4
      rw [hpo] at c4
      have htn1 : (tn : Int) < m.procs.length := by omega
      have htn0 : (0 : Int) ≤ tn := by omega
      have hln1 : (ln : Int) < p.locs.length := by omega
      have hln0 : (0 : Int) ≤ ln := by omega
      have hml2 := hml
      unfold maxLen at hml2
      obtain ⟨b, hb⟩ : ∃ b, l.accept = b := ⟨_, rfl⟩
      rw [hb] at e5 HNX HYE
      clear hpo hb HPL
      go_wp2_with fail
      go_quiet (fail)
      have HN := Lib.hid (HJ4.out.drewN nq)
      generalize W4.drewN nq = W9 at HN ⊢
      clear HJ4 r0 r1 c4 e4 e5
      cases b
      · have HNX2 := Lib.hid (HNX.out rfl)
        clear HNX HYE
        go_wp2_with fail
        go_roundw
        case rel => exact ⟨k + 1, by go_num, by omega, HNX2, HN⟩
        case measure => simp [intOf]; omega
      · have HF : Hid (true = accB m s) := Lib.hid (by rw [HAB2.out]; exact (HYE.out rfl).symm)
        clear HNX HYE
        go_wp2_with fail
        go_ret2
        exact ⟨retBI (HF.out.trans HE.out.symm) HS0.out.symm, HN.out.sx.bel⟩
    · have hlti : ¬ (k : Int) < s.procs.length := by omega
      have HF : Hid (false = accB m s) := Lib.hid (by rw [HAB2.out]; exact (any_none (by omega) HJ2.out).symm)
      go_wp2_with fail
      go_ret2
      exact ⟨retBI (HF.out.trans HE.out.symm) HS0.out.symm, HJ.out.sx.bel⟩

set_option maxRecDepth 100000 in
set_option maxHeartbeats 8000000 in
theorem dAcceptsH {h : MH} {m : ModelD} {hs : SH} {s : StateD} (hok : stateE m s = 0) (w : World) (hd : MD w.heap.size w h m) (hsd : SD w.heap.size w hs s) : Calls Tryz.prog 10 #[mV h m, sV hs s] w fun e w' => e = .returned (.bool (accB m s)) ∧ Below w.heap.size w w' := by
  obtain ⟨CS, hCS⟩ : ∃ c, c = mCells h m := ⟨_, rfl⟩
  obtain ⟨SS, hSS⟩ : ∃ c, c = sCells hs s := ⟨_, rfl⟩
  have HX := Lib.hid (Ys.new hd hCS hsd hSS)
  have l4 := hd.procs.1
  have ls := hsd.procs.1
  unfold mV sV
  rw [← hCS, ← hSS]
  clear hd hsd hCS hSS
  go_enter Tryz.func10, Tryz.ntmps10
  go_upto_region 1 with fail
  generalize (w.alloc (.cells CS 29)).alloc (.cells SS 33) = W1 at HX ⊢
  obtain ⟨hgood, hmay⟩ := state_may hok
  clear hok
  have HMAY := Lib.hid hmay
  have HGD := Lib.hid hgood
  clear hmay hgood
  have HAB : Hid (accB m s = (claimAcc m s || s.procs.any (procAcc m))) := Lib.hid rfl
  go_wp2_with fail
  go_loopw [5] (fun iv W => ∃ k : Nat, iv = .int .i64 k ∧ k ≤ s.procs.length ∧ Hid (∀ j (hj : j < s.procs.length), j < k → procAcc m s.procs[j] = false) ∧ Hid (Ys w CS SS h m hs s W)) (fun iv _ => s.procs.length - (intOf iv).toNat)
  case atStart => exact ⟨0, rfl, by omega, Lib.hid fun j _ h => by omega, HX⟩
  case round =>
    clear HX
    obtain ⟨k, rfl, hk, HJ2, HJ⟩ := hrel
    have hk0 : (0 : Int) ≤ k := by omega
    have s2 := HJ.out.s2
    by_cases hlt : k < s.procs.length
    · have hlti : (k : Int) < s.procs.length := by omega
      obtain ⟨gs, offs, hso, hgs, hat⟩ := HJ.out.sd.procs.cell hlt
      obtain ⟨pr, hpr⟩ : ∃ pr, s.procs[k] = pr := ⟨_, rfl⟩
      have HACC : Hid (∀ b, procAcc m pr = b → procAcc m s.procs[k] = b) := Lib.hid fun b hb => by rw [hpr]; exact hb
      have hpm : pr ∈ s.procs := hpr ▸ List.getElem_mem hlt
      rw [hpr] at hat
      obtain ⟨p, l, hp, hl, ht0, ht1, hl0, hl1⟩ := proc_at HMAY.out hpm
      obtain ⟨tn, htn⟩ : ∃ t : Nat, pr.type = t := ⟨pr.type.toNat, by omega⟩
      obtain ⟨ln, hln⟩ : ∃ t : Nat, pr.loc = t := ⟨pr.loc.toNat, by omega⟩
      rw [htn, Int.toNat_natCast] at hp
      rw [hln, Int.toNat_natCast] at hl
      have HPA := Lib.hid (procAcc_at htn hln hp hl)
      have HPL := Lib.hid (fun (W : World) (hmd : MD w.heap.size W h m) => place_at hmd hp hl)
      obtain ⟨fo, fc, d3, -⟩ := hat.frame
      have d0 := hat.c0
      have d1 := hat.c1
      have d2 := hat.c2
      rw [htn] at d0
      rw [hln] at d1
      have HNX : Hid (l.accept = false → ∀ j (hj : j < s.procs.length), j < k + 1 → procAcc m s.procs[j] = false) := Lib.hid fun e j hj hjk => by
        by_cases e2 : j = k
        · subst e2; exact HACC.out _ (by rw [HPA.out, e])
        · exact HJ2.out j hj (by omega)
      have HYE : Hid (l.accept = true → s.procs.any (procAcc m) = true) := Lib.hid fun e => any_some hlt (HACC.out _ (by rw [HPA.out, e]))
      have HS : Hid (∀ n : Nat, Value.slice hs.po n hs.pc = Value.slice (some ⟨gs, offs, none⟩) n hs.pc) := Lib.hid fun n => by rw [hso]
      rw [HS.out] at s2
      clear HS HJ2 hso hgs hat hpr hpm hp hl ht0 ht1 hl0 hl1 htn hln HACC HPA
      obtain ⟨gp, offp, gl, offl, lc, hpo, e4, e5, -, htl, hll, hml⟩ := HPL.out wr HJ.out.mx.md
      have c4 := HJ.out.mx.c4
      rw [hpo] at c4
      have htn1 : (tn : Int) < m.procs.length := by omega
      have htn0 : (0 : Int) ≤ tn := by omega
      have hln1 : (ln : Int) < p.locs.length := by omega
      have hln0 : (0 : Int) ≤ ln := by omega
      have hml2 := hml
      unfold maxLen at hml2
      obtain ⟨b, hb⟩ : ∃ b, l.accept = b := ⟨_, rfl⟩
      rw [hb] at e5 HNX HYE
      clear hpo hb HPL
      go_wp2_with fail
      go_quiet (fail)
      have HN := Lib.hid (HJ.out.drewN nq)
      generalize wr.drewN nq = W9 at HN ⊢
      clear HJ c4 e4 e5 d0 d1 d2 d3 s2
      cases b
      · have HNX2 := Lib.hid (HNX.out rfl)
        clear HNX HYE
        go_wp2_with fail
        go_roundw
        case rel => exact ⟨k + 1, by go_num, by omega, HNX2, HN⟩
        case measure => simp [intOf]; omega
      · have HF : Hid (true = accB m s) := Lib.hid (by rw [HAB.out, HYE.out rfl, Bool.or_true])
        clear HNX HYE
        go_wp2_with fail
        go_ret
        exact ⟨retB HF.out, HN.out.sx.bel⟩
    · have hlti : ¬ (k : Int) < s.procs.length := by omega
      have HF : Hid (claimAcc m s = accB m s) := Lib.hid (by rw [HAB.out, any_none (k := k) (by omega) HJ2.out, Bool.or_false])
      have HX := Lib.hid HJ.out
      have hgood := HGD.out
      have hmay := HMAY.out
      generalize wr = W1 at HX s2 ⊢
      go_upto_region 6 with fail
      go_cut [4] from 33 to 49 (fun v wx => v = .bool (claimAcc m s) ∧ Hid (Ys w CS SS h m hs s wx))
      case first =>
        have c5 := HX.out.mx.c5
        have s5 := HX.out.s5
        have c4 := HX.out.mx.c4
        by_cases z1 : 0 ≤ m.claim
        · obtain ⟨p, l, hp, hl, hk0, hk1⟩ := claim_at hgood hmay z1
          obtain ⟨cn, hcn⟩ : ∃ n : Nat, m.claim = n := ⟨m.claim.toNat, by omega⟩
          obtain ⟨kn, hkn⟩ : ∃ n : Nat, s.claim = n := ⟨s.claim.toNat, by omega⟩
          have HV : Hid (l.accept = claimAcc m s) := Lib.hid (by
            unfold claimAcc
            rw [hp]
            simp only
            rw [hl]
            simp only
            rw [decide_eq_true z1, Bool.true_and])
          rw [hcn, Int.toNat_natCast] at hp
          rw [hkn, Int.toNat_natCast] at hl
          obtain ⟨gp, offp, gl, offl, lc, hpo, e4, e5, e6, htn, hln, hml⟩ := place_at HX.out.mx.md hp hl
          have htn1 : (cn : Int) < m.procs.length := by omega
          have htn0 : (0 : Int) ≤ cn := by omega
          have hln1 : (kn : Int) < p.locs.length := by omega
          have hln0 : (0 : Int) ≤ kn := by omega
          have d0 : decide ((0 : Int) ≤ cn) = true := decide_eq_true htn0
          have hml2 := hml
          unfold maxLen at hml2
          rw [hpo] at c4
          rw [hcn] at c5
          rw [hkn] at s5
          obtain ⟨LN, hLN⟩ : ∃ n, p.locs.length = n := ⟨_, rfl⟩
          rw [hLN] at e4 hln hln1 hml hml2
          obtain ⟨b, hb⟩ : ∃ b, l.accept = b := ⟨_, rfl⟩
          rw [hb] at e5 HV
          clear z1 hp hl hk0 hk1 hcn hkn hpo e6 hgood hmay hLN hb
          go_wp2_with fail
          go_quiet (fail)
          go_wp2_with fail
          go_meet
          case rel => exact ⟨by rw [← HV.out], Lib.hid (HX.out.drewN _)⟩
        · have d0 : decide (0 ≤ m.claim) = false := decide_eq_false z1
          have HV : Hid (false = claimAcc m s) := Lib.hid (by
            unfold claimAcc
            cases m.procs[m.claim.toNat]? with
            | none => rfl
            | some p =>
              simp only
              cases p.locs[s.claim.toNat]? with
              | none => rfl
              | some l => simp only; rw [decide_eq_false z1, Bool.false_and])
          clear z1 hgood
          go_wp2_with fail
          go_quiet (fail)
          go_wp2_with fail
          go_meet
          case rel => exact ⟨by rw [← HV.out], Lib.hid (HX.out.drewN _)⟩
      case rest =>
      obtain ⟨rfl, HX3⟩ := hcut
      generalize claimAcc m s = a at HF ⊢
      go_wp2_with fail
      go_ret
      exact ⟨retB HF.out, HX3.out.sx.bel⟩
end Go.Proofs.YtihkkjflfdbkkaaGreatDoor
/- Many allocations, one behind the other. -/
namespace Go.Proofs.YtihkkjflfdbkkaaGreatDoor
open Go.ChangeShapes Go.WideShapes Go.ChangeAt Go.RowKit

def allocs : World → List Obj → World
  | w, [] => w
  | w, o :: r => allocs (w.alloc o) r
theorem allocs_below : ∀ (l : List Obj) (w : World) (B : Nat), B ≤ w.heap.size → Below B w (allocs w l)
  | [], w, B, h => Below.refl _ _
  | o :: r, w, B, h => ((Below.refl B w).alloc h o).trans (allocs_below r (w.alloc o) B (by simp; omega))
theorem allocs_size : ∀ (l : List Obj) (w : World), (allocs w l).heap.size = w.heap.size + l.length
  | [], w => by simp [allocs]
  | o :: r, w => by rw [allocs, allocs_size r (w.alloc o)]; simp; omega
theorem allocs_at : ∀ {l : List Obj} {w : World} {k : Nat} {o : Obj}, l[k]? = some o → (allocs w l).heap[w.heap.size + k]? = some o
  | [], w, k, o, h => by simp at h
  | x :: r, w, 0, o, h => by
    simp only [List.getElem?_cons_zero, Option.some.injEq] at h
    subst h
    refine ((allocs_below r (w.alloc x) (w.alloc x).heap.size (Nat.le_refl _)).block _ (by simp)).trans ?_
    exact heap_alloc_new w x
  | x :: r, w, k + 1, o, h => by
    simp only [List.getElem?_cons_succ] at h
    have h2 := allocs_at (w := w.alloc x) h
    rw [World.size_alloc] at h2
    rw [show w.heap.size + (k + 1) = w.heap.size + 1 + k from by omega]
    exact h2
theorem allocs_lt {l : List Obj} {w : World} {k : Nat} {o : Obj} (h : l[k]? = some o) : w.heap.size + k < (allocs w l).heap.size := by
  rw [allocs_size]
  have := (List.getElem?_eq_some_iff.1 h).1
  omega
theorem row_one1 {α : Type} {B : Nat} {g : Nat} {k : Nat} {R : Nat → Nat → α → Prop} {x : α} (hg : g < B) (h : R g 0 x) : Row B (some ⟨g, 0, none⟩) k R [x] :=
  ⟨by simp, .inr ⟨g, 0, rfl, hg, fun i hi => by
    obtain rfl : i = 0 := by simp at hi; omega
    simpa using h⟩⟩
end Go.Proofs.YtihkkjflfdbkkaaGreatDoor
