/- por.Alone, every model, state and list of steps. -/
import Derived.Test.YtofdfaopabmfoaaM44
namespace Go.Proofs.Ytofdfaopabmfoaa
open Go.ChangeShapes Go.WideShapes Go.ChangeAt Go.RowKit
set_option linter.unusedVariables false
set_option linter.unusedSimpArgs false

/-- The boxes, and who goes. -/
structure GJ2 (w0 : World) (CS SS : Array Value) (h : MH) (m : ModelD) (hs : SH) (s : StateD) (gG n : Nat) (G : List Bool) (W : World) : Prop where
  ys : Ys w0 CS SS h m hs s W
  goes : W.ownsRow (w0.heap.size + 1 + 1) 4 1 (.slice (some ⟨gG, 0, none⟩) n n) n (boolV G)
theorem GJ2.below {w0 W W1 : World} {CS SS : Array Value} {h : MH} {m : ModelD} {hs : SH} {s : StateD} {gG n : Nat} {G : List Bool} (j : GJ2 w0 CS SS h m hs s gG n G W) (hb : Below W.heap.size W W1) : GJ2 w0 CS SS h m hs s gG n G W1 :=
  ⟨j.ys.below hb, owns_below j.goes hb⟩
theorem GJ2.set {w0 W : World} {CS SS : Array Value} {h : MH} {m : ModelD} {hs : SH} {s : StateD} {gG n : Nat} {G : List Bool} (j : GJ2 w0 CS SS h m hs s gG n G W) (i : Nat) (b : Bool) : GJ2 w0 CS SS h m hs s gG n (G.set i b) (W.setCell ⟨gG, i, none⟩ (.bool b)) := by
  obtain ⟨c, fz, hk⟩ := Lib.ownsRow_kind j.goes gG rfl
  have hgl := (j.goes.lt gG rfl).1
  have hb : Below w0.heap.size W (W.setCell ⟨gG, i, none⟩ (.bool b)) := (Below.refl _ _).setCell (by show _ ≤ gG; omega) _
  refine ⟨⟨⟨j.ys.mx.eq, ⟨?_, j.ys.mx.bx.bel.trans hb⟩, j.ys.mx.md.below hb⟩, j.ys.es, ⟨?_, j.ys.sx.bel.trans hb⟩, j.ys.sd.below hb⟩, ?_⟩
  · rw [heap_setCell_other _ _ _ _ (obj_ne j.ys.mx.bx.box hk (by decide))]; exact j.ys.mx.bx.box
  · rw [heap_setCell_other _ _ _ _ (obj_ne j.ys.sx.box hk (by decide))]; exact j.ys.sx.box
  · have := (j.goes.stored i (.bool b)).1
    unfold boolV at this ⊢
    rw [List.map_set]
    exact this

set_option maxRecDepth 100000 in
set_option maxHeartbeats 8000000 in
theorem pAloneC {h : MH} {m : ModelD} {hs : SH} {s : StateD} (pids : List Int) (no : Option Addr) (nc : Nat) (w : World) (hd : MD w.heap.size w h m) (hsd : SD w.heap.size w hs s) (hl : Row w.heap.size no 15 (intAt w) pids) :
    Calls Try.prog 10 #[mV h m, sV hs s, .slice no pids.length nc] w (AloneP m s pids w) := by
  obtain ⟨CS, hCS⟩ : ∃ c, c = mCells h m := ⟨_, rfl⟩
  obtain ⟨SS, hSS⟩ : ∃ c, c = sCells hs s := ⟨_, rfl⟩
  have HX := Lib.hid (Ys.new hd hCS hsd hSS)
  have HAD := Lib.hid (fun (W : World) (hd : MD W.heap.size W h m) => admitsC W hd)
  have HSC := Lib.hid (fun (W : World) (hd : MD W.heap.size W h m) (hsd : SD W.heap.size W hs s) => stateCheckC W (Nat.le_refl _) hd hsd)
  have HNEW := Lib.hid (fun (W : World) (hd : MD W.heap.size W h m) => newLookerC W hd hCS)
  have HPL := Lib.hid hl
  have lp := hl.1
  have HCS := Lib.hid hCS
  have l4 := hd.procs.1
  have ls := hsd.procs.1
  unfold mV at HAD HSC ⊢
  unfold sV at HSC ⊢
  rw [← hCS] at HAD HSC ⊢
  rw [← hSS] at HSC ⊢
  clear hd hCS hsd hSS hl
  go_enter Try.func10, Try.ntmps10
  go_upto_region 1 with fail
  generalize (w.alloc (.cells CS 29)).alloc (.cells SS 46) = W1 at HX ⊢
  go_wp2_with (refine wpList_load_row rfl _ _ rfl _ rfl _ CS _ _ HX.out.mx.bx.box Try.underlying29 rfl HX.out.mx.info ?_)
  refine (HAD.out W1 HX.out.mx.here).mono ?_
  rintro e W2 ⟨rfl, hb2⟩
  have HX2 := Lib.hid (HX.out.below hb2)
  clear hb2 HX HAD
  by_cases ha : admE m = 0
  rotate_left
  · obtain ⟨a, hA⟩ : ∃ a, admE m = a := ⟨_, rfl⟩
    rw [hA] at ha ⊢
    have HE : Hid (aloneE m s = a) := Lib.hid (by unfold aloneE; rw [hA, if_neg ha])
    have hb : (a != 0) = true := by rw [bne_iff_ne]; exact ha
    have HA0 := Lib.hid ha
    clear hA ha
    go_wp2_with fail
    go_ret2
    exact ⟨HX2.out.sx.bel, fun _ => by rw [HE.out]; rfl, fun h => absurd (HE.out.symm.trans h) HA0.out⟩
  have HE : Hid (aloneE m s = stateE m s) := Lib.hid (by unfold aloneE; rw [if_pos ha])
  have HGM := Lib.hid (GM.of (adm_good ha))
  rw [ha]
  clear ha
  go_wp2_with (first | refine wpList_load_row rfl _ _ rfl _ rfl _ CS _ _ HX2.out.mx.bx.box Try.underlying29 rfl HX2.out.mx.info ?_ | refine wpList_load_row rfl _ _ rfl _ rfl _ SS _ _ HX2.out.sx.box Try.underlying46 rfl HX2.out.sinfo ?_)
  refine (HSC.out W2 HX2.out.mx.here (HX2.out.sd.lift HX2.out.sx.bel.size)).mono ?_
  rintro e W3 ⟨rfl, hb3⟩
  have HX3 := Lib.hid (HX2.out.below hb3)
  clear hb3 HX2 HSC
  by_cases hs0 : stateE m s = 0
  rotate_left
  · obtain ⟨a, hA⟩ : ∃ a, stateE m s = a := ⟨_, rfl⟩
    rw [hA] at hs0 HE ⊢
    have hb : (a != 0) = true := by rw [bne_iff_ne]; exact hs0
    have HA0 := Lib.hid hs0
    clear hA hs0
    go_wp2_with fail
    go_ret2
    exact ⟨HX3.out.sx.bel, fun _ => by rw [HE.out]; rfl, fun h => absurd (HE.out.symm.trans h) HA0.out⟩
  have HMAY := Lib.hid (stateE_may hs0)
  have HE0 : Hid (aloneE m s = 0) := Lib.hid (HE.out.trans hs0)
  have hn16 := may_few (stateE_may hs0)
  rw [hs0]
  clear hs0 HE
  obtain ⟨i4, hi4, hz0, hz1, hz2⟩ := held.info_parts info_bool
  have HI := Lib.hid (And.intro hi4 (And.intro hz0 (And.intro hz1 hz2)))
  obtain ⟨i5, hi5, hy0, hy1, hy2⟩ := held.info_parts held.info_int
  have HI5 := Lib.hid (And.intro hi5 (And.intro hy0 (And.intro hy1 hy2)))
  have HL1 : Hid (s.procs.length ≤ maxLen) := Lib.hid (by unfold maxLen; omega)
  have HL2 : Hid (i4.bytes * s.procs.length ≤ 281474976710656) := Lib.hid (by rw [HI.out.2.2.2]; omega)
  have HW1 : Hid (w.heap.size + 1 + 1 ≤ W3.heap.size) := Lib.hid (lt_of_block HX3.out.sx.box)
  clear hi4 hz0 hz1 hz2 hi5 hy0 hy1 hy2
  have s2 : W3.cell? ⟨w.heap.size + 1, 2, none⟩ = some (.slice hs.po s.procs.length hs.pc) := HX3.out.sx.cell (by rw [HX3.out.es]; rfl)
  go_wp2_with (refine wpList_make_full _ rfl _ _ 37 rfl (w.heap.size + 1 + 1) 4 i4 (.bool false) 1 Try.underlying37 HI.out.1 HI.out.2.1 HI.out.2.2.1 .i64 .i64 _ _ s.procs.length rfl rfl rfl rfl HL2.out HL1.out HW1.out ?_)
  intro w2 hown hgrow
  have hbb : Below W3.heap.size W3 w2 := (Below.refl _ _).grown hgrow (Nat.le_refl _) (fun k hk => by cases hk)
  have HJ0 : Hid (GJ2 w CS SS h m hs s W3.heap.size s.procs.length (goesT pids s.procs.length 0) w2) := Lib.hid ⟨HX3.out.below hbb, by
    have e : (madeCells #[Value.bool false] s.procs.length).toList = boolV (goesT pids s.procs.length 0) := by
      rw [bools_made, goesT_zero]; rfl
    rw [← e]
    exact hown⟩
  generalize W3.heap.size = gG at HJ0 ⊢
  clear hown hgrow hbb HX3 HL1 HL2 HW1 s2
  go_wp2_with fail
  go_loopw [34] (fun iv W => ∃ k : Nat, iv = .int .i64 k ∧ k ≤ pids.length ∧ Hid (GJ2 w CS SS h m hs s gG s.procs.length (goesT pids s.procs.length k) W)) (fun iv _ => pids.length - (intOf iv).toNat)
  case atStart => exact ⟨0, rfl, by omega, HJ0⟩
  case round =>
    clear HJ0
    obtain ⟨k, rfl, hk, HJ⟩ := hrel
    have hk0 : (0 : Int) ≤ k := by omega
    by_cases hlt : k < pids.length
    · have hlti : (k : Int) < pids.length := by omega
      obtain ⟨gn, offn, hno, hgn, hpc⟩ := HPL.out.cell hlt
      obtain ⟨q, hq⟩ : ∃ q, pids[k] = q := ⟨_, rfl⟩
      rw [hq] at hpc
      have c0 : wr.cell? ⟨gn, offn + k * 15, none⟩ = some (.int .i64 q) := (HJ.out.ys.sx.bel.cell (p := ⟨gn, offn + k * 15, none⟩) hgn).trans hpc
      have HQ := Lib.hid hq
      have HS : Hid (∀ n : Nat, Value.slice no n nc = Value.slice (some ⟨gn, offn, none⟩) n nc) := Lib.hid fun n => by rw [hno]
      rw [HS.out]
      clear hno hgn hpc hq
      by_cases hin : 0 ≤ q ∧ q < s.procs.length
      · obtain ⟨j, rfl⟩ : ∃ j : Nat, q = j := ⟨q.toNat, by omega⟩
        have hj0 : (0 : Int) ≤ j := by omega
        have hji : (j : Int) < s.procs.length := by omega
        have hjn : j < s.procs.length := by omega
        have hcell : ∃ u, wr.cell? ⟨gG, j, none⟩ = some u := ⟨_, (HJ.out.goes.cellAt j (by omega)).trans (List.getElem?_eq_getElem (by rw [HJ.out.goes.1]; omega))⟩
        obtain ⟨u, hcell⟩ := hcell
        have hfz := HJ.out.goes.frozenAt j
        have HST := Lib.hid (goesT_set hlt hjn HQ.out)
        clear hin
        go_wp2_with fail
        have HN := Lib.hid (HJ.out.set j true)
        rw [HST.out] at HN
        generalize wr.setCell ⟨gG, j, none⟩ (.bool true) = W6 at HN ⊢
        clear c0 hcell hfz HJ
        go_roundw
        case rel => exact ⟨k + 1, by go_num, by omega, HN⟩
        case measure => simp [intOf]; omega
      · have HSK := Lib.hid (goesT_skip (pids := pids) (n := s.procs.length) hlt (fun j hj e => hin (by rw [HQ.out] at e; omega)))
        have HN : Hid (GJ2 w CS SS h m hs s gG s.procs.length (goesT pids s.procs.length (k + 1)) wr) := Lib.hid (by rw [← HSK.out]; exact HJ.out)
        by_cases h0 : 0 ≤ q
        · have h1 : ¬ q < s.procs.length := by omega
          clear hin
          go_wp2_with fail
          go_roundw
          case rel => exact ⟨k + 1, by go_num, by omega, HN⟩
          case measure => simp [intOf]; omega
        · clear hin
          go_wp2_with fail
          go_roundw
          case rel => exact ⟨k + 1, by go_num, by omega, HN⟩
          case measure => simp [intOf]; omega
    · have hlti : ¬ (k : Int) < pids.length := by omega
      have hkn : k = pids.length := by omega
      have HGF : Hid (goesT pids s.procs.length k = (List.range s.procs.length).map (goesB pids)) := Lib.hid (by unfold goesT; rw [hkn, List.take_length])
      clear hkn
      go_wp2_with (refine wpList_load_row rfl _ _ rfl _ rfl _ CS _ _ HJ.out.ys.mx.bx.box Try.underlying29 rfl HJ.out.ys.mx.info ?_)
      refine (HNEW.out wr HJ.out.ys.mx.here).mono ?_
      rintro e W7 ⟨pl, pm, pp, rfl, hlk, hb7⟩
      have HJ7 := Lib.hid (HJ.out.below hb7)
      have HA0 : Hid (AJ w CS SS h m hs s pl pm pp gG s.procs.length (goesT pids s.procs.length k) (.slice none 0 0) [] W7) := Lib.hid
        ⟨HJ7.out.ys, ⟨hlk.eq, hlk.bl, hlk.bm, hlk.bp, HJ7.out.ys.sx.bel.size, HJ7.out.ys.mx.md⟩, HJ7.out.goes, World.ownsRow_nil _ _ _ _⟩
      have s2 : W7.cell? ⟨w.heap.size + 1, 2, none⟩ = some (.slice hs.po s.procs.length hs.pc) := HJ7.out.ys.sx.cell (by rw [HJ7.out.ys.es]; rfl)
      clear hlk hb7 HJ HNEW HJ7
      go_wp2_with fail
      clear s2
      have HNG : Hid (∀ j, j < s.procs.length → (goesT pids s.procs.length k)[j]? = some (goesB pids j)) := Lib.hid fun j hj => by
        rw [HGF.out, List.getElem?_map, List.getElem?_range hj]
        rfl
      generalize goesT pids s.procs.length k = GT at HA0 HNG ⊢
      clear HGF
      go_loopw [14, 60] (fun ov iv W => ∃ (q : Nat) (v : Value), iv = .int .i64 q ∧ v = ov ∧ q ≤ s.procs.length ∧ Hid (AJ w CS SS h m hs s pl pm pp gG s.procs.length GT v (aloneT m s pids q) W)) (fun ov iv _ => s.procs.length - (intOf iv).toNat)
      case atStart => exact ⟨0, _, rfl, rfl, by omega, HA0⟩
      case round =>
        clear HA0
        obtain ⟨q, v, rfl, rfl, hq, HJ⟩ := hrel
        have hq0 : (0 : Int) ≤ q := by omega
        by_cases hlq : q < s.procs.length
        · have hlqi : (q : Int) < s.procs.length := by omega
          obtain ⟨pr, hpr⟩ : ∃ pr, s.procs[q]? = some pr := ⟨_, List.getElem?_eq_getElem hlq⟩
          obtain ⟨gs, offs, hso, hgs, hat⟩ := HJ.out.ys.sd.procs.get hpr
          obtain ⟨p, l, hpp, hpl, ht0, ht1, hl0, hl1, hsafe⟩ := may_at HMAY.out hpr
          obtain ⟨tn, htn⟩ : ∃ t : Nat, pr.type = t := ⟨pr.type.toNat, by omega⟩
          obtain ⟨ln, hln⟩ : ∃ t : Nat, pr.loc = t := ⟨pr.loc.toNat, by omega⟩
          rw [htn, Int.toNat_natCast] at hpp
          rw [hln, Int.toNat_natCast] at hpl
          obtain ⟨fo, fc, d3, -⟩ := hat.frame
          have d0 := hat.c0
          have d1 := hat.c1
          have d2 := hat.c2
          rw [htn] at d0
          rw [hln] at d1
          obtain ⟨gp, offp, hpo, hgp, -⟩ := HJ.out.ys.mx.md.procs.get hpp
          have HPO := Lib.hid hpo
          have HGP : Hid (gp < w.heap.size) := Lib.hid hgp
          have HPAT : Hid (∀ W, MD w.heap.size W h m → procAt w.heap.size W gp (offp + tn * 10) p) := Lib.hid fun W hmd => by
            obtain ⟨g', off', ho', hg', hat'⟩ := hmd.procs.get hpp
            rw [hpo] at ho'
            injection ho' with ho'
            injection ho' with e1 e2
            subst e1 e2
            exact hat'
          have HPP := Lib.hid hpp
          have HLL := Lib.hid hpl
          have HAB : Hid (aloneB m s pids q = (safeLB m p l && goesB pids q)) := Lib.hid (by unfold aloneB; rw [hsafe])
          have HGQ := Lib.hid (HNG.out q hlq)
          have htn0 : (0 : Int) ≤ tn := by omega
          have htn1 : (tn : Int) < m.procs.length := by omega
          have HS : Hid (∀ n : Nat, Value.slice hs.po n hs.pc = Value.slice (some ⟨gs, offs, none⟩) n hs.pc) := Lib.hid fun n => by rw [hso]
          rw [HS.out]
          clear hso hgs hat hpp hpl hpo hgp hsafe htn hln ht0 ht1 hl0 hl1 hpr
          go_wp2_with fail
          have HJ4 := Lib.hid (HJ.out.below (ball (.cells #[.int .i64 tn, .int .i64 ln, .int .i64 pr.prio, .slice fo pr.frame.length fc] 84)))
          have HPB : Hid (Bq wr wr.heap.size #[.int .i64 tn, .int .i64 ln, .int .i64 pr.prio, .slice fo pr.frame.length fc] 84 (wr.alloc (.cells #[.int .i64 tn, .int .i64 ln, .int .i64 pr.prio, .slice fo pr.frame.length fc] 84))) := Lib.hid (Bq.new (Below.refl _ _) _ _)
          generalize wr.alloc (.cells #[.int .i64 tn, .int .i64 ln, .int .i64 pr.prio, .slice fo pr.frame.length fc] 84) = W4 at HJ4 HPB ⊢
          generalize wr.heap.size = pb at HPB ⊢
          clear HJ
          obtain ⟨u, hu⟩ : ∃ u, goesB pids q = u := ⟨_, rfl⟩
          have HU := Lib.hid hu
          rw [hu] at HAB
          clear hu
          cases u
          · have HNO := Lib.hid (aloneT_no (m := m) (s := s) (pids := pids) (k := q) (by rw [HAB.out, Bool.and_false]))
            refine wp_region_kept (by kernel_rfl) (by kernel_rfl) (fun ι hne f hf hcl => ?_)
            have KJ := Lib.hid (fun n => HJ4.out.below (hf n))
            have KP := Lib.hid (fun n => HPB.out.below (hf n))
            have r0 : ∀ n, (f n).cell? ⟨gG, q, none⟩ = some (.bool false) := fun n => by
              rw [← HU.out]
              refine ((KJ.out n).goes.cellAt q (by omega)).trans ?_
              unfold boolV
              rw [List.getElem?_map, HGQ.out]
              rfl
            have r1 : ∀ n, (f n).cell? ⟨w.heap.size, 4, none⟩ = some (.slice (some ⟨gp, offp, none⟩) m.procs.length h.pc) := fun n => by rw [← HPO.out]; exact (KJ.out n).ys.mx.c4
            have r2 : ∀ n, (f n).cell? ⟨pb, 0, none⟩ = some (.int .i64 tn) := fun n => (KP.out n).cell rfl
            have r3 : ∀ n, (f n).cell? ⟨pb, 1, none⟩ = some (.int .i64 ln) := fun n => (KP.out n).cell rfl
            have h9 := fun n => lkSafeC HGM.out p HPP.out l HLL.out (f n) (KJ.out n).lk (HPAT.out _ (KJ.out n).ys.mx.md) HGP.out
            have HC := Lib.hid h9
            have HF := Lib.hid hcl
            clear hcl hf h9 d0 d1 d2 d3
            repeat (go_big_quiet_step ((go_at_call 15; with_reducible exact kept_of HF.out _ (HC.out _))))
            refine wpQuiet_nil ?_
            intro W8 hb8
            have HJ8 := Lib.hid (HJ4.out.below hb8)
            clear hb8 HC HF r0 r1 r2 r3 KJ KP
            have HJN : Hid (AJ w CS SS h m hs s pl pm pp gG s.procs.length GT v (aloneT m s pids (q + 1)) W8) := Lib.hid (by rw [HNO.out]; exact HJ8.out)
            go_wp2_with fail
            go_roundw
            case rel => exact ⟨q + 1, _, by go_num, rfl, by omega, HJN⟩
            case measure => simp [intOf]; omega
          refine wp_region_kept (by kernel_rfl) (by kernel_rfl) (fun ι hne f hf hcl => ?_)
          have KJ := Lib.hid (fun n => HJ4.out.below (hf n))
          have KP := Lib.hid (fun n => HPB.out.below (hf n))
          have r0 : ∀ n, (f n).cell? ⟨gG, q, none⟩ = some (.bool true) := fun n => by
            rw [← HU.out]
            refine ((KJ.out n).goes.cellAt q (by omega)).trans ?_
            unfold boolV
            rw [List.getElem?_map, HGQ.out]
            rfl
          have r1 : ∀ n, (f n).cell? ⟨w.heap.size, 4, none⟩ = some (.slice (some ⟨gp, offp, none⟩) m.procs.length h.pc) := fun n => by rw [← HPO.out]; exact (KJ.out n).ys.mx.c4
          have r2 : ∀ n, (f n).cell? ⟨pb, 0, none⟩ = some (.int .i64 tn) := fun n => (KP.out n).cell rfl
          have r3 : ∀ n, (f n).cell? ⟨pb, 1, none⟩ = some (.int .i64 ln) := fun n => (KP.out n).cell rfl
          have h9 := fun n => lkSafeC HGM.out p HPP.out l HLL.out (f n) (KJ.out n).lk (HPAT.out _ (KJ.out n).ys.mx.md) HGP.out
          have HC := Lib.hid h9
          have HF := Lib.hid hcl
          clear hcl hf h9 d0 d1 d2 d3
          repeat (go_big_quiet_step ((go_at_call 15; with_reducible exact kept_of HF.out _ (HC.out _))))
          refine wpQuiet_nil ?_
          intro W8 hb8
          have HJ8 := Lib.hid (HJ4.out.below hb8)
          clear hb8 HC HF r0 r1 r2 r3 KJ KP
          obtain ⟨z, hz⟩ : ∃ z, safeLB m p l = z := ⟨_, rfl⟩
          rw [hz] at HAB ⊢
          clear hz
          cases z
          · have HNO := Lib.hid (aloneT_no (m := m) (s := s) (pids := pids) (k := q) (by rw [HAB.out]; rfl))
            have HJN : Hid (AJ w CS SS h m hs s pl pm pp gG s.procs.length GT v (aloneT m s pids (q + 1)) W8) := Lib.hid (by rw [HNO.out]; exact HJ8.out)
            go_wp2_with fail
            go_roundw
            case rel => exact ⟨q + 1, _, by go_num, rfl, by omega, HJN⟩
            case measure => simp [intOf]; omega
          have HYE := Lib.hid (aloneT_yes (m := m) (s := s) (pids := pids) (k := q) (by rw [HAB.out]; rfl))
          have hll := Nat.le_trans (aloneT_len m s pids q) hq
          go_wp2_with (at_builtin; refine wpList_append_own _ rfl _ _ 25 rfl (w.heap.size + 1 + 1) 3 i5 (.int .i64 0) 1 8 Try.underlying25 HI5.out.1 HI5.out.2.1 HI5.out.2.2.1 HI5.out.2.2.2 rfl (by decide) v (aloneT m s pids q).length (iCells (aloneT m s pids q)) rfl (HJ8.out.own.alloc _) ⟨W8.heap.size, 0, none⟩ 1 1 (iCells [(q : Int)]) rfl rfl (one_int _ _) (iCells_one [(q : Int)]) (by unfold maxLen; (try simp); omega) (by (try simp); omega) (by simp; have := HJ8.out.base; omega) ?_)
          intro v1 w1 hown hgrow _
          have HJN := Lib.hid (HJ8.out.put hgrow hown)
          rw [← HYE.out] at HJN
          clear hown hgrow hll
          go_wp2_with fail
          go_roundw
          case rel => exact ⟨q + 1, _, by go_num, rfl, by omega, HJN⟩
          case measure => simp [intOf]; omega
        · have hlqi : ¬ (q : Int) < s.procs.length := by omega
          have hqn : q = s.procs.length := by omega
          have hll := Nat.le_trans (aloneT_len m s pids q) hq
          obtain ⟨oR, cR, hv, hrow⟩ := ints_row HJ.out.own (by omega)
          have HV := Lib.hid hv
          have HROW := Lib.hid hrow
          have HFL : Hid (aloneT m s pids q = aloneL m s pids) := Lib.hid (by rw [hqn]; rfl)
          clear hv hrow hqn hll
          go_wp2_with fail
          go_ret2
          refine ⟨HJ.out.ys.sx.bel, fun h => absurd HE0.out h, fun _ => ⟨oR, cR, ?_, ?_⟩⟩
          · rw [← HFL.out, HV.out]; rfl
          · rw [← HFL.out]; exact HROW.out
end Go.Proofs.Ytofdfaopabmfoaa
