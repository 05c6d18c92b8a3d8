/- The document's reading of a text. -/
import Derived.Test.YtifofhjfepkglaaDoorParP
import Derived.Test.YtifofhjfepkglaaDoorRegE
namespace Go.Proofs.YtifofhjfepkglaaDoor
open Go.ChangeShapes Go.WideShapes Go.ChangeAt Go.RowKit
set_option linter.unusedVariables false
set_option linter.unusedSimpArgs false

/-- How far the lines have been read. -/
structure At (s : List UInt8) (R : PR) (st : PS) (fr i : Nat) : Prop where
  fi : fr ≤ i
  il : i ≤ s.length
  res : R = parseL fr st (parts 10 (s.drop fr))
  no : ∀ j (h : j < s.length), fr ≤ j → j < i → s[j] ≠ 10
theorem At.on {s : List UInt8} {R : PR} {st : PS} {fr i : Nat} (h : At s R st fr i) (hi : i < s.length) (hc : s[i] ≠ 10) : At s R st fr (i + 1) := by
  refine ⟨by have := h.fi; omega, by omega, h.res, fun j hj hf hl => ?_⟩
  by_cases e : j = i
  · subst e
    exact hc
  · exact h.no j hj hf (by omega)
theorem At.cut {s : List UInt8} {R : PR} {st : PS} {fr i : Nat} (h : At s R st fr i) (hi : i < s.length) (hc : s[i] = 10) :
    R = (match stepP st (piece s fr i) with | none => .bad fr | some st' => parseL (i + 1) st' (parts 10 (s.drop (i + 1)))) := by
  have hl : (piece s fr i).length = i - fr := by unfold piece; simp; omega
  have h1 := h.res
  rw [piece_split h.fi hi, hc, parts_hit 10 _ _ (piece_no (by omega) h.no), parseL_cons _ _ _ _ (parts_ne _ _), hl, show fr + (i - fr) + 1 = i + 1 by have := h.fi; omega] at h1
  exact h1
theorem At.next {s : List UInt8} {R : PR} {st st' : PS} {fr i : Nat} (h : At s R st fr i) (hi : i < s.length) (hc : s[i] = 10) (hs : stepP st (piece s fr i) = some st') : At s R st' (i + 1) (i + 1) := by
  have h1 := h.cut hi hc
  rw [hs] at h1
  exact ⟨Nat.le_refl _, by omega, h1, fun j _ _ _ => by omega⟩
theorem At.wrong {s : List UInt8} {R : PR} {st : PS} {fr i : Nat} (h : At s R st fr i) (hi : i < s.length) (hc : s[i] = 10) (hs : stepP st (piece s fr i) = none) : R = .bad fr := by
  have h1 := h.cut hi hc
  rw [hs] at h1
  exact h1
theorem At.fin {s : List UInt8} {R : PR} {st : PS} {fr : Nat} (h : At s R st fr s.length) : R = if fr = s.length ∧ st.first = false ∧ st.due = false then .ok st.f else .bad fr := by
  have hn := piece_no (Nat.le_refl _) h.no
  rw [piece_all] at hn
  rw [h.res, parts_miss 10 _ hn]
  unfold parseL
  have e : (s.drop fr = []) ↔ fr = s.length := by
    have := h.fi
    rw [List.drop_eq_nil_iff]
    omega
  simp only [e]

theorem ten_ne {b : UInt8} (h : ¬ b = 10) : ((b.toNat : Int) != 10) = true := by
  refine bne_iff_ne.2 fun e => h (UInt8.toNat_inj.1 ?_)
  have h2 : b.toNat = 10 := by omega
  rw [h2]
  rfl

set_option maxHeartbeats 1000000 in
set_option maxRecDepth 1000000 in
theorem rparse_any (s : List UInt8) (w : World) (hs : s.length ≤ 400000000) : Calls Tryd.prog 9 #[.string ⟨s.toArray⟩] w (ParP w (parseF s)) := by
  obtain ⟨R, hR⟩ : ∃ R, parseF s = R := ⟨_, rfl⟩
  have HA0 : Hid (At s R ps0 0 0) := Lib.hid ⟨Nat.le_refl _, by omega, hR.symm, fun j _ _ _ => by omega⟩
  rw [hR]
  clear hR
  go_enter Tryd.func9, Tryd.ntmps9
  go_wp2_with fail
  have HP := Lib.hid (par0 w)
  obtain ⟨W1, hW1⟩ : ∃ W1, ((w.alloc (.cells #[.int .i64 0, .int .i64 0, .int .i64 0, .int .i64 0, .slice none 0 0, .int .i64 0, .int .i64 0, .int .i64 0] 25)).alloc (.cells #[.int .i64 0, .int .i64 0, .int .i64 0, .int .i64 0, .slice none 0 0, .int .i64 (-1), .int .i64 0, .int .i64 0] 25)) = W1 := ⟨_, rfl⟩
  rw [hW1] at HP ⊢
  clear hW1
  go_loopw [6, 7, 8, 9] (fun lv dv fv iv wr => ∃ (L fr i : Nat) (st : PS) (tv : Value), lv = .int .i64 L ∧ dv = .bool st.due ∧ fv = .int .i64 fr ∧ iv = .int .i64 i ∧ L ≤ fr ∧ (st.first = decide (L = 0)) ∧ st.f.trail.length ≤ fr ∧ i ≤ s.length ∧ Hid (At s R st fr i) ∧ Hid (Par w wr st.f tv)) (fun _ _ _ i _ => s.length - (intOf i).toNat)
  case atStart => exact ⟨0, 0, 0, ps0, .slice none 0 0, rfl, rfl, rfl, rfl, by omega, rfl, by simp [ps0, fd0], by omega, HA0, HP⟩
  case round =>
    obtain ⟨L, fr, i, ⟨fst, f, due⟩, tv, rfl, rfl, rfl, rfl, hLf, hfst, htl, hil, HA, HP⟩ := hrel
    simp only at hfst htl HP
    by_cases hlt : i < s.length
    · have hlti : (i : Int) < s.length := by omega
      have h0i : (0 : Int) ≤ i := by omega
      have hcu := bt_at s i hlt
      obtain ⟨c, hc⟩ : ∃ c, s[i] = c := ⟨_, rfl⟩
      rw [hc] at hcu
      by_cases h10 : c = 10
      · have hcb : ((c.toNat : Int) != 10) = false := by rw [h10]; rfl
        have HC10 : Hid (s[i] = 10) := Lib.hid (by rw [hc, h10])
        have hfi := HA.out.fi
        have hfii : (fr : Int) ≤ i := by omega
        have hf0 : (0 : Int) ≤ fr := by omega
        have hex := fun W => slice_piece s fr i hfi (by omega) W
        obtain ⟨pc, hpc⟩ : ∃ pc, piece s fr i = pc := ⟨_, rfl⟩
        have hpl : pc.length ≤ s.length := by rw [← hpc]; unfold piece; simp; omega
        rw [hpc] at hex
        have HPC := Lib.hid hpc
        obtain ⟨N1, hn1⟩ : ∃ N, numsOf pc foundW 6 = N := ⟨_, rfl⟩
        obtain ⟨N2, hn2⟩ : ∃ N, numsOf pc moveW 7 = N := ⟨_, rfl⟩
        have HF := fun W => rnumbers_any pc foundW 6 W (by omega) (by omega) (by omega)
        have HM := fun W => rnumbers_any pc moveW 7 W (by omega) (by omega) (by omega)
        rw [hn1] at HF
        rw [hn2] at HM
        unfold foundW at HF
        unfold moveW at HM
        replace HF := Lib.hid HF
        replace HM := Lib.hid HM
        have HN1 := Lib.hid hn1
        have HN2 := Lib.hid hn2
        clear hpc hn1 hn2 hc h10
        go_wp2_with fail
        refine (HF.out _).mono ?_
        rintro e W2 ⟨v1, ok1, rfl, hr1, hb2⟩
        have HP2 := Lib.hid (HP.out.below hb2)
        have HR1 := Lib.hid hr1
        have HB2 := Lib.hid hb2.size
        clear hb2 hr1
        go_wp2_with fail
        refine (HM.out _).mono ?_
        rintro e W3 ⟨v2, ok2, rfl, hr2, hb3⟩
        have HP3 := Lib.hid (HP2.out.below hb3)
        have HB3 := Lib.hid hb3
        have HR2 := Lib.hid hr2
        clear hb3 hr2 HF HM hex
        obtain ⟨e0, e1, e2, e3, e4, e5, e6, e7⟩ := fd_cells HP3.out.obj
        obtain ⟨b0, b1, b2, b3, b4, b5, b6, b7⟩ := fd_cells HP3.out.ret
        have z0 : W3.frozen? ⟨w.heap.size, 0, none⟩ = false := frozen_of_row _ _ _ _ _ HP3.out.ret
        have z1 : W3.frozen? ⟨w.heap.size, 1, none⟩ = false := frozen_of_row _ _ _ _ _ HP3.out.ret
        have z2 : W3.frozen? ⟨w.heap.size, 2, none⟩ = false := frozen_of_row _ _ _ _ _ HP3.out.ret
        have z3 : W3.frozen? ⟨w.heap.size, 3, none⟩ = false := frozen_of_row _ _ _ _ _ HP3.out.ret
        have z4 : W3.frozen? ⟨w.heap.size, 4, none⟩ = false := frozen_of_row _ _ _ _ _ HP3.out.ret
        have z5 : W3.frozen? ⟨w.heap.size, 5, none⟩ = false := frozen_of_row _ _ _ _ _ HP3.out.ret
        have z6 : W3.frozen? ⟨w.heap.size, 6, none⟩ = false := frozen_of_row _ _ _ _ _ HP3.out.ret
        have z7 : W3.frozen? ⟨w.heap.size, 7, none⟩ = false := frozen_of_row _ _ _ _ _ HP3.out.ret
        obtain ⟨o, cap, rfl⟩ := HP3.out.form
        by_cases hL : L = 0
        · have hLz : ((L : Int) == 0) = true := by rw [beq_iff_eq]; omega
          have hLp : ¬ 0 < (L : Int) := by omega
          have hfst2 : fst = true := by rw [hfst, hL]; rfl
          subst hfst2
          have HLL := Lib.hid hL
          clear hL hfst
          cases N1 with
          | none =>
            obtain ⟨h1, h2⟩ : ok1 = false ∧ v1 = .slice none 0 0 := HR1.out
            subst h1 h2
            have HBAD : Hid (R = .bad fr) := Lib.hid (HA.out.wrong hlt HC10.out (by rw [HPC.out]; unfold stepP; rw [if_pos rfl, HN1.out]))
            go_wp2_with fail
            refine bodyPost_ret (v := .tuple #[fdV fdZ (.slice none 0 0), .int .i64 43, .int .i64 fr]) (by simp [results, Tryd.results9, go_sem, fdV, fdZ, b0, b1, b2, b3, b4, b5, b6, b7]) rfl ?_
            exact ⟨par_end HP3.out _ _ _ _ _ _ _ _, by rw [HBAD.out]⟩
          | some l =>
            have hst : stepP ⟨true, f, due⟩ pc = if l.headD 0 < 1 ∨ 4 < l.headD 0 then none else some ⟨false, headF f l, due⟩ := by unfold stepP; rw [if_pos rfl, HN1.out]
            obtain ⟨h1, h2⟩ : ok1 = true ∧ W2.ownsRow wr.heap.size 3 1 v1 l.length (intsV l) := HR1.out
            have h2 := own_below h2 HB3.out
            subst h1
            obtain ⟨k, wh, er, pl, ss, sp, rfl⟩ := list6 (numsOf_length HN1.out)
            obtain ⟨g, cap1, rfl, hBg, hrow⟩ := row_own h2 rfl (by simp)
            have r0 : W3.cell? ⟨g, 0, none⟩ = some (.int .i64 k) := hrow.get 0 (by simp)
            have r1 : W3.cell? ⟨g, 1, none⟩ = some (.int .i64 wh) := hrow.get 1 (by simp)
            have r2 : W3.cell? ⟨g, 2, none⟩ = some (.int .i64 er) := hrow.get 2 (by simp)
            have r3 : W3.cell? ⟨g, 3, none⟩ = some (.int .i64 pl) := hrow.get 3 (by simp)
            have r4 : W3.cell? ⟨g, 4, none⟩ = some (.int .i64 ss) := hrow.get 4 (by simp)
            have r5 : W3.cell? ⟨g, 5, none⟩ = some (.int .i64 sp) := hrow.get 5 (by simp)
            have hgne : ¬ g = w.heap.size + 1 := by have := HP.out.lt; omega
            have hgne2 : ¬ w.heap.size + 1 = g := fun e => hgne e.symm
            have hst2 : stepP ⟨true, f, due⟩ pc = if k < 1 ∨ 4 < k then none else some ⟨false, headF f [k, wh, er, pl, ss, sp], due⟩ := hst
            have HST := Lib.hid hst2
            clear hst hst2 h2 hrow HR1
            simp only [List.length_cons, List.length_nil, Nat.zero_add, Nat.reduceAdd]
            by_cases hk1 : k < 1
            · have HBAD : Hid (R = .bad fr) := Lib.hid (HA.out.wrong hlt HC10.out (by rw [HPC.out, HST.out, if_pos (.inl hk1)]))
              have hk1' : ¬ 1 ≤ k := by omega
              go_wp2_with fail
              refine bodyPost_ret (v := .tuple #[fdV fdZ (.slice none 0 0), .int .i64 43, .int .i64 fr]) (by simp [results, Tryd.results9, go_sem, fdV, fdZ, b0, b1, b2, b3, b4, b5, b6, b7]) rfl ?_
              exact ⟨par_end HP3.out _ _ _ _ _ _ _ _, by rw [HBAD.out]⟩
            by_cases hk4 : 4 < k
            · have HBAD : Hid (R = .bad fr) := Lib.hid (HA.out.wrong hlt HC10.out (by rw [HPC.out, HST.out, if_pos (.inr hk4)]))
              have hk1' : 1 ≤ k := by omega
              have hk4' : ¬ k ≤ 4 := by omega
              go_wp2_with fail
              refine bodyPost_ret (v := .tuple #[fdV fdZ (.slice none 0 0), .int .i64 43, .int .i64 fr]) (by simp [results, Tryd.results9, go_sem, fdV, fdZ, b0, b1, b2, b3, b4, b5, b6, b7]) rfl ?_
              exact ⟨par_end HP3.out _ _ _ _ _ _ _ _, by rw [HBAD.out]⟩
            have hk1' : 1 ≤ k := by omega
            have hk4' : k ≤ 4 := by omega
            have HNX : Hid (At s R ⟨false, headF f [k, wh, er, pl, ss, sp], due⟩ (i + 1) (i + 1)) := Lib.hid (HA.out.next hlt HC10.out (by rw [HPC.out, HST.out, if_neg (by omega)]))
            have HP4 := Lib.hid (par_head HP3.out k wh er pl ss sp)
            have y0 : W3.frozen? ⟨w.heap.size + 1, 0, none⟩ = false := frozen_of_row _ _ _ _ _ HP3.out.obj
            have y1 : W3.frozen? ⟨w.heap.size + 1, 1, none⟩ = false := frozen_of_row _ _ _ _ _ HP3.out.obj
            have y2 : W3.frozen? ⟨w.heap.size + 1, 2, none⟩ = false := frozen_of_row _ _ _ _ _ HP3.out.obj
            have y3 : W3.frozen? ⟨w.heap.size + 1, 3, none⟩ = false := frozen_of_row _ _ _ _ _ HP3.out.obj
            have y6 : W3.frozen? ⟨w.heap.size + 1, 6, none⟩ = false := frozen_of_row _ _ _ _ _ HP3.out.obj
            have y7 : W3.frozen? ⟨w.heap.size + 1, 7, none⟩ = false := frozen_of_row _ _ _ _ _ HP3.out.obj
            go_wp2_with fail
            go_roundw
            case rel => exact ⟨L + 1, i + 1, i + 1, ⟨false, headF f [k, wh, er, pl, ss, sp], due⟩, .slice o f.trail.length cap, by go_num, rfl, by go_num, by go_num, by omega, by simp, by simp [headF]; omega, by omega, HNX, HP4⟩
            case measure => simp [intOf]; omega
        · have hLz : ((L : Int) == 0) = false := by rw [beq_eq_false_iff_ne]; omega
          have hLp : 0 < (L : Int) := by omega
          have hfst2 : fst = false := by rw [hfst]; simp [hL]
          subst hfst2
          have HLL := Lib.hid hL
          clear hL hfst
          by_cases hcy : pc = cycleW
          · have hcyb : (pc == [99, 121, 99, 108, 101]) = true := by rw [hcy]; rfl
            have HCY := Lib.hid hcy
            clear hcy
            by_cases hc0 : 0 ≤ f.cyc
            · have HBAD : Hid (R = .bad fr) := Lib.hid (HA.out.wrong hlt HC10.out (by rw [HPC.out]; unfold stepP; rw [if_neg (by simp), if_pos HCY.out, if_pos hc0]))
              have hc0' : ¬ f.cyc < 0 := by omega
              have hnn : N2 = none := by rw [← HN2.out, HCY.out]; exact cycle_move
              subst hnn
              obtain ⟨h1, h2⟩ : ok2 = false ∧ v2 = .slice none 0 0 := HR2.out
              subst h1 h2
              go_wp2_with fail
              refine bodyPost_ret (v := .tuple #[fdV fdZ (.slice none 0 0), .int .i64 43, .int .i64 fr]) (by simp [results, Tryd.results9, go_sem, fdV, fdZ, b0, b1, b2, b3, b4, b5, b6, b7]) rfl ?_
              exact ⟨par_end HP3.out _ _ _ _ _ _ _ _, by rw [HBAD.out]⟩
            · have hc0' : f.cyc < 0 := by omega
              have HNX : Hid (At s R ⟨false, { f with cyc := f.trail.length }, true⟩ (i + 1) (i + 1)) := Lib.hid (HA.out.next hlt HC10.out (by rw [HPC.out]; unfold stepP; rw [if_neg (by simp), if_pos HCY.out, if_neg hc0]))
              have y5 : W3.frozen? ⟨w.heap.size + 1, 5, none⟩ = false := frozen_of_row _ _ _ _ _ HP3.out.obj
              have HP4 := Lib.hid (HP3.out.set 5 (.int .i64 f.trail.length) { f with cyc := f.trail.length } rfl rfl)
              go_wp2_with fail
              go_roundw
              case rel => exact ⟨L + 1, i + 1, i + 1, ⟨false, { f with cyc := f.trail.length }, true⟩, .slice o f.trail.length cap, by go_num, rfl, by go_num, by go_num, by omega, by simp, by show f.trail.length ≤ _; omega, by omega, HNX, HP4⟩
              case measure => simp [intOf]; omega
          · have hcyb : (pc == [99, 121, 99, 108, 101]) = false := by rw [beq_eq_false_iff_ne]; exact hcy
            have HCY := Lib.hid hcy
            clear hcy
            cases N2 with
            | none =>
              obtain ⟨h1, h2⟩ : ok2 = false ∧ v2 = .slice none 0 0 := HR2.out
              subst h1 h2
              have HBAD : Hid (R = .bad fr) := Lib.hid (HA.out.wrong hlt HC10.out (by rw [HPC.out, step_move HCY.out, HN2.out]; rfl))
              go_wp2_with fail
              refine bodyPost_ret (v := .tuple #[fdV fdZ (.slice none 0 0), .int .i64 43, .int .i64 fr]) (by simp [results, Tryd.results9, go_sem, fdV, fdZ, b0, b1, b2, b3, b4, b5, b6, b7]) rfl ?_
              exact ⟨par_end HP3.out _ _ _ _ _ _ _ _, by rw [HBAD.out]⟩
            | some l =>
              obtain ⟨h1, h2⟩ : ok2 = true ∧ W3.ownsRow W2.heap.size 3 1 v2 l.length (intsV l) := HR2.out
              subst h1
              obtain ⟨m0, m1, m2, m3, m4, m5, m6, rfl⟩ := list7 (numsOf_length HN2.out)
              obtain ⟨m, hm⟩ : ∃ m : MV, m = ⟨m0, m1, m2, m3, m4, m5, m6⟩ := ⟨_, rfl⟩
              obtain ⟨g, cap', rfl, hBg, hrow⟩ := row_own h2 rfl (by simp)
              have HS7 : Hid (pushR.S7 g m W3) := Lib.hid (by rw [hm]; exact ⟨hrow.get 0 (by simp), hrow.get 1 (by simp), hrow.get 2 (by simp), hrow.get 3 (by simp), hrow.get 4 (by simp), hrow.get 5 (by simp), hrow.get 6 (by simp)⟩)
              have hmv : mvOf [m0, m1, m2, m3, m4, m5, m6] = m := by rw [hm]; rfl
              have HNX : Hid (At s R ⟨false, { f with trail := f.trail ++ [m] }, false⟩ (i + 1) (i + 1)) := Lib.hid (HA.out.next hlt HC10.out (by rw [HPC.out, step_move HCY.out, HN2.out, ← hmv]; rfl))
              have HGL := Lib.hid hrow.lt
              have HGB := Lib.hid (And.intro hBg HP2.out.lt)
              have HTL : Hid (f.trail.length ≤ 400000000) := Lib.hid (by omega)
              clear h2 hrow hmv hm HR2
              simp only [List.length_cons, List.length_nil, Nat.zero_add, Nat.reduceAdd]
              go_wp2_with fail
              refine reg24R _ rfl (fb := w.heap.size + 1) (m := m) (B := w.heap.size + 2) (by have := HGB.out; omega) HGL.out HP3.out.lt (by omega) HP3.out.lt HS7.out HP3.out.own (fun e => by have := (HP2.out.own_ne g e).2; have := HGB.out; omega) HTL.out ((cell_of_row _ _ _ _ _ _ HP3.out.obj).trans rfl) (frozen_of_row _ _ _ _ _ HP3.out.obj) ?_
              intro v2 W4 hown2 hgrow2 W5 hW5 X'
              have HP4 := Lib.hid ((HP3.out.below ((Below.refl _ _).alloc (Nat.le_refl _) (.cells #[.int .i64 m.a, .int .i64 m.b, .int .i64 m.c, .int .i64 m.d, .int .i64 m.e, .int .i64 m.f, .int .i64 m.g] 47)).drew).push m hgrow2 hown2)
              rw [← hW5] at HP4
              clear hW5 hown2 hgrow2
              unfold rF
              go_wp2_with fail
              go_roundw
              case rel => exact ⟨L + 1, i + 1, i + 1, ⟨false, { f with trail := f.trail ++ [m] }, false⟩, v2, by go_num, rfl, by go_num, by go_num, by omega, by simp, by simp; omega, by omega, HNX, HP4⟩
              case measure => simp [intOf]; omega
      · have hcb : ((c.toNat : Int) != 10) = true := ten_ne h10
        have HA2 : Hid (At s R ⟨fst, f, due⟩ fr (i + 1)) := Lib.hid (HA.out.on hlt (by rw [hc]; exact h10))
        clear hc h10
        go_wp2_with fail
        go_roundw
        case rel => exact ⟨L, fr, i + 1, ⟨fst, f, due⟩, tv, rfl, rfl, rfl, by go_num, hLf, hfst, htl, by omega, HA2, HP⟩
        case measure => simp [intOf]; omega
    · obtain rfl : i = s.length := by omega
      have HFIN := Lib.hid HA.out.fin
      obtain ⟨o, cap, rfl⟩ := HP.out.form
      obtain ⟨e0, e1, e2, e3, e4, e5, e6, e7⟩ := fd_cells HP.out.obj
      obtain ⟨b0, b1, b2, b3, b4, b5, b6, b7⟩ := fd_cells HP.out.ret
      have z0 : wr.frozen? ⟨w.heap.size, 0, none⟩ = false := frozen_of_row _ _ _ _ _ HP.out.ret
      have z1 : wr.frozen? ⟨w.heap.size, 1, none⟩ = false := frozen_of_row _ _ _ _ _ HP.out.ret
      have z2 : wr.frozen? ⟨w.heap.size, 2, none⟩ = false := frozen_of_row _ _ _ _ _ HP.out.ret
      have z3 : wr.frozen? ⟨w.heap.size, 3, none⟩ = false := frozen_of_row _ _ _ _ _ HP.out.ret
      have z4 : wr.frozen? ⟨w.heap.size, 4, none⟩ = false := frozen_of_row _ _ _ _ _ HP.out.ret
      have z5 : wr.frozen? ⟨w.heap.size, 5, none⟩ = false := frozen_of_row _ _ _ _ _ HP.out.ret
      have z6 : wr.frozen? ⟨w.heap.size, 6, none⟩ = false := frozen_of_row _ _ _ _ _ HP.out.ret
      have z7 : wr.frozen? ⟨w.heap.size, 7, none⟩ = false := frozen_of_row _ _ _ _ _ HP.out.ret
      by_cases hfl : fr < s.length
      · have hfli : (fr : Int) < s.length := by omega
        have HBAD : Hid (R = .bad fr) := Lib.hid (by rw [HFIN.out, if_neg (by omega)])
        go_wp2_with fail
        refine bodyPost_ret (v := .tuple #[fdV fdZ (.slice none 0 0), .int .i64 43, .int .i64 fr]) (by simp [results, Tryd.results9, go_sem, fdV, fdZ, b0, b1, b2, b3, b4, b5, b6, b7]) rfl ?_
        exact ⟨par_end HP.out _ _ _ _ _ _ _ _, by rw [HBAD.out]⟩
      have hfe : fr = s.length := by have := HA.out.fi; omega
      have hfli : ¬ (fr : Int) < s.length := by omega
      by_cases hL : L = 0
      · have hLz : ((L : Int) == 0) = true := by rw [beq_iff_eq]; omega
        have HBAD : Hid (R = .bad fr) := Lib.hid (by rw [HFIN.out, if_neg (fun h => by have h2 := h.2.1; simp only at h2; rw [hfst, hL] at h2; cases h2)])
        clear hL hfe
        go_wp2_with fail
        refine bodyPost_ret (v := .tuple #[fdV fdZ (.slice none 0 0), .int .i64 43, .int .i64 fr]) (by simp [results, Tryd.results9, go_sem, fdV, fdZ, b0, b1, b2, b3, b4, b5, b6, b7]) rfl ?_
        exact ⟨par_end HP.out _ _ _ _ _ _ _ _, by rw [HBAD.out]⟩
      have hLz : ((L : Int) == 0) = false := by rw [beq_eq_false_iff_ne]; omega
      cases due with
      | true =>
        have HBAD : Hid (R = .bad fr) := Lib.hid (by rw [HFIN.out, if_neg (fun h => by have h2 := h.2.2; cases h2)])
        clear hL hfe
        go_wp2_with fail
        refine bodyPost_ret (v := .tuple #[fdV fdZ (.slice none 0 0), .int .i64 43, .int .i64 fr]) (by simp [results, Tryd.results9, go_sem, fdV, fdZ, b0, b1, b2, b3, b4, b5, b6, b7]) rfl ?_
        exact ⟨par_end HP.out _ _ _ _ _ _ _ _, by rw [HBAD.out]⟩
      | false =>
        have HOK : Hid (R = .ok f) := Lib.hid (by rw [HFIN.out, if_pos ⟨hfe, by show fst = false; rw [hfst]; simp [hL], rfl⟩])
        clear hL hfe
        go_wp2_with fail
        refine bodyPost_ret (v := .tuple #[fdV f (.slice o f.trail.length cap), .int .i64 0, .int .i64 0]) (by simp [results, Tryd.results9, go_sem, fdV, b0, b1, b2, b3, b4, b5, b6, b7]) rfl ?_
        exact ⟨par_end HP.out _ _ _ _ _ _ _ _, by rw [HOK.out]; exact ⟨_, _, rfl, par_row HP.out _ _ _ _ _ _ _ _⟩⟩
end Go.Proofs.YtifofhjfepkglaaDoor
