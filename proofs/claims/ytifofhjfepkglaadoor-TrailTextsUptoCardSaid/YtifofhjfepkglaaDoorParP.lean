/- The program's reading of a text. -/
import Derived.Test.YtifofhjfepkglaaDoorRegD
import Derived.Test.YtifofhjfepkglaaDoorScope
import Derived.Test.YtifofhjfepkglaaDoorNumP
namespace Go.Proofs.YtifofhjfepkglaaDoor
open Go.ChangeShapes Go.WideShapes Go.ChangeAt Go.RowKit
set_option linter.unusedVariables false
set_option linter.unusedSimpArgs false


theorem par0 (w : World) : Par w ((w.alloc (.cells #[.int .i64 0, .int .i64 0, .int .i64 0, .int .i64 0, .slice none 0 0, .int .i64 0, .int .i64 0, .int .i64 0] 25)).alloc (.cells #[.int .i64 0, .int .i64 0, .int .i64 0, .int .i64 0, .slice none 0 0, .int .i64 (-1), .int .i64 0, .int .i64 0] 25)) fd0 (.slice none 0 0) := by
  have h1 := heap_alloc_new w (.cells (fdCells fdZ (.slice none 0 0)) 25)
  have h2 := heap_alloc_new (w.alloc (.cells (fdCells fdZ (.slice none 0 0)) 25)) (.cells (fdCells fd0 (.slice none 0 0)) 25)
  have hs : (w.alloc (.cells (fdCells fdZ (.slice none 0 0)) 25)).heap.size = w.heap.size + 1 := World.size_alloc _ _
  rw [hs] at h2
  have hb := (Below.refl (w.alloc (.cells (fdCells fdZ (.slice none 0 0)) 25)).heap.size (w.alloc (.cells (fdCells fdZ (.slice none 0 0)) 25))).alloc (Nat.le_refl _) (.cells (fdCells fd0 (.slice none 0 0)) 25)
  exact ⟨(hb.block _ (by rw [hs]; omega)).trans h1, h2, World.ownsRow_nil _ _ _ _, ((Below.refl _ _).alloc (Nat.le_refl _) _).alloc (by exact (Nat.le_trans (Nat.le_succ _) (Nat.le_of_eq hs.symm))) _⟩

theorem par_head {w W : World} {f : FD} {tv : Value} (h : Par w W f tv) (k wh er pl ss sp : Int) : Par w ((((((W.setCell ⟨w.heap.size + 1, 0, none⟩ (.int .i64 k)).setCell ⟨w.heap.size + 1, 1, none⟩ (.int .i64 wh)).setCell ⟨w.heap.size + 1, 2, none⟩ (.int .i64 er)).setCell ⟨w.heap.size + 1, 3, none⟩ (.int .i64 pl)).setCell ⟨w.heap.size + 1, 6, none⟩ (.int .i64 ss)).setCell ⟨w.heap.size + 1, 7, none⟩ (.int .i64 sp)) (headF f [k, wh, er, pl, ss, sp]) tv := by
  have h0 := h.set 0 (.int .i64 k) { f with kind := k } rfl rfl
  have h1 := h0.set 1 (.int .i64 wh) { f with kind := k, what := wh } rfl rfl
  have h2 := h1.set 2 (.int .i64 er) { f with kind := k, what := wh, err := er } rfl rfl
  have h3 := h2.set 3 (.int .i64 pl) { f with kind := k, what := wh, err := er, at_ := pl } rfl rfl
  have h4 := h3.set 6 (.int .i64 ss) { f with kind := k, what := wh, err := er, at_ := pl, states := ss } rfl rfl
  exact h4.set 7 (.int .i64 sp) (headF f [k, wh, er, pl, ss, sp]) rfl rfl

theorem step_move {f : FD} {due : Bool} {a : List UInt8} (h : ¬ a = cycleW) : stepP ⟨false, f, due⟩ a = (numsOf a moveW 7).map fun l => (⟨false, { f with trail := f.trail ++ [mvOf l] }, false⟩ : PS) := by
  unfold stepP
  rw [if_neg (by simp), if_neg h]
  cases numsOf a moveW 7 <;> rfl
theorem grown_set (U : World) (b i : Nat) (v : Value) : U.grownBy (U.setCell ⟨b, i, none⟩ v) (some b) :=
  ⟨rfl, rfl, rfl, by simp [World.setCell], fun k hk hkb => heap_setCell_other _ _ _ _ (fun e => hkb (by rw [e]))⟩
theorem grown_tr {U V T : World} {r : Option Nat} (h1 : U.grownBy V r) (h2 : V.grownBy T r) : U.grownBy T r :=
  ⟨h2.os.trans h1.os, h2.tape.trans h1.tape, h2.output.trans h1.output, Nat.le_trans h1.size h2.size, fun k hk hkb => (h2.block k (Nat.lt_of_lt_of_le hk h1.size) hkb).trans (h1.block k hk hkb)⟩
theorem tr_own {w : World} {B : Nat} {o : Option Addr} {cap : Nat} {l : List MV} {W' : World} {rb : Nat} (h : w.ownsRow B 47 7 (.slice o l.length cap) l.length (mvsV l)) (hrb : rb < B) (h2 : w.grownBy W' (some rb)) : TrAt W' o l := by
  refine mvs_own rfl (h.kept h2 ?_)
  cases hvb : (Value.slice o l.length cap).ownBlock with
  | none => exact .inl rfl
  | some g =>
    right
    have := (h.lt g hvb).1
    intro e
    injection e with e
    omega
theorem set8 {w W : World} {f : FD} {tv : Value} (h : Par w W f tv) (v0 v1 v2 v3 v4 v5 v6 v7 : Value) : w.grownBy W none ∧ W.grownBy ((((((((W.setCell ⟨w.heap.size, 0, none⟩ v0).setCell ⟨w.heap.size, 1, none⟩ v1).setCell ⟨w.heap.size, 2, none⟩ v2).setCell ⟨w.heap.size, 3, none⟩ v3).setCell ⟨w.heap.size, 4, none⟩ v4).setCell ⟨w.heap.size, 5, none⟩ v5).setCell ⟨w.heap.size, 6, none⟩ v6).setCell ⟨w.heap.size, 7, none⟩ v7) (some w.heap.size) := by
  refine ⟨⟨h.bel.os, h.bel.tape, h.bel.output, h.bel.size, fun k hk _ => h.bel.block k hk⟩, ?_⟩
  exact grown_tr (grown_tr (grown_tr (grown_tr (grown_tr (grown_tr (grown_tr (grown_set _ _ 0 v0) (grown_set _ _ 1 v1)) (grown_set _ _ 2 v2)) (grown_set _ _ 3 v3)) (grown_set _ _ 4 v4)) (grown_set _ _ 5 v5)) (grown_set _ _ 6 v6)) (grown_set _ _ 7 v7)
theorem par_end {w W : World} {f : FD} {tv : Value} (h : Par w W f tv) (v0 v1 v2 v3 v4 v5 v6 v7 : Value) : Below w.heap.size w ((((((((W.setCell ⟨w.heap.size, 0, none⟩ v0).setCell ⟨w.heap.size, 1, none⟩ v1).setCell ⟨w.heap.size, 2, none⟩ v2).setCell ⟨w.heap.size, 3, none⟩ v3).setCell ⟨w.heap.size, 4, none⟩ v4).setCell ⟨w.heap.size, 5, none⟩ v5).setCell ⟨w.heap.size, 6, none⟩ v6).setCell ⟨w.heap.size, 7, none⟩ v7) := by
  obtain ⟨_, h2⟩ := set8 h v0 v1 v2 v3 v4 v5 v6 v7
  exact h.bel.grown h2 h.bel.size (fun k hk => by injection hk with hk; omega)
theorem par_row {w W : World} {f : FD} {o : Option Addr} {cap : Nat} (h : Par w W f (.slice o f.trail.length cap)) (v0 v1 v2 v3 v4 v5 v6 v7 : Value) : TrAt ((((((((W.setCell ⟨w.heap.size, 0, none⟩ v0).setCell ⟨w.heap.size, 1, none⟩ v1).setCell ⟨w.heap.size, 2, none⟩ v2).setCell ⟨w.heap.size, 3, none⟩ v3).setCell ⟨w.heap.size, 4, none⟩ v4).setCell ⟨w.heap.size, 5, none⟩ v5).setCell ⟨w.heap.size, 6, none⟩ v6).setCell ⟨w.heap.size, 7, none⟩ v7) o f.trail := by
  obtain ⟨_, h2⟩ := set8 h v0 v1 v2 v3 v4 v5 v6 v7
  refine mvs_own rfl (h.own.kept h2 ?_)
  cases hvb : (Value.slice o f.trail.length cap).ownBlock with
  | none => exact .inl rfl
  | some g =>
    right
    have := (h.own.lt g hvb).1
    intro e
    injection e with e
    omega

set_option maxHeartbeats 1000000 in
set_option maxRecDepth 1000000 in
theorem parse_any (s : List UInt8) (w : World) (hs : s.length ≤ 400000000) (henv : Env w) : Calls Tryd.prog 8 #[.string ⟨s.toArray⟩] w (ParP w (parseF s)) := by
  obtain ⟨R, hR⟩ : ∃ R, parseF s = R := ⟨_, rfl⟩
  have HR := Lib.hid hR
  have HE := Lib.hid henv
  rw [hR]
  clear hR henv
  go_enter Tryd.func8, Tryd.ntmps8
  go_wp2_with fail
  refine wp_scope_ghost2 0 1
    (fun m a' wr => ∃ (p : Nat) (st : PS) (tv : Value), m = s.length + 1 - p ∧ 0 < p ∧ p ≤ s.length ∧ st.first = false ∧ st.f.trail.length ≤ p ∧ R = parseL p st (parts 10 (s.drop p)) ∧ Par w wr st.f tv ∧ ∃ X, a' = prF s w.heap.size (w.heap.size + 1) p st.due X)
    (fun m a' wr => ∃ (p : Nat) (f : FD) (tv : Value), m = 0 ∧ R = .bad p ∧ Par w wr f tv ∧ ∃ X, a' = prG s w.heap.size (w.heap.size + 1) p X) rfl rfl ?_ ?_ ?_
  · have hsl : (⟨s.toArray⟩ : ByteArray).extract 0 s.length = ⟨s.toArray⟩ := by rw [extract_piece, piece_all, List.drop_zero]
    go_wp2_with fail
    have HP := Lib.hid (par0 w)
    obtain ⟨W1, hW1⟩ : ∃ W1, ((w.alloc (.cells #[.int .i64 0, .int .i64 0, .int .i64 0, .int .i64 0, .slice none 0 0, .int .i64 0, .int .i64 0, .int .i64 0] 25)).alloc (.cells #[.int .i64 0, .int .i64 0, .int .i64 0, .int .i64 0, .slice none 0 0, .int .i64 (-1), .int .i64 0, .int .i64 0] 25)) = W1 := ⟨_, rfl⟩
    rw [hW1] at HP ⊢
    clear hW1
    have HCU := Lib.hid (cut_any s W1 (by omega) (HE.out.below HP.out.bel).now)
    have HR0 : Hid (R = parseL 0 ps0 (parts 10 s)) := Lib.hid HR.out.symm
    rcases has_or 10 s with hno | ⟨a, b, hab, hno⟩
    · rw [cut_miss hno] at HCU
      rw [parts_miss 10 s hno] at HR0
      have HBAD : Hid (R = .bad 0) := Lib.hid (by rw [HR0.out]; unfold parseL; rw [if_neg (by simp [ps0])])
      clear hno
      obtain ⟨bz, hz⟩ : ∃ bz, ((0 : Int) == (s.length : Int)) = bz := ⟨_, rfl⟩
      go_step3
      cases bz
      all_goals (
        go_wp2_with fail
        refine HCU.out.mono ?_
        rintro e W2 ⟨rfl, hb2⟩
        have HP2 := Lib.hid (HP.out.below hb2)
        clear hb2
        go_wp2_with fail
        go_step3
        exact .inr ⟨rfl, 0, 0, _, _, rfl, HBAD.out, HP2.out, prG_of _ rfl⟩)
    · have hcl := parts_hit 10 a b hno
      rw [← hab] at hcl
      have hcu := cut_hit (c := 10) (a := a) (b := b) hno
      rw [← hab] at hcu
      rw [hcu] at HCU
      rw [hcl, parseL_cons _ _ _ _ (parts_ne _ _)] at HR0
      have hlen : a.length + b.length + 1 = s.length := by rw [hab]; simp; omega
      have HDR : Hid (s.drop (a.length + 1) = b) := Lib.hid (by rw [hab]; simp)
      have hz : ((0 : Int) == (s.length : Int)) = false := by rw [beq_eq_false_iff_ne]; omega
      clear hcl hcu hno hab
      go_step3
      go_wp2_with fail
      refine HCU.out.mono ?_
      rintro e W2 ⟨rfl, hb2⟩
      have HP2 := Lib.hid (HP.out.below hb2)
      obtain ⟨N, hno⟩ : ∃ N, numsOf a foundW 6 = N := ⟨_, rfl⟩
      have HN := numbers_any a foundW 6 W2 (by omega) (by omega) (by omega) (HE.out.below HP2.out.bel)
      rw [hno] at HN
      unfold foundW at HN
      replace HN := Lib.hid HN
      replace hno := Lib.hid hno
      clear hb2
      go_wp2_with fail
      refine HN.out.mono ?_
      rintro e W3 ⟨v, ok, rfl, hn, hb3⟩
      have HP3 := Lib.hid (HP2.out.below hb3)
      have HB3 := Lib.hid hb3.size
      clear hb3
      replace hno := hno.out
      cases N with
      | none =>
        obtain ⟨h1, h2⟩ : ok = false ∧ v = .slice none 0 0 := hn
        subst h1 h2
        have HBAD : Hid (R = .bad 0) := Lib.hid (by rw [HR0.out]; unfold stepP; rw [if_pos (show ps0.first = true from rfl), hno])
        clear hno
        go_wp2_with fail
        go_step3
        exact .inr ⟨rfl, 0, 0, _, _, rfl, HBAD.out, HP3.out, prG_of _ rfl⟩
      | some l =>
        obtain ⟨h1, h2⟩ : ok = true ∧ W3.ownsRow W2.heap.size 3 1 v l.length (intsV l) := hn
        subst h1
        obtain ⟨k, wh, er, pl, ss, sp, rfl⟩ := list6 (numsOf_length hno)
        obtain ⟨g, cap, rfl, hBg, hrow⟩ := row_own h2 rfl (by simp)
        have r0 : W3.cell? ⟨g, 0, none⟩ = some (.int .i64 k) := hrow.get 0 (by simp)
        have r1 : W3.cell? ⟨g, 1, none⟩ = some (.int .i64 wh) := hrow.get 1 (by simp)
        have r2 : W3.cell? ⟨g, 2, none⟩ = some (.int .i64 er) := hrow.get 2 (by simp)
        have r3 : W3.cell? ⟨g, 3, none⟩ = some (.int .i64 pl) := hrow.get 3 (by simp)
        have r4 : W3.cell? ⟨g, 4, none⟩ = some (.int .i64 ss) := hrow.get 4 (by simp)
        have r5 : W3.cell? ⟨g, 5, none⟩ = some (.int .i64 sp) := hrow.get 5 (by simp)
        have hstep : stepP ps0 a = if k < 1 ∨ 4 < k then none else some ⟨false, headF fd0 [k, wh, er, pl, ss, sp], false⟩ := by
          unfold stepP
          rw [if_pos (show ps0.first = true from rfl), hno]
          rfl
        have HST := Lib.hid hstep
        have hgne : g ≠ w.heap.size + 1 := by have := HP2.out.lt; omega
        clear hno h2 hrow hstep
        simp only [List.length_cons, List.length_nil, Nat.zero_add, Nat.reduceAdd]
        by_cases hk1 : k < 1
        · have HBAD : Hid (R = .bad 0) := Lib.hid (by rw [HR0.out, HST.out, if_pos (.inl hk1)])
          go_wp2_with fail
          go_step3
          exact .inr ⟨rfl, 0, 0, _, _, rfl, HBAD.out, HP3.out, prG_of _ rfl⟩
        by_cases hk4 : 4 < k
        · have HBAD : Hid (R = .bad 0) := Lib.hid (by rw [HR0.out, HST.out, if_pos (.inr hk4)])
          go_wp2_with fail
          go_step3
          exact .inr ⟨rfl, 0, 0, _, _, rfl, HBAD.out, HP3.out, prG_of _ rfl⟩
        have HGO := Lib.hid HR0.out
        rw [HST.out, if_neg (by omega)] at HGO
        have hob := HP3.out.obj
        go_wp2_with fail
        refine reg20P (nx := a.length + 1) _ rfl hgne ⟨r0, r1, r2, r3, r4, r5⟩ ((cell_of_row _ _ _ _ _ _ hob).trans rfl) ((cell_of_row _ _ _ _ _ _ hob).trans rfl) ((cell_of_row _ _ _ _ _ _ hob).trans rfl) ((cell_of_row _ _ _ _ _ _ hob).trans rfl) ((cell_of_row _ _ _ _ _ _ hob).trans rfl) ((cell_of_row _ _ _ _ _ _ hob).trans rfl) (fun i => frozen_of_row _ _ _ _ _ hob) ?_
        intro X'
        have HP4 := Lib.hid ((par_head HP3.out k wh er pl ss sp).below (Below.refl _ _).drew)
        obtain ⟨W4, hW4⟩ : ∃ W4, ((((((W3.setCell ⟨w.heap.size + 1, 0, none⟩ (.int .i64 k)).setCell ⟨w.heap.size + 1, 1, none⟩ (.int .i64 wh)).setCell ⟨w.heap.size + 1, 2, none⟩ (.int .i64 er)).setCell ⟨w.heap.size + 1, 3, none⟩ (.int .i64 pl)).setCell ⟨w.heap.size + 1, 6, none⟩ (.int .i64 ss)).setCell ⟨w.heap.size + 1, 7, none⟩ (.int .i64 sp)).drew = W4 := ⟨_, rfl⟩
        rw [hW4] at HP4 ⊢
        clear hW4 hob r0 r1 r2 r3 r4 r5
        go_wp2_with fail
        go_step3
        refine .inl ⟨rfl, s.length + 1 - (a.length + 1), a.length + 1, ⟨false, headF fd0 [k, wh, er, pl, ss, sp], false⟩, .slice none 0 0, rfl, by omega, by omega, rfl, by simp [headF, fd0], ?_, HP4.out, X', rfl⟩
        rw [HDR.out, HGO.out, Nat.zero_add]
  · rintro m a' wr ⟨p, st, tv, rfl, hp0, hps, hfst, htl, hRp, hpar, X, rfl⟩
    unfold prF
    obtain ⟨fst, f, due⟩ := st
    simp only at hfst hpar hRp htl
    subst hfst
    have HP := Lib.hid hpar
    have HRP := Lib.hid hRp
    obtain ⟨o, cap, rfl⟩ := hpar.form
    clear hpar hRp
    have hsl : (⟨s.toArray⟩ : ByteArray).extract p s.length = ⟨(s.drop p).toArray⟩ := by rw [extract_piece, piece_all]
    obtain ⟨rs, hrs⟩ : ∃ rs, s.drop p = rs := ⟨_, rfl⟩
    have hrl : rs.length = s.length - p := by rw [← hrs]; simp
    rw [hrs] at hsl HRP
    have HRS := Lib.hid hrs
    clear hrs
    have hp0i : (0 : Int) < p := by omega
    have hpsi : (p : Int) ≤ s.length := by omega
    have HCU := Lib.hid (cut_any rs wr (by omega) (HE.out.below HP.out.bel).now)
    by_cases hend : p = s.length
    · have hz : ((p : Int) == (s.length : Int)) = true := by rw [beq_iff_eq]; omega
      have hnil : rs = [] := List.length_eq_zero_iff.1 (by omega)
      subst hnil
      clear hend
      cases due with
      | false =>
        have HOK : Hid (R = .ok f) := Lib.hid (by rw [HRP.out]; simp [parts, parseL])
        obtain ⟨e0, e1, e2, e3, e4, e5, e6, e7⟩ := fd_cells HP.out.obj
        obtain ⟨b0, b1, b2, b3, b4, b5, b6, b7⟩ := fd_cells HP.out.ret
        have z0 : wr.frozen? ⟨w.heap.size, 0, none⟩ = false := frozen_of_row _ _ _ _ _ HP.out.ret
        have z1 : wr.frozen? ⟨w.heap.size, 1, none⟩ = false := frozen_of_row _ _ _ _ _ HP.out.ret
        have z2 : wr.frozen? ⟨w.heap.size, 2, none⟩ = false := frozen_of_row _ _ _ _ _ HP.out.ret
        have z3 : wr.frozen? ⟨w.heap.size, 3, none⟩ = false := frozen_of_row _ _ _ _ _ HP.out.ret
        have z4 : wr.frozen? ⟨w.heap.size, 4, none⟩ = false := frozen_of_row _ _ _ _ _ HP.out.ret
        have z5 : wr.frozen? ⟨w.heap.size, 5, none⟩ = false := frozen_of_row _ _ _ _ _ HP.out.ret
        have z6 : wr.frozen? ⟨w.heap.size, 6, none⟩ = false := frozen_of_row _ _ _ _ _ HP.out.ret
        have z7 : wr.frozen? ⟨w.heap.size, 7, none⟩ = false := frozen_of_row _ _ _ _ _ HP.out.ret
        clear HCU
        go_wp2_with fail
        simp only [jump2]
        refine bodyPost_ret (v := .tuple #[fdV f (.slice o f.trail.length cap), .int .i64 0, .int .i64 0]) (by simp [results, Tryd.results8, go_sem, fdV, b0, b1, b2, b3, b4, b5, b6, b7]) rfl ?_
        exact ⟨par_end HP.out _ _ _ _ _ _ _ _, by rw [HOK.out]; exact ⟨_, _, rfl, par_row HP.out _ _ _ _ _ _ _ _⟩⟩
      | true =>
        have HBAD : Hid (R = .bad p) := Lib.hid (by rw [HRP.out]; simp [parts, parseL])
        rw [cut_miss (c := 10) (s := []) (by simp)] at HCU
        go_wp2_with fail
        refine HCU.out.mono ?_
        rintro e W2 ⟨rfl, hb2⟩
        have HP2 := Lib.hid (HP.out.below hb2)
        clear hb2
        go_wp2_with fail
        go_step3
        exact .inr ⟨rfl, 0, by omega, p, _, _, rfl, HBAD.out, HP2.out, prG_of _ rfl⟩
    · have hz : ((p : Int) == (s.length : Int)) = false := by rw [beq_eq_false_iff_ne]; omega
      rcases has_or 10 rs with hno | ⟨a, b, hab, hno⟩
      · rw [cut_miss hno] at HCU
        rw [parts_miss 10 rs hno] at HRP
        have HBAD : Hid (R = .bad p) := Lib.hid (by rw [HRP.out]; unfold parseL; rw [if_neg (fun h => by have h2 := congrArg List.length h.1; rw [List.length_nil] at h2; omega)])
        clear hno
        go_wp2_with fail
        refine HCU.out.mono ?_
        rintro e W2 ⟨rfl, hb2⟩
        have HP2 := Lib.hid (HP.out.below hb2)
        clear hb2
        go_wp2_with fail
        go_step3
        exact .inr ⟨rfl, 0, by omega, p, _, _, rfl, HBAD.out, HP2.out, prG_of _ rfl⟩
      · have hcl := parts_hit 10 a b hno
        rw [← hab] at hcl
        have hcu := cut_hit (c := 10) (a := a) (b := b) hno
        rw [← hab] at hcu
        rw [hcu] at HCU
        rw [hcl, parseL_cons _ _ _ _ (parts_ne _ _)] at HRP
        have hlen : a.length + b.length + 1 = rs.length := by rw [hab]; simp; omega
        have HDR : Hid (s.drop (p + a.length + 1) = b) := Lib.hid (by
          have h := congrArg (List.drop (a.length + 1)) HRS.out
          rw [List.drop_drop, hab] at h
          rw [show p + a.length + 1 = p + (a.length + 1) by omega, h]
          simp)
        have hp0b : ((p : Int) == 0) = false := by rw [beq_eq_false_iff_ne]; omega
        clear hcl hcu hno hab
        by_cases hcy : a = cycleW
        · have hcyb : (a == [99, 121, 99, 108, 101]) = true := by rw [hcy]; rfl
          have HCY := Lib.hid hcy
          clear hcy
          go_wp2_with fail
          refine HCU.out.mono ?_
          rintro e W2 ⟨rfl, hb2⟩
          have HP2 := Lib.hid (HP.out.below hb2)
          clear hb2
          obtain ⟨e0, e1, e2, e3, e4, e5, e6, e7⟩ := fd_cells HP2.out.obj
          have y5 : W2.frozen? ⟨w.heap.size + 1, 5, none⟩ = false := frozen_of_row _ _ _ _ _ HP2.out.obj
          by_cases hc0 : 0 ≤ f.cyc
          · have HBAD : Hid (R = .bad p) := Lib.hid (by rw [HRP.out]; unfold stepP; rw [if_neg (by simp), if_pos HCY.out, if_pos hc0])
            go_wp2_with fail
            go_step3
            exact .inr ⟨rfl, 0, by omega, p, _, _, rfl, HBAD.out, HP2.out, prG_of _ rfl⟩
          · have hst : stepP ⟨false, f, due⟩ a = some ⟨false, { f with cyc := f.trail.length }, true⟩ := by unfold stepP; rw [if_neg (by simp), if_pos HCY.out, if_neg hc0]
            have HGO := Lib.hid HRP.out
            rw [hst] at HGO
            clear hst
            go_wp2_with fail
            go_step3
            refine .inl ⟨rfl, s.length + 1 - (p + a.length + 1), by omega, p + a.length + 1, ⟨false, { f with cyc := f.trail.length }, true⟩, .slice o f.trail.length cap, rfl, by omega, by omega, rfl, by show f.trail.length ≤ _; omega, by rw [HDR.out, HGO.out], HP2.out.set 5 (.int .i64 f.trail.length) { f with cyc := f.trail.length } rfl rfl, prF_of _ rfl⟩
        · have hcyb : (a == [99, 121, 99, 108, 101]) = false := by rw [beq_eq_false_iff_ne]; exact hcy
          have HCY := Lib.hid hcy
          clear hcy
          go_wp2_with fail
          refine HCU.out.mono ?_
          rintro e W2 ⟨rfl, hb2⟩
          have HP2 := Lib.hid (HP.out.below hb2)
          obtain ⟨N, hno⟩ : ∃ N, numsOf a moveW 7 = N := ⟨_, rfl⟩
          have HN := numbers_any a moveW 7 W2 (by omega) (by omega) (by omega) (HE.out.below HP2.out.bel)
          rw [hno] at HN
          unfold moveW at HN
          replace HN := Lib.hid HN
          replace hno := Lib.hid hno
          clear hb2
          go_wp2_with fail
          refine HN.out.mono ?_
          rintro e W3 ⟨v, ok, rfl, hn, hb3⟩
          have HP3 := Lib.hid (HP2.out.below hb3)
          have HB3 := Lib.hid hb3.size
          clear hb3
          replace hno := hno.out
          cases N with
          | none =>
            obtain ⟨h1, h2⟩ : ok = false ∧ v = .slice none 0 0 := hn
            subst h1 h2
            have HBAD : Hid (R = .bad p) := Lib.hid (by rw [HRP.out, step_move HCY.out, hno]; rfl)
            clear hno
            go_wp2_with fail
            go_step3
            exact .inr ⟨rfl, 0, by omega, p, _, _, rfl, HBAD.out, HP3.out, prG_of _ rfl⟩
          | some l =>
            obtain ⟨h1, h2⟩ : ok = true ∧ W3.ownsRow W2.heap.size 3 1 v l.length (intsV l) := hn
            subst h1
            obtain ⟨m0, m1, m2, m3, m4, m5, m6, rfl⟩ := list7 (numsOf_length hno)
            obtain ⟨m, hm⟩ : ∃ m : MV, m = ⟨m0, m1, m2, m3, m4, m5, m6⟩ := ⟨_, rfl⟩
            obtain ⟨g, cap', rfl, hBg, hrow⟩ := row_own h2 rfl (by simp)
            have HGO := Lib.hid HRP.out
            rw [step_move HCY.out, hno] at HGO
            simp only [Option.map_some] at HGO
            have HS7 : Hid (pushP.S7 g m W3) := Lib.hid (by rw [hm]; exact ⟨hrow.get 0 (by simp), hrow.get 1 (by simp), hrow.get 2 (by simp), hrow.get 3 (by simp), hrow.get 4 (by simp), hrow.get 5 (by simp), hrow.get 6 (by simp)⟩)
            have hmv : mvOf [m0, m1, m2, m3, m4, m5, m6] = m := by rw [hm]; rfl
            have HMV := Lib.hid hmv
            have HGL := Lib.hid hrow.lt
            have HGB := Lib.hid (And.intro hBg HP2.out.lt)
            have HTL : Hid (f.trail.length ≤ 400000000) := Lib.hid (by omega)
            clear hno h2 hrow hmv hm
            simp only [List.length_cons, List.length_nil, Nat.zero_add, Nat.reduceAdd]
            go_wp2_with fail
            refine reg15P (nx := p + a.length + 1) (du := due) _ rfl (fb := w.heap.size + 1) (m := m) (B := w.heap.size + 2) (by have := HGB.out; omega) HGL.out HP3.out.lt (by omega) HP3.out.lt HS7.out HP3.out.own (fun e => by have := (HP2.out.own_ne g e).2; have := HGB.out; omega) HTL.out ((cell_of_row _ _ _ _ _ _ HP3.out.obj).trans rfl) (frozen_of_row _ _ _ _ _ HP3.out.obj) ?_
            intro v2 W4 hown2 hgrow2 W5 hW5 X'
            have HP4 := Lib.hid ((HP3.out.below ((Below.refl _ _).alloc (Nat.le_refl _) (.cells #[.int .i64 m.a, .int .i64 m.b, .int .i64 m.c, .int .i64 m.d, .int .i64 m.e, .int .i64 m.f, .int .i64 m.g] 47)).drew).push m hgrow2 hown2)
            rw [← hW5] at HP4
            clear hW5 hown2 hgrow2
            unfold prF
            go_wp2_with fail
            go_step3
            refine .inl ⟨rfl, s.length + 1 - (p + a.length + 1), by omega, p + a.length + 1, ⟨false, { f with trail := f.trail ++ [m] }, false⟩, v2, rfl, by omega, by omega, rfl, by simp; omega, ?_, HP4.out, prF_of _ rfl⟩
            rw [HDR.out, HGO.out, HMV.out]
  · rintro m a' wr ⟨p, f, tv, rfl, hR, hpar, X, rfl⟩
    unfold prG
    have HRB := Lib.hid hR
    have HP := Lib.hid hpar
    obtain ⟨b0, b1, b2, b3, b4, b5, b6, b7⟩ := fd_cells hpar.ret
    have z0 : wr.frozen? ⟨w.heap.size, 0, none⟩ = false := frozen_of_row _ _ _ _ _ HP.out.ret
    have z1 : wr.frozen? ⟨w.heap.size, 1, none⟩ = false := frozen_of_row _ _ _ _ _ HP.out.ret
    have z2 : wr.frozen? ⟨w.heap.size, 2, none⟩ = false := frozen_of_row _ _ _ _ _ HP.out.ret
    have z3 : wr.frozen? ⟨w.heap.size, 3, none⟩ = false := frozen_of_row _ _ _ _ _ HP.out.ret
    have z4 : wr.frozen? ⟨w.heap.size, 4, none⟩ = false := frozen_of_row _ _ _ _ _ HP.out.ret
    have z5 : wr.frozen? ⟨w.heap.size, 5, none⟩ = false := frozen_of_row _ _ _ _ _ HP.out.ret
    have z6 : wr.frozen? ⟨w.heap.size, 6, none⟩ = false := frozen_of_row _ _ _ _ _ HP.out.ret
    have z7 : wr.frozen? ⟨w.heap.size, 7, none⟩ = false := frozen_of_row _ _ _ _ _ HP.out.ret
    clear hR hpar
    go_wp2_with fail
    simp only [jump2]
    refine bodyPost_ret (v := .tuple #[fdV fdZ (.slice none 0 0), .int .i64 43, .int .i64 p]) (by simp [results, Tryd.results8, go_sem, fdV, fdZ, b0, b1, b2, b3, b4, b5, b6, b7]) rfl ?_
    exact ⟨par_end HP.out _ _ _ _ _ _ _ _, by rw [HRB.out]⟩
end Go.Proofs.YtifofhjfepkglaaDoor
