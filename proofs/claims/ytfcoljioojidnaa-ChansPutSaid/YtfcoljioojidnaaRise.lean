/- What is put sorted rises, and is the same put in from the back. -/
import Derived.Test.YtfcoljioojidnaaQueues
namespace Go.Proofs.Ytfcoljioojidnaa
open Go.ChangeShapes Go.WideShapes Go.ChangeAt Go.RowKit
set_option linter.unusedVariables false
set_option linter.unusedSimpArgs false

theorem RI.start {w W1 : World} {room : Int} {f : SL} (hb : Below (w.alloc (Obj.cells #[.int .i64 room, slV f] 24)).heap.size (w.alloc (Obj.cells #[.int .i64 room, slV f] 24)) W1) :
    RI w room f W1.heap.size ⟨none, 0, 0⟩ [] [] ⟨none, 0, 0⟩ [] [] ((W1.alloc (Obj.cells #[.int .i64 0, .slice none 0 0] 27)).alloc (Obj.cells #[.int .i64 0, .slice none 0 0] 27)) := by
  obtain ⟨h1, h2, h3⟩ := take_two W1 (Obj.cells #[.int .i64 0, .slice none 0 0] 27) (Obj.cells #[.int .i64 0, .slice none 0 0] 27)
  have hs := hb.size
  have h0 : W1.heap[w.heap.size]? = some (Obj.cells #[.int .i64 room, slV f] 24) := (hb.block w.heap.size (by simp)).trans (heap_alloc_new w _)
  have hl : w.heap.size < W1.heap.size := lt_of_block h0
  refine ⟨(h3.block _ hl).trans h0, hl, h1, h2, .nil _ _, .nil _ _, ?_⟩
  exact (((Below.refl _ w).alloc (Nat.le_refl _) _).trans (hb.mono (by simp))).trans (h3.mono (by omega))

theorem keepS {wr w1 : World} (h : Below wr.heap.size wr w1) (x y : Value) : Below wr.heap.size wr ((w1.setCell ⟨wr.heap.size, 0, none⟩ x).setCell ⟨wr.heap.size, 1, none⟩ y) := (h.setCell (Nat.le_refl _) _).setCell (Nat.le_refl _) _
theorem again2 (wr w1 : World) (hb1 : Below (wr.alloc (.cells #[.int .i64 0, .slice none 0 0] 27)).drew.heap.size (wr.alloc (.cells #[.int .i64 0, .slice none 0 0] 27)).drew w1) :
    w1.frozen? ⟨wr.heap.size, 0, none⟩ = false ∧ w1.frozen? ⟨wr.heap.size, 1, none⟩ = false ∧ w1.cell? ⟨wr.heap.size, 0, none⟩ = some (.int .i64 0) ∧ w1.cell? ⟨wr.heap.size, 1, none⟩ = some (.slice none 0 0) := by
  have hz0 : (wr.alloc (.cells #[.int .i64 0, .slice none 0 0] 27)).heap[wr.heap.size]? = some (.cells #[.int .i64 0, .slice none 0 0] 27 (0, 0)) := heap_alloc_new _ _
  have hz1 : w1.heap[wr.heap.size]? = some (.cells #[.int .i64 0, .slice none 0 0] 27 (0, 0)) := (hb1.block wr.heap.size (by show wr.heap.size < (wr.alloc _).heap.size; rw [World.size_alloc]; omega)).trans hz0
  exact ⟨frozen_of_row _ _ _ _ _ hz1, frozen_of_row _ _ _ _ _ hz1, (cell_of_row _ _ _ _ _ _ hz1).trans rfl, (cell_of_row _ _ _ _ _ _ hz1).trans rfl⟩
theorem keepB {B : Nat} {w w1 w2 : World} (h : Below B w w1) (hb : Below w1.heap.size w1 w2) (hB : B ≤ w1.heap.size) : Below B w w2 := h.trans (hb.mono hB)
theorem keepB' {w w1 w2 : World} (h : Below w.heap.size w w1) (hb : Below w1.heap.size w1 w2) : Below w.heap.size w w2 := h.trans (hb.mono h.size)
/-- Behind the call and the new box, in whichever order. -/
theorem ri_new1 {w wr w1 W' : World} {room : Int} {f ta tb t : SL} {b : Nat} {Ma Mb M : List SL} {Qa Qb Q : List (List Int)} (h : RI w room f b ta Ma Qa tb Mb Qb wr) (hW : Below wr.heap.size wr W') (hq : QB W'.heap.size w1 t M Q) (hb : Below wr.heap.size wr w1) :
    RI w room f b ta Ma Qa tb Mb Qb (w1.alloc (.cells #[.int .i64 0, .slice t.o t.n t.c] 27)) ∧ (w1.alloc (.cells #[.int .i64 0, .slice t.o t.n t.c] 27)).heap[w1.heap.size]? = some (.cells #[.int .i64 0, .slice t.o t.n t.c] 27 (0, 0)) ∧ QB (b + 2) (w1.alloc (.cells #[.int .i64 0, .slice t.o t.n t.c] 27)) t M Q := by
  have h1 := h.below hb
  have hl := lt_of_block h.cb
  exact ⟨h1.below ((Below.refl _ _).alloc (Nat.le_refl _) _), heap_alloc_new _ _, (hq.low (by have := hW.size; omega)).below ((Below.refl _ _).alloc (Nat.le_refl _) _)⟩
theorem ri_new2 {w wr w1 : World} {room : Int} {f ta tb t : SL} {b : Nat} {Ma Mb M : List SL} {Qa Qb Q : List (List Int)} (h : RI w room f b ta Ma Qa tb Mb Qb wr) (hq : QB (wr.alloc (.cells #[.int .i64 0, .slice none 0 0] 27)).drew.heap.size w1 t M Q) (hb1 : Below (wr.alloc (.cells #[.int .i64 0, .slice none 0 0] 27)).drew.heap.size (wr.alloc (.cells #[.int .i64 0, .slice none 0 0] 27)).drew w1) (hb : Below wr.heap.size wr w1) :
    RI w room f b ta Ma Qa tb Mb Qb ((w1.setCell ⟨wr.heap.size, 0, none⟩ (.int .i64 0)).setCell ⟨wr.heap.size, 1, none⟩ (.slice t.o t.n t.c)) ∧ ((w1.setCell ⟨wr.heap.size, 0, none⟩ (.int .i64 0)).setCell ⟨wr.heap.size, 1, none⟩ (.slice t.o t.n t.c)).heap[wr.heap.size]? = some (.cells #[.int .i64 0, .slice t.o t.n t.c] 27 (0, 0)) ∧ QB (b + 2) ((w1.setCell ⟨wr.heap.size, 0, none⟩ (.int .i64 0)).setCell ⟨wr.heap.size, 1, none⟩ (.slice t.o t.n t.c)) t M Q := by
  have hl := lt_of_block h.cb
  have hz0 : (wr.alloc (.cells #[.int .i64 0, .slice none 0 0] 27)).heap[wr.heap.size]? = some (.cells #[.int .i64 0, .slice none 0 0] 27 (0, 0)) := heap_alloc_new _ _
  have hz1 : w1.heap[wr.heap.size]? = some (.cells #[.int .i64 0, .slice none 0 0] 27 (0, 0)) := (hb1.block wr.heap.size (by show wr.heap.size < (wr.alloc _).heap.size; rw [World.size_alloc]; omega)).trans hz0
  have hsz : (wr.alloc (.cells #[.int .i64 0, .slice none 0 0] 27)).drew.heap.size = wr.heap.size + 1 := by show (wr.alloc _).heap.size = _; rw [World.size_alloc]
  rw [hsz] at hq
  refine ⟨h.below (keepS hb _ _), ?_, ((hq.set (by omega) _).set (by omega) _).low (by omega)⟩
  rw [heap_setCell_same _ _ _ _ _ _ (heap_setCell_same _ _ _ _ _ _ hz1)]
  rfl
set_option maxHeartbeats 4000000 in
set_option maxRecDepth 100000 in
theorem rise5 (room : Int) (f s : SL) (F : List (Int × Bool)) (L : List SL) (l : List (List Int)) (w : World) (hf : f.n = F.length) (hF : FieldsAt w f.o F) (hs : s.n = L.length) (hR : QRow w s.o L) (hM : Msgs w L l)
    (hf8 : F.length ≤ 1048576) (hl8 : L.length ≤ 1048576) (hm8 : ∀ m ∈ l, m.length ≤ 1048576) :
    Calls Try.prog 5 #[.agg #[.int .i64 room, slV f], slV s] w fun e w' => e = .returned (.bool true) ∧ Below w.heap.size w w' := by
  have HF := Lib.hid hF
  have HR := Lib.hid hR
  have HM := Lib.hid hM
  have HM8 := Lib.hid hm8
  have HF8 := Lib.hid hf8
  obtain ⟨fo, fn, fc⟩ := f
  obtain ⟨so, sn, sc⟩ := s
  simp only at hf hs
  subst hf hs
  clear hF hR hM hm8 hf8
  unfold slV
  simp only at HF HR ⊢
  go_enter Try.func5, Try.ntmps5
  go_wp2_with fail
  refine (shown6 _).mono ?_
  rintro e W1 ⟨rfl, hb⟩
  have HS := Lib.hid (RI.start (f := ⟨fo, F.length, fc⟩) hb)
  have HB1 := Lib.hid hb
  clear hb
  obtain ⟨b, hb⟩ : ∃ b, W1.heap.size = b := ⟨_, rfl⟩
  go_wp2_with fail
  rw [hb] at HS
  obtain ⟨W2, hW2⟩ : ∃ W2, (W1.alloc (Obj.cells #[.int .i64 0, .slice none 0 0] 27)).alloc (Obj.cells #[.int .i64 0, .slice none 0 0] 27) = W2 := ⟨_, rfl⟩
  rw [hW2] at HS ⊢
  clear hW2 hb HB1
  go_loopw [8] (fun iv wr => ∃ (i : Nat) (T : SL) (M : List SL) (Q : List (List Int)), iv = .int .i64 i ∧ i ≤ L.length ∧ Q.length ≤ i ∧ Hid (GQ room F Q) ∧ Hid (RI w room ⟨fo, F.length, fc⟩ b T M Q ⟨none, 0, 0⟩ [] [] wr)) (fun i _ => L.length - (intOf i).toNat)
  case atStart => exact ⟨0, ⟨none, 0, 0⟩, [], [], rfl, by omega, by simp, Lib.hid (.nil _ _), HS⟩
  case round =>
    obtain ⟨i, T, M, Q, rfl, hi, hQi, HG, HI⟩ := hrel
    have hi0 : (0 : Int) ≤ i := by omega
    by_cases hlt : i < L.length
    · have hlti : (i : Int) < L.length := by omega
      have hlq : i < l.length := by have := HM.out.1; omega
      obtain ⟨⟨mo, mn, mc⟩, hm⟩ : ∃ s, L[i] = s := ⟨_, rfl⟩
      obtain ⟨m, hml⟩ : ∃ m, l[i] = m := ⟨_, rfl⟩
      have HMA : Hid (MsgAt w ⟨mo, mn, mc⟩ m ∧ m.length ≤ 1048576) := Lib.hid ⟨hm ▸ hml ▸ HM.out.2 i hlt hlq, hml ▸ HM8.out _ (List.getElem_mem hlq)⟩
      obtain ⟨g, off, rfl, hg, hc⟩ : ∃ g off, so = some ⟨g, off, none⟩ ∧ g < w.heap.size ∧ ∀ i (h : i < L.length), w.cell? ⟨g, off + i, none⟩ = some (slV L[i]) := by
        rcases HR.out with h | h
        · omega
        · exact h
      have hcm : w.cell? ⟨g, off + i, none⟩ = some (.slice mo mn mc) := (hc i hlt).trans (by rw [hm]; rfl)
      have HKS : Hid (∀ w', Below wr.heap.size wr w' → (Below wr.heap.size wr w' ∧ w'.cell? ⟨w.heap.size, 0, none⟩ = some (.int .i64 room) ∧ w'.cell? ⟨w.heap.size, 1, none⟩ = some (.slice fo F.length fc) ∧ w'.cell? ⟨b, 0, none⟩ = some (.int .i64 0) ∧ w'.cell? ⟨b, 1, none⟩ = some (.slice T.o T.n T.c) ∧ w'.cell? ⟨g, off + i, none⟩ = some (.slice mo mn mc))) := Lib.hid fun w' hb =>
        have h := (HI.out.below hb).cells
        ⟨hb, h.1, h.2.1, h.2.2.1, h.2.2.2.1, ((HI.out.below hb).bel.cell hg).trans hcm⟩
      have HP : Hid (∀ w', Below wr.heap.size wr w' → Calls Try.prog 8 #[.agg #[.int .i64 room, .slice fo F.length fc], .agg #[.int .i64 0, .slice T.o T.n T.c], .slice mo mn mc, .bool true] w' (PutP w' room 0 F Q m true)) := Lib.hid fun w' hb => by
        have h := HI.out.below hb
        have hQl := h.qa.q.len
        exact put_all room 0 ⟨fo, F.length, fc⟩ T ⟨mo, mn, mc⟩ F M Q m true w' rfl (HF.out.below h.bel) h.qa.q (HMA.out.1.below h.bel) (by have := HF8.out; omega) (by have := HMA.out.2; omega) (by omega) (fun q hq => by have := (HG.out.each q hq).1; have := HF8.out; omega)
      clear hcm hc hm hml hg
      by_cases hcode : putCode room F Q.length m = 0
      · have HC : Hid (∀ w', Below wr.heap.size wr w' → Calls Try.prog 8 #[.agg #[.int .i64 room, .slice fo F.length fc], .agg #[.int .i64 0, .slice T.o T.n T.c], .slice mo mn mc, .bool true] w' fun e w1 => ∃ t M, e = .returned (.tuple #[.agg #[.int .i64 0, .slice t.o t.n t.c], .int .i64 0]) ∧ Hid (QB w'.heap.size w1 t M (putQ F Q m true)) ∧ Below w'.heap.size w' w1) := Lib.hid fun w' hb => (HP.out w' hb).mono fun e w1 h => h.fine hcode
        have HG2 := Lib.hid (HG.out.put hcode)
        clear HP hcode
        go_wp2_with fail
        go_region_held3 (fun w' => Below wr.heap.size wr w' ∧ w'.cell? ⟨w.heap.size, 0, none⟩ = some (.int .i64 room) ∧ w'.cell? ⟨w.heap.size, 1, none⟩ = some (.slice fo F.length fc) ∧ w'.cell? ⟨b, 0, none⟩ = some (.int .i64 0) ∧ w'.cell? ⟨b, 1, none⟩ = some (.slice T.o T.n T.c) ∧ w'.cell? ⟨g, off + i, none⟩ = some (.slice mo mn mc))
          (first | assumption | with_reducible exact HKS.out _ (Below.refl _ _).drew | with_reducible exact HKS.out _ (by assumption) | with_reducible exact HKS.out _ (Below.alloc (And.left (by assumption)) (Below.size (And.left (by assumption))) _) | with_reducible exact HKS.out _ (Below.alloc (by assumption) (Below.size (by assumption)) _) | with_reducible exact HKS.out _ (keepS (by assumption) _ _))
          (first
            | (go_simp
               go_at_call 8
               refine (HC.out _ (And.left (by assumption))).mono ?_
               rintro e w1 ⟨t, M', rfl, HT, hb1⟩
               have hB2 : Below wr.heap.size wr w1 := keepB' (And.left (by assumption)) hb1
               first
                 | (have hq := again2 wr w1 hb1
                    have hfa := hq.1
                    have hfb := hq.2.1
                    have hca := hq.2.2.1
                    have hcb := hq.2.2.2
                    clear hq)
                 | skip))
        have HX := Lib.hid (ri_new1 HI.out (Below.refl _ _).drew HT.out hB2)
        generalize w1.alloc (Obj.cells #[.int .i64 0, .slice t.o t.n t.c] 27) = X at HX ⊢
        generalize w1.heap.size = k at HX ⊢
        rotate_left
        have HX := Lib.hid (ri_new2 HI.out HT.out hb1 hB2)
        clear hca hcb hfa hfb
        generalize (w1.setCell ⟨wr.heap.size, 0, none⟩ (.int .i64 0)).setCell ⟨wr.heap.size, 1, none⟩ (.slice t.o t.n t.c) = X at HX ⊢
        generalize wr.heap.size = k at HX ⊢
        all_goals (
          rename_i hh
          clear hh hb1 HT hB2
          have HSA := Lib.hid (HX.out.1.setA HX.out.2.2)
          have f1 := HX.out.1.frozen.1
          have f2 := HX.out.1.frozen.2.1
          have c1 := HX.out.1.cells.2.2.1
          have c2 := HX.out.1.cells.2.2.2.1
          have c3 : X.cell? ⟨k, 0, none⟩ = some (.int .i64 0) := (cell_of_row _ _ _ _ _ _ HX.out.2.1).trans rfl
          have c4 : X.cell? ⟨k, 1, none⟩ = some (.slice t.o t.n t.c) := (cell_of_row _ _ _ _ _ _ HX.out.2.1).trans rfl
          unfold slV at c2
          go_wp2_with fail
          go_roundw
          case rel => exact ⟨i + 1, t, M', putQ F Q m true, by go_num, by omega, by rw [putQ_len]; omega, HG2, HSA⟩
          case measure => simp [intOf]; omega)
      · obtain ⟨kc, hkc⟩ : ∃ kc, putCode room F Q.length m = kc := ⟨_, rfl⟩
        have HC : Hid (∀ w', Below wr.heap.size wr w' → Calls Try.prog 8 #[.agg #[.int .i64 room, .slice fo F.length fc], .agg #[.int .i64 0, .slice T.o T.n T.c], .slice mo mn mc, .bool true] w' fun e w1 => e = .returned (.tuple #[.agg #[.int .i64 0, .slice none 0 0], .int .i64 kc]) ∧ Below w'.heap.size w' w1) := Lib.hid fun w' hb => (HP.out w' hb).mono fun e w1 h => hkc ▸ h.bad hcode
        have hk0 : (kc == 0) = false := by rw [← hkc]; simpa using hcode
        clear HP hcode hkc
        go_wp2_with fail
        go_region_held3 (fun w' => Below wr.heap.size wr w' ∧ w'.cell? ⟨w.heap.size, 0, none⟩ = some (.int .i64 room) ∧ w'.cell? ⟨w.heap.size, 1, none⟩ = some (.slice fo F.length fc) ∧ w'.cell? ⟨b, 0, none⟩ = some (.int .i64 0) ∧ w'.cell? ⟨b, 1, none⟩ = some (.slice T.o T.n T.c) ∧ w'.cell? ⟨g, off + i, none⟩ = some (.slice mo mn mc))
          (first | assumption | with_reducible exact HKS.out _ (Below.refl _ _).drew | with_reducible exact HKS.out _ (by assumption) | with_reducible exact HKS.out _ (Below.alloc (And.left (by assumption)) (Below.size (And.left (by assumption))) _) | with_reducible exact HKS.out _ (Below.alloc (by assumption) (Below.size (by assumption)) _) | with_reducible exact HKS.out _ (keepS (by assumption) _ _))
          (first
            | (go_simp
               go_at_call 8
               refine (HC.out _ (And.left (by assumption))).mono ?_
               rintro e w1 ⟨rfl, hb1⟩
               have hB2 : Below wr.heap.size wr w1 := keepB' (And.left (by assumption)) hb1
               first
                 | (have hq := again2 wr w1 hb1
                    have hfa := hq.1
                    have hfb := hq.2.1
                    have hca := hq.2.2.1
                    have hcb := hq.2.2.2
                    clear hq)
                 | skip))
        have HX := Lib.hid (HI.out.below (hB2.alloc hB2.size (Obj.cells #[.int .i64 0, .slice none 0 0] 27)))
        rename_i hh
        clear hh hb1 hB2
        generalize w1.alloc (Obj.cells #[.int .i64 0, .slice none 0 0] 27) = X at HX ⊢
        generalize w1.heap.size = k at HX ⊢
        rotate_left
        have HX := Lib.hid (HI.out.below (keepS hB2 (.int .i64 0) (.slice none 0 0)))
        rename_i hh
        clear hca hcb hfa hfb hh hb1 hB2
        generalize (w1.setCell ⟨wr.heap.size, 0, none⟩ (.int .i64 0)).setCell ⟨wr.heap.size, 1, none⟩ (.slice none 0 0) = X at HX ⊢
        generalize wr.heap.size = k at HX ⊢
        all_goals (
          go_wp2_with fail
          go_roundw
          case rel => exact ⟨i + 1, T, M, Q, by go_num, by omega, by omega, HG, HX⟩
          case measure => simp [intOf]; omega)
    · have hlti : ¬ (i : Int) < L.length := by omega
      have hQL : Q.length ≤ 1048576 := by omega
      clear hi0 hlt hi hQi
      obtain ⟨To, Tn, Tc⟩ := T
      have hTn : Tn = Q.length := HI.out.qa.q.n.trans HI.out.qa.q.len
      subst hTn
      have HQL := Lib.hid (And.intro hQL HI.out.qa.q.len)
      have HQR := Lib.hid fun W' hb => (HI.out.qa.below (W' := W') hb).q
      have c2 := HI.out.cells.2.2.2.1
      unfold slV at c2
      simp only at c2
      have hw1 : IntKind.i64.wrap ((Q.length : Int) - 1) = (Q.length : Int) - 1 := by rw [IntKind.wrap_i64]; omega
      go_wp2_with fail
      clear c2 hw1 hlti
      go_loopw [11] (fun iv wr => ∃ (n : Nat) (j : Int) (T' : SL) (M' : List SL), iv = .int .i64 j ∧ j = (n : Int) - 1 ∧ n ≤ Q.length ∧ Hid (RI w room ⟨fo, F.length, fc⟩ b ⟨To, Q.length, Tc⟩ M Q T' M' (Q.drop n) wr)) (fun i _ => (intOf i + 1).toNat)
      case atStart => exact ⟨Q.length, _, ⟨none, 0, 0⟩, [], rfl, rfl, Nat.le_refl _, by rw [List.drop_length]; exact HI⟩
      case round =>
        obtain ⟨n, j, T, M', rfl, hj, hn, HJ⟩ := hrel
        by_cases h0 : n = 0
        · subst h0
          obtain rfl : j = -1 := by omega
          rw [List.drop_zero] at HJ
          clear hj hn
          have HB1 := Lib.hid HJ.out.bel
          have c2 : ∀ q, (wr.drewN q).cell? ⟨b, 1, none⟩ = some (.slice To Q.length Tc) := fun q => HJ.out.cells.2.2.2.1
          have HM1 := Lib.hid HJ.out.qa.q.msg
          have HR1 := Lib.hid HJ.out.qa.q.row
          have hqr : 1 ≤ Q.length → ∃ g off, To = some ⟨g, off, none⟩ ∧ ∀ q i (h : i < M.length), (wr.drewN q).cell? ⟨g, off + i, none⟩ = some (slV M[i]) := fun h1 => by
            rcases HR1.out with h | ⟨g, off, e, hg, hc⟩
            · have := HQL.out.2; omega
            · exact ⟨g, off, e, fun q i hi => hc i hi⟩
          have HQR := Lib.hid hqr
          clear hqr
          go_wp2_with fail
          go_loopw [14] (fun iv w2 => ∃ (i m : Nat), iv = .int .i64 i ∧ 1 ≤ i ∧ (i ≤ Q.length ∨ i = 1) ∧ w2 = wr.drewN m) (fun i _ => Q.length - (intOf i).toNat)
          case atStart => exact ⟨1, 0, rfl, by omega, by omega, rfl⟩
          case round =>
            obtain ⟨i, m, rfl, h1, hiq, rfl⟩ := hrel
            have hi0 : (0 : Int) ≤ i := by omega
            have b2 := c2 m
            by_cases hlt : i < Q.length
            · have hlti : (i : Int) < Q.length := by omega
              obtain ⟨g, off, rfl, hc⟩ := HQR.out (by omega)
              have hiM : i < M.length := by have := HQL.out.2; omega
              have hiM1 : i - 1 < M.length := by omega
              have hiQ1 : i - 1 < Q.length := by omega
              obtain ⟨⟨o1, k1, e1⟩, hm1⟩ : ∃ s, M[i] = s := ⟨_, rfl⟩
              obtain ⟨⟨o2, k2, e2⟩, hm2⟩ : ∃ s, M[i - 1] = s := ⟨_, rfl⟩
              have a1 : (wr.drewN m).cell? ⟨g, off + i, none⟩ = some (.slice o1 k1 e1) := (hc m i hiM).trans (by rw [hm1]; rfl)
              have a2 : (wr.drewN m).cell? ⟨g, off + (i - 1), none⟩ = some (.slice o2 k2 e2) := (hc m (i - 1) hiM1).trans (by rw [hm2]; rfl)
              have HNN : Hid (∀ q, Calls Try.prog 12 #[.slice o1 k1 e1, .slice o2 k2 e2] ((wr.drewN m).drewN q) fun e w' => e = .returned (.bool false) ∧ ∃ n, w' = ((wr.drewN m).drewN q).drewN n) := Lib.hid fun q => by
                have h := less12 ⟨o1, k1, e1⟩ ⟨o2, k2, e2⟩ Q[i] Q[i - 1] ((wr.drewN m).drewN q) (hm1 ▸ (HM1.out.2 i hiM hlt).below (bdrew (bdrew (Below.refl _ _) m) q)) (hm2 ▸ (HM1.out.2 (i - 1) hiM1 hiQ1).below (bdrew (bdrew (Below.refl _ _) m) q)) (by have := (HG.out.each _ (List.getElem_mem hlt)).1; have := HF8.out; omega) (by have := (HG.out.each _ (List.getElem_mem hiQ1)).1; have := HF8.out; omega)
                rw [HG.out.step hlt (by omega)] at h
                exact h
              have hw3 : IntKind.i64.wrap ((i : Int) - 1) = (i : Int) - 1 := by rw [IntKind.wrap_i64]; omega
              have hw4 : (0 : Int) ≤ (i : Int) - 1 := by omega
              have hw5 : (i : Int) - 1 < Q.length := by omega
              have hw6 : ((i : Int) - 1).toNat = i - 1 := by omega
              clear hc hm1 hm2
              obtain ⟨X, hX⟩ : ∃ X, wr.drewN m = X := ⟨_, rfl⟩
              have HX := Lib.hid hX
              rw [hX] at HNN b2 a1 a2 ⊢
              clear hX
              go_wp2_with fail
              go_quiet ((go_at_call 12; exact Calls.quiet_of (HNN.out _)))
              simp only [Exit.then]
              go_wp2_with fail
              go_roundw
              case rel => exact ⟨i + 1, m + nq, by go_num, by omega, by omega, by rw [drewN_add, HX.out]⟩
              case measure => simp [intOf]; omega
            · have hlti : ¬ (i : Int) < Q.length := by omega
              have HJ2 := Lib.hid (HJ.out.below (bdrew (Below.refl _ _) m))
              obtain ⟨X, hX⟩ : ∃ X, wr.drewN m = X := ⟨_, rfl⟩
              rw [hX] at HJ2 b2 ⊢
              clear hX c2
              have b1 := HJ2.out.cells.2.2.1
              have b3 := HJ2.out.cells.2.2.2.2.1
              have b4 := HJ2.out.cells.2.2.2.2.2
              obtain ⟨T0, Tn, Tc'⟩ := T
              unfold slV at b4
              simp only at b4
              go_wp2_with fail
              refine (same10 0 0 ⟨To, Q.length, Tc⟩ ⟨T0, Tn, Tc'⟩ M M' Q Q X HJ2.out.qa.q.n HJ2.out.qb.q.n HJ2.out.qa.q.row HJ2.out.qb.q.row HJ2.out.qa.q.msg HJ2.out.qb.q.msg (by have := HQL.out; omega) (by have := HJ2.out.qb.q.len; have := HQL.out; omega) (fun q hq => by have := (HG.out.each q hq).1; have := HF8.out; omega) (fun q hq => by have := (HG.out.each q hq).1; have := HF8.out; omega)).mono ?_
              rintro e w3 ⟨rfl, hb3⟩
              have HB3 := Lib.hid (HJ2.out.bel.trans (hb3.mono HJ2.out.bel.size))
              simp only [and_self, decide_true]
              clear hb3 b1 b2 b3 b4
              go_wp2_with fail
              refine (type16 8 false _).mono ?_
              rintro e w4 ⟨rfl, hb4⟩
              rw [show tyB 8 false = true from rfl]
              have HB4 := Lib.hid (HB3.out.trans (hb4.mono HB3.out.size))
              clear hb4
              go_wp2_with fail
              go_ret
              exact ⟨rfl, HB4.out⟩
        · obtain ⟨k, rfl⟩ : ∃ k, n = k + 1 := ⟨n - 1, by omega⟩
          obtain rfl : j = (k : Int) := by omega
          have hk0 : (0 : Int) ≤ k := by omega
          have hkq : k < Q.length := by omega
          have hkl : (k : Int) < Q.length := by omega
          have hkM : k < M.length := by have := HQL.out.2; omega
          clear h0 hj hn
          have HBK := Lib.hid (HG.out.back hkq)
          obtain ⟨⟨mo, mn, mc⟩, hm⟩ : ∃ s, M[k] = s := ⟨_, rfl⟩
          obtain ⟨m, hml⟩ : ∃ m, Q[k] = m := ⟨_, rfl⟩
          rw [hml] at HBK
          have HMA : Hid (∀ w', Below wr.heap.size wr w' → MsgAt w' ⟨mo, mn, mc⟩ m) := Lib.hid fun w' hb => hm ▸ hml ▸ (HJ.out.qa.below hb).q.msg.2 k hkM hkq
          have HML : Hid (m.length = F.length) := Lib.hid (hml ▸ (HG.out.each _ (List.getElem_mem hkq)).1)
          obtain ⟨g, off, hTo, hg, hc⟩ : ∃ g off, To = some ⟨g, off, none⟩ ∧ g < wr.heap.size ∧ ∀ i (h : i < M.length), wr.cell? ⟨g, off + i, none⟩ = some (slV M[i]) := by
            rcases HJ.out.qa.q.row with h | h
            · omega
            · exact h
          have hcm : wr.cell? ⟨g, off + k, none⟩ = some (.slice mo mn mc) := (hc k hkM).trans (by rw [hm]; rfl)
          have HKS : Hid (∀ w', Below wr.heap.size wr w' → (Below wr.heap.size wr w' ∧ w'.cell? ⟨w.heap.size, 0, none⟩ = some (.int .i64 room) ∧ w'.cell? ⟨w.heap.size, 1, none⟩ = some (.slice fo F.length fc) ∧ w'.cell? ⟨b, 1, none⟩ = some (.slice (some ⟨g, off, none⟩) Q.length Tc) ∧ w'.cell? ⟨b + 1, 0, none⟩ = some (.int .i64 0) ∧ w'.cell? ⟨b + 1, 1, none⟩ = some (.slice T.o T.n T.c) ∧ w'.cell? ⟨g, off + k, none⟩ = some (.slice mo mn mc))) := Lib.hid fun w' hb =>
            have h := (HJ.out.below hb).cells
            ⟨hb, h.1, h.2.1, by rw [← hTo]; exact h.2.2.2.1, h.2.2.2.2.1, h.2.2.2.2.2, (hb.cell hg).trans hcm⟩
          have HC : Hid (∀ w', Below wr.heap.size wr w' → Calls Try.prog 8 #[.agg #[.int .i64 room, .slice fo F.length fc], .agg #[.int .i64 0, .slice T.o T.n T.c], .slice mo mn mc, .bool true] w' fun e w1 => ∃ t M, e = .returned (.tuple #[.agg #[.int .i64 0, .slice t.o t.n t.c], .int .i64 0]) ∧ Hid (QB w'.heap.size w1 t M (Q.drop k)) ∧ Below w'.heap.size w' w1) := Lib.hid fun w' hb => by
            have h := HJ.out.below hb
            have hQl := h.qb.q.len
            rw [List.length_drop] at hQl
            rw [← HBK.out.2]
            exact (put_all room 0 ⟨fo, F.length, fc⟩ T ⟨mo, mn, mc⟩ F M' (Q.drop (k + 1)) m true w' rfl (HF.out.below h.bel) h.qb.q (HMA.out _ hb) (by have := HF8.out; omega) (by have := HML.out; have := HF8.out; omega) (by have := HQL.out; omega) (fun q hq => by have := (HG.out.each q (List.mem_of_mem_drop hq)).1; have := HF8.out; omega)).mono fun e w1 h => h.fine HBK.out.1
          clear hcm hc hm hml hTo hg hkM
          have hw2 : IntKind.i64.wrap ((k : Int) - 1) = (k : Int) - 1 := by rw [IntKind.wrap_i64]; omega
          go_wp2_with fail
          go_region_held3 (fun w' => Below wr.heap.size wr w' ∧ w'.cell? ⟨w.heap.size, 0, none⟩ = some (.int .i64 room) ∧ w'.cell? ⟨w.heap.size, 1, none⟩ = some (.slice fo F.length fc) ∧ w'.cell? ⟨b, 1, none⟩ = some (.slice (some ⟨g, off, none⟩) Q.length Tc) ∧ w'.cell? ⟨b + 1, 0, none⟩ = some (.int .i64 0) ∧ w'.cell? ⟨b + 1, 1, none⟩ = some (.slice T.o T.n T.c) ∧ w'.cell? ⟨g, off + k, none⟩ = some (.slice mo mn mc))
            (first | assumption | with_reducible exact HKS.out _ (Below.refl _ _).drew | with_reducible exact HKS.out _ (by assumption) | with_reducible exact HKS.out _ (Below.alloc (And.left (by assumption)) (Below.size (And.left (by assumption))) _) | with_reducible exact HKS.out _ (Below.alloc (by assumption) (Below.size (by assumption)) _) | with_reducible exact HKS.out _ (keepS (by assumption) _ _))
            (first
              | (go_simp
                 go_at_call 8
                 refine (HC.out _ (And.left (by assumption))).mono ?_
                 rintro e w1 ⟨t, M'', rfl, HT, hb1⟩
                 have hB2 : Below wr.heap.size wr w1 := keepB' (And.left (by assumption)) hb1
                 first
                   | (have hq := again2 wr w1 hb1
                      have hfa := hq.1
                      have hfb := hq.2.1
                      have hca := hq.2.2.1
                      have hcb := hq.2.2.2
                      clear hq)
                   | skip))
          have HX := Lib.hid (ri_new1 HJ.out (Below.refl _ _).drew HT.out hB2)
          generalize w1.alloc (Obj.cells #[.int .i64 0, .slice t.o t.n t.c] 27) = X at HX ⊢
          generalize w1.heap.size = kk at HX ⊢
          rotate_left
          have HX := Lib.hid (ri_new2 HJ.out HT.out hb1 hB2)
          clear hca hcb hfa hfb
          generalize (w1.setCell ⟨wr.heap.size, 0, none⟩ (.int .i64 0)).setCell ⟨wr.heap.size, 1, none⟩ (.slice t.o t.n t.c) = X at HX ⊢
          generalize wr.heap.size = kk at HX ⊢
          all_goals (
            rename_i hh
            clear hh hb1 HT hB2
            have HSB := Lib.hid (HX.out.1.setB HX.out.2.2)
            have f1 := HX.out.1.frozen.2.2.1
            have f2 := HX.out.1.frozen.2.2.2
            have c1 := HX.out.1.cells.2.2.2.2.1
            have c2 := HX.out.1.cells.2.2.2.2.2
            have c3 : X.cell? ⟨kk, 0, none⟩ = some (.int .i64 0) := (cell_of_row _ _ _ _ _ _ HX.out.2.1).trans rfl
            have c4 : X.cell? ⟨kk, 1, none⟩ = some (.slice t.o t.n t.c) := (cell_of_row _ _ _ _ _ _ HX.out.2.1).trans rfl
            unfold slV at c2
            go_wp2_with fail
            go_roundw
            case rel => exact ⟨k, _, t, M'', by go_num, by omega, by omega, HSB⟩
            case measure => simp [intOf]; try omega)
end Go.Proofs.Ytfcoljioojidnaa
