/- What is put is put where the document says. -/
import Derived.Test.YtfcoljioojidnaaRPut
import Derived.Test.YtfcoljioojidnaaSpoil
namespace Go.Proofs.Ytfcoljioojidnaa
open Go.ChangeShapes Go.WideShapes Go.ChangeAt Go.RowKit
set_option linter.unusedVariables false
set_option linter.unusedSimpArgs false

theorem rput_all (room r : Int) (f s t : SL) (F : List (Int × Bool)) (L : List SL) (Q : List (List Int)) (m : List Int) (srt : Bool) (w : World) (hf : f.n = F.length) (hF : FieldsAt w f.o F) (hq : QI w s L Q) (ht : MsgAt w t m)
    (hf8 : F.length * 8 ≤ 140737488355328) (hm8 : m.length * 8 ≤ 140737488355328) (hbig : (L.length + 1) * 24 ≤ 140737488355328) (hbq : ∀ q ∈ Q, q.length * 8 ≤ 140737488355328) :
    Calls Try.prog 9 #[.agg #[.int .i64 room, slV f], chV r s, slV t, .bool srt] w (RPutP w room r F Q m srt) := by
  by_cases he : m.length = F.length
  · exact rput_any room r f s t F L Q m srt w hf hF hq.n hq.row hq.msg ht he hm8 hbig hbq
  · refine (rput_short room r f s t srt w (by rw [ht.1, hf]; exact he) (by rw [ht.1]; omega) (by rw [hf]; omega)).mono ?_
    rintro e w' ⟨rfl, hb⟩
    have hc : putCode room F Q.length m = 42 := by unfold putCode; rw [if_pos he]
    exact ⟨(fun _ => by rw [hc]), (fun h => by rw [hc] at h; cases h), hb⟩
def pR (c r : Int) : Int := if c = 0 then r else 0
def pQ (c : Int) (Q : List (List Int)) : List (List Int) := if c = 0 then Q else []
theorem PutP.whole {w w' : World} {room r : Int} {F : List (Int × Bool)} {Q : List (List Int)} {m : List Int} {srt : Bool} {e : Ending} (h : PutP w room r F Q m srt e w') :
    ∃ t M, e = .returned (.tuple #[chV (pR (putCode room F Q.length m) r) t, .int .i64 (putCode room F Q.length m)]) ∧ Hid (QI w' t M (pQ (putCode room F Q.length m) (putQ F Q m srt)) ∧ SP w.heap.size t M 0 w' ∧ Below w.heap.size w w') := by
  by_cases hc : putCode room F Q.length m = 0
  · obtain ⟨t, M, he, hn, hM, ho, hw⟩ := h.2.1 hc
    have hq := putQ_len F Q m srt
    refine ⟨t, M, ?_, Lib.hid ⟨?_, ?_, h.2.2⟩⟩
    · rw [he, hc]
      rfl
    · unfold pQ
      rw [if_pos hc]
      exact .ofOwns (hM.trans hq.symm) (hq ▸ ho) (hq ▸ hw)
    · exact SP.ofOwns (hM.trans hq.symm) (hq ▸ ho) (hq ▸ hw)
  · refine ⟨⟨none, 0, 0⟩, [], ?_, Lib.hid ⟨?_, ?_, h.2.2⟩⟩
    · rw [h.1 hc]
      unfold pR
      rw [if_neg hc]
    · unfold pQ
      rw [if_neg hc]
      exact .nil _
    · exact ⟨⟨[], World.ownsRow_nil _ _ _ _, fun j h => by simp at h⟩, fun j h => by simp at h⟩
theorem RPutP.whole {w w' : World} {room r : Int} {F : List (Int × Bool)} {Q : List (List Int)} {m : List Int} {srt : Bool} {e : Ending} (h : RPutP w room r F Q m srt e w') :
    ∃ t M, e = .returned (.tuple #[chV (pR (putCode room F Q.length m) r) t, .int .i64 (putCode room F Q.length m)]) ∧ Hid (QI w' t M (pQ (putCode room F Q.length m) (putQ F Q m srt)) ∧ Below w.heap.size w w') := by
  by_cases hc : putCode room F Q.length m = 0
  · obtain ⟨t, M, he, hq⟩ := h.2.1 hc
    refine ⟨t, M, ?_, Lib.hid ⟨?_, h.2.2⟩⟩
    · rw [he, hc]
      rfl
    · unfold pQ
      rw [if_pos hc]
      exact hq
  · refine ⟨⟨none, 0, 0⟩, [], ?_, Lib.hid ⟨?_, h.2.2⟩⟩
    · rw [h.1 hc]
      unfold pR
      rw [if_neg hc]
    · unfold pQ
      rw [if_neg hc]
      exact .nil _
theorem pQ_big {c : Int} {F : List (Int × Bool)} {Q : List (List Int)} {m : List Int} {srt : Bool} (hm : m.length * 8 ≤ 140737488355328) (hbq : ∀ q ∈ Q, q.length * 8 ≤ 140737488355328) : ∀ q ∈ pQ c (putQ F Q m srt), q.length ≤ 9223372036854775806 := by
  unfold pQ
  split
  · intro q hq
    unfold putQ at hq
    rw [List.mem_append, List.mem_append] at hq
    rcases hq with (hq | hq) | hq
    · have := hbq q (List.mem_of_mem_take hq)
      omega
    · simp only [List.mem_singleton] at hq
      subst hq
      have : (fitted F m).length ≤ m.length := by unfold fitted; rw [List.length_zipWith]; omega
      omega
    · have := hbq q (List.mem_of_mem_drop hq)
      omega
  · intro q hq
    cases hq
theorem pQ_len {c : Int} {F : List (Int × Bool)} {Q : List (List Int)} {m : List Int} {srt : Bool} : (pQ c (putQ F Q m srt)).length ≤ Q.length + 1 := by
  unfold pQ
  split
  · rw [putQ_len]
    exact Nat.le_refl _
  · exact Nat.zero_le _

/-- What the law keeps. -/
structure LV (w : World) (room r : Int) (f s : SL) (b : Nat) (t : SL) (M : List SL) (Q : List (List Int)) (wr : World) : Prop where
  shp : wr.heap[w.heap.size]? = some (.cells #[.int .i64 room, slV f] 24 (0, 0))
  chn : wr.heap[w.heap.size + 1]? = some (.cells #[.int .i64 r, slV s] 27 (0, 0))
  was : wr.heap[b]? = some (.cells #[.int .i64 r, slV t] 27 (0, 0))
  q : QI wr t M Q
  bel : Below w.heap.size w wr
theorem LV.below {w wr w1 : World} {room r : Int} {f s t : SL} {b : Nat} {M : List SL} {Q : List (List Int)} (h : LV w room r f s b t M Q wr) (hb : Below wr.heap.size wr w1) : LV w room r f s b t M Q w1 :=
  ⟨(hb.block _ (lt_of_block h.shp)).trans h.shp, (hb.block _ (lt_of_block h.chn)).trans h.chn, (hb.block _ (lt_of_block h.was)).trans h.was, h.q.below hb, h.bel.trans (hb.mono h.bel.size)⟩

set_option maxHeartbeats 4000000 in
set_option maxRecDepth 100000 in
theorem law3 (room r : Int) (f s t : SL) (F : List (Int × Bool)) (L : List SL) (Q : List (List Int)) (m : List Int) (w : World) (hf : f.n = F.length) (hF : FieldsAt w f.o F) (hq : QI w s L Q) (ht : MsgAt w t m)
    (hf8 : F.length * 8 ≤ 140737488355328) (hm8 : m.length * 8 ≤ 140737488355328) (hbig : (L.length + 1) * 24 ≤ 140737488355328) (hbq : ∀ q ∈ Q, q.length * 8 ≤ 140737488355328) :
    Calls Try.prog 3 #[.agg #[.int .i64 room, slV f], chV r s, slV t] w fun e w' => e = .returned (.bool true) ∧ Below w.heap.size w w' := by
  have HF := Lib.hid (And.intro hf hF)
  have HQ := Lib.hid hq
  have HT := Lib.hid ht
  have HBQ := Lib.hid hbq
  have HLQ := Lib.hid hq.len
  have h0 : LV w room r f s (w.heap.size + 1) s L Q ((w.alloc (Obj.cells #[.int .i64 room, slV f] 24)).alloc (Obj.cells #[.int .i64 r, slV s] 27)) := by
    have h1 := heap_alloc_new w (Obj.cells #[.int .i64 room, slV f] 24)
    have h2 := heap_alloc_new (w.alloc (Obj.cells #[.int .i64 room, slV f] 24)) (Obj.cells #[.int .i64 r, slV s] 27)
    have hb : Below w.heap.size w ((w.alloc (Obj.cells #[.int .i64 room, slV f] 24)).alloc (Obj.cells #[.int .i64 r, slV s] 27)) := ((Below.refl _ w).alloc (Nat.le_refl _) _).alloc (by simp) _
    rw [show (w.alloc (Obj.cells #[.int .i64 room, slV f] 24)).heap.size = w.heap.size + 1 by simp] at h2
    refine ⟨?_, h2, h2, hq.below hb, hb⟩
    rw [Below.heap_alloc _ _ _ (by simp)]
    exact h1
  have H0 := Lib.hid h0
  obtain ⟨fo, fn, fc⟩ := f
  obtain ⟨so, sn, sc⟩ := s
  obtain ⟨t0, tn, tc⟩ := t
  simp only at hf
  have hsn : sn = L.length := hq.n
  have htn : tn = m.length := ht.1
  subst hf hsn htn
  clear hF hq ht hbq h0
  unfold chV slV
  unfold slV at H0
  simp only at HF HT H0 ⊢
  go_enter Try.func3, Try.ntmps3
  go_wp2_with fail
  generalize (w.alloc (Obj.cells #[.int .i64 room, .slice fo F.length fc] 24)).alloc (Obj.cells #[.int .i64 r, .slice so L.length sc] 27) = W0 at H0 ⊢
  refine (shown6 W0).mono ?_
  rintro e w1 ⟨rfl, hb1⟩
  have H1 := Lib.hid (H0.out.below hb1)
  clear hb1 H0
  have p1 : w1.cell? ⟨w.heap.size + 1, 0, none⟩ = some (.int .i64 r) := (cell_of_row _ _ _ _ _ _ H1.out.chn).trans rfl
  have p2 : w1.cell? ⟨w.heap.size + 1, 1, none⟩ = some (.slice so L.length sc) := (cell_of_row _ _ _ _ _ _ H1.out.chn).trans rfl
  go_wp2_with fail
  refine (lcopied7 r ⟨so, L.length, sc⟩ L Q w1 H1.out.q (by omega) HBQ.out).mono ?_
  rintro e w2 ⟨⟨co, cn, cc⟩, M, rfl, hq2, hb2⟩
  have hcn : cn = M.length := hq2.n
  subst hcn
  have H2 : Hid (LV w room r ⟨fo, F.length, fc⟩ ⟨so, L.length, sc⟩ w2.heap.size ⟨co, M.length, cc⟩ M Q (w2.alloc (Obj.cells #[.int .i64 r, .slice co M.length cc] 27))) := Lib.hid (by
    have h := (H1.out.below hb2).below ((Below.refl _ _).alloc (Nat.le_refl _) (Obj.cells #[.int .i64 r, .slice co M.length cc] 27))
    exact ⟨h.shp, h.chn, heap_alloc_new _ _, hq2.below ((Below.refl _ _).alloc (Nat.le_refl _) _), h.bel⟩)
  have HML := Lib.hid hq2.len
  clear hq2 hb2 H1 p1 p2
  simp only [chV, slV]
  go_wp2_with fail
  generalize w2.heap.size = b at H2 ⊢
  generalize w2.alloc (Obj.cells #[.int .i64 r, .slice co M.length cc] 27) = W2 at H2 ⊢
  go_loopw [9] (fun kv wr => ∃ (k : Nat), kv = .int .i64 k ∧ k ≤ 2 ∧ Hid (LV w room r ⟨fo, F.length, fc⟩ ⟨so, L.length, sc⟩ b ⟨co, M.length, cc⟩ M Q wr)) (fun k _ => 2 - (intOf k).toNat)
  case atStart => exact ⟨0, rfl, by omega, H2⟩
  case round =>
    obtain ⟨k, rfl, hk, HI⟩ := hrel
    have hk0 : (0 : Int) ≤ k := by omega
    have a1 : wr.cell? ⟨w.heap.size, 0, none⟩ = some (.int .i64 room) := (cell_of_row _ _ _ _ _ _ HI.out.shp).trans rfl
    have a2 : wr.cell? ⟨w.heap.size, 1, none⟩ = some (.slice fo F.length fc) := (cell_of_row _ _ _ _ _ _ HI.out.shp).trans rfl
    have a3 : wr.cell? ⟨w.heap.size + 1, 0, none⟩ = some (.int .i64 r) := (cell_of_row _ _ _ _ _ _ HI.out.chn).trans rfl
    have a4 : wr.cell? ⟨w.heap.size + 1, 1, none⟩ = some (.slice so L.length sc) := (cell_of_row _ _ _ _ _ _ HI.out.chn).trans rfl
    by_cases hlt : k < 2
    · have hlti : (k : Int) < 2 := by omega
      obtain ⟨srt, hsrt⟩ : ∃ b, ((k : Int) == 1) = b := ⟨_, rfl⟩
      have HCC := Lib.hid (pQ_big (c := putCode room F Q.length m) (F := F) (srt := srt) hm8 HBQ.out)
      have HCL := Lib.hid (pQ_len (c := putCode room F Q.length m) (F := F) (Q := Q) (m := m) (srt := srt))
      have HBS : Hid (w.heap.size + 1 < wr.heap.size ∧ b < wr.heap.size) := Lib.hid ⟨lt_of_block HI.out.chn, lt_of_block HI.out.was⟩
      go_wp2_with fail
      refine (put_all room r ⟨fo, F.length, fc⟩ ⟨so, L.length, sc⟩ ⟨t0, m.length, tc⟩ F L Q m srt wr rfl (HF.out.2.below HI.out.bel) (HQ.out.below HI.out.bel) (HT.out.below HI.out.bel) hf8 hm8 hbig HBQ.out).mono ?_
      rintro e w3 hP
      obtain ⟨⟨ao, an, ac⟩, Ma, rfl, HP⟩ := hP.whole
      clear hP
      have han : an = Ma.length := HP.out.1.n
      subst han
      have HI3 := Lib.hid (HI.out.below HP.out.2.2)
      clear a1 a2 a3 a4
      obtain ⟨cd, hcd⟩ : ∃ c, putCode room F Q.length m = c := ⟨_, rfl⟩
      rw [hcd] at HP HCC HCL ⊢
      have HCD := Lib.hid hcd
      clear hcd
      simp only [chV, slV]
      have a1 : ∀ o, (w3.alloc o).cell? ⟨w.heap.size, 0, none⟩ = some (.int .i64 room) := fun o => Lib.cell?_alloc_some _ ((cell_of_row _ _ _ _ _ _ HI3.out.shp).trans rfl)
      have a2 : ∀ o, (w3.alloc o).cell? ⟨w.heap.size, 1, none⟩ = some (.slice fo F.length fc) := fun o => Lib.cell?_alloc_some _ ((cell_of_row _ _ _ _ _ _ HI3.out.shp).trans rfl)
      have a3 : ∀ o, (w3.alloc o).cell? ⟨w.heap.size + 1, 0, none⟩ = some (.int .i64 r) := fun o => Lib.cell?_alloc_some _ ((cell_of_row _ _ _ _ _ _ HI3.out.chn).trans rfl)
      have a4 : ∀ o, (w3.alloc o).cell? ⟨w.heap.size + 1, 1, none⟩ = some (.slice so L.length sc) := fun o => Lib.cell?_alloc_some _ ((cell_of_row _ _ _ _ _ _ HI3.out.chn).trans rfl)
      go_wp2_with fail
      clear a1 a2 a3 a4
      have hA := heap_alloc_new w3 (Obj.cells #[.int .i64 (pR cd r), .slice ao Ma.length ac] 27)
      have hbA : Below w3.heap.size w3 (w3.alloc (Obj.cells #[.int .i64 (pR cd r), .slice ao Ma.length ac] 27)) := (Below.refl _ _).alloc (Nat.le_refl _) _
      have HI4 := Lib.hid (HI3.out.below hbA)
      have HP4 : Hid (QI (w3.alloc (Obj.cells #[.int .i64 (pR cd r), .slice ao Ma.length ac] 27)) ⟨ao, Ma.length, ac⟩ Ma (pQ cd (putQ F Q m srt)) ∧ SP wr.heap.size ⟨ao, Ma.length, ac⟩ Ma 0 (w3.alloc (Obj.cells #[.int .i64 (pR cd r), .slice ao Ma.length ac] 27)) ∧ Below wr.heap.size wr (w3.alloc (Obj.cells #[.int .i64 (pR cd r), .slice ao Ma.length ac] 27))) := Lib.hid ⟨HP.out.1.below hbA, HP.out.2.1.below hbA, HP.out.2.2.trans (hbA.mono HP.out.2.2.size)⟩
      clear HP HI3 hbA
      generalize w3.heap.size = ba at hA ⊢
      generalize w3.alloc (Obj.cells #[.int .i64 (pR cd r), .slice ao Ma.length ac] 27) = W4 at hA HI4 HP4 ⊢
      have HA := Lib.hid hA
      clear hA
      refine (rput_all room r ⟨fo, F.length, fc⟩ ⟨so, L.length, sc⟩ ⟨t0, m.length, tc⟩ F L Q m srt W4 rfl (HF.out.2.below HI4.out.bel) (HQ.out.below HI4.out.bel) (HT.out.below HI4.out.bel) hf8 hm8 hbig HBQ.out).mono ?_
      rintro e w5 hP
      obtain ⟨⟨bo, bn, bc⟩, Mb, rfl, HR⟩ := hP.whole
      clear hP
      have hbn : bn = Mb.length := HR.out.1.n
      subst hbn
      rw [HCD.out] at HR ⊢
      simp only [chV, slV]
      have hA5 := (HR.out.2.block _ (lt_of_block HA.out)).trans HA.out
      have hbB : Below w5.heap.size w5 (w5.alloc (Obj.cells #[.int .i64 (pR cd r), .slice bo Mb.length bc] 27)) := (Below.refl _ _).alloc (Nat.le_refl _) _
      have hA6 := (hbB.block _ (lt_of_block hA5)).trans hA5
      have hba5 : ba < w5.heap.size := lt_of_block hA5
      have a1 : ∀ o, (w5.alloc o).cell? ⟨ba, 0, none⟩ = some (.int .i64 (pR cd r)) := fun o => Lib.cell?_alloc_some _ ((cell_of_row _ _ _ _ _ _ hA5).trans rfl)
      have a2 : ∀ o, (w5.alloc o).cell? ⟨ba, 1, none⟩ = some (.slice ao Ma.length ac) := fun o => Lib.cell?_alloc_some _ ((cell_of_row _ _ _ _ _ _ hA5).trans rfl)
      have HI6 := Lib.hid ((HI4.out.below HR.out.2).below hbB)
      have hb6 : Below W4.heap.size W4 (w5.alloc (Obj.cells #[.int .i64 (pR cd r), .slice bo Mb.length bc] 27)) := HR.out.2.trans (hbB.mono HR.out.2.size)
      have HP6 : Hid (QI (w5.alloc (Obj.cells #[.int .i64 (pR cd r), .slice bo Mb.length bc] 27)) ⟨ao, Ma.length, ac⟩ Ma (pQ cd (putQ F Q m srt)) ∧ SP wr.heap.size ⟨ao, Ma.length, ac⟩ Ma 0 (w5.alloc (Obj.cells #[.int .i64 (pR cd r), .slice bo Mb.length bc] 27)) ∧ Below wr.heap.size wr (w5.alloc (Obj.cells #[.int .i64 (pR cd r), .slice bo Mb.length bc] 27)) ∧ QI (w5.alloc (Obj.cells #[.int .i64 (pR cd r), .slice bo Mb.length bc] 27)) ⟨bo, Mb.length, bc⟩ Mb (pQ cd (putQ F Q m srt))) :=
        Lib.hid ⟨HP4.out.1.below hb6, HP4.out.2.1.below hb6, HP4.out.2.2.trans (hb6.mono HP4.out.2.2.size), HR.out.1.below hbB⟩
      have HA6 := Lib.hid hA6
      clear HR HI4 HP4 hb6 hbB hA5 hA6
      go_wp2_with fail
      clear a1 a2 hba5
      generalize w5.alloc (Obj.cells #[.int .i64 (pR cd r), .slice bo Mb.length bc] 27) = W6 at HI6 HP6 HA6 ⊢
      have HLA : Hid (Ma.length ≤ 9223372036854775806 ∧ Mb.length ≤ 9223372036854775806) := Lib.hid (by
        have h1 := HP6.out.1.len
        have h2 := HP6.out.2.2.2.len
        have h3 := HCL.out
        have h4 := HLQ.out
        omega)
      refine (same10 (pR cd r) (pR cd r) ⟨ao, Ma.length, ac⟩ ⟨bo, Mb.length, bc⟩ Ma Mb (pQ cd (putQ F Q m srt)) (pQ cd (putQ F Q m srt)) W6 rfl rfl HP6.out.1.row HP6.out.2.2.2.row HP6.out.1.msg HP6.out.2.2.2.msg HLA.out.1 HLA.out.2 HCC.out HCC.out).mono ?_
      rintro e w7 ⟨rfl, hb7⟩
      rw [show decide (pR cd r = pR cd r ∧ pQ cd (putQ F Q m srt) = pQ cd (putQ F Q m srt)) = true by simp]
      have hcc : (cd != cd) = false := by simp
      have HI7 := Lib.hid (HI6.out.below hb7)
      have HP7 : Hid (QI w7 ⟨ao, Ma.length, ac⟩ Ma (pQ cd (putQ F Q m srt)) ∧ SP wr.heap.size ⟨ao, Ma.length, ac⟩ Ma 0 w7 ∧ Below wr.heap.size wr w7) := Lib.hid ⟨HP6.out.1.below hb7, HP6.out.2.1.below hb7, HP6.out.2.2.1.trans (hb7.mono HP6.out.2.2.1.size)⟩
      have hA7 := (hb7.block _ (lt_of_block HA6.out)).trans HA6.out
      have a1 : w7.cell? ⟨ba, 0, none⟩ = some (.int .i64 (pR cd r)) := (cell_of_row _ _ _ _ _ _ hA7).trans rfl
      have a2 : w7.cell? ⟨ba, 1, none⟩ = some (.slice ao Ma.length ac) := (cell_of_row _ _ _ _ _ _ hA7).trans rfl
      clear hb7 hA7 HI6 HP6 HA6
      go_wp2_with fail
      clear a1 a2 hcc
      refine (spoil11 (pR cd r) ⟨ao, Ma.length, ac⟩ Ma wr.heap.size w7 HP7.out.2.1 HP7.out.2.2.size HLA.out.1 (by
        intro s hs
        obtain ⟨j, hj, rfl⟩ := List.mem_iff_getElem.1 hs
        have hl := HP7.out.1.len
        have h1 := (HP7.out.1.msg.2 j hj (by omega)).1
        rw [h1]
        exact HCC.out _ (List.getElem_mem _))).mono ?_
      rintro e w8 ⟨rfl, hb8⟩
      have HB8 : Hid (Below wr.heap.size wr w8) := Lib.hid (HP7.out.2.2.trans hb8)
      have HI8 := Lib.hid (HI.out.below HB8.out)
      have a1 : w8.cell? ⟨w.heap.size + 1, 0, none⟩ = some (.int .i64 r) := (cell_of_row _ _ _ _ _ _ HI8.out.chn).trans rfl
      have a2 : w8.cell? ⟨w.heap.size + 1, 1, none⟩ = some (.slice so L.length sc) := (cell_of_row _ _ _ _ _ _ HI8.out.chn).trans rfl
      have a3 : w8.cell? ⟨b, 0, none⟩ = some (.int .i64 r) := (cell_of_row _ _ _ _ _ _ HI8.out.was).trans rfl
      have a4 : w8.cell? ⟨b, 1, none⟩ = some (.slice co M.length cc) := (cell_of_row _ _ _ _ _ _ HI8.out.was).trans rfl
      clear hb8 HP7 HI7
      go_wp2_with fail
      clear a1 a2 a3 a4
      have HQ8 : Hid (QI w8 ⟨so, L.length, sc⟩ L Q) := Lib.hid (HQ.out.below HI8.out.bel)
      have HBB : Hid (∀ q ∈ Q, q.length ≤ 9223372036854775806) := Lib.hid fun q hq => by have := HBQ.out q hq; omega
      refine (same10 r r ⟨so, L.length, sc⟩ ⟨co, M.length, cc⟩ L M Q Q w8 rfl rfl HQ8.out.row HI8.out.q.row HQ8.out.msg HI8.out.q.msg (by omega) (by have := HML.out; have := HLQ.out; omega) HBB.out HBB.out).mono ?_
      rintro e w9 ⟨rfl, hb9⟩
      rw [show decide (r = r ∧ Q = Q) = true by simp]
      have HI9 := Lib.hid (HI8.out.below hb9)
      clear hb9
      go_wp2_with fail
      go_roundw
      case rel => exact ⟨k + 1, by go_num, by omega, HI9⟩
      case measure => simp [intOf]; omega
    · have hlti : ¬ (k : Int) < 2 := by omega
      clear a1 a2 a3 a4
      go_wp2_with fail
      go_loopw [16] (fun kv w3 => ∃ (i : Nat), kv = .int .i64 i ∧ i ≤ L.length ∧ Hid (LV w room r ⟨fo, F.length, fc⟩ ⟨so, L.length, sc⟩ b ⟨co, M.length, cc⟩ M Q w3)) (fun k _ => L.length - (intOf k).toNat)
      case atStart => exact ⟨0, rfl, by omega, HI⟩
      case round =>
        obtain ⟨i, rfl, hi, HJ⟩ := hrel
        have hi0 : (0 : Int) ≤ i := by omega
        have a4 : wr.cell? ⟨w.heap.size + 1, 1, none⟩ = some (.slice so L.length sc) := (cell_of_row _ _ _ _ _ _ HJ.out.chn).trans rfl
        by_cases hit : i < L.length
        · have hiti : (i : Int) < L.length := by omega
          have hlq : i < Q.length := by have := HLQ.out; omega
          obtain ⟨g, off, rfl, hg, hc⟩ : ∃ g off, so = some ⟨g, off, none⟩ ∧ g < w.heap.size ∧ ∀ i (h : i < L.length), w.cell? ⟨g, off + i, none⟩ = some (slV L[i]) := by
            rcases HQ.out.row with h | h
            · omega
            · exact h
          obtain ⟨⟨mo, mn, mc⟩, hs⟩ : ∃ s, L[i] = s := ⟨_, rfl⟩
          obtain ⟨q, hq⟩ : ∃ q, Q[i] = q := ⟨_, rfl⟩
          have HMQ : Hid (MsgAt w ⟨mo, mn, mc⟩ q) := Lib.hid (hs ▸ hq ▸ HQ.out.msg.2 i hit hlq)
          have HQ8 : Hid (q.length * 8 ≤ 140737488355328) := Lib.hid (HBQ.out _ (hq ▸ List.getElem_mem hlq))
          have HC := Lib.hid (And.intro hg ((hc i hit).trans (by rw [hs])))
          have c1 : wr.cell? ⟨g, off + i, none⟩ = some (.slice mo mn mc) := (HJ.out.bel.cell HC.out.1).trans HC.out.2
          clear hs hq hc hg hlq
          go_wp2_with fail
          refine (less12 ⟨mo, mn, mc⟩ ⟨t0, m.length, tc⟩ q m wr (HMQ.out.below HJ.out.bel) (HT.out.below HJ.out.bel) (by have := HQ8.out; omega) (by omega)).mono ?_
          rintro e w4 ⟨rfl, nn, rfl⟩
          obtain ⟨ls, hls⟩ : ∃ ls, lessB q m = ls := ⟨_, rfl⟩
          rw [hls]
          have HLS := Lib.hid hls
          have HJ1 := Lib.hid (HJ.out.below (bdrew (Below.refl _ wr) nn))
          clear c1 a4 hls
          generalize wr.drewN nn = W at HJ1 ⊢
          have a4 : W.cell? ⟨w.heap.size + 1, 1, none⟩ = some (.slice (some ⟨g, off, none⟩) L.length sc) := (cell_of_row _ _ _ _ _ _ HJ1.out.chn).trans rfl
          have c1 : W.cell? ⟨g, off + i, none⟩ = some (.slice mo mn mc) := (HJ1.out.bel.cell HC.out.1).trans HC.out.2
          go_wp2_with fail
          refine (less13 ⟨mo, mn, mc⟩ ⟨t0, m.length, tc⟩ q m W (HMQ.out.below HJ1.out.bel) (HT.out.below HJ1.out.bel) (by have := HQ8.out; omega) (by omega)).mono ?_
          rintro e w4 ⟨rfl, nn, rfl⟩
          rw [HLS.out]
          have HJ2 := Lib.hid (HJ1.out.below (bdrew (Below.refl _ W) nn))
          clear c1 a4
          generalize W.drewN nn = W2 at HJ2 ⊢
          have hll : (ls != ls) = false := by simp
          go_wp2_with fail
          go_roundw
          case rel => exact ⟨i + 1, by go_num, by omega, HJ2⟩
          case measure => simp [intOf]; omega
        · have hiti : ¬ (i : Int) < L.length := by omega
          go_wp2_with fail
          go_ret
          exact ⟨rfl, HJ.out.bel⟩
end Go.Proofs.Ytfcoljioojidnaa
