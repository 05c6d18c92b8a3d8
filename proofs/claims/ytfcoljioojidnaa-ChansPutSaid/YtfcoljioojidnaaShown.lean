/- The document's examples. -/
import Derived.Test.YtfcoljioojidnaaChan
namespace Go.Proofs.Ytfcoljioojidnaa
open Go.ChangeShapes Go.WideShapes Go.ChangeAt Go.RowKit
set_option linter.unusedVariables false
set_option linter.unusedSimpArgs false

theorem msg_one {w : World} {g c : Nat} {x : Int} {T : TypeId} (h : w.heap[g]? = some (.cells #[.int .i64 x] T (0, 0))) : MsgAt w ⟨some ⟨g, 0, none⟩, 1, c⟩ [x] :=
  ⟨rfl, .inr ⟨g, 0, rfl, lt_of_block h, fun i hi => by
    have : i = 0 := by simpa using hi
    subst this
    exact (cell_of_row _ _ _ _ _ _ h).trans rfl⟩⟩
theorem msg_two {w : World} {g c : Nat} {x y : Int} {T : TypeId} (h : w.heap[g]? = some (.cells #[.int .i64 x, .int .i64 y] T (0, 0))) : MsgAt w ⟨some ⟨g, 0, none⟩, 2, c⟩ [x, y] :=
  ⟨rfl, .inr ⟨g, 0, rfl, lt_of_block h, fun i hi => by
    have : i = 0 ∨ i = 1 := by simp at hi; omega
    rcases this with rfl | rfl
    · exact (cell_of_row _ _ _ _ _ _ h).trans rfl
    · exact (cell_of_row _ _ _ _ _ _ h).trans rfl⟩⟩
theorem two_new (w : World) (o1 o2 : Obj) : ((w.alloc o1).alloc o2).heap[w.heap.size]? = some o1 ∧ ((w.alloc o1).alloc o2).heap[w.heap.size + 1]? = some o2 := ⟨(take_two w o1 o2).1, (take_two w o1 o2).2.1⟩
/-- The example's shape in memory. -/
structure SI (w W : World) : Prop where
  shp : W.heap[w.heap.size + 1]? = some (.cells #[.int .i64 2, .slice (some ⟨w.heap.size, 0, none⟩) 1 1] 24 (0, 0))
  fld : FieldsAt W (some ⟨w.heap.size, 0, none⟩) [(8, false)]
  bel : Below w.heap.size w W
theorem SI.below {w W W' : World} (h : SI w W) (hb : Below W.heap.size W W') : SI w W' :=
  ⟨(hb.block _ (lt_of_block h.shp)).trans h.shp, h.fld.below hb, h.bel.trans (hb.mono h.bel.size)⟩
theorem SI.start (w : World) : SI w ((w.alloc (Obj.cells #[.int .i64 8, .bool false] 47)).alloc (Obj.cells #[.int .i64 2, .slice (some ⟨w.heap.size, 0, none⟩) 1 1] 24)) := by
  obtain ⟨h1, h2, h3⟩ := take_two w (Obj.cells #[.int .i64 8, .bool false] 47) (Obj.cells #[.int .i64 2, .slice (some ⟨w.heap.size, 0, none⟩) 1 1] 24)
  refine ⟨h2, .inr ⟨w.heap.size, 0, rfl, lt_of_block h1, fun i hi => ?_⟩, h3⟩
  have : i = 0 := by simpa using hi
  subst this
  exact ⟨(cell_of_row _ _ _ _ _ _ h1).trans rfl, (cell_of_row _ _ _ _ _ _ h1).trans rfl⟩
theorem SI.cells {w W : World} (h : SI w W) : W.cell? ⟨w.heap.size + 1, 0, none⟩ = some (.int .i64 2) ∧ W.cell? ⟨w.heap.size + 1, 1, none⟩ = some (.slice (some ⟨w.heap.size, 0, none⟩) 1 1) :=
  ⟨(cell_of_row _ _ _ _ _ _ h.shp).trans rfl, (cell_of_row _ _ _ _ _ _ h.shp).trans rfl⟩

set_option maxHeartbeats 1000000 in
set_option maxRecDepth 100000 in
theorem shown6 (w : World) : Calls Try.prog 6 #[] w fun e w' => e = .returned (.bool true) ∧ Below w.heap.size w w' := by
  have H0 := Lib.hid (SI.start w)
  go_enter Try.func6, Try.ntmps6
  go_wp2_with fail
  obtain ⟨W0, hW0⟩ : ∃ W0, (w.alloc (Obj.cells #[.int .i64 8, .bool false] 47)).alloc (Obj.cells #[.int .i64 2, .slice (some ⟨w.heap.size, 0, none⟩) 1 1] 24) = W0 := ⟨_, rfl⟩
  have hsz : W0.heap.size = w.heap.size + 1 + 1 := by rw [← hW0]; simp
  rw [hW0] at H0 ⊢
  rw [← hsz]
  have HSZ := Lib.hid hsz
  clear hW0 hsz
  have H1 := Lib.hid (take_two W0 (Obj.cells #[.int .i64 1, .int .i64 5] 2) (Obj.cells #[.int .i64 2, .int .i64 0] 2))
  refine (less12 ⟨some ⟨W0.heap.size, 0, none⟩, 2, 2⟩ ⟨some ⟨W0.heap.size + 1, 0, none⟩, 2, 2⟩ [1, 5] [2, 0] _ (msg_two H1.out.1) (msg_two H1.out.2.1) (by decide) (by decide)).mono ?_
  rintro e w1 ⟨rfl, n1, rfl⟩
  rw [show lessB [1, 5] [2, 0] = true from rfl]
  have HS1 := Lib.hid (H0.out.below (bdrew H1.out.2.2 n1))
  obtain ⟨W1, hW1⟩ : ∃ W1, World.drewN ((W0.alloc (Obj.cells #[.int .i64 1, .int .i64 5] 2)).alloc (Obj.cells #[.int .i64 2, .int .i64 0] 2)) n1 = W1 := ⟨_, rfl⟩
  rw [hW1] at HS1 ⊢
  clear hW1 H1
  go_wp2_with fail
  have H1 := Lib.hid (take_two W1 (Obj.cells #[.int .i64 1, .int .i64 5] 2) (Obj.cells #[.int .i64 1, .int .i64 5] 2))
  refine (less12 ⟨some ⟨W1.heap.size, 0, none⟩, 2, 2⟩ ⟨some ⟨W1.heap.size + 1, 0, none⟩, 2, 2⟩ [1, 5] [1, 5] _ (msg_two H1.out.1) (msg_two H1.out.2.1) (by decide) (by decide)).mono ?_
  rintro e w1 ⟨rfl, n1, rfl⟩
  rw [show lessB [1, 5] [1, 5] = false from rfl]
  have HS2 := Lib.hid (HS1.out.below (bdrew H1.out.2.2 n1))
  obtain ⟨W2, hW2⟩ : ∃ W2, World.drewN ((W1.alloc (Obj.cells #[.int .i64 1, .int .i64 5] 2)).alloc (Obj.cells #[.int .i64 1, .int .i64 5] 2)) n1 = W2 := ⟨_, rfl⟩
  rw [hW2] at HS2 ⊢
  clear hW2 H1
  have l1 := HS2.out.cells.1
  have l2 := HS2.out.cells.2
  go_wp2_with fail
  have hP := put_any 2 0 ⟨some ⟨w.heap.size, 0, none⟩, 1, 1⟩ ⟨none, 0, 0⟩ ⟨some ⟨W2.heap.size, 0, none⟩, 1, 1⟩ [(8, false)] [] [] [300] false (W2.alloc (Obj.cells #[.int .i64 300] 2)) rfl (HS2.out.fld.below ((Below.refl _ W2).alloc (Nat.le_refl _) _)) rfl (QI.nil _).row (QI.nil _).msg (msg_one (heap_alloc_new W2 _)) rfl (by decide) (by decide) (by simp)
  refine hP.mono ?_
  clear hP l1 l2
  intro e w3 hp
  obtain ⟨t, M, rfl, hq, hb⟩ := hp.ok (by decide +kernel) (putQ_len _ _ _ _)
  rw [show putQ [(8, false)] [] [300] false = [[44]] by decide +kernel] at hq
  clear hp
  have HS3 := Lib.hid (HS2.out.below (((Below.refl _ W2).alloc (Nat.le_refl _) _).trans (hb.mono (by simp))))
  have HQ3 := Lib.hid hq
  clear hq hb
  have l1 : ∀ o, (w3.alloc o).cell? _ = _ := fun o => Lib.cell?_alloc_some _ HS3.out.cells.1
  have l2 : ∀ o, (w3.alloc o).cell? _ = _ := fun o => Lib.cell?_alloc_some _ HS3.out.cells.2
  simp only [chV, slV]
  go_wp2_with fail
  have HC3 := Lib.hid (CH.new HQ3.out)
  obtain ⟨X3, hX3⟩ : ∃ X, w3.alloc (Obj.cells #[.int .i64 0, .slice t.o t.n t.c] 27) = X := ⟨_, rfl⟩
  have hsz : X3.heap.size = w3.heap.size + 1 := by rw [← hX3]; simp
  unfold slV at HC3
  rw [hX3] at HC3 ⊢
  rw [← hsz]
  clear hX3 hsz l1 l2
  have hs3 := HS3.out.below HC3.out.2
  have hP := put_any 2 0 ⟨some ⟨w.heap.size, 0, none⟩, 1, 1⟩ t ⟨some ⟨X3.heap.size, 0, none⟩, 1, 1⟩ [(8, false)] M [[44]] [7] true (X3.alloc (Obj.cells #[.int .i64 7] 2)) rfl (hs3.fld.below ((Below.refl _ X3).alloc (Nat.le_refl _) _)) HC3.out.1.q.n (HC3.out.1.q.row.below ((Below.refl _ X3).alloc (Nat.le_refl _) _)) (HC3.out.1.q.msg.below ((Below.refl _ X3).alloc (Nat.le_refl _) _)) (msg_one (heap_alloc_new X3 _)) rfl (by decide) (by rw [HC3.out.1.q.len]; decide) (by simp)
  refine hP.mono ?_
  clear hP
  intro e w4 hp
  obtain ⟨g, g1, g4, c, c1, c4, rfl, hq, hb⟩ := hp.two (x := 7) (y := 44) (by decide +kernel) (by decide +kernel) rfl
  clear hp
  have HS4 := Lib.hid (hs3.below (((Below.refl _ X3).alloc (Nat.le_refl _) _).trans (hb.mono (by simp))))
  have HQ4 := Lib.hid hq
  clear hq hb hs3 HC3
  have l1 : ∀ o, (w4.alloc o).cell? _ = _ := fun o => Lib.cell?_alloc_some _ HS4.out.cells.1
  have l2 : ∀ o, (w4.alloc o).cell? _ = _ := fun o => Lib.cell?_alloc_some _ HS4.out.cells.2
  simp only [chV, slV]
  go_wp2_with fail
  have HC4 := Lib.hid (CH.new HQ4.out)
  obtain ⟨X4, hX4⟩ : ∃ X, w4.alloc (Obj.cells #[.int .i64 0, .slice (some ⟨g, 0, none⟩) 2 c] 27) = X := ⟨_, rfl⟩
  have hsz : X4.heap.size = w4.heap.size + 1 := by rw [← hX4]; simp
  unfold slV at HC4
  simp only at HC4
  rw [hX4] at HC4 ⊢
  rw [← hsz]
  clear hX4 hsz l1 l2
  have hs4 := HS4.out.below HC4.out.2
  have hP := put_any 2 0 ⟨some ⟨w.heap.size, 0, none⟩, 1, 1⟩ ⟨some ⟨g, 0, none⟩, 2, c⟩ ⟨some ⟨X4.heap.size, 0, none⟩, 1, 1⟩ [(8, false)] _ [[7], [44]] [7] true (X4.alloc (Obj.cells #[.int .i64 7] 2)) rfl (hs4.fld.below ((Below.refl _ X4).alloc (Nat.le_refl _) _)) HC4.out.1.q.n (HC4.out.1.q.row.below ((Below.refl _ X4).alloc (Nat.le_refl _) _)) (HC4.out.1.q.msg.below ((Below.refl _ X4).alloc (Nat.le_refl _) _)) (msg_one (heap_alloc_new X4 _)) rfl (by decide) (by simp) (by simp)
  refine hP.mono ?_
  clear hP
  intro e w5 hp
  obtain ⟨rfl, hb⟩ := hp.bad (by decide +kernel)
  rw [show putCode 2 [(8, false)] ([[7], [44]] : List (List Int)).length [7] = 45 by decide +kernel]
  clear hp
  have HC5 := Lib.hid (HC4.out.1.below (((Below.refl _ X4).alloc (Nat.le_refl _) _).trans (hb.mono (by simp))))
  have HB5 := Lib.hid (hs4.bel.trans ((((Below.refl _ X4).alloc (Nat.le_refl _) _).trans (hb.mono (by simp))).mono hs4.bel.size))
  clear hb hs4 HC4
  have l1 : ∀ o, (w5.alloc o).cell? _ = _ := fun o => Lib.cell?_alloc_some _ HC5.out.cells.1
  have l2 : ∀ o, (w5.alloc o).cell? _ = _ := fun o => Lib.cell?_alloc_some _ HC5.out.cells.2
  simp only [chV, slV] at l1 l2 ⊢
  go_wp2_with fail
  obtain ⟨X5, hX5⟩ : ∃ X, w5.alloc (Obj.cells #[.int .i64 0, .slice none 0 0] 27) = X := ⟨_, rfl⟩
  have hsz : X5.heap.size = w5.heap.size + 1 := by rw [← hX5]; simp
  have hbx : Below w5.heap.size w5 X5 := by rw [← hX5]; exact (Below.refl _ w5).alloc (Nat.le_refl _) _
  rw [hX5]
  rw [← hsz]
  have HCX := Lib.hid (HC5.out.below hbx)
  have HBX := Lib.hid (HB5.out.trans (hbx.mono HB5.out.size))
  clear hX5 hsz l1 l2 hbx HC5 HB5
  have HT := Lib.hid (take_two X5 (Obj.cells #[.int .i64 44] 2) (Obj.cells #[.int .i64 1] 3))
  have HCY := Lib.hid (HCX.out.below HT.out.2.2)
  have hv3 := (cell_of_row _ _ 0 _ _ _ HT.out.1).trans rfl
  have hv4 := (cell_of_row _ _ 0 _ _ _ HT.out.2.1).trans rfl
  refine (find_first 0 7 44 g g1 X5.heap.size (X5.heap.size + 1) 2 c c1 1 1 0 _ (by decide) (by decide) HCY.out.q.two.1 HCY.out.q.two.2.2.1 hv3 hv4 g4 c4 HCY.out.q.two.2.1 (by decide) rfl).mono ?_
  clear hv3 hv4
  rintro e w6 ⟨rfl, hb⟩
  have HC6 := Lib.hid (HCY.out.below (hb.mono (Nat.le_refl _)))
  have HB6 := Lib.hid ((HBX.out.trans (HT.out.2.2.mono HBX.out.size)).trans (hb.mono (Nat.le_trans HBX.out.size HT.out.2.2.size)))
  clear hb HCY HT HCX HBX
  have l1 := HC6.out.cells.1
  have l2 := HC6.out.cells.2
  simp only [chV, slV] at l1 l2 ⊢
  go_wp2_with fail
  have HT := Lib.hid (take_two w6 (Obj.cells #[.int .i64 44] 2) (Obj.cells #[.int .i64 1] 3))
  have HCY := Lib.hid (HC6.out.below HT.out.2.2)
  have hv3 := (cell_of_row _ _ 0 _ _ _ HT.out.1).trans rfl
  have hv4 := (cell_of_row _ _ 0 _ _ _ HT.out.2.1).trans rfl
  refine (find_second 0 7 44 g g1 w6.heap.size (w6.heap.size + 1) 2 c c1 1 1 0 _ (by decide) (by decide) HCY.out.q.two.1 HCY.out.q.two.2.2.1 hv3 hv4 g4 c4 HCY.out.q.two.2.1 HCY.out.q.two.2.2.2 (by decide) rfl).mono ?_
  clear hv3 hv4 l1 l2
  rintro e w7 ⟨rfl, hb⟩
  have HC7 := Lib.hid (HCY.out.below (hb.mono (Nat.le_refl _)))
  have HB7 := Lib.hid ((HB6.out.trans (HT.out.2.2.mono HB6.out.size)).trans (hb.mono (Nat.le_trans HB6.out.size HT.out.2.2.size)))
  clear hb HCY HT HC6 HB6
  have l1 := HC7.out.cells.1
  have l2 := HC7.out.cells.2
  simp only [chV, slV] at l1 l2 ⊢
  go_wp2_with fail
  refine (take_some 0 1 ⟨some ⟨g, 0, none⟩, 2, c⟩ _ [[7], [44]] w7 HC7.out.q.n (by simp) HC7.out.q.row HC7.out.q.msg (by simp) (by simp)).mono ?_
  rintro e w8 ⟨t8, M8, h8, rfl, hM8, ho8, hw8, hb⟩
  have hm := hw8 1 h8 (by simp) (by simp)
  simp only [List.getElem_cons_zero, List.getElem_cons_succ] at hm
  obtain ⟨gm, cm, hgm⟩ := owns_form1 hm (by simp)
  rw [hgm] at hm ⊢
  have c8 : w8.cell? ⟨gm, 0, none⟩ = some (.int .i64 44) := (World.ownsRow.cellAt hm 0 (by simp)).trans rfl
  have HC8 := Lib.hid (HC7.out.below hb)
  have HB8 := Lib.hid (HB7.out.trans (hb.mono HB7.out.size))
  have HM8 := Lib.hid (And.intro c8 (lt_of_block' c8))
  clear hb hm hgm ho8 hw8 hM8 HC7 HB7 l1 l2 h8 c8
  have l1 : ∀ o, (w8.alloc o).cell? _ = _ := fun o => Lib.cell?_alloc_some _ HC8.out.cells.1
  have l2 : ∀ o, (w8.alloc o).cell? _ = _ := fun o => Lib.cell?_alloc_some _ HC8.out.cells.2
  simp only [chV, slV] at l1 l2 ⊢
  go_wp2_with fail
  refine (take_none 0 2 ⟨some ⟨g, 0, none⟩, 2, c⟩ _ (.inr (by simp)) (by simp)).mono ?_
  rintro e w9 ⟨rfl, hb⟩
  have l3 : ∀ o, (w9.alloc o).cell? ⟨gm, 0, none⟩ = some (.int .i64 44) := fun o => Lib.cell?_alloc_some _ ((hb.cell (Nat.lt_of_lt_of_le HM8.out.2 (by simp))).trans (Lib.cell?_alloc_some _ HM8.out.1))
  have HB9 := Lib.hid ((HB8.out.trans (((Below.refl _ w8).alloc (Nat.le_refl _) (Obj.cells #[.int .i64 0, .slice t8.o t8.n t8.c] 27)).mono HB8.out.size)).trans (hb.mono (Nat.le_trans HB8.out.size (by simp))))
  clear hb l1 l2
  simp only [chV, slV]
  go_wp2_with fail
  go_ret
  exact ⟨rfl, HB9.out.alloc HB9.out.size _⟩
end Go.Proofs.Ytfcoljioojidnaa
