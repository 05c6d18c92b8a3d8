/- expr.Store: the state in which a variable is another number, in memory of its own. -/
import Derived.Test.YtbeikhgjkbnldaaDoorM35
namespace Go.Proofs.YtbeikhgjkbnldaaDoor
open Go.ChangeShapes Go.WideShapes Go.ChangeAt Go.RowKit
set_option linter.unusedVariables false
set_option linter.unusedSimpArgs false

def envStore (E : EnvD) (x v : Int) : StateD × Int :=
  if envE E x ≠ 0 then (zeroS, envE E x)
  else if (rslotB E (evE E) (exprNo E x)).2.2 ≠ 0 then (zeroS, (rslotB E (evE E) (exprNo E x)).2.2)
  else (setS E (rslotB E (evE E) (exprNo E x)).1 (rslotB E (evE E) (exprNo E x)).2.1 v, 0)
def StoreP (w : World) (r : StateD × Int) (e : Ending) (w' : World) : Prop := ∃ h, e = .returned (.tuple #[sV h r.1, .int .i64 r.2]) ∧ SO w.heap.size w' h r.1 ∧ Below w.heap.size w w'
/-- The Env with another state. -/
def withS (E : EnvD) (s : StateD) : EnvD := ⟨E.m, s, E.pid, E.timeout, E.able⟩

/-- The cells of an Env in a block. -/
theorem env_cells {W : World} {b : Nat} {h : MH} {hs : SH} {ao : Option Addr} {ac : Nat} {E : EnvD} {T : TypeId} (hb : W.heap[b]? = some (.cells (eCells h hs ao ac E) T (0, 0))) : ∀ i v, (eCells h hs ao ac E)[i]? = some v → W.cell? ⟨b, i, none⟩ = some v := fun i v hv => (cell_of_row _ _ _ _ _ _ hb).trans hv
theorem sV_put (h : SH) (s : StateD) (pid slot v : Int) : sV h (putSlot s pid slot v) = sV h s := by
  unfold putSlot sV sCells
  split <;> simp
/-- Six cells of a block are written. -/
def put6 (W : World) (b o : Nat) (h : SH) (s : StateD) : World :=
  (((((W.setCell ⟨b, o, none⟩ (.slice h.go s.globals.length h.gc)).setCell ⟨b, o + 1, none⟩ (.slice h.co s.chans.length h.cc)).setCell ⟨b, o + 2, none⟩ (.slice h.po s.procs.length h.pc)).setCell ⟨b, o + 3, none⟩ (.int .i64 s.last)).setCell ⟨b, o + 4, none⟩ (.int .i64 s.alone)).setCell ⟨b, o + 5, none⟩ (.int .i64 s.claim)
theorem put6_heap {W : World} {b o : Nat} {h : SH} {s : StateD} {cs : Array Value} {T : TypeId} (hb : W.heap[b]? = some (.cells cs T (0, 0))) : (put6 W b o h s).heap[b]? = some (.cells ((((((cs.setIfInBounds o (.slice h.go s.globals.length h.gc)).setIfInBounds (o + 1) (.slice h.co s.chans.length h.cc)).setIfInBounds (o + 2) (.slice h.po s.procs.length h.pc)).setIfInBounds (o + 3) (.int .i64 s.last)).setIfInBounds (o + 4) (.int .i64 s.alone)).setIfInBounds (o + 5) (.int .i64 s.claim)) T (0, 0)) := by
  unfold put6
  exact heap_setCell_same _ _ _ _ _ _ (heap_setCell_same _ _ _ _ _ _ (heap_setCell_same _ _ _ _ _ _ (heap_setCell_same _ _ _ _ _ _ (heap_setCell_same _ _ _ _ _ _ (heap_setCell_same _ _ _ _ _ _ hb)))))
theorem put6_other {W : World} {b o c : Nat} {h : SH} {s : StateD} (hc : c ≠ b) : (put6 W b o h s).heap[c]? = W.heap[c]? := by
  unfold put6
  repeat rw [heap_setCell_other _ _ _ _ (by exact hc)]
theorem put6_below {W : World} {b o B : Nat} {h : SH} {s : StateD} (hB : B ≤ b) : Below B W (put6 W b o h s) :=
  ((((((Below.refl _ _).setCell hB _).setCell hB _).setCell hB _).setCell hB _).setCell hB _).setCell hB _
theorem put6_own {W : World} {b o B : Nat} {h : SH} {s : StateD} {R : Nat × Nat × Nat → RowS} (ho : Own B W R) (hb : b < B) : Own B (put6 W b o h s) R :=
  (((((ho.low _ hb _).low _ hb _).low _ hb _).low _ hb _).low _ hb _).low _ hb _
theorem put6_size {W : World} {b o : Nat} {h : SH} {s : StateD} : (put6 W b o h s).heap.size = W.heap.size := by
  unfold put6
  simp

set_option maxHeartbeats 4000000 in
set_option maxRecDepth 100000 in
theorem eStoreC {B : Nat} {h : MH} {hs : SH} {ao : Option Addr} {ac : Nat} {E : EnvD} (x v : Int) (w : World) (hB : B ≤ w.heap.size) (hd : ED B w h hs ao E) :
    Calls Tryd.prog 10 #[.agg (eCells h hs ao ac E), .int .i64 x, .int .i64 v] w (StoreP w (envStore E x v)) := by
  obtain ⟨W0, hW0⟩ : ∃ W0, W0 = (w.alloc (.cells (eCells h hs ao ac E) 39)).alloc (.cells #[.slice none 0 0, .slice none 0 0, .slice none 0 0, .int .i64 0, .int .i64 0, .int .i64 0] 36) := ⟨_, rfl⟩
  have hb0 : Below w.heap.size w W0 := by rw [hW0]; exact ((Below.refl _ _).alloc (Nat.le_refl _) _).alloc (by simp) _
  have hbox : W0.heap[w.heap.size]? = some (.cells (eCells h hs ao ac E) 39 (0, 0)) := by rw [hW0]; exact (Below.heap_alloc _ _ _ (by simp)).trans (heap_alloc_new _ _)
  have hres : W0.heap[w.heap.size + 1]? = some (.cells #[.slice none 0 0, .slice none 0 0, .slice none 0 0, .int .i64 0, .int .i64 0, .int .i64 0] 36 (0, 0)) := by
    have h := heap_alloc_new (w.alloc (.cells (eCells h hs ao ac E) 39)) (.cells #[.slice none 0 0, .slice none 0 0, .slice none 0 0, .int .i64 0, .int .i64 0, .int .i64 0] 36)
    rw [World.size_alloc] at h
    rw [hW0]; exact h
  have HB0 := Lib.hid hb0
  have HBOX := Lib.hid hbox
  have HRES := Lib.hid hres
  have HD := Lib.hid (hd.below (hb0.mono hB))
  have HBB := Lib.hid hB
  have HCK := Lib.hid (echeckC (ac := ac) x W0 (Nat.le_trans hB hb0.size) HD.out)
  clear hd hb0 hbox hres
  unfold eCells at HBOX HCK hW0 ⊢
  go_enter Tryd.func10, Tryd.ntmps10
  go_upto_region 1 with fail
  rw [← hW0]
  clear hW0
  have e0 := (cell_of_row _ _ 0 _ _ _ HBOX.out).trans rfl
  have e1 := (cell_of_row _ _ 1 _ _ _ HBOX.out).trans rfl
  have e2 := (cell_of_row _ _ 2 _ _ _ HBOX.out).trans rfl
  have e3 := (cell_of_row _ _ 3 _ _ _ HBOX.out).trans rfl
  have e4 := (cell_of_row _ _ 4 _ _ _ HBOX.out).trans rfl
  have e5 := (cell_of_row _ _ 5 _ _ _ HBOX.out).trans rfl
  have e6 := (cell_of_row _ _ 6 _ _ _ HBOX.out).trans rfl
  have e7 := (cell_of_row _ _ 7 _ _ _ HBOX.out).trans rfl
  have e8 := (cell_of_row _ _ 8 _ _ _ HBOX.out).trans rfl
  have e9 := (cell_of_row _ _ 9 _ _ _ HBOX.out).trans rfl
  have e10 := (cell_of_row _ _ 10 _ _ _ HBOX.out).trans rfl
  have e11 := (cell_of_row _ _ 11 _ _ _ HBOX.out).trans rfl
  have e12 := (cell_of_row _ _ 12 _ _ _ HBOX.out).trans rfl
  have e13 := (cell_of_row _ _ 13 _ _ _ HBOX.out).trans rfl
  have e14 := (cell_of_row _ _ 14 _ _ _ HBOX.out).trans rfl
  have e15 := (cell_of_row _ _ 15 _ _ _ HBOX.out).trans rfl
  go_wp2_with fail
  refine HCK.out.mono ?_
  rintro e W1 ⟨rfl, hb1⟩
  clear e0 e1 e2 e3 e4 e5 e6 e7 e8 e9 e10 e11 e12 e13 e14 e15
  have HB1 := Lib.hid (HB0.out.trans (hb1.mono HB0.out.size))
  have HBOX1 := Lib.hid ((hb1.block _ (lt_of_block HBOX.out)).trans HBOX.out)
  have HRES1 := Lib.hid ((hb1.block _ (lt_of_block HRES.out)).trans HRES.out)
  have HD1 := Lib.hid (HD.out.below (hb1.mono (Nat.le_trans HBB.out HB0.out.size)))
  clear hb1 HCK HBOX HRES HD HB0
  obtain ⟨er, her⟩ : ∃ q, envE E x = q := ⟨_, rfl⟩
  rw [her]
  by_cases h0 : er = 0
  · have hd0 : (er != 0) = false := by rw [bne_eq_false_iff_eq]; exact h0
    subst h0
    obtain ⟨hok, hx0, hxl⟩ := envE_ok her
    obtain ⟨k, rfl⟩ : ∃ k : Nat, x = k := ⟨x.toNat, by omega⟩
    obtain ⟨xx, hxx⟩ : ∃ y, E.m.exprs[k]? = some y := ⟨_, List.getElem?_eq_getElem (by omega)⟩
    obtain ⟨⟨q, sl, er2⟩, hr⟩ : ∃ r, rslotB E (evE E) xx = r := ⟨_, rfl⟩
    have HV : Hid (envStore E k v = if er2 ≠ 0 then (zeroS, er2) else (setS E q sl v, 0)) := Lib.hid (by
      unfold envStore exprNo
      rw [her, if_neg (by simp), Int.toNat_natCast, hxx]
      simp only [Option.getD_some]
      rw [hr])
    have HOK := Lib.hid hok
    have HXX := Lib.hid hxx
    have HR := Lib.hid hr
    have hbx := HBOX1.out
    have s0 := (cell_of_row _ _ 7 _ _ _ hbx).trans rfl
    have s1 := (cell_of_row _ _ 8 _ _ _ hbx).trans rfl
    have s2 := (cell_of_row _ _ 9 _ _ _ hbx).trans rfl
    have s3 := (cell_of_row _ _ 10 _ _ _ hbx).trans rfl
    have s4 := (cell_of_row _ _ 11 _ _ _ hbx).trans rfl
    have s5 := (cell_of_row _ _ 12 _ _ _ hbx).trans rfl
    have HCP := Lib.hid (copyC W1 (Nat.le_trans HBB.out HB1.out.size) HD1.out.sd (may_lensB hok.good hok.may))
    clear hbx hok hxx hr her
    unfold sV sCells at HCP
    go_wp2_with fail
    refine HCP.out.mono ?_
    rintro e W2 ⟨h2, rfl, hso, hb2⟩
    clear s0 s1 s2 s3 s4 s5 HCP
    obtain ⟨R, ho, hsp⟩ := hso
    have HO := Lib.hid ho
    have HSP := Lib.hid hsp
    have HB2 := Lib.hid hb2
    have HBOX2 := Lib.hid ((hb2.block _ (lt_of_block HBOX1.out)).trans HBOX1.out)
    have HRES2 := Lib.hid ((hb2.block _ (lt_of_block HRES1.out)).trans HRES1.out)
    clear ho hsp hb2
    have s0 := (cell_of_row _ _ 7 _ _ _ HBOX2.out).trans rfl
    have s1 := (cell_of_row _ _ 8 _ _ _ HBOX2.out).trans rfl
    have s2 := (cell_of_row _ _ 9 _ _ _ HBOX2.out).trans rfl
    have s3 := (cell_of_row _ _ 10 _ _ _ HBOX2.out).trans rfl
    have s4 := (cell_of_row _ _ 11 _ _ _ HBOX2.out).trans rfl
    have s5 := (cell_of_row _ _ 12 _ _ _ HBOX2.out).trans rfl
    have t0 := frozen_of_row _ _ 7 _ _ HBOX2.out
    have t1 := frozen_of_row _ _ 8 _ _ HBOX2.out
    have t2 := frozen_of_row _ _ 9 _ _ HBOX2.out
    have t3 := frozen_of_row _ _ 10 _ _ HBOX2.out
    have t4 := frozen_of_row _ _ 11 _ _ HBOX2.out
    have t5 := frozen_of_row _ _ 12 _ _ HBOX2.out
    unfold sV sCells
    go_upto_region 5 with fail
    clear s0 s1 s2 s3 s4 s5 t0 t1 t2 t3 t4 t5
    obtain ⟨W3, hW3⟩ : ∃ W3, W3 = put6 W2 w.heap.size 7 h2 E.s := ⟨_, rfl⟩
    have HW3 := Lib.hid hW3
    unfold put6 at hW3
    simp only [Nat.reduceAdd] at hW3
    rw [← hW3]
    clear hW3
    have hl1 : w.heap.size < W1.heap.size := lt_of_block HBOX1.out
    have hl2 : w.heap.size + 1 < W1.heap.size := lt_of_block HRES1.out
    have HBOX3 : Hid (W3.heap[w.heap.size]? = some (.cells (eCells h h2 ao ac E) 39 (0, 0))) := Lib.hid (by rw [HW3.out, put6_heap HBOX2.out]; rfl)
    have HRES3 : Hid (W3.heap[w.heap.size + 1]? = some (.cells #[.slice none 0 0, .slice none 0 0, .slice none 0 0, .int .i64 0, .int .i64 0, .int .i64 0] 36 (0, 0))) := Lib.hid (by rw [HW3.out, put6_other (by omega)]; exact HRES2.out)
    have HO3 : Hid (Own W1.heap.size W3 R) := Lib.hid (by rw [HW3.out]; exact put6_own HO.out hl1)
    have HB3 : Hid (Below w.heap.size w W3) := Lib.hid (by rw [HW3.out]; exact (HB1.out.trans (HB2.out.mono HB1.out.size)).trans (put6_below (Nat.le_refl _)))
    have HS3 : Hid (W1.heap.size ≤ W3.heap.size) := Lib.hid (by rw [HW3.out, put6_size]; exact HB2.out.size)
    have hB3 : B ≤ W3.heap.size := Nat.le_trans (Nat.le_trans HBB.out HB1.out.size) HS3.out
    have HBW : Hid (Below B W1 W3) := Lib.hid (by rw [HW3.out]; exact (HB2.out.mono (Nat.le_trans HBB.out HB1.out.size)).trans (put6_below HBB.out))
    have HED : Hid (ED W3.heap.size W3 h h2 ao E) := Lib.hid (by
      have h1 := HD1.out.below HBW.out
      exact ⟨h1.md.lift hB3, (HSP.out.sd HO3.out (SD.lens HD1.out.sd)), h1.able.up hB3⟩)
    have HEK := Lib.hid (Ek.ofW (T := 39) HBOX3.out (Nat.le_refl _) HED.out)
    have HSET := Lib.hid (setC (B2 := W1.heap.size) v W3 HEK.out HOK.out HXX.out HO3.out HSP.out HS3.out)
    rw [HR.out] at HSET
    clear HBOX2 HRES2 HO HW3 HBW HED HEK hB3 HB2
    go_wp2_with fail
    refine HSET.out.mono ?_
    rintro e W4 ⟨rfl, hbad, hgood⟩
    have HBAD := Lib.hid hbad
    have HGOOD := Lib.hid hgood
    clear hbad hgood HSET
    by_cases h2' : er2 = 0
    · have hd2 : (er2 != 0) = false := by rw [bne_eq_false_iff_eq]; exact h2'
      subst h2'
      obtain ⟨hso4, hb4⟩ := HGOOD.out rfl
      obtain ⟨R4, ho4, hsp4⟩ := hso4
      have HO4 := Lib.hid ho4
      have HSP4 := Lib.hid hsp4
      have HB4 := Lib.hid hb4
      have HBOX4 := Lib.hid ((hb4.block _ hl1).trans HBOX3.out)
      have HRES4 := Lib.hid ((hb4.block _ hl2).trans HRES3.out)
      clear ho4 hsp4 hb4
      unfold eCells at HBOX4
      have s0 := (cell_of_row _ _ 7 _ _ _ HBOX4.out).trans rfl
      have s1 := (cell_of_row _ _ 8 _ _ _ HBOX4.out).trans rfl
      have s2 := (cell_of_row _ _ 9 _ _ _ HBOX4.out).trans rfl
      have s3 := (cell_of_row _ _ 10 _ _ _ HBOX4.out).trans rfl
      have s4 := (cell_of_row _ _ 11 _ _ _ HBOX4.out).trans rfl
      have s5 := (cell_of_row _ _ 12 _ _ _ HBOX4.out).trans rfl
      have q0 := (cell_of_row _ _ 0 _ _ _ HRES4.out).trans rfl
      have q1 := (cell_of_row _ _ 1 _ _ _ HRES4.out).trans rfl
      have q2 := (cell_of_row _ _ 2 _ _ _ HRES4.out).trans rfl
      have q3 := (cell_of_row _ _ 3 _ _ _ HRES4.out).trans rfl
      have q4 := (cell_of_row _ _ 4 _ _ _ HRES4.out).trans rfl
      have q5 := (cell_of_row _ _ 5 _ _ _ HRES4.out).trans rfl
      have t0 := frozen_of_row _ _ 0 _ _ HRES4.out
      have t1 := frozen_of_row _ _ 1 _ _ HRES4.out
      have t2 := frozen_of_row _ _ 2 _ _ HRES4.out
      have t3 := frozen_of_row _ _ 3 _ _ HRES4.out
      have t4 := frozen_of_row _ _ 4 _ _ HRES4.out
      have t5 := frozen_of_row _ _ 5 _ _ HRES4.out
      have HSV : Hid (sV h2 (setS E q sl v) = sV h2 E.s) := Lib.hid (by unfold setS; exact sV_put _ _ _ _ _)
      go_wp2_with fail
      refine bodyPost_ret (v := .tuple #[sV h2 E.s, .int .i64 0]) (by simp [sV, sCells, results, Tryd.results10, go_sem, q0, q1, q2, q3, q4, q5, t0, t1, t2, t3, t4, t5]) rfl ?_
      rw [HV.out, if_neg (by simp)]
      refine ⟨h2, by rw [HSV.out], ⟨R4, (put6_own (b := w.heap.size + 1) (o := 0) (h := h2) (s := E.s) HO4.out hl2).mono (Nat.le_of_lt hl1), HSP4.out⟩, ?_⟩
      exact (HB3.out.trans (HB4.out.mono (Nat.le_of_lt hl1))).trans (put6_below (b := w.heap.size + 1) (o := 0) (h := h2) (s := E.s) (by omega))
    · have hd2 : (er2 != 0) = true := by rw [bne_iff_ne]; exact h2'
      have hb4 := HBAD.out h2'
      have HB4 := Lib.hid hb4
      have HRES4 := Lib.hid ((hb4.block _ (lt_of_block HRES3.out)).trans HRES3.out)
      clear hb4
      have q0 := (cell_of_row _ _ 0 _ _ _ HRES4.out).trans rfl
      have q1 := (cell_of_row _ _ 1 _ _ _ HRES4.out).trans rfl
      have q2 := (cell_of_row _ _ 2 _ _ _ HRES4.out).trans rfl
      have q3 := (cell_of_row _ _ 3 _ _ _ HRES4.out).trans rfl
      have q4 := (cell_of_row _ _ 4 _ _ _ HRES4.out).trans rfl
      have q5 := (cell_of_row _ _ 5 _ _ _ HRES4.out).trans rfl
      have t0 := frozen_of_row _ _ 0 _ _ HRES4.out
      have t1 := frozen_of_row _ _ 1 _ _ HRES4.out
      have t2 := frozen_of_row _ _ 2 _ _ HRES4.out
      have t3 := frozen_of_row _ _ 3 _ _ HRES4.out
      have t4 := frozen_of_row _ _ 4 _ _ HRES4.out
      have t5 := frozen_of_row _ _ 5 _ _ HRES4.out
      go_wp2_with fail
      refine bodyPost_ret (v := .tuple #[sV zeroH zeroS, .int .i64 er2]) (by simp [sV, sCells, zeroH, zeroS, results, Tryd.results10, go_sem, q0, q1, q2, q3, q4, q5, t0, t1, t2, t3, t4, t5]) rfl ?_
      rw [HV.out, if_pos h2']
      exact ⟨zeroH, rfl, SO.zero _ _, (HB3.out.trans (HB4.out.mono HB3.out.size)).trans (put6_below (b := w.heap.size + 1) (o := 0) (h := zeroH) (s := zeroS) (by omega))⟩
  · have hd0 : (er != 0) = true := by rw [bne_iff_ne]; exact h0
    have HV : Hid (envStore E x v = (zeroS, er)) := Lib.hid (by unfold envStore; rw [her, if_pos h0])
    have q0 := (cell_of_row _ _ 0 _ _ _ HRES1.out).trans rfl
    have q1 := (cell_of_row _ _ 1 _ _ _ HRES1.out).trans rfl
    have q2 := (cell_of_row _ _ 2 _ _ _ HRES1.out).trans rfl
    have q3 := (cell_of_row _ _ 3 _ _ _ HRES1.out).trans rfl
    have q4 := (cell_of_row _ _ 4 _ _ _ HRES1.out).trans rfl
    have q5 := (cell_of_row _ _ 5 _ _ _ HRES1.out).trans rfl
    have t0 := frozen_of_row _ _ 0 _ _ HRES1.out
    have t1 := frozen_of_row _ _ 1 _ _ HRES1.out
    have t2 := frozen_of_row _ _ 2 _ _ HRES1.out
    have t3 := frozen_of_row _ _ 3 _ _ HRES1.out
    have t4 := frozen_of_row _ _ 4 _ _ HRES1.out
    have t5 := frozen_of_row _ _ 5 _ _ HRES1.out
    go_wp2_with fail
    refine bodyPost_ret (v := .tuple #[sV zeroH zeroS, .int .i64 er]) (by simp [sV, sCells, zeroH, zeroS, results, Tryd.results10, go_sem, q0, q1, q2, q3, q4, q5, t0, t1, t2, t3, t4, t5]) rfl ?_
    rw [HV.out]
    exact ⟨zeroH, rfl, SO.zero _ _, HB1.out.trans (put6_below (b := w.heap.size + 1) (o := 0) (h := zeroH) (s := zeroS) (by omega))⟩
end Go.Proofs.YtbeikhgjkbnldaaDoor
/- What is reckoned hangs on the parts alone; a state in which a variable is another number may be. -/
namespace Go.Proofs.YtbeikhgjkbnldaaDoor
open Go.ChangeShapes Go.WideShapes Go.ChangeAt Go.RowKit
set_option linter.unusedVariables false

section
variable {E : EnvD} {ev ev' : Int → Int × Int}
theorem dims_congr : ∀ (l : List DimD) (a : Int), (∀ d ∈ l, ev d.i = ev' d.i) → dimsF ev l a = dimsF ev' l a
  | [], a, _ => rfl
  | d :: r, a, h => by
    unfold dimsF
    rw [h d (by simp), dims_congr r _ fun x hx => h x (by simp [hx])]
theorem wanted_congr : ∀ (l : List (Int × Int)), (∀ z ∈ l, ev z.1 = ev' z.1) → wantedF ev l = wantedF ev' l
  | [], _ => rfl
  | z :: r, h => by
    unfold wantedF
    rw [h z (by simp), wanted_congr r fun x hx => h x (by simp [hx])]
theorem pid_congr {v : VarD} (h : v.scope = 2 → ev v.who = ev' v.who) : pidB E ev v = pidB E ev' v := by
  unfold pidB
  by_cases h2 : v.scope = 2
  · rw [h h2]
  · simp only [if_neg h2]
theorem rslot_congr {x : ExprD} (hw : x.op = 2 → x.v.scope = 2 → ev x.v.who = ev' x.v.who) (hd : x.op = 2 → ∀ d ∈ x.v.dims, ev d.i = ev' d.i) : rslotB E ev x = rslotB E ev' x := by
  unfold rslotB
  by_cases h2 : x.op = 2
  · rw [pid_congr (hw h2), dims_congr _ _ (hd h2)]
  · simp only [if_pos h2]
theorem rchan_congr {a : Int} (h : ev a = ev' a) : rchanB E ev a = rchanB E ev' a := by
  unfold rchanB
  rw [h]
theorem evalB_congr {x : ExprD} (hop : 1 ≤ x.op ∧ x.op ≤ 39) (h : ∀ q ∈ partsL x, ev q = ev' q) : evalB E ev x = evalB E ev' x := by
  have hA : 1 ≤ partsOf x.op → ev x.a = ev' x.a := fun h1 => h x.a (List.mem_append_left _ (partsTakeAt (n := 0) rfl (by omega)))
  have hB : 2 ≤ partsOf x.op → ev x.b = ev' x.b := fun h1 => h x.b (List.mem_append_left _ (partsTakeAt (n := 1) rfl (by omega)))
  have hC : 3 ≤ partsOf x.op → ev x.c = ev' x.c := fun h1 => h x.c (List.mem_append_left _ (partsTakeAt (n := 2) rfl (by omega)))
  unfold evalB
  by_cases h1 : x.op = 1
  · simp only [if_pos h1]
  simp only [if_neg h1]
  by_cases h2 : x.op = 2
  · simp only [if_pos h2]
    have hm : moreL x = (if x.v.scope = 2 then [x.v.who] else []) ++ x.v.dims.map (·.i) := if_pos h2
    have e : rslotB E ev x = rslotB E ev' x := rslot_congr (fun _ hs => h _ (List.mem_append_right _ (by rw [hm, if_pos hs]; simp))) (fun _ d hd => h _ (List.mem_append_right _ (by rw [hm]; exact List.mem_append_right _ (List.mem_map_of_mem hd))))
    rw [e]
  simp only [if_neg h2]
  by_cases h3 : 3 ≤ x.op ∧ x.op ≤ 5
  · simp only [if_pos h3]
    rw [hA (by rw [pOf1 (.inl h3)]; omega)]
  simp only [if_neg h3]
  by_cases h4 : 22 ≤ x.op ∧ x.op ≤ 24
  · simp only [if_pos h4]
    unfold chosenB
    by_cases h24 : x.op = 24
    · have e := pOf3 h24
      rw [hA (by omega), hB (by omega), hC (by omega)]
    · have e := pOf2 (op := x.op) (by omega)
      rw [hA (by omega), hB (by omega)]
      simp only [h24, false_and, if_false]
  simp only [if_neg h4]
  by_cases h5 : 25 ≤ x.op ∧ x.op ≤ 29
  · simp only [if_pos h5]
    unfold rroomB
    rw [rchan_congr (hA (by rw [pOf1 (by omega)]; omega))]
  simp only [if_neg h5]
  by_cases h6 : x.op = 30
  · simp only [if_pos h6]
    unfold rpollB
    have hm : moreL x = x.args := by unfold moreL; rw [if_neg h2, if_pos (.inl h6)]
    rw [rchan_congr (hA (by rw [pOf1 (by omega)]; omega)), wanted_congr (ev := ev) (ev' := ev') (x.args.zip x.mat) fun z hz => h _ (List.mem_append_right _ (by rw [hm]; exact (List.of_mem_zip (by exact hz)).1))]
  simp only [if_neg h6]
  by_cases h7 : 31 ≤ x.op ∧ x.op ≤ 35
  · simp only [if_pos h7]
  simp only [if_neg h7]
  by_cases h8 : 36 ≤ x.op ∧ x.op ≤ 38
  · simp only [if_pos h8]
    rw [hA (by rw [pOf1 (by omega)]; omega)]
  simp only [if_neg h8]
  by_cases h9 : x.op = 39
  · simp only [if_pos h9]
  simp only [if_neg h9]
  have e := pOf2 (op := x.op) (by omega)
  rw [hA (by omega), hB (by omega)]
end
theorem ex_fact {E : EnvD} (hok : Ok E) {p : Nat} {x : ExprD} (hx : E.m.exprs[p]? = some x) : exprB E.m x = true ∧ (1 ≤ x.op ∧ x.op ≤ 39) ∧ ∀ q ∈ partsL x, 0 ≤ q ∧ q < p := by
  obtain ⟨h1, h2⟩ := (good_ex hok).ok p x hx
  refine ⟨h1, ?_, h2⟩
  unfold exprB at h1
  simp only [Bool.and_eq_true, decide_eq_true_eq] at h1
  exact h1.1.1
theorem evalF_more {E : EnvD} (hok : Ok E) : ∀ (f g p : Nat), p < f → p < g → evalF E f p = evalF E g p
  | 0, g, p, h, _ => by omega
  | f + 1, g, p, h, h2 => by
    obtain ⟨k, rfl⟩ : ∃ k, g = k + 1 := ⟨g - 1, by omega⟩
    unfold evalF
    rw [Int.toNat_natCast]
    cases hx : E.m.exprs[p]? with
    | none => rfl
    | some x =>
      obtain ⟨h3, h4, h5⟩ := ex_fact hok hx
      refine evalB_congr h4 fun q hq => ?_
      obtain ⟨h6, h7⟩ := h5 q hq
      obtain ⟨j, rfl⟩ : ∃ j : Nat, q = j := ⟨q.toNat, by omega⟩
      exact evalF_more hok f k j (by omega) (by omega)
/-- One step, at the whole fuel. -/
theorem evE_step {E : EnvD} (hok : Ok E) {p : Nat} {x : ExprD} (hx : E.m.exprs[p]? = some x) : evE E p = evalB E (evE E) x := by
  have hp := (List.getElem?_eq_some_iff.1 hx).1
  obtain ⟨k, hk⟩ : ∃ k, E.m.exprs.length = k + 1 := ⟨E.m.exprs.length - 1, by omega⟩
  obtain ⟨h3, h4, h5⟩ := ex_fact hok hx
  unfold evE
  rw [hk]
  conv => lhs; unfold evalF
  rw [Int.toNat_natCast, hx]
  refine evalB_congr h4 fun q hq => ?_
  obtain ⟨h6, h7⟩ := h5 q hq
  obtain ⟨j, rfl⟩ : ∃ j : Nat, q = j := ⟨q.toNat, by omega⟩
  exact evalF_more hok k (k + 1) j (by omega) (by omega)
theorem evE_bd {E : EnvD} (hok : Ok E) {p : Nat} {x : ExprD} (hx : E.m.exprs[p]? = some x) : Bd x.op (evE E p) := by
  rw [evE_step hok hx]
  exact evalB_bd hok (fun i => evalF_inR hok _ i) (ex_fact hok hx).1
theorem fit_fits {b v z : Int} {s : Bool} (h : fitB b s v = true) : fitB b s (val.fitI b s z) = true := by
  unfold fitB at h ⊢
  simp only [Bool.and_eq_true] at h ⊢
  refine ⟨h.1, ?_⟩
  have h1 := h.1
  unfold tyB at h1
  simp only [Bool.and_eq_true, decide_eq_true_eq] at h1
  obtain ⟨⟨h2, h3⟩, -⟩ := h1
  obtain ⟨H, p1, p2, p3, p4⟩ := val.pows b h2 h3
  have q1 := Int.emod_nonneg z (show (2 * H : Int) ≠ 0 by omega)
  have q2 := Int.emod_lt_of_pos z (show (0 : Int) < 2 * H by omega)
  have hf : val.fitI b s z = if s = true ∧ H ≤ z % (2 * H) then z % (2 * H) - 2 * H else z % (2 * H) := by unfold val.fitI; rw [if_neg (by omega), p1, p2]
  rw [hf, p1, p2]
  generalize z % (2 * H) = L at q1 q2 ⊢
  cases s
  · simp only [Bool.false_eq_true, false_and, if_false, Bool.and_eq_true, decide_eq_true_eq]
    omega
  · by_cases hh : H ≤ L
    · simp only [hh, and_self, if_true, Bool.and_eq_true, decide_eq_true_eq]
      omega
    · simp only [hh, and_false, if_false, if_true, Bool.and_eq_true, decide_eq_true_eq]
      omega
theorem fitsL_set {t : List (Int × Bool)} {l : List Int} (h : fitsL t l = true) {k : Nat} {ty : Int × Bool} (hk : t[k]? = some ty) (z : Int) : fitsL t (l.set k (val.fitI ty.1 ty.2 z)) = true := by
  unfold fitsL at h ⊢
  simp only [Bool.and_eq_true, decide_eq_true_eq] at h ⊢
  refine ⟨by simpa using h.1, ?_⟩
  rw [List.all_eq_true]
  intro x hx
  obtain ⟨i, hi, rfl⟩ := List.mem_iff_getElem.1 hx
  simp only [List.length_zip, List.length_set] at hi
  have hold : fitZ (t[i]'(by omega), l[i]'(by omega)) = true := List.all_eq_true.1 h.2 _ (by rw [List.mem_iff_getElem]; exact ⟨i, by simp; omega, by simp⟩)
  simp only [List.getElem_zip]
  by_cases e : k = i
  · subst e
    obtain ⟨h1, h2⟩ := List.getElem?_eq_some_iff.1 hk
    rw [List.getElem_set_self, h2]
    unfold fitZ at hold ⊢
    rw [h2] at hold
    exact fit_fits hold
  · rw [List.getElem_set_ne e]
    exact hold
theorem may_put {E : EnvD} (hok : Ok E) {q : Int} {k : Nat} (hq : q < E.s.procs.length) (hk : k < (slotsL E q).length) (v : Int) : Ok (withS E (setS E q k v)) := by
  have hm := hok.may
  have htl := types_len hok hq
  obtain ⟨ty, hty⟩ : ∃ ty, (typesL E q)[k]? = some ty := ⟨_, List.getElem?_eq_getElem (by omega)⟩
  have hfa : fitAt E q k v = val.fitI ty.1 ty.2 v := by
    unfold fitAt
    rw [Int.toNat_natCast, List.getD_eq_getElem?_getD, hty]; rfl
  refine ⟨hok.good, ?_, ?_⟩
  · show mayB E.m (setS E q k v) = true
    unfold setS putSlot
    rw [hfa]
    unfold mayB at hm ⊢
    simp only [Bool.and_eq_true] at hm ⊢
    obtain ⟨⟨⟨m1, m2⟩, m3⟩, m4⟩ := hm
    by_cases hn : q < 0
    · rw [if_pos hn, Int.toNat_natCast]
      have ht : typesL E q = E.m.globals := by unfold typesL; rw [if_pos hn]
      rw [ht] at hty
      refine ⟨⟨⟨?_, m2⟩, m3⟩, m4⟩
      unfold mayHeadB at m1 ⊢
      simp only [Bool.and_eq_true] at m1 ⊢
      exact ⟨fitsL_set m1.1 hty v, m1.2⟩
    · rw [if_neg hn, Int.toNat_natCast]
      obtain ⟨j, rfl⟩ : ∃ j : Nat, q = j := ⟨q.toNat, by omega⟩
      rw [Int.toNat_natCast]
      have hjl : j < E.s.procs.length := by omega
      refine ⟨⟨⟨?_, m2⟩, ?_⟩, ?_⟩
      · unfold mayHeadB at m1 ⊢
        simpa using m1
      · rw [List.all_eq_true] at m3 ⊢
        intro x hx
        obtain ⟨i, hi, rfl⟩ := List.mem_iff_getElem.1 hx
        rw [List.length_modify] at hi
        rw [List.getElem_modify]
        have hold := m3 _ (List.getElem_mem hi)
        split
        · rename_i e
          subst e
          unfold procMayB procHeadB procFB at hold ⊢
          simp only [Bool.and_eq_true] at hold ⊢
          refine ⟨hold.1, ?_⟩
          have h2 := hold.2
          simp only [putFrame]
          split at h2
          · rename_i t ht
            rw [ht]
            simp only [Bool.and_eq_true] at h2 ⊢
            refine ⟨h2.1, fitsL_set h2.2 ?_ v⟩
            have e2 : typesL E j = t.frame := by unfold typesL; rw [if_neg hn, typeOf_get (List.getElem?_eq_getElem hjl), ht]; rfl
            rw [← e2]; exact hty
          · cases h2
        · exact hold
      · unfold mayTailB at m4 ⊢
        simpa using m4
  · show -1 ≤ E.pid ∧ E.pid < (setS E q k v).procs.length
    have hp := hok.pid
    unfold setS putSlot
    split
    · exact hp
    · simpa using hp
end Go.Proofs.YtbeikhgjkbnldaaDoor
