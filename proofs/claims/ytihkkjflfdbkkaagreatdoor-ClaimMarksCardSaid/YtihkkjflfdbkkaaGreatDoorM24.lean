/- Layer 17's example: the claim's ways at a place with one way that does nothing. -/
import Derived.Test.YtihkkjflfdbkkaaGreatDoorM06
import Derived.Test.YtihkkjflfdbkkaaGreatDoorM23
namespace Go.Proofs.YtihkkjflfdbkkaaGreatDoor
open Go.ChangeShapes Go.WideShapes Go.ChangeAt Go.RowKit
set_option linter.unusedVariables false
set_option linter.unusedSimpArgs false

theorem infoWay : (Tryz.prog.info? 95).map (fun i => (i.zero, i.size, i.bytes)) = some (some (.agg #[.int .i64 0, .int .i64 0]), 2, 16) := by kernel_rfl
theorem news_new (W : World) (cs : List Value) (T : TypeId) : ∀ j u, cs[j]? = some u → (W.alloc (.cells cs.toArray T)).cell? ((⟨W.heap.size, 0, none⟩ : Addr).add j) = some u := by
  intro j u hj
  have e : (⟨W.heap.size, 0, none⟩ : Addr).add j = ⟨W.heap.size, j, none⟩ := by
    simp [Addr.add]
    try (intro h; exact h.symm)
  rw [e]
  refine (cell_of_row _ _ _ _ _ _ (heap_alloc_new W (.cells cs.toArray T))).trans ?_
  rw [List.getElem?_toArray]
  exact hj
def zeros (k : Nat) : List Value := List.replicate (2 * k) (.int .i64 0)
def WtWaysP (w : World) (e : Ending) (W : World) : Prop := ∃ g c, e = .returned (.slice (some ⟨g, 0, none⟩) 1 c) ∧ W.cell? ⟨g, 0, none⟩ = some (.int .i64 0) ∧ W.cell? ⟨g, 1, none⟩ = some (.int .i64 0) ∧ g < W.heap.size ∧ Below w.heap.size w W

set_option maxRecDepth 100000 in
set_option maxHeartbeats 4000000 in
theorem wtWaysC (b g c : Nat) (w : World) (hgl : g < w.heap.size) (hbl : b < w.heap.size) (h16 : w.cell? ⟨b, 16, none⟩ = some (.slice (some ⟨g, 0, none⟩) 1 c)) (hk : w.cell? ⟨g, 0, none⟩ = some (.int .i64 8)) :
    Calls Tryz.prog 30 #[.pointer (some ⟨b, 0, none⟩)] w (WtWaysP w) := by
  obtain ⟨i4, hi4, hz0, hz1, hz2⟩ := info_parts infoWay
  have HI := Lib.hid (And.intro hi4 (And.intro hz0 (And.intro hz1 hz2)))
  have HF := Lib.hid (And.intro hgl (And.intro hbl (And.intro h16 hk)))
  have HO0 : Hid (w.ownsRow w.heap.size 95 2 (.slice none 0 0) 0 (zeros 0)) := Lib.hid (World.ownsRow_nil _ _ _ _)
  have HB0 : Hid (Below w.heap.size w w) := Lib.hid (Below.refl _ _)
  clear hi4 hz0 hz1 hz2 hgl hbl hk
  go_enter Tryz.func30, Tryz.ntmps30
  go_wp2_with fail
  clear h16
  go_loopw [3, 16] (fun ov iv W => ∃ (k : Nat) (v : Value), iv = .int .i64 k ∧ v = ov ∧ k ≤ 1 ∧ Hid (W.ownsRow w.heap.size 95 2 v k (zeros k)) ∧ Hid (Below w.heap.size w W)) (fun ov iv _ => 1 - (intOf iv).toNat)
  case atStart => exact ⟨0, _, rfl, rfl, by omega, HO0, HB0⟩
  case round =>
    clear HO0 HB0
    obtain ⟨k, v, rfl, rfl, hk, HO, HB⟩ := hrel
    by_cases h1 : k = 1
    · subst h1
      obtain ⟨g', cap', rfl⟩ := ownsRow_succ HO.out
      have e0 := HO.out.cellAt 0 (by decide)
      have e1 := HO.out.cellAt 1 (by decide)
      have hl := (HO.out.lt g' rfl).2
      clear hk
      go_wp2_with fail
      go_ret
      exact ⟨g', cap', rfl, e0.trans rfl, e1.trans rfl, by first | exact hl | omega, HB.out⟩
    · obtain rfl : k = 0 := by omega
      have c16 := (HB.out.cell (p := ⟨b, 16, none⟩) HF.out.2.1).trans HF.out.2.2.1
      have ck := (HB.out.cell (p := ⟨g, 0, none⟩) HF.out.1).trans HF.out.2.2.2
      clear hk h1
      go_wp2_with (at_builtin; refine wpList_append_own _ rfl _ _ 92 rfl w.heap.size 95 i4 (.agg #[.int .i64 0, .int .i64 0]) 2 16 Tryz.underlying92 HI.out.1 HI.out.2.1 HI.out.2.2.1 HI.out.2.2.2 rfl (by decide) v 0 (zeros 0) rfl (HO.out.alloc _) ⟨wr.heap.size, 0, none⟩ 1 1 [.int .i64 0, .int .i64 0] rfl rfl (news_new _ _ _) (by simp [Value.oneCell']) (by unfold maxLen; omega) (by omega) (by simp; have := HB.out.size; omega) ?_)
      intro v1 w1 hown hgrow _
      have HON : Hid (w1.ownsRow w.heap.size 95 2 v1 1 (zeros 1)) := Lib.hid hown
      have HBN : Hid (Below w.heap.size w w1) := Lib.hid ((HB.out.alloc HB.out.size _).grown hgrow (by have := HB.out.size; simp; omega) (fun k hk => (HO.out.lt k hk).1))
      clear hown hgrow c16 ck HO HB
      go_wp2_with fail
      go_roundw
      case rel => exact ⟨1, _, by first | rfl | go_num, rfl, by omega, HON, HBN⟩
      case measure => simp [intOf]
end Go.Proofs.YtihkkjflfdbkkaaGreatDoor
/- A state copied: what is true on the way. -/
namespace Go.Proofs.YtihkkjflfdbkkaaGreatDoor
open Go.ChangeShapes Go.WideShapes Go.ChangeAt Go.RowKit
set_option linter.unusedVariables false

/-- The cells of a row, as a list. -/
theorem flat_of {w : World} {g off N : Nat} (h : ∀ j, j < N → ∃ u, w.cell? ⟨g, off + j, none⟩ = some u ∧ u.oneCell' = true) :
    ∃ X : List Value, X.length = N ∧ (∀ u ∈ X, u.oneCell' = true) ∧ (∀ (j : Nat) (u : Value), X[j]? = some u → w.cell? ⟨g, off + j, none⟩ = some u) ∧ ∀ j, j < N → X[j]? = w.cell? ⟨g, off + j, none⟩ := by
  have key : ∀ j, j < N → ((List.range N).map (fun j => (w.cell? ⟨g, off + j, none⟩).getD (.bool false)))[j]? = w.cell? ⟨g, off + j, none⟩ := fun j hj => by
    obtain ⟨u, hu, -⟩ := h j hj
    rw [List.getElem?_map, List.getElem?_range hj]
    simp [hu]
  refine ⟨(List.range N).map (fun j => (w.cell? ⟨g, off + j, none⟩).getD (.bool false)), by simp, fun u hu => ?_, fun j u hj => ?_, key⟩
  · obtain ⟨j, hj, rfl⟩ := List.mem_map.1 hu
    obtain ⟨v, hv, hv2⟩ := h j (List.mem_range.1 hj)
    rw [hv]; exact hv2
  · have hjN : j < N := by
      have := (List.getElem?_eq_some_iff.1 hj).1
      simpa using this
    rw [← key j hjN]; exact hj
/-- A row of numbers, as a source. -/
theorem src_ints {B : Nat} {w : World} {o : Option Addr} {l : List Int} (h : Row B o 1 (intAt w) l) (hB : B ≤ w.heap.size) : SrcRow w o l.length (intsV l) := by
  rcases h.2 with h0 | ⟨g, off, rfl, hg, hi⟩
  · exact .inl h0
  · refine .inr ⟨g, off, rfl, by omega, fun j u hj => ?_⟩
    have hjl : j < l.length := by
      have := (List.getElem?_eq_some_iff.1 hj).1
      simpa [intsV] using this
    have h2 := hi j hjl
    unfold intAt at h2
    rw [show off + j * 1 = off + j from by omega] at h2
    rw [h2]
    simpa [intsV, hjl] using hj
theorem ints_one (l : List Int) : ∀ u ∈ intsV l, u.oneCell' = true := fun u hu => by
  obtain ⟨x, -, rfl⟩ := List.mem_map.1 hu
  rfl
theorem ints_len (l : List Int) : (intsV l).length = l.length * 1 := by simp [intsV]
/-- A row of slices' heads, as a source. -/
theorem src_heads {B : Nat} {w : World} {o : Option Addr} {q : List (List Int)} (h : Row B o 1 (msgAt B w) q) (hB : B ≤ w.heap.size) :
    ∃ Y : List Value, Y.length = q.length * 1 ∧ (∀ u ∈ Y, u.oneCell' = true) ∧ SrcRow w o q.length Y ∧ ∀ j (hj : j < q.length), ∃ o c, Y[j]? = some (.slice o q[j].length c) ∧ Row B o 1 (intAt w) q[j] := by
  rcases h.2 with h0 | ⟨g, off, rfl, hg, hi⟩
  · exact ⟨[], by simp [h0], by simp, .inl h0, fun j hj => by omega⟩
  · have hc : ∀ j, j < q.length → ∃ u, w.cell? ⟨g, off + j, none⟩ = some u ∧ u.oneCell' = true := fun j hj => by
      obtain ⟨o, c, h2, -⟩ := hi j hj
      rw [show off + j * 1 = off + j from by omega] at h2
      exact ⟨_, h2, rfl⟩
    obtain ⟨X, h1, h2, h3, h4⟩ := flat_of hc
    refine ⟨X, by omega, h2, .inr ⟨g, off, rfl, by omega, h3⟩, fun j hj => ?_⟩
    obtain ⟨o, c, h5, h6⟩ := hi j hj
    rw [show off + j * 1 = off + j from by omega] at h5
    exact ⟨o, c, (h4 j hj).trans h5, h6⟩
theorem src_chans {B : Nat} {w : World} {o : Option Addr} {l : List ChanD} (h : Row B o 2 (chanAt B w) l) (hB : B ≤ w.heap.size) :
    ∃ X : List Value, X.length = l.length * 2 ∧ (∀ u ∈ X, u.oneCell' = true) ∧ SrcRow w o l.length X ∧ ∀ i (hi : i < l.length), X[i * 2]? = some (.int .i64 l[i].shape) ∧ ∃ o c, X[i * 2 + 1]? = some (.slice o l[i].queue.length c) ∧ Row B o 1 (msgAt B w) l[i].queue := by
  rcases h.2 with h0 | ⟨g, off, rfl, hg, hi⟩
  · exact ⟨[], by simp [h0], by simp, .inl h0, fun j hj => by omega⟩
  · have hc : ∀ j, j < l.length * 2 → ∃ u, w.cell? ⟨g, off + j, none⟩ = some u ∧ u.oneCell' = true := fun j hj => by
      have hx := hi (j / 2) (by omega)
      by_cases he : j % 2 = 0
      · have := hx.c0
        rw [show off + j / 2 * 2 = off + j from by omega] at this
        exact ⟨_, this, rfl⟩
      · obtain ⟨o, c, h2, -⟩ := hx.queue
        rw [show off + j / 2 * 2 + 1 = off + j from by omega] at h2
        exact ⟨_, h2, rfl⟩
    obtain ⟨X, h1, h2, h3, h4⟩ := flat_of hc
    refine ⟨X, h1, h2, .inr ⟨g, off, rfl, by omega, h3⟩, fun i hi' => ?_⟩
    have hx := hi i hi'
    obtain ⟨o, c, h5, h6⟩ := hx.queue
    exact ⟨(h4 _ (by omega)).trans hx.c0, o, c, (h4 _ (by omega)).trans h5, h6⟩
theorem src_procs {B : Nat} {w : World} {o : Option Addr} {l : List ProcessD} (h : Row B o 4 (processAt B w) l) (hB : B ≤ w.heap.size) :
    ∃ X : List Value, X.length = l.length * 4 ∧ (∀ u ∈ X, u.oneCell' = true) ∧ SrcRow w o l.length X ∧ ∀ i (hi : i < l.length), X[i * 4]? = some (.int .i64 l[i].type) ∧ X[i * 4 + 1]? = some (.int .i64 l[i].loc) ∧ X[i * 4 + 2]? = some (.int .i64 l[i].prio) ∧ ∃ o c, X[i * 4 + 3]? = some (.slice o l[i].frame.length c) ∧ Row B o 1 (intAt w) l[i].frame := by
  rcases h.2 with h0 | ⟨g, off, rfl, hg, hi⟩
  · exact ⟨[], by simp [h0], by simp, .inl h0, fun j hj => by omega⟩
  · have hc : ∀ j, j < l.length * 4 → ∃ u, w.cell? ⟨g, off + j, none⟩ = some u ∧ u.oneCell' = true := fun j hj => by
      have hx := hi (j / 4) (by omega)
      by_cases h0 : j % 4 = 0
      · have := hx.c0
        rw [show off + j / 4 * 4 = off + j from by omega] at this
        exact ⟨_, this, rfl⟩
      by_cases h1 : j % 4 = 1
      · have := hx.c1
        rw [show off + j / 4 * 4 + 1 = off + j from by omega] at this
        exact ⟨_, this, rfl⟩
      by_cases h2 : j % 4 = 2
      · have := hx.c2
        rw [show off + j / 4 * 4 + 2 = off + j from by omega] at this
        exact ⟨_, this, rfl⟩
      · obtain ⟨o, c, h2, -⟩ := hx.frame
        rw [show off + j / 4 * 4 + 3 = off + j from by omega] at h2
        exact ⟨_, h2, rfl⟩
    obtain ⟨X, h1, h2, h3, h4⟩ := flat_of hc
    refine ⟨X, h1, h2, .inr ⟨g, off, rfl, by omega, h3⟩, fun i hi' => ?_⟩
    have hx := hi i hi'
    obtain ⟨o, c, h5, h6⟩ := hx.frame
    exact ⟨(h4 _ (by omega)).trans hx.c0, (h4 _ (by omega)).trans hx.c1, (h4 _ (by omega)).trans hx.c2, o, c, (h4 _ (by omega)).trans h5, h6⟩

/-- Under way: what is one's own, the box of the state, the box of what is told. -/
structure Cp (w0 : World) (s : StateD) (gv cv pv : Value) (R : Nat × Nat × Nat → RowS) (W : World) : Prop where
  own : Own w0.heap.size W R
  ty : ∀ k, (R k).e ≠ 33
  box : W.heap[w0.heap.size]? = some (.cells #[gv, cv, pv, .int .i64 s.last, .int .i64 s.alone, .int .i64 s.claim] 33 (0, 0))
  res : W.heap[w0.heap.size + 1]? = some (.cells #[.slice none 0 0, .slice none 0 0, .slice none 0 0, .int .i64 0, .int .i64 0, .int .i64 0] 33 (0, 0))
  bel : Below w0.heap.size w0 W
theorem upd_ty {R : Nat × Nat × Nat → RowS} {k : Nat × Nat × Nat} {r : RowS} {T : TypeId} (h : ∀ k, (R k).e ≠ T) (hr : r.e ≠ T) : ∀ q, (upd R k r q).e ≠ T := fun q => by
  unfold upd
  split
  · exact hr
  · exact h q
section
variable {w0 W W1 : World} {s : StateD} {gv cv pv : Value} {R : Nat × Nat × Nat → RowS}
theorem Cp.drew (h : Cp w0 s gv cv pv R W) : Cp w0 s gv cv pv R W.drew := ⟨⟨fun k => (h.own.row k).drew, h.own.ne⟩, h.ty, h.box, h.res, h.bel.drew⟩
/-- A row more, whose head goes to the box. -/
theorem Cp.head (h : Cp w0 s gv cv pv R W) (hb : Below W.heap.size W W1) (k : Nat × Nat × Nat) (r : RowS) (hr : W1.ownsRow W.heap.size r.e r.size r.v r.n r.xs) (hrT : r.e ≠ 33) (i : Nat) {gv' cv' pv' : Value} (hc : (#[gv, cv, pv, Value.int .i64 s.last, .int .i64 s.alone, .int .i64 s.claim] : Array Value).setIfInBounds i r.v = #[gv', cv', pv', Value.int .i64 s.last, .int .i64 s.alone, .int .i64 s.claim]) :
    Cp w0 s gv' cv' pv' (upd R k r) (W1.setCell ⟨w0.heap.size, i, none⟩ r.v) := by
  have hbox : W1.heap[w0.heap.size]? = _ := (hb.block _ (lt_of_block h.box)).trans h.box
  have hres : W1.heap[w0.heap.size + 1]? = _ := (hb.block _ (lt_of_block h.res)).trans h.res
  have ho := h.own.put h.bel.size hb k r hr
  refine ⟨ho.otherT hbox (upd_ty h.ty hrT) _ _, upd_ty h.ty hrT, ?_, ?_, (h.bel.trans (hb.mono h.bel.size)).setCell (Nat.le_refl _) _⟩
  · rw [heap_setCell_same _ _ _ _ _ _ hbox, hc]
  · rw [heap_setCell_other _ _ _ _ (by exact fun e => by simp at e)]
    exact hres
/-- A row more, whose head goes to a cell of a row. -/
theorem Cp.cell (h : Cp w0 s gv cv pv R W) (hb : Below W.heap.size W W1) (k : Nat × Nat × Nat) (r : RowS) (hr : W1.ownsRow W.heap.size r.e r.size r.v r.n r.xs) (hrT : r.e ≠ 33) {k2 : Nat × Nat × Nat} (hk : k2 ≠ k) {g n c : Nat} (hv : (R k2).v = .slice (some ⟨g, 0, none⟩) n c) (hn : (R k2).n = n) (j : Nat) (u : Value) :
    Cp w0 s gv cv pv (upd (upd R k r) k2 ⟨(R k2).e, (R k2).size, (R k2).v, (R k2).n, (R k2).xs.set j u⟩) (W1.setCell ⟨g, j, none⟩ u) := by
  have hbox : W1.heap[w0.heap.size]? = _ := (hb.block _ (lt_of_block h.box)).trans h.box
  have hres : W1.heap[w0.heap.size + 1]? = _ := (hb.block _ (lt_of_block h.res)).trans h.res
  have ho := h.own.put h.bel.size hb k r hr
  have e2 : upd R k r k2 = R k2 := upd_ne R r hk
  have ho2 := ho.set k2 (g := g) (n := n) (c := c) (by rw [e2]; exact hv) (by rw [e2]; exact hn) j u
  rw [e2] at ho2
  have hg := (h.own.row k2).lt g (by rw [hv]; rfl)
  have hne1 : g ≠ w0.heap.size := fun e => owns_neObj (h.own.row k2) h.box (h.ty k2) (by rw [hv, ← e]; rfl)
  have hne2 : g ≠ w0.heap.size + 1 := fun e => owns_neObj (h.own.row k2) h.res (h.ty k2) (by rw [hv, ← e]; rfl)
  refine ⟨ho2, upd_ty (upd_ty h.ty hrT) (h.ty k2), ?_, ?_, (h.bel.trans (hb.mono h.bel.size)).setCell hg.1 _⟩
  · rw [heap_setCell_other _ _ _ _ (by exact fun e => hne1 e.symm)]
    exact hbox
  · rw [heap_setCell_other _ _ _ _ (by exact fun e => hne2 e.symm)]
    exact hres
end
/-- A channel that is copied. -/
def ChOk (R : Nat × Nat × Nat → RowS) (xs : List Value) (i : Nat) (c : ChanD) : Prop := xs[i * 2]? = some (.int .i64 c.shape) ∧ xs[i * 2 + 1]? = some (R (kQ i)).v ∧ IsMsgs R i c.queue
def PrOk (R : Nat × Nat × Nat → RowS) (xs : List Value) (i : Nat) (p : ProcessD) : Prop := xs[i * 4]? = some (.int .i64 p.type) ∧ xs[i * 4 + 1]? = some (.int .i64 p.loc) ∧ xs[i * 4 + 2]? = some (.int .i64 p.prio) ∧ xs[i * 4 + 3]? = some (R (kF i)).v ∧ IsInts (R (kF i)) p.frame
theorem k_ne {a b c a' b' c' : Nat} (h : a ≠ a' ∨ b ≠ b' ∨ c ≠ c') : (a, b, c) ≠ (a', b', c') := by
  intro e
  injection e with e1 e2
  injection e2 with e2 e3
  omega
/-- Rows that agree but for channel i. -/
def Agree (R R' : Nat × Nat × Nat → RowS) (P : Nat × Nat × Nat → Prop) : Prop := ∀ k, P k → R' k = R k
theorem ChOk.of {R R' : Nat × Nat × Nat → RowS} {xs xs' : List Value} {i : Nat} {c : ChanD} (h : ChOk R xs i c) (hq : R' (kQ i) = R (kQ i)) (hm : ∀ j, R' (kM i j) = R (kM i j)) (h0 : xs'[i * 2]? = xs[i * 2]?) (h1 : xs'[i * 2 + 1]? = xs[i * 2 + 1]?) : ChOk R' xs' i c := by
  obtain ⟨a, b, o, k, ys, h2, h3⟩ := h
  exact ⟨h0.trans a, by rw [h1, hq]; exact b, o, k, ys, hq.trans h2, fun j hj => by rw [hm]; exact h3 j hj⟩
theorem PrOk.of {R R' : Nat × Nat × Nat → RowS} {xs xs' : List Value} {i : Nat} {p : ProcessD} (h : PrOk R xs i p) (hf : R' (kF i) = R (kF i)) (h0 : xs'[i * 4]? = xs[i * 4]?) (h1 : xs'[i * 4 + 1]? = xs[i * 4 + 1]?) (h2 : xs'[i * 4 + 2]? = xs[i * 4 + 2]?) (h3 : xs'[i * 4 + 3]? = xs[i * 4 + 3]?) : PrOk R' xs' i p := by
  obtain ⟨a, b, c, d, e⟩ := h
  exact ⟨h0.trans a, h1.trans b, h2.trans c, by rw [h3, hf]; exact d, by rw [hf]; exact e⟩
end Go.Proofs.YtihkkjflfdbkkaaGreatDoor
