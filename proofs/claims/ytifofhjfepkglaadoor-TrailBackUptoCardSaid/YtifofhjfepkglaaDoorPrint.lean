/- What an end is as text: the program's answer. -/
import Derived.Test.YtifofhjfepkglaaDoorBld
namespace Go.Proofs.YtifofhjfepkglaaDoor
open Go.ChangeShapes Go.WideShapes Go.ChangeAt Go.RowKit
set_option linter.unusedVariables false
set_option linter.unusedSimpArgs false

/-- The cells of a move. -/
def MvAt (w : World) (g j : Nat) (m : MV) : Prop :=
  w.cell? ⟨g, j, none⟩ = some (.int .i64 m.a) ∧ w.cell? ⟨g, j + 1, none⟩ = some (.int .i64 m.b) ∧ w.cell? ⟨g, j + 2, none⟩ = some (.int .i64 m.c) ∧ w.cell? ⟨g, j + 3, none⟩ = some (.int .i64 m.d) ∧ w.cell? ⟨g, j + 4, none⟩ = some (.int .i64 m.e) ∧ w.cell? ⟨g, j + 5, none⟩ = some (.int .i64 m.f) ∧ w.cell? ⟨g, j + 6, none⟩ = some (.int .i64 m.g)
def Mvs (w : World) (g off : Nat) (l : List MV) : Prop := g < w.heap.size ∧ ∀ i (h : i < l.length), MvAt w g (off + i * 7) l[i]
theorem MvAt.below {w w' : World} {g j : Nat} {m : MV} (h : MvAt w g j m) (hb : Below w.heap.size w w') : MvAt w' g j m := by
  have hg := World.block_lt_of_cell? _ _ h.1
  have hc : ∀ i, w'.cell? ⟨g, i, none⟩ = w.cell? ⟨g, i, none⟩ := fun i => hb.cell hg
  obtain ⟨a, b, c, d, e, f, g⟩ := h
  exact ⟨(hc _).trans a, (hc _).trans b, (hc _).trans c, (hc _).trans d, (hc _).trans e, (hc _).trans f, (hc _).trans g⟩
theorem Mvs.below {w w' : World} {g off : Nat} {l : List MV} (h : Mvs w g off l) (hb : Below w.heap.size w w') : Mvs w' g off l :=
  ⟨Nat.lt_of_lt_of_le h.1 hb.size, fun i hi => (h.2 i hi).below hb⟩
/-- The moves of an end, in memory. -/
def TrAt (w : World) (o : Option Addr) (l : List MV) : Prop := l.length = 0 ∨ ∃ g off, o = some ⟨g, off, none⟩ ∧ Mvs w g off l
theorem TrAt.below {w w' : World} {o : Option Addr} {l : List MV} (h : TrAt w o l) (hb : Below w.heap.size w w') : TrAt w' o l := by
  rcases h with h | ⟨g, off, h1, h2⟩
  · exact .inl h
  · exact .inr ⟨g, off, h1, h2.below hb⟩
/-- An end, as a value. -/
def fdV (f : FD) (tv : Value) : Value := .agg #[.int .i64 f.kind, .int .i64 f.what, .int .i64 f.err, .int .i64 f.at_, tv, .int .i64 f.cyc, .int .i64 f.states, .int .i64 f.steps]
def fdCells (f : FD) (tv : Value) : Array Value := #[.int .i64 f.kind, .int .i64 f.what, .int .i64 f.err, .int .i64 f.at_, tv, .int .i64 f.cyc, .int .i64 f.states, .int .i64 f.steps]
def errOf (f : FD) : Int := if badF f = true then 42 else 0
def outOf (f : FD) : List UInt8 := if badF f = true then [] else printB f

theorem lineB_len (wd : List UInt8) (l : List Int) (h : ∀ n ∈ l, inI n) : (lineB wd l).length ≤ wd.length + 22 * l.length + 1 := by
  unfold lineB
  have := wordsB_len wd l h
  simp only [List.length_append, List.length_cons, List.length_nil]
  omega
theorem mvB_len (cyc : Int) (i : Nat) (m : MV) (h : ∀ n ∈ mvL m, inI n) : (mvB cyc i m).length ≤ 170 := by
  have h1 := lineB_len moveW (mvL m) h
  have h2 := lineB_len cycleW [] (fun n hn => by cases hn)
  unfold mvB
  rw [List.length_append]
  simp only [moveW, cycleW, mvL, List.length_cons, List.length_nil] at h1 h2
  split
  · simp only [moveW, cycleW, mvL, List.length_cons, List.length_nil] at h1 h2 ⊢
    omega
  · simp only [moveW, cycleW, mvL, List.length_cons, List.length_nil] at h1 h2 ⊢
    omega
theorem bodyB_len (cyc : Int) : ∀ (l : List MV) (i : Nat), (∀ m ∈ l, ∀ n ∈ mvL m, inI n) → (bodyB cyc i l).length ≤ 170 * l.length
  | [], _, _ => by simp [bodyB]
  | m :: r, i, h => by
    have h1 := mvB_len cyc i m (h m (by simp))
    have h2 := bodyB_len cyc r (i + 1) fun k hk => h k (by simp [hk])
    simp only [bodyB, List.length_append, List.length_cons]
    omega
theorem bodyB_take {f : FD} {k : Nat} {m : MV} (hk : k < f.trail.length) (hm : f.trail[k] = m) : bodyB f.cyc 0 (f.trail.take (k + 1)) = bodyB f.cyc 0 (f.trail.take k) ++ mvB f.cyc k m := by
  rw [List.take_succ_eq_append_getElem hk, hm, bodyB_snoc]
  congr 2
  simp
  omega
theorem ints6 (w : World) (a b c d e f : Int) : Ints (w.alloc (.cells #[.int .i64 a, .int .i64 b, .int .i64 c, .int .i64 d, .int .i64 e, .int .i64 f] 3)) w.heap.size 0 [a, b, c, d, e, f] := by
  have h := heap_alloc_new w (.cells #[.int .i64 a, .int .i64 b, .int .i64 c, .int .i64 d, .int .i64 e, .int .i64 f] 3)
  refine ⟨lt_of_block h, fun i hi => ?_⟩
  refine (cell_of_row _ _ _ _ _ _ h).trans ?_
  have hi2 : i = 0 ∨ i = 1 ∨ i = 2 ∨ i = 3 ∨ i = 4 ∨ i = 5 := by simp at hi; omega
  rcases hi2 with rfl | rfl | rfl | rfl | rfl | rfl <;> rfl
theorem ints7 (w : World) (a b c d e f g : Int) : Ints (w.alloc (.cells #[.int .i64 a, .int .i64 b, .int .i64 c, .int .i64 d, .int .i64 e, .int .i64 f, .int .i64 g] 3)) w.heap.size 0 [a, b, c, d, e, f, g] := by
  have h := heap_alloc_new w (.cells #[.int .i64 a, .int .i64 b, .int .i64 c, .int .i64 d, .int .i64 e, .int .i64 f, .int .i64 g] 3)
  refine ⟨lt_of_block h, fun i hi => ?_⟩
  refine (cell_of_row _ _ _ _ _ _ h).trans ?_
  have hi2 : i = 0 ∨ i = 1 ∨ i = 2 ∨ i = 3 ∨ i = 4 ∨ i = 5 ∨ i = 6 := by simp at hi; omega
  rcases hi2 with rfl | rfl | rfl | rfl | rfl | rfl | rfl <;> rfl

/-- What stands in memory while an end is written. -/
structure Wri (w W : World) (f : FD) (tv : Value) (fb bb : Nat) (l : List UInt8) : Prop where
  bel : Below w.heap.size w W
  own : W.heap[fb]? = some (.cells (fdCells f tv) 25 (0, 0))
  hfb : w.heap.size ≤ fb
  hne : fb < bb
  bld : Lib.IsBuilder 40 5 bb bb (Lib.byteCells l) W
theorem Wri.below {w W W' : World} {f : FD} {tv : Value} {fb bb : Nat} {l : List UInt8} (h : Wri w W f tv fb bb l) (hb : Below W.heap.size W W') : Wri w W' f tv fb bb l := by
  refine ⟨h.bel.trans (hb.mono h.bel.size), (hb.block _ (lt_of_block h.own)).trans h.own, h.hfb, h.hne, ?_⟩
  rcases h.bld with ⟨h1, v, h2, h3, h4⟩ | ⟨h1, v, h2, h3, h4⟩
  · refine .inl ⟨h1, v, (hb.block _ (lt_of_block h2)).trans h2, ?_, h4⟩
    refine h3.kept (row := none) ⟨hb.os, hb.tape, hb.output, hb.size, fun i hi _ => hb.block i hi⟩ ?_
    cases hv : v.ownBlock with
    | none => exact .inl rfl
    | some g => exact .inr (by simp)
  · refine .inr ⟨h1, v, (hb.block _ (lt_of_block h2)).trans h2, ?_, h4⟩
    refine h3.kept (row := none) ⟨hb.os, hb.tape, hb.output, hb.size, fun i hi _ => hb.block i hi⟩ ?_
    cases hv : v.ownBlock with
    | none => exact .inl rfl
    | some g => exact .inr (by simp)
theorem Wri.blt {w W : World} {f : FD} {tv : Value} {fb bb : Nat} {l : List UInt8} (h : Wri w W f tv fb bb l) : bb < W.heap.size := by
  rcases h.bld with ⟨h1, v, h2, h3, h4⟩ | ⟨h1, v, h2, h3, h4⟩ <;> exact lt_of_block h2
theorem Wri.write {w W W' : World} {f : FD} {tv : Value} {fb bb : Nat} {l s : List UInt8} (h : Wri w W f tv fb bb l) (h1 : Lib.IsBuilder 40 5 bb bb (Lib.byteCells (l ++ s)) W') (h2 : Below bb W W') (h3 : Lib.OthersKept 5 (some bb) W W') : Wri w W' f tv fb bb (l ++ s) := by
  have e1 := h.hfb
  have e2 := h.hne
  exact ⟨h.bel.trans (h2.mono (by omega)), h3 _ _ h.own (by simp; omega) (fun c fz e => by cases e), e1, e2, h1⟩

theorem fd_cells {W : World} {fb : Nat} {f : FD} {tv : Value} (h : W.heap[fb]? = some (.cells (fdCells f tv) 25 (0, 0))) :
    W.cell? ⟨fb, 0, none⟩ = some (.int .i64 f.kind) ∧ W.cell? ⟨fb, 1, none⟩ = some (.int .i64 f.what) ∧ W.cell? ⟨fb, 2, none⟩ = some (.int .i64 f.err) ∧ W.cell? ⟨fb, 3, none⟩ = some (.int .i64 f.at_) ∧ W.cell? ⟨fb, 4, none⟩ = some tv ∧ W.cell? ⟨fb, 5, none⟩ = some (.int .i64 f.cyc) ∧ W.cell? ⟨fb, 6, none⟩ = some (.int .i64 f.states) ∧ W.cell? ⟨fb, 7, none⟩ = some (.int .i64 f.steps) :=
  ⟨(cell_of_row _ _ _ _ _ _ h).trans rfl, (cell_of_row _ _ _ _ _ _ h).trans rfl, (cell_of_row _ _ _ _ _ _ h).trans rfl, (cell_of_row _ _ _ _ _ _ h).trans rfl, (cell_of_row _ _ _ _ _ _ h).trans rfl, (cell_of_row _ _ _ _ _ _ h).trans rfl, (cell_of_row _ _ _ _ _ _ h).trans rfl, (cell_of_row _ _ _ _ _ _ h).trans rfl⟩

def mvCells (m : MV) : Array Value := #[.int .i64 m.a, .int .i64 m.b, .int .i64 m.c, .int .i64 m.d, .int .i64 m.e, .int .i64 m.f, .int .i64 m.g]
theorem mv_cells {W : World} {x : Nat} {m : MV} (h : W.heap[x]? = some (.cells (mvCells m) 47 (0, 0))) : MvAt W x 0 m :=
  ⟨(cell_of_row _ _ _ _ _ _ h).trans rfl, (cell_of_row _ _ _ _ _ _ h).trans rfl, (cell_of_row _ _ _ _ _ _ h).trans rfl, (cell_of_row _ _ _ _ _ _ h).trans rfl, (cell_of_row _ _ _ _ _ _ h).trans rfl, (cell_of_row _ _ _ _ _ _ h).trans rfl, (cell_of_row _ _ _ _ _ _ h).trans rfl⟩

set_option maxRecDepth 100000 in
set_option maxHeartbeats 4000000 in
theorem print_any (f : FD) (o : Option Addr) (cap : Nat) (w : World) (hm : TrAt w o f.trail) (hin : FIn f) (hl : f.trail.length ≤ 400000000) (ht : ∀ w', Below w.heap.size w w' → Tab w') :
    Calls Tryd.prog 6 #[fdV f (.slice o f.trail.length cap)] w fun e w' => e = .returned (.tuple #[strV (outOf f), .int .i64 (errOf f)]) ∧ Below w.heap.size w w' := by
  have HM := Lib.hid hm
  have HIN := Lib.hid hin
  have HT := Lib.hid ht
  obtain ⟨W0, hW0⟩ : ∃ W0, w.alloc (.cells (fdCells f (.slice o f.trail.length cap)) 25) = W0 := ⟨_, rfl⟩
  have hB0 : Below w.heap.size w W0 := by rw [← hW0]; exact (Below.refl _ _).alloc (Nat.le_refl _) _
  have hX0 : W0.heap[w.heap.size]? = some (.cells (fdCells f (.slice o f.trail.length cap)) 25 (0, 0)) := by rw [← hW0]; exact heap_alloc_new _ _
  have hfc : fdCells f (.slice o f.trail.length cap) = #[.int .i64 f.kind, .int .i64 f.what, .int .i64 f.err, .int .i64 f.at_, .slice o f.trail.length cap, .int .i64 f.cyc, .int .i64 f.states, .int .i64 f.steps] := rfl
  rw [hfc] at hW0
  obtain ⟨c0, c1, c2, c3, c4, c5, c6, c7⟩ := fd_cells hX0
  have HB0 := Lib.hid hB0
  have HX0 := Lib.hid hX0
  clear hm hin ht hfc hB0 hX0
  unfold fdV strV outOf errOf
  by_cases h1 : f.kind < 1
  · have hb : badF f = true := by simp [badF, h1]
    rw [hb]
    clear hb
    go_enter Tryd.func6, Tryd.ntmps6
    go_wp2_with fail
    go_ret2
    exact ⟨rfl, HB0.out⟩
  by_cases h2 : 4 < f.kind
  · have hb : badF f = true := by simp [badF, h2]
    rw [hb]
    clear hb
    go_enter Tryd.func6, Tryd.ntmps6
    go_wp2_with fail
    go_ret2
    exact ⟨rfl, HB0.out⟩
  by_cases h3 : f.cyc < -1
  · have hb : badF f = true := by simp [badF, h3]
    rw [hb]
    clear hb
    go_enter Tryd.func6, Tryd.ntmps6
    go_wp2_with fail
    go_ret2
    exact ⟨rfl, HB0.out⟩
  by_cases h4 : (f.trail.length : Int) ≤ f.cyc
  · have hb : badF f = true := by simp [badF, h4]
    rw [hb]
    clear hb
    go_enter Tryd.func6, Tryd.ntmps6
    go_wp2_with fail
    go_ret2
    exact ⟨rfl, HB0.out⟩
  have hb : badF f = false := by simp [badF]; omega
  rw [hb]
  clear hb
  have hs0 : w.heap.size < W0.heap.size := lt_of_block HX0.out
  obtain ⟨W1, hW1⟩ : ∃ W1, W0.alloc (.cells #[.pointer none, .slice none 0 0] 40) = W1 := ⟨_, rfl⟩
  have hs1 : W1.heap.size = W0.heap.size + 1 := by rw [← hW1]; exact World.size_alloc _ _
  have hR1 : Wri w W1 f (.slice o f.trail.length cap) w.heap.size W0.heap.size [] := by
    rw [← hW1]
    exact ⟨HB0.out.alloc HB0.out.size _, (heap_alloc_old W0 _ hs0).trans HX0.out, Nat.le_refl _, hs0, Lib.fresh_isBuilder 40 5 W0⟩
  have HR1 := Lib.hid hR1
  have hLN : Calls Tryd.prog 12 #[.string ⟨#[102, 111, 117, 110, 100]⟩, .slice (some ⟨W0.heap.size + 1, 0, none⟩) 6 6] (W1.alloc (.cells #[.int .i64 f.kind, .int .i64 f.what, .int .i64 f.err, .int .i64 f.at_, .int .i64 f.states, .int .i64 f.steps] 3)) fun e w' => e = .returned (strV (lineB foundW (fdL f))) ∧ Below (W1.alloc (.cells #[.int .i64 f.kind, .int .i64 f.what, .int .i64 f.err, .int .i64 f.at_, .int .i64 f.states, .int .i64 f.steps] 3)).heap.size (W1.alloc (.cells #[.int .i64 f.kind, .int .i64 f.what, .int .i64 f.err, .int .i64 f.at_, .int .i64 f.states, .int .i64 f.steps] 3)) w' := by
    have hi := ints6 W1 f.kind f.what f.err f.at_ f.states f.steps
    rw [hs1] at hi
    have hba : Below w.heap.size w (W1.alloc (.cells #[.int .i64 f.kind, .int .i64 f.what, .int .i64 f.err, .int .i64 f.at_, .int .i64 f.states, .int .i64 f.steps] 3)) := hR1.bel.alloc hR1.bel.size _
    exact pline_any foundW (some ⟨W0.heap.size + 1, 0, none⟩) 6 (fdL f) _ (.inr ⟨_, _, rfl, hi⟩) HIN.out.1 (by decide) (by simp [fdL]) fun w' hw => HT.out w' (hba.trans (hw.mono hba.size))
  unfold strV at hLN
  have HLN := Lib.hid hLN
  have hlen := lineB_len foundW (fdL f) HIN.out.1
  have hlen2 : (lineB foundW (fdL f)).length ≤ 200 := by simp only [foundW, fdL, List.length_cons, List.length_nil] at hlen ⊢; omega
  obtain ⟨hd, hhd⟩ : ∃ hd, lineB foundW (fdL f) = hd := ⟨_, rfl⟩
  rw [hhd] at HLN hlen2
  have HHD := Lib.hid hhd
  have HW1 := Lib.hid hW1
  clear hR1 hLN hlen hhd hs1 hW1
  go_enter Tryd.func6, Tryd.ntmps6
  go_wp2_with fail
  rw [HW1.out]
  refine HLN.out.mono ?_
  rintro e w3 ⟨rfl, hb3⟩
  have HR3 := Lib.hid ((HR1.out.below ((Below.refl _ _).alloc (Nat.le_refl _) _)).below hb3)
  clear hb3 HLN HW1
  have HWR := Lib.hid (write_any W0.heap.size W0.heap.size [] hd w3 HR3.out.bld (by simp; omega) (by have := HR3.out.blt; omega))
  go_wp2_with fail
  refine HWR.out.mono ?_
  rintro e w4 ⟨rfl, hb4, hb5, hb6⟩
  have HR4 := Lib.hid (HR3.out.write hb4 hb5 hb6)
  rw [List.nil_append] at HR4
  clear hb4 hb5 hb6 HWR HR3 HR1
  obtain ⟨e0, e1, e2, e3, e4, e5, e6, e7⟩ := fd_cells HR4.out.own
  clear c0 c1 c2 c3 c4 c5 c6 c7 e0 e1 e2 e3 e5 e6 e7 hW0
  go_wp2_with fail
  go_loopw [46] (fun i wr => ∃ k : Nat, i = .int .i64 k ∧ k ≤ f.trail.length ∧ Hid (Wri w wr f (.slice o f.trail.length cap) w.heap.size W0.heap.size (hd ++ bodyB f.cyc 0 (f.trail.take k)))) (fun i _ => f.trail.length - (intOf i).toNat)
  case atStart => exact ⟨0, rfl, by omega, by simpa [bodyB] using HR4⟩
  case round =>
    obtain ⟨k, rfl, hk, HR⟩ := hrel
    obtain ⟨bl, hbl⟩ : ∃ bl, bodyB f.cyc 0 (f.trail.take k) = bl := ⟨_, rfl⟩
    have hbll : bl.length ≤ 170 * 400000000 := by
      have h := bodyB_len f.cyc (f.trail.take k) 0 fun m hm => HIN.out.2 m (List.mem_of_mem_take hm)
      rw [hbl] at h
      simp at h
      omega
    rw [hbl] at HR
    have HBL := Lib.hid hbl
    clear hbl
    by_cases hlt : k < f.trail.length
    · obtain ⟨m, hm⟩ : ∃ m, f.trail[k] = m := ⟨_, rfl⟩
      have HTK := Lib.hid hm
      obtain ⟨g, off, rfl, hMv⟩ : ∃ g off, o = some ⟨g, off, none⟩ ∧ Mvs w g off f.trail := by
        rcases HM.out with h | h
        · omega
        · exact h
      have hmv := (hMv.below HR.out.bel).2 k hlt
      rw [hm] at hmv
      obtain ⟨z0, z1, z2, z3, z4, z5, z6⟩ := hmv
      have HMI : Hid (∀ n ∈ mvL m, inI n) := Lib.hid (HIN.out.2 m (by rw [← hm]; exact List.getElem_mem _))
      have hlti : (k : Int) < f.trail.length := by omega
      have hk0 : (0 : Int) ≤ k := by omega
      obtain ⟨_, _, _, _, _, e5, _, _⟩ := fd_cells HR.out.own
      have hfb : w.heap.size < wr.heap.size := lt_of_block HR.out.own
      have HX : Hid ((wr.alloc (.cells #[.int .i64 m.a, .int .i64 m.b, .int .i64 m.c, .int .i64 m.d, .int .i64 m.e, .int .i64 m.f, .int .i64 m.g] 47)).heap[wr.heap.size]? = some (.cells (mvCells m) 47 (0, 0))) := Lib.hid (heap_alloc_new wr _)
      have HRx := Lib.hid (HR.out.below ((Below.refl _ _).alloc (Nat.le_refl _) (.cells #[.int .i64 m.a, .int .i64 m.b, .int .i64 m.c, .int .i64 m.d, .int .i64 m.e, .int .i64 m.f, .int .i64 m.g] 47)))
      obtain ⟨W5, hW5⟩ : ∃ W5, wr.alloc (.cells #[.int .i64 m.a, .int .i64 m.b, .int .i64 m.c, .int .i64 m.d, .int .i64 m.e, .int .i64 m.f, .int .i64 m.g] 47) = W5 := ⟨_, rfl⟩
      rw [hW5] at HX HRx
      have HW5 := Lib.hid hW5
      have hx5 : wr.heap.size < W5.heap.size := lt_of_block HX.out
      clear hm hMv hW5
      by_cases hcy : (k : Int) = f.cyc
      · have hcy2 : ((k : Int) == f.cyc) = true := by simpa using hcy
        have HCY := Lib.hid hcy
        clear hcy
        have hLC : Calls Tryd.prog 12 #[.string ⟨#[99, 121, 99, 108, 101]⟩, .slice none 0 0] W5 fun e w' => e = .returned (strV (lineB cycleW [])) ∧ Below W5.heap.size W5 w' :=
          pline_any cycleW none 0 [] W5 (.inl rfl) (fun n hn => by cases hn) (by decide) (by decide) fun w' hw => HT.out w' (HRx.out.bel.trans (hw.mono HRx.out.bel.size))
        unfold strV at hLC
        obtain ⟨cl, hcl⟩ : ∃ cl, lineB cycleW [] = cl := ⟨_, rfl⟩
        have hcll : cl.length ≤ 10 := by rw [← hcl]; decide
        rw [hcl] at hLC
        have HCL := Lib.hid hcl
        have HLC := Lib.hid hLC
        clear hLC hcl
        have hbb : W0.heap.size < wr.heap.size := HR.out.blt
        go_wp2_with fail
        rw [HW5.out]
        refine HLC.out.mono ?_
        rintro e w6 ⟨rfl, hb6⟩
        have HR6 := Lib.hid (HRx.out.below hb6)
        have HX6 := Lib.hid ((hb6.block _ hx5).trans HX.out)
        clear hb6 HLC
        have HWC := Lib.hid (write_any W0.heap.size W0.heap.size _ cl w6 HR6.out.bld (by simp only [List.length_append]; omega) (by have := HR6.out.blt; omega))
        go_wp2_with fail
        refine HWC.out.mono ?_
        rintro e w7 ⟨rfl, hb7, hb8, hb9⟩
        have HR7 := Lib.hid (HR6.out.write hb7 hb8 hb9)
        have HX7 := Lib.hid (hb9 _ _ HX6.out (by simp; omega) (fun c fz e => by cases e))
        clear hb7 hb8 hb9 HWC HX6 HR6 z0 z1 z2 z3 z4 z5 z6 e5
        obtain ⟨y0, y1, y2, y3, y4, y5, y6⟩ := mv_cells HX7.out
        have hLN : Calls Tryd.prog 12 #[.string ⟨#[109, 111, 118, 101]⟩, .slice (some ⟨w7.heap.size, 0, none⟩) 7 7] (w7.alloc (.cells #[.int .i64 m.a, .int .i64 m.b, .int .i64 m.c, .int .i64 m.d, .int .i64 m.e, .int .i64 m.f, .int .i64 m.g] 3)) fun e w' => e = .returned (strV (lineB moveW (mvL m))) ∧ Below (w7.alloc (.cells #[.int .i64 m.a, .int .i64 m.b, .int .i64 m.c, .int .i64 m.d, .int .i64 m.e, .int .i64 m.f, .int .i64 m.g] 3)).heap.size (w7.alloc (.cells #[.int .i64 m.a, .int .i64 m.b, .int .i64 m.c, .int .i64 m.d, .int .i64 m.e, .int .i64 m.f, .int .i64 m.g] 3)) w' := by
          have hi := ints7 w7 m.a m.b m.c m.d m.e m.f m.g
          have hba : Below w.heap.size w (w7.alloc (.cells #[.int .i64 m.a, .int .i64 m.b, .int .i64 m.c, .int .i64 m.d, .int .i64 m.e, .int .i64 m.f, .int .i64 m.g] 3)) := HR7.out.bel.alloc HR7.out.bel.size _
          exact pline_any moveW (some ⟨w7.heap.size, 0, none⟩) 7 (mvL m) _ (.inr ⟨_, _, rfl, hi⟩) HMI.out (by decide) (by simp [mvL]) fun w' hw => HT.out w' (hba.trans (hw.mono hba.size))
        unfold strV at hLN
        obtain ⟨ln, hln⟩ : ∃ ln, lineB moveW (mvL m) = ln := ⟨_, rfl⟩
        have hlnl : ln.length ≤ 170 := by
          have h := lineB_len moveW (mvL m) HMI.out
          rw [hln] at h
          simp only [moveW, mvL, List.length_cons, List.length_nil] at h
          omega
        rw [hln] at hLN
        have HLN := Lib.hid hLN
        have HLL := Lib.hid hln
        have HRa := Lib.hid (HR7.out.below ((Below.refl _ _).alloc (Nat.le_refl _) (.cells #[.int .i64 m.a, .int .i64 m.b, .int .i64 m.c, .int .i64 m.d, .int .i64 m.e, .int .i64 m.f, .int .i64 m.g] 3)))
        clear hLN hln
        go_wp2_with fail
        refine HLN.out.mono ?_
        rintro e wa ⟨rfl, hba⟩
        have HRb := Lib.hid (HRa.out.below hba)
        clear hba HLN y0 y1 y2 y3 y4 y5 y6
        have HWR := Lib.hid (write_any W0.heap.size W0.heap.size _ ln wa HRb.out.bld (by simp only [List.length_append]; omega) (by have := HRb.out.blt; omega))
        go_wp2_with fail
        refine HWR.out.mono ?_
        rintro e wb ⟨rfl, hb4, hb5, hb6⟩
        have HRc := Lib.hid (HRb.out.write hb4 hb5 hb6)
        clear hb4 hb5 hb6 HWR
        go_wp2_with fail
        go_roundw
        case rel => exact ⟨k + 1, by go_num, by omega, Lib.hid (by have h := HRc.out; rw [bodyB_take hlt HTK.out, mvB, if_pos HCY.out, HCL.out, HLL.out, HBL.out]; simpa using h)⟩
        case measure => simp [intOf]; omega
      · have HCY := Lib.hid hcy
        clear hcy
        have hcy2 : ((k : Int) == f.cyc) = false := by simpa using HCY.out
        have hbb : W0.heap.size < wr.heap.size := HR.out.blt
        have hs5 : W5.heap.size = wr.heap.size + 1 := by rw [← HW5.out]; exact World.size_alloc _ _
        obtain ⟨y0, y1, y2, y3, y4, y5, y6⟩ := mv_cells HX.out
        have hLN : Calls Tryd.prog 12 #[.string ⟨#[109, 111, 118, 101]⟩, .slice (some ⟨wr.heap.size + 1, 0, none⟩) 7 7] (W5.alloc (.cells #[.int .i64 m.a, .int .i64 m.b, .int .i64 m.c, .int .i64 m.d, .int .i64 m.e, .int .i64 m.f, .int .i64 m.g] 3)) fun e w' => e = .returned (strV (lineB moveW (mvL m))) ∧ Below (W5.alloc (.cells #[.int .i64 m.a, .int .i64 m.b, .int .i64 m.c, .int .i64 m.d, .int .i64 m.e, .int .i64 m.f, .int .i64 m.g] 3)).heap.size (W5.alloc (.cells #[.int .i64 m.a, .int .i64 m.b, .int .i64 m.c, .int .i64 m.d, .int .i64 m.e, .int .i64 m.f, .int .i64 m.g] 3)) w' := by
          have hi := ints7 W5 m.a m.b m.c m.d m.e m.f m.g
          rw [hs5] at hi
          have hba : Below w.heap.size w (W5.alloc (.cells #[.int .i64 m.a, .int .i64 m.b, .int .i64 m.c, .int .i64 m.d, .int .i64 m.e, .int .i64 m.f, .int .i64 m.g] 3)) := HRx.out.bel.alloc HRx.out.bel.size _
          exact pline_any moveW (some ⟨wr.heap.size + 1, 0, none⟩) 7 (mvL m) _ (.inr ⟨_, _, rfl, hi⟩) HMI.out (by decide) (by simp [mvL]) fun w' hw => HT.out w' (hba.trans (hw.mono hba.size))
        unfold strV at hLN
        obtain ⟨ln, hln⟩ : ∃ ln, lineB moveW (mvL m) = ln := ⟨_, rfl⟩
        have hlnl : ln.length ≤ 170 := by
          have h := lineB_len moveW (mvL m) HMI.out
          rw [hln] at h
          simp only [moveW, mvL, List.length_cons, List.length_nil] at h
          omega
        rw [hln] at hLN
        have HLN := Lib.hid hLN
        have HLL := Lib.hid hln
        have HRa := Lib.hid (HRx.out.below ((Below.refl _ _).alloc (Nat.le_refl _) (.cells #[.int .i64 m.a, .int .i64 m.b, .int .i64 m.c, .int .i64 m.d, .int .i64 m.e, .int .i64 m.f, .int .i64 m.g] 3)))
        clear hLN hln hs5
        go_wp2_with fail
        rw [HW5.out]
        refine HLN.out.mono ?_
        rintro e wa ⟨rfl, hba⟩
        have HRb := Lib.hid (HRa.out.below hba)
        clear hba HLN y0 y1 y2 y3 y4 y5 y6
        have HWR := Lib.hid (write_any W0.heap.size W0.heap.size _ ln wa HRb.out.bld (by simp only [List.length_append]; omega) (by have := HRb.out.blt; omega))
        go_wp2_with fail
        refine HWR.out.mono ?_
        rintro e wb ⟨rfl, hb4, hb5, hb6⟩
        have HRc := Lib.hid (HRb.out.write hb4 hb5 hb6)
        clear hb4 hb5 hb6 HWR
        go_wp2_with fail
        go_roundw
        case rel => exact ⟨k + 1, by go_num, by omega, Lib.hid (by have h := HRc.out; rw [bodyB_take hlt HTK.out, mvB, if_neg HCY.out, List.nil_append, HLL.out, HBL.out]; simpa using h)⟩
        case measure => simp [intOf]; omega
    · obtain rfl : k = f.trail.length := by omega
      have HST := Lib.hid (Tryd.Builder_String_any W0.heap.size W0.heap.size _ wr HR.out.bld (by have := HR.out.blt; omega))
      go_wp2_with fail
      refine HST.out.mono ?_
      rintro e wz ⟨rfl, hbz⟩
      have HBZ := Lib.hid (HR.out.bel.trans (hbz.mono (by have := HR.out.hfb; omega)))
      clear hbz
      go_wp2_with fail
      go_ret2
      refine ⟨?_, HBZ.out⟩
      have h := HBL.out
      rw [List.take_length] at h
      rw [printB, HHD.out, h]
      rfl
end Go.Proofs.YtifofhjfepkglaaDoor
