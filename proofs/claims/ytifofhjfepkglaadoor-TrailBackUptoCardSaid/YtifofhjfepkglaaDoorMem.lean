/- An end that is being read: what lies in memory. Laws of a scope with two labels. -/
import Derived.Test.YtifofhjfepkglaaDoorPrint
import Derived.Test.YtifofhjfepkglaaDoorRNums
import Derived.ScopeJumps
import Derived.WalkMore
import Derived.Tactics
namespace Go.Proofs.YtifofhjfepkglaaDoor
open Go.ChangeShapes Go.WideShapes Go.ChangeAt Go.RowKit
set_option linter.unusedVariables false
set_option linter.unusedSimpArgs false

/-- What reading comes to. -/
def ParP (w : World) (R : PR) (e : Ending) (w' : World) : Prop := Below w.heap.size w w' ∧
  match R with
  | .ok f => ∃ o cap, e = .returned (.tuple #[fdV f (.slice o f.trail.length cap), .int .i64 0, .int .i64 0]) ∧ TrAt w' o f.trail
  | .bad p => e = .returned (.tuple #[fdV fdZ (.slice none 0 0), .int .i64 43, .int .i64 p])

def mvL' (m : MV) : List Value := [.int .i64 m.a, .int .i64 m.b, .int .i64 m.c, .int .i64 m.d, .int .i64 m.e, .int .i64 m.f, .int .i64 m.g]
def mvsV (l : List MV) : List Value := l.flatMap mvL'
theorem mvsV_snoc (l : List MV) (m : MV) : mvsV (l ++ [m]) = mvsV l ++ mvL' m := by simp [mvsV]
theorem mvL'_one (m : MV) : ∀ u ∈ mvL' m, u.oneCell' = true := by
  intro u hu
  simp [mvL'] at hu
  rcases hu with rfl | rfl | rfl | rfl | rfl | rfl | rfl <;> rfl
def zeroMv : Value := .agg #[.int .i64 0, .int .i64 0, .int .i64 0, .int .i64 0, .int .i64 0, .int .i64 0, .int .i64 0]
theorem infoMv : (Tryd.prog.info? 47).map (fun i => (i.zero, i.size, i.bytes)) = some (some zeroMv, 7, 56) := by kernel_rfl
theorem mvsV_get : ∀ (l : List MV) (i : Nat) (h : i < l.length) (j : Nat) (u : Value), (mvL' l[i])[j]? = some u → (mvsV l)[i * 7 + j]? = some u
  | [], i, h, _, _, _ => by simp at h
  | m :: r, i, h, j, u, hu => by
    have e : mvsV (m :: r) = mvL' m ++ mvsV r := rfl
    have hl : (mvL' m).length = 7 := rfl
    cases i with
    | zero =>
      rw [e, Nat.zero_mul, Nat.zero_add]
      have hj : j < 7 := by
        have := (List.getElem?_eq_some_iff.1 hu).1
        simpa [mvL'] using this
      rw [List.getElem?_append_left (by omega)]
      exact hu
    | succ i =>
      rw [e, List.getElem?_append_right (by omega), hl, show (i + 1) * 7 + j - 7 = i * 7 + j by omega]
      exact mvsV_get r i (by simpa using h) j u (by simpa using hu)
/-- A row of moves of one's own is a row of moves. -/
theorem mvs_own {w : World} {B : Nat} {o : Option Addr} {cap : Nat} {l : List MV} {n : Nat} (hn : l.length = n) (h : w.ownsRow B 47 7 (.slice o n cap) n (mvsV l)) : TrAt w o l := by
  rcases h.2 with ⟨_, h0⟩ | ⟨g, cap', cur, hv, hb, hg, _⟩
  · exact .inl (by omega)
  · injection hv with h1 h2 h3
    subst h1
    refine .inr ⟨g, 0, rfl, lt_of_block hg, fun i hi => ?_⟩
    have hc := h.cells (g := g) rfl
    have key : ∀ (j : Nat) (u : Value), (mvL' l[i])[j]? = some u → w.cell? ⟨g, 0 + i * 7 + j, none⟩ = some u := fun j u hu => by
      have h1 := hc _ _ (mvsV_get l i hi j u hu)
      have e : (⟨g, 0, none⟩ : Addr).add (i * 7 + j) = ⟨g, 0 + i * 7 + j, none⟩ := by
        unfold Addr.add
        split
        · rename_i h0
          rw [show 0 + i * 7 + j = 0 by omega]
        · simp
      rw [e] at h1
      exact h1
    exact ⟨key 0 _ rfl, key 1 _ rfl, key 2 _ rfl, key 3 _ rfl, key 4 _ rfl, key 5 _ rfl, key 6 _ rfl⟩

/-- The end that is being read, in the block behind the one of the answer. -/
structure Par (w W : World) (f : FD) (tv : Value) : Prop where
  ret : W.heap[w.heap.size]? = some (.cells (fdCells fdZ (.slice none 0 0)) 25 (0, 0))
  obj : W.heap[w.heap.size + 1]? = some (.cells (fdCells f tv) 25 (0, 0))
  own : W.ownsRow (w.heap.size + 2) 47 7 tv f.trail.length (mvsV f.trail)
  bel : Below w.heap.size w W
section
variable {w W W' : World} {f : FD} {tv : Value}
theorem Par.lt (h : Par w W f tv) : w.heap.size + 1 < W.heap.size := lt_of_block h.obj
theorem Par.below (h : Par w W f tv) (hb : Below W.heap.size W W') : Par w W' f tv := by
  have h1 := h.lt
  exact ⟨(hb.block _ (by omega)).trans h.ret, (hb.block _ h1).trans h.obj, own_below h.own hb, h.bel.trans (hb.mono h.bel.size)⟩
theorem Par.form (h : Par w W f tv) : ∃ o cap, tv = .slice o f.trail.length cap := own_form h.own
theorem Par.cells (h : Par w W f tv) : W.cell? ⟨w.heap.size + 1, 4, none⟩ = some tv ∧ W.cell? ⟨w.heap.size + 1, 5, none⟩ = some (.int .i64 f.cyc) :=
  ⟨(cell_of_row _ _ _ _ _ _ h.obj).trans rfl, (cell_of_row _ _ _ _ _ _ h.obj).trans rfl⟩
theorem Par.own_ne (h : Par w W f tv) : ∀ k, tv.ownBlock = some k → w.heap.size + 2 ≤ k ∧ k < W.heap.size := h.own.lt
/-- A field is written. -/
theorem Par.set (h : Par w W f tv) (i : Nat) (v : Value) (f' : FD) (hf : (fdCells f tv).setIfInBounds i v = fdCells f' tv) (ht : f'.trail = f.trail) : Par w (W.setCell ⟨w.heap.size + 1, i, none⟩ v) f' tv := by
  have hs : (W.setCell ⟨w.heap.size + 1, i, none⟩ v).heap.size = W.heap.size := by simp [World.setCell]
  refine ⟨?_, ?_, ?_, h.bel.setCell (p := ⟨w.heap.size + 1, i, none⟩) (by show w.heap.size ≤ w.heap.size + 1; omega) _⟩
  · rw [heap_setCell_other _ _ _ _ (by show w.heap.size ≠ w.heap.size + 1; omega)]
    exact h.ret
  · rw [heap_setCell_same _ _ _ _ _ _ h.obj, hf]
  · rw [ht]
    refine h.own.kept (row := some (w.heap.size + 1)) ⟨rfl, rfl, rfl, by rw [hs]; exact Nat.le_refl _, fun k hk hkb => heap_setCell_other _ _ _ _ fun e => hkb (by rw [e])⟩ ?_
    cases hvb : tv.ownBlock with
    | none => exact .inl rfl
    | some g =>
      right
      have := (h.own.lt g hvb).1
      intro e
      cases e
      omega
/-- A move is put behind the others. -/
theorem Par.push (h : Par w W f tv) (m : MV) {v2 : Value} (hg : W.grownBy W' tv.ownBlock) (hown : W'.ownsRow (w.heap.size + 2) 47 7 v2 (f.trail.length + 1) (mvsV f.trail ++ mvL' m)) :
    Par w (W'.setCell ⟨w.heap.size + 1, 4, none⟩ v2) { f with trail := f.trail ++ [m] } v2 := by
  have hlt := h.lt
  have hne : ∀ k, k < w.heap.size + 2 → some k ≠ tv.ownBlock := fun k hk e => by
    have := (h.own.lt k e.symm).1
    omega
  have hs : (W'.setCell ⟨w.heap.size + 1, 4, none⟩ v2).heap.size = W'.heap.size := by simp [World.setCell]
  have hbel : Below w.heap.size w W' := h.bel.grown hg h.bel.size fun k hk => by have := (h.own.lt k hk).1; omega
  have hob : W'.heap[w.heap.size + 1]? = some (.cells (fdCells f tv) 25 (0, 0)) := (hg.block _ hlt (hne _ (by omega))).trans h.obj
  refine ⟨?_, ?_, ?_, hbel.setCell (p := ⟨w.heap.size + 1, 4, none⟩) (by show w.heap.size ≤ w.heap.size + 1; omega) _⟩
  · rw [heap_setCell_other _ _ _ _ (by show w.heap.size ≠ w.heap.size + 1; omega)]
    exact (hg.block _ (by omega) (hne _ (by omega))).trans h.ret
  · rw [heap_setCell_same _ _ _ _ _ _ hob]
    rfl
  · rw [mvsV_snoc, List.length_append]
    refine hown.kept (row := some (w.heap.size + 1)) ⟨rfl, rfl, rfl, by rw [hs]; exact Nat.le_refl _, fun k hk hkb => heap_setCell_other _ _ _ _ fun e => hkb (by rw [e])⟩ ?_
    cases hvb : v2.ownBlock with
    | none => exact .inl rfl
    | some g =>
      right
      have := (hown.lt g hvb).1
      intro e
      cases e
      omega
end
/-- The cells of a row of numbers. -/
structure Row7 (W : World) (g : Nat) (l : List Int) : Prop where
  lt : g < W.heap.size
  get : ∀ (i : Nat) (h : i < l.length), W.cell? ⟨g, i, none⟩ = some (.int .i64 l[i])
theorem row_own {w : World} {B : Nat} {v : Value} {l : List Int} {n : Nat} (h : w.ownsRow B 3 1 v n (intsV l)) (hl : l.length = n) (hn : 0 < n) : ∃ g cap, v = .slice (some ⟨g, 0, none⟩) n cap ∧ B ≤ g ∧ Row7 w g l := by
  rcases h.2 with ⟨_, h0⟩ | ⟨g, cap, cur, rfl, hb, hg, h1, h2, h3, h4⟩
  · omega
  · refine ⟨g, cap, rfl, hb, lt_of_block hg, fun i hi => ?_⟩
    have hc := h.cells (g := g) rfl i (.int .i64 l[i]) (by simp [intsV, hi])
    have e : (⟨g, 0, none⟩ : Addr).add i = ⟨g, i, none⟩ := by
      cases i <;> simp [Addr.add]
    rw [e] at hc
    exact hc
end Go.Proofs.YtifofhjfepkglaaDoor
