/- The document's store in memory: its rows of a text and its bits; and what a call on one store leaves of the other. -/
import Derived.Test.YtbjieimdllapgaaHas
namespace Go.Proofs.Ytbjieimdllapgaa
open Go.ChangeShapes Go.WideShapes Go.ChangeAt Go.RowKit

def OursR (B k : Nat) (w : World) : Prop := B ≤ k ∧ ∃ cs t r, w.heap[k]? = some (.cells cs t r) ∧ (t = 56 ∨ t = 104)

/-- w' is w but for new blocks, draws, and what stands in blocks of the document's store's make. -/
structure OffR (B : Nat) (w w' : World) : Prop where
  os : w'.os = w.os
  tape : w'.tape = w.tape
  output : w'.output = w.output
  size : w.heap.size ≤ w'.heap.size
  block : ∀ k, k < w.heap.size → ¬ OursR B k w → w'.heap[k]? = w.heap[k]?

theorem OffR.refl (B : Nat) (w : World) : OffR B w w := ⟨rfl, rfl, rfl, Nat.le_refl _, fun _ _ _ => rfl⟩
theorem OffR.trans {B : Nat} {a b c : World} (h : OffR B a b) (k : OffR B b c) : OffR B a c :=
  ⟨k.os.trans h.os, k.tape.trans h.tape, k.output.trans h.output, Nat.le_trans h.size k.size, fun i hi hn => by
    have e := h.block i hi hn
    rw [k.block i (Nat.lt_of_lt_of_le hi h.size) (by unfold OursR; rw [e]; exact hn), e]⟩
theorem OffR.drewN {B : Nat} {a b : World} (h : OffR B a b) (n : Nat) : OffR B a (b.drewN n) := ⟨h.os, h.tape, h.output, h.size, h.block⟩
theorem OffR.drew {B : Nat} {a b : World} (h : OffR B a b) : OffR B a b.drew := ⟨h.os, h.tape, h.output, h.size, h.block⟩
theorem OffR.alloc {B : Nat} {a b : World} (h : OffR B a b) (o : Obj) : OffR B a (b.alloc o) :=
  h.trans ⟨rfl, rfl, rfl, by simp, fun k hk _ => Below.heap_alloc b o k hk⟩
theorem OffR.setCell {B : Nat} {a b : World} (h : OffR B a b) {g i : Nat} (ho : OursR B g b) (u : Value) : OffR B a (b.setCell ⟨g, i, none⟩ u) := by
  refine h.trans ⟨rfl, rfl, rfl, ?_, fun k hk hn => ?_⟩
  · show _ ≤ (b.heap.modify g _).size
    simp
  · refine heap_setCell_other b ⟨g, i, none⟩ k u (fun e => hn ?_)
    have e : k = g := e
    rw [e]; exact ho
theorem OffR.grown {B : Nat} {a b c : World} {row : Option Nat} (h : OffR B a b) (hg : b.grownBy c row) (hr : ∀ k, row = some k → OursR B k b) : OffR B a c :=
  h.trans ⟨hg.os, hg.tape, hg.output, hg.size, fun k hk hn => hg.block k hk (fun e => hn (hr k e.symm))⟩
theorem OffR.below {B : Nat} {w0 w w' : World} (h : OffR B w w') (hb : Below B w0 w) (hB : B ≤ w.heap.size) : Below B w0 w' :=
  hb.trans ⟨h.os, h.tape, h.output, h.size, fun k hk => h.block k (Nat.lt_of_lt_of_le hk hB) (fun ⟨hn, _⟩ => by omega)⟩

theorem OffR.keeps {B : Nat} {w w' : World} (h : OffR B w w') {g t : Nat} {c : Array Value} (hg : w.heap[g]? = some (.cells c t (0, 0))) (h1 : t ≠ 56) (h2 : t ≠ 104) : w'.heap[g]? = some (.cells c t (0, 0)) := by
  rw [h.block g (lt_of_block hg) (fun ⟨_, cs, t', r, hc, ht⟩ => by
    rw [hg] at hc
    simp only [Option.some.injEq, Obj.cells.injEq] at hc
    obtain ⟨_, rfl, _⟩ := hc
    rcases ht with ht | ht
    · exact h1 ht
    · exact h2 ht)]
  exact hg

theorem Off.keeps {B : Nat} {w w' : World} (h : Off B w w') {g t : Nat} {c : Array Value} (hg : w.heap[g]? = some (.cells c t (0, 0))) (h1 : t ≠ 89) (h2 : t ≠ 21) (h3 : t ≠ 9) (h4 : t ≠ 58) : w'.heap[g]? = some (.cells c t (0, 0)) := by
  rw [h.block g (lt_of_block hg) (fun ⟨_, cs, t', r, hc, ht⟩ => by
    rw [hg] at hc
    simp only [Option.some.injEq, Obj.cells.injEq] at hc
    obtain ⟨_, rfl, _⟩ := hc
    rcases ht with ht | ht | ht | ht
    · exact h1 ht
    · exact h2 ht
    · exact h3 ht
    · exact h4 ht)]
  exact hg

theorem own_keeps {w w' : World} {B e size n : Nat} {v : Value} {xs : List Value} (h : w.ownsRow B e size v n xs) (hk : ∀ (g : Nat) (c : Array Value), w.heap[g]? = some (Obj.cells c e (0, 0)) → w'.heap[g]? = some (Obj.cells c e (0, 0))) : w'.ownsRow B e size v n xs := by
  refine ⟨h.1, ?_⟩
  rcases h.2 with hn | ⟨g, cap, cur, hv, hb, hg, rest⟩
  · exact .inl hn
  · exact .inr ⟨g, cap, cur, hv, hb, hk g cur hg, rest⟩

theorem Has.offR {w w' : World} {B b : Nat} {most : Int} {keys : List ByteArray} {bts : List Int} (h : Has w B b most keys bts) (ho : OffR B w w') : Has w' B b most keys bts := by
  obtain ⟨sb, slots, n, kv, bv, L, h1, h2, h3, h4, h5, h6, h7, h8, h9⟩ := h
  exact ⟨sb, slots, n, kv, bv, L, ho.keeps h1 (by decide) (by decide), ho.keeps h2 (by decide) (by decide), own_keeps h3 fun g c hg => ho.keeps hg (by decide) (by decide), own_keeps h4 fun g c hg => ho.keeps hg (by decide) (by decide), h5, h6, h7, Nat.le_trans h8 ho.size, h9, ‹_›, ‹_›, ‹_›, ‹_›, ‹_›, ‹_›, ‹_›, ‹_›⟩

/-- The cells of rows. -/
def rowCells : List (ByteArray × Int) → List Value
  | [] => []
  | (k, x) :: r => .string k :: .int .u64 x :: rowCells r

theorem rowCells_length (l : List (ByteArray × Int)) : (rowCells l).length = l.length * 2 := by
  induction l with
  | nil => rfl
  | cons x l ih => simp [rowCells, ih]; omega
theorem rowCells_append (l : List (ByteArray × Int)) (k : ByteArray) (x : Int) : rowCells (l ++ [(k, x)]) = rowCells l ++ [.string k, .int .u64 x] := by
  induction l with
  | nil => rfl
  | cons y l ih => simp [rowCells, ih]
theorem rowCells_key (l : List (ByteArray × Int)) (i : Nat) (h : i < l.length) : (rowCells l)[i * 2]? = some (.string (l[i].1)) ∧ (rowCells l)[i * 2 + 1]? = some (.int .u64 (l[i].2)) := by
  induction l generalizing i with
  | nil => simp at h
  | cons y l ih =>
    cases i with
    | zero => simp [rowCells]
    | succ i =>
      have := ih i (by simpa using h)
      rw [show (i + 1) * 2 = i * 2 + 1 + 1 by omega]
      simpa [rowCells] using this
theorem rowCells_set (l : List (ByteArray × Int)) (i : Nat) (h : i < l.length) (Y : Int) : (rowCells l).set (i * 2 + 1) (.int .u64 Y) = rowCells (l.set i (l[i].1, Y)) := by
  induction l generalizing i with
  | nil => simp at h
  | cons y l ih =>
    cases i with
    | zero => simp [rowCells]
    | succ i =>
      have := ih i (by simpa using h)
      rw [show (i + 1) * 2 + 1 = i * 2 + 1 + 1 + 1 by omega]
      simpa [rowCells] using this

/-- The document's store in memory. -/
structure Rto (w : World) (B r : Nat) (most : Int) (rows : List (ByteArray × Int)) (lv : Value) : Prop where
  obj : w.heap[r]? = some (.cells #[.int .i64 most, lv] 56 (0, 0))
  row : w.ownsRow B 104 2 lv rows.length (rowCells rows)
  hr : B ≤ r
  hB : B ≤ w.heap.size

section
variable {w w' w1 : World} {B r : Nat} {most : Int} {rows : List (ByteArray × Int)} {lv v1 : Value}

theorem Rto.of_heap (h : Rto w B r most rows lv) (hh : w'.heap = w.heap) : Rto w' B r most rows lv := by
  obtain ⟨h1, h2, h3, h4⟩ := h
  refine ⟨by rw [hh]; exact h1, ?_, h3, by rw [hh]; exact h4⟩
  unfold World.ownsRow at h2 ⊢; rw [hh]; exact h2

theorem Rto.off (h : Rto w B r most rows lv) (ho : Off B w w') : Rto w' B r most rows lv :=
  ⟨ho.keeps h.obj (by decide) (by decide) (by decide) (by decide), own_keeps h.row fun g c hg => ho.keeps hg (by decide) (by decide) (by decide) (by decide), h.hr, Nat.le_trans h.hB ho.size⟩

theorem Rto.f (h : Rto w B r most rows lv) : w.cell? ⟨r, 0, none⟩ = some (.int .i64 most) ∧ w.cell? ⟨r, 1, none⟩ = some lv ∧ (∀ i, w.frozen? ⟨r, i, none⟩ = false) :=
  ⟨by rw [cell_of_row _ _ _ _ _ _ h.obj]; rfl, by rw [cell_of_row _ _ _ _ _ _ h.obj]; rfl, fun i => frozen_of_row _ _ i _ _ h.obj⟩

theorem Rto.form (h : Rto w B r most rows lv) : ∃ o cap, lv = .slice o rows.length cap := by
  rcases h.row.2 with ⟨hv, h0⟩ | ⟨g, cap, cur, hv, _⟩
  · exact ⟨none, 0, by rw [hv, h0]⟩
  · exact ⟨_, _, hv⟩

theorem Rto.cells (h : Rto w B r most rows lv) (hne : 0 < rows.length) : ∃ g cap, lv = .slice (some ⟨g, 0, none⟩) rows.length cap ∧ rows.length ≤ cap ∧ cap ≤ maxLen ∧
    (∀ i (hi : i < rows.length), w.cell? ⟨g, i * 2, none⟩ = some (.string (rows[i].1)) ∧ w.cell? ⟨g, i * 2 + 1, none⟩ = some (.int .u64 (rows[i].2))) ∧ (∀ i, w.frozen? ⟨g, i, none⟩ = false) := by
  rcases h.row.2 with ⟨_, h0⟩ | ⟨g, cap, cur, hv, hb, hg, hc, hm, hs, ht⟩
  · omega
  · refine ⟨g, cap, hv, hc, hm, fun i hi => ?_, fun i => frozen_of_row _ _ i _ _ hg⟩
    have key : ∀ j, j < rows.length * 2 → cur[j]? = (rowCells rows)[j]? := by
      intro j hj
      have h1 : (cur.toList.take (rows.length * 2))[j]? = (rowCells rows)[j]? := by rw [ht]
      rw [List.getElem?_take, if_pos (by omega)] at h1
      rw [← Array.getElem?_toList, h1]
    have h2 := rowCells_key rows i hi
    rw [cell_of_row _ _ _ _ _ _ hg, cell_of_row _ _ _ _ _ _ hg, key _ (by omega), key _ (by omega)]
    exact h2

theorem Rto.pushed (h : Rto w B r most rows lv) (key : ByteArray) (o : Obj) (hg : (w.alloc o).grownBy w1 lv.ownBlock) (hown : w1.ownsRow B 104 2 v1 (rows.length + 1) (rowCells rows ++ [.string key, .int .u64 0])) :
    (w1.cell? ⟨r, 1, none⟩ = some lv ∧ (∀ i, w1.frozen? ⟨r, i, none⟩ = false)) ∧ Rto (w1.setCell ⟨r, 1, none⟩ v1) B r most (rows ++ [(key, 0)]) v1 ∧ OffR B w (w1.setCell ⟨r, 1, none⟩ v1) := by
  have hlt := lt_of_block h.obj
  have ho : w1.heap[r]? = some (.cells #[.int .i64 most, lv] 56 (0, 0)) := by
    rw [hg.block r (by simp; omega) (fun e => own_apart h.row h.obj (by decide) e.symm), Below.heap_alloc _ _ _ hlt]; exact h.obj
  have hoff : OffR B w w1 := ((OffR.refl B w).alloc o).grown hg fun k hk => by
    obtain ⟨hB, cur, hc⟩ := own_type h.row k hk
    exact ⟨hB, cur, 104, (0, 0), by rw [Below.heap_alloc _ _ _ (lt_of_block hc)]; exact hc, .inr rfl⟩
  have hoff2 := hoff.setCell (g := r) (i := 1) ⟨h.hr, _, 56, (0, 0), ho, .inl rfl⟩ v1
  refine ⟨⟨by rw [cell_of_row _ _ _ _ _ _ ho]; rfl, fun i => frozen_of_row _ _ _ _ _ ho⟩, ⟨?_, ?_, h.hr, Nat.le_trans h.hB hoff2.size⟩, hoff2⟩
  · rw [heap_setCell_same _ _ _ _ _ _ ho]; rfl
  · rw [rowCells_append, List.length_append]
    exact ownsRow_setCell_other hown (own_apart hown ho (by decide)) _

theorem Rto.turned (h : Rto w B r most rows lv) (g cap : Nat) (hv : lv = .slice (some ⟨g, 0, none⟩) rows.length cap) (i : Nat) (hi : i < rows.length) (Y : Int) :
    Rto (w.setCell ⟨g, i * 2 + 1, none⟩ (.int .u64 Y)) B r most (rows.set i (rows[i].1, Y)) lv ∧ OffR B w (w.setCell ⟨g, i * 2 + 1, none⟩ (.int .u64 Y)) := by
  obtain ⟨hB, cur, hg⟩ := own_type h.row g (by rw [hv]; rfl)
  have hrow := h.row
  rw [hv] at hrow
  have st := hrow.stored (i * 2 + 1) (.int .u64 Y)
  refine ⟨⟨?_, ?_, h.hr, Nat.le_trans h.hB st.2.size⟩, (OffR.refl B w).setCell ⟨hB, cur, 104, (0, 0), hg, .inr rfl⟩ _⟩
  · rw [heap_setCell_other _ _ _ _ (apart h.obj hg (by decide))]; exact h.obj
  · rw [← rowCells_set _ _ hi, List.length_set, hv]; exact st.1
end
end Go.Proofs.Ytbjieimdllapgaa
