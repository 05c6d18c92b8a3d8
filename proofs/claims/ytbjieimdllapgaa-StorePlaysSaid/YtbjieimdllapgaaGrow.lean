/- The contract of grow: the table is made anew, twice as great, and holds all texts. -/
import Derived.Test.YtbjieimdllapgaaMarks
namespace Go.Proofs.Ytbjieimdllapgaa
open Go.ChangeShapes Go.WideShapes Go.ChangeAt Go.RowKit

/-- A store in memory while its table holds the first j texts alone. -/
structure Mid (w : World) (B b sb : Nat) (most : Int) (keys : List ByteArray) (bits : List Int) (slots : List Int) (n : Nat) (kv bv : Value) (L j : Nat) : Prop where
  obj : w.heap[b]? = some (.cells #[.int .i64 most, kv, bv, .slice (some ⟨sb, 0, none⟩) L L] 89 (0, 0))
  tab : w.heap[sb]? = some (.cells (slots.map (Value.int .i32)).toArray 21 (0, 0))
  krow : w.ownsRow B 9 1 kv keys.length (keys.map Value.string)
  brow : w.ownsRow B 58 1 bv bits.length (bits.map (Value.int .u64))
  hb : B ≤ b
  hsb : B ≤ sb
  hB : B ≤ w.heap.size
  hL : L = 2 ^ n
  sane : Tab keys j slots n
  hj : j ≤ keys.length
  free : keys.length < 2 ^ n
  nodup : ∀ i i', i < keys.length → i' < keys.length → keys.getD i ByteArray.empty = keys.getD i' ByteArray.empty → i = i'
  small : ∀ k ∈ keys, k.size ≤ maxLen

section
variable {w w' : World} {B b sb n L j : Nat} {most : Int} {keys : List ByteArray} {bts slots : List Int} {kv bv : Value}

theorem Mid.of_heap (h : Mid w B b sb most keys bts slots n kv bv L j) (hh : w'.heap = w.heap) : Mid w' B b sb most keys bts slots n kv bv L j := by
  obtain ⟨h1, h2, h3, h4, h6, h7, h8, h9⟩ := h
  refine ⟨by rw [hh]; exact h1, by rw [hh]; exact h2, ?_, ?_, h6, h7, by rw [hh]; exact h8, h9, ‹_›, ‹_›, ‹_›, ‹_›, ‹_›⟩
  · unfold World.ownsRow at h3 ⊢; rw [hh]; exact h3
  · unfold World.ownsRow at h4 ⊢; rw [hh]; exact h4

theorem Mid.f (h : Mid w B b sb most keys bts slots n kv bv L j) : w.cell? ⟨b, 0, none⟩ = some (.int .i64 most) ∧ w.cell? ⟨b, 1, none⟩ = some kv ∧ w.cell? ⟨b, 2, none⟩ = some bv ∧
    w.cell? ⟨b, 3, none⟩ = some (.slice (some ⟨sb, 0, none⟩) L L) ∧ (∀ i, w.frozen? ⟨b, i, none⟩ = false) ∧ (∀ i, w.frozen? ⟨sb, i, none⟩ = false) :=
  ⟨by rw [cell_of_row _ _ _ _ _ _ h.obj]; rfl, by rw [cell_of_row _ _ _ _ _ _ h.obj]; rfl, by rw [cell_of_row _ _ _ _ _ _ h.obj]; rfl, by rw [cell_of_row _ _ _ _ _ _ h.obj]; rfl,
    fun i => frozen_of_row _ _ i _ _ h.obj, fun i => frozen_of_row _ _ i _ _ h.tab⟩

theorem Mid.slot (h : Mid w B b sb most keys bts slots n kv bv L j) (i : Nat) (hi : i < L) : w.cell? ⟨sb, i, none⟩ = some (.int .i32 (slots.getD i 0)) := by
  rw [cell_of_row _ _ _ _ _ _ h.tab]
  have hl : i < slots.length := by rw [h.sane.len, ← h.hL]; exact hi
  simp [List.getD_eq_getElem?_getD, hl]

theorem Mid.sees (h : Mid w B b sb most keys bts slots n kv bv L j) : Sees w b sb L kv keys slots :=
  ⟨h.f.2.1, h.f.2.2.2.1, h.slot, by
    rcases row_cells ByteArray.empty h.krow with h0 | ⟨g, cap, hv, _, _, _, _, hc, _⟩
    · exact .inl h0
    · exact .inr ⟨g, cap, hv, hc⟩⟩

theorem Mid.bound (h : Mid w B b sb most keys bts slots n kv bv L j) : 64 ≤ L ∧ L ≤ 65536 ∧ j < 2 ^ n := by
  have h1 := h.hL
  have h2 := two_pow_le n h.sane.hi
  have h3 : 64 ≤ 2 ^ n := Nat.pow_le_pow_right (n := 2) (by decide) h.sane.lo
  have h4 := h.free
  have h5 := h.hj
  omega

theorem Mid.look (h : Mid w B b sb most keys bts slots n kv bv L j) (key : ByteArray) (hs : key.size ≤ maxLen) (at' : Nat) (hat : Hid (lookN keys slots n key = at')) :
    Calls Try.prog 48 #[.pointer (some ⟨b, 0, none⟩), .string key] w fun e w' => e = .returned (.int .i64 at') ∧ w' = w :=
  (look_any b sb kv keys j n L slots key w hs h.hj h.sane h.bound.2.2 (Lib.hid h.hL) h.sees).mono fun e w' ⟨⟨a, _, hl, he⟩, hw⟩ => ⟨by rw [he, ← lookN_of hl, hat.out], hw.symm⟩

/-- The next text is laid into the table. -/
theorem Mid.laid (h : Mid w B b sb most keys bts slots n kv bv L j) (hj : j < keys.length) (at' : Nat) (hat : lookN keys slots n (keys.getD j ByteArray.empty) = at') :
    at' < L ∧ Mid (w.setCell ⟨sb, at', none⟩ (.int .i32 ((j : Int) + 1))) B b sb most keys bts (slots.set at' ((j : Int) + 1)) n kv bv L (j + 1) ∧ Off B w (w.setCell ⟨sb, at', none⟩ (.int .i32 ((j : Int) + 1))) := by
  obtain ⟨hl, hlt⟩ := h.sane.looked h.bound.2.2 (keys.getD j ByteArray.empty)
  rw [hat] at hl hlt
  have h0 := find_no h.sane (fun i hi he => by have := h.nodup i j (by omega) hj he; omega) hl
  refine ⟨by rw [h.hL]; exact hlt, ⟨?_, ?_, ?_, ?_, h.hb, h.hsb, ?_, h.hL, h.sane.insert hl h0, hj, h.free, h.nodup, h.small⟩, ?_⟩
  · rw [heap_setCell_other _ _ _ _ (apart h.obj h.tab (by decide))]; exact h.obj
  · rw [heap_setCell_same _ _ _ _ _ _ h.tab]
    simp [List.map_set]
  · exact ownsRow_setCell_other h.krow (own_apart h.krow h.tab (by decide)) _
  · exact ownsRow_setCell_other h.brow (own_apart h.brow h.tab (by decide)) _
  · exact Nat.le_trans h.hB ((Off.refl B w).setCell (g := sb) (i := at') ⟨h.hsb, _, 21, (0, 0), h.tab, by decide⟩ (.int .i32 ((j : Int) + 1))).size
  · exact (Off.refl B w).setCell ⟨h.hsb, _, 21, (0, 0), h.tab, by decide⟩ _

/-- The table is made anew. -/
theorem Sto.anew (h : Sto w B b sb most keys bts slots n kv bv L) (hn : n ≤ 15) :
    Mid ((w.setCell ⟨b, 3, none⟩ (.slice (some ⟨w.heap.size, 0, none⟩) (2 * L) (2 * L))).alloc (.cells ((List.replicate (2 * L) (0 : Int)).map (Value.int .i32)).toArray 21)) B b w.heap.size most keys bts (List.replicate (2 * L) 0) (n + 1) kv bv (2 * L) 0 ∧
    Off B w ((w.setCell ⟨b, 3, none⟩ (.slice (some ⟨w.heap.size, 0, none⟩) (2 * L) (2 * L))).alloc (.cells ((List.replicate (2 * L) (0 : Int)).map (Value.int .i32)).toArray 21)) := by
  have hlt := lt_of_block h.obj
  have e : 2 * L = 2 ^ (n + 1) := by rw [h.hL, Nat.pow_succ]; omega
  have hoff0 := (Off.refl B w).setCell (g := b) (i := 3) ⟨h.hb, _, 89, (0, 0), h.obj, by decide⟩ (.slice (some ⟨w.heap.size, 0, none⟩) (2 * L) (2 * L))
  have hsz : (w.setCell ⟨b, 3, none⟩ (.slice (some ⟨w.heap.size, 0, none⟩) (2 * L) (2 * L))).heap.size = w.heap.size := by
    show (w.heap.modify b _).size = _
    simp
  have ho : (w.setCell ⟨b, 3, none⟩ (.slice (some ⟨w.heap.size, 0, none⟩) (2 * L) (2 * L))).heap[b]? = some (.cells #[.int .i64 most, kv, bv, .slice (some ⟨w.heap.size, 0, none⟩) (2 * L) (2 * L)] 89 (0, 0)) := by
    rw [heap_setCell_same _ _ _ _ _ _ h.obj]; rfl
  have hoff := hoff0.alloc (.cells ((List.replicate (2 * L) (0 : Int)).map (Value.int .i32)).toArray 21)
  refine ⟨⟨?_, ?_, ?_, ?_, h.hb, h.hB, Nat.le_trans h.hB hoff.size, e, ?_, Nat.zero_le _, ?_, h.nodup, h.small⟩, hoff⟩
  · rw [Below.heap_alloc _ _ _ (by rw [hsz]; exact hlt)]; exact ho
  · have := heap_alloc_new (w.setCell ⟨b, 3, none⟩ (.slice (some ⟨w.heap.size, 0, none⟩) (2 * L) (2 * L))) (.cells ((List.replicate (2 * L) (0 : Int)).map (Value.int .i32)).toArray 21)
    rw [hsz] at this
    exact this
  · exact (ownsRow_setCell_other h.krow (own_apart h.krow h.obj (by decide)) _).alloc _
  · exact (ownsRow_setCell_other h.brow (own_apart h.brow h.obj (by decide)) _).alloc _
  · rw [e]; exact Tab.fresh keys (n + 1) (by have := h.sane.lo; omega) (by omega)
  · have := h.bound.2.2; rw [Nat.pow_succ]; omega

/-- The table holds all texts. -/
theorem Mid.whole (h : Mid w B b sb most keys bts slots n kv bv L keys.length) (h1 : bts.length = keys.length) (h2 : 2 * keys.length ≤ L) (h3 : 1 ≤ most) (h4 : most ≤ 20000) (h5 : keys.length ≤ most) (h6 : ∀ x ∈ bts, 0 ≤ x ∧ x ≤ 18446744073709551615) :
    Sto w B b sb most keys bts slots n kv bv L :=
  ⟨h.obj, h.tab, h.krow, h.brow, h1, h.hb, h.hsb, h.hB, h.hL, h.sane, h2, h.nodup, h3, h4, h5, h6, h.small⟩
end
end Go.Proofs.Ytbjieimdllapgaa
