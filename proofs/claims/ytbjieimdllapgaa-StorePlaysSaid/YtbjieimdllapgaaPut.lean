/- The contract of Put. -/
import Derived.Test.YtbjieimdllapgaaGrow2
namespace Go.Proofs.Ytbjieimdllapgaa
open Go.ChangeShapes Go.WideShapes Go.ChangeAt Go.RowKit

/-- A store's memory alone. -/
structure Raw (w : World) (B b sb : Nat) (most : Int) (keys : List ByteArray) (bits : List Int) (slots : List Int) (kv bv : Value) (L : Nat) : Prop where
  obj : w.heap[b]? = some (.cells #[.int .i64 most, kv, bv, .slice (some ⟨sb, 0, none⟩) L L] 89 (0, 0))
  tab : w.heap[sb]? = some (.cells (slots.map (Value.int .i32)).toArray 21 (0, 0))
  krow : w.ownsRow B 9 1 kv keys.length (keys.map Value.string)
  brow : w.ownsRow B 58 1 bv bits.length (bits.map (Value.int .u64))
  hb : B ≤ b
  hsb : B ≤ sb
  hB : B ≤ w.heap.size

section
variable {w w' w1 : World} {B b sb sb' n L : Nat} {most : Int} {keys : List ByteArray} {bts bts' slots : List Int} {kv bv kv' bv' v1 : Value} {key : ByteArray}

theorem Sto.raw (h : Sto w B b sb most keys bts slots n kv bv L) : Raw w B b sb most keys bts slots kv bv L := ⟨h.obj, h.tab, h.krow, h.brow, h.hb, h.hsb, h.hB⟩

theorem Raw.of_heap (h : Raw w B b sb most keys bts slots kv bv L) (hh : w'.heap = w.heap) : Raw w' B b sb most keys bts slots kv bv L := by
  obtain ⟨h1, h2, h3, h4, h6, h7, h8⟩ := h
  refine ⟨by rw [hh]; exact h1, by rw [hh]; exact h2, ?_, ?_, h6, h7, by rw [hh]; exact h8⟩
  · unfold World.ownsRow at h3 ⊢; rw [hh]; exact h3
  · unfold World.ownsRow at h4 ⊢; rw [hh]; exact h4

theorem Raw.f (h : Raw w B b sb most keys bts slots kv bv L) : w.cell? ⟨b, 0, none⟩ = some (.int .i64 most) ∧ w.cell? ⟨b, 1, none⟩ = some kv ∧ w.cell? ⟨b, 2, none⟩ = some bv ∧
    w.cell? ⟨b, 3, none⟩ = some (.slice (some ⟨sb, 0, none⟩) L L) ∧ (∀ i, w.frozen? ⟨b, i, none⟩ = false) ∧ (∀ i, w.frozen? ⟨sb, i, none⟩ = false) :=
  ⟨by rw [cell_of_row _ _ _ _ _ _ h.obj]; rfl, by rw [cell_of_row _ _ _ _ _ _ h.obj]; rfl, by rw [cell_of_row _ _ _ _ _ _ h.obj]; rfl, by rw [cell_of_row _ _ _ _ _ _ h.obj]; rfl,
    fun i => frozen_of_row _ _ i _ _ h.obj, fun i => frozen_of_row _ _ i _ _ h.tab⟩

theorem Raw.grown (h : Raw w B b sb most keys bts slots kv bv L) (o : Obj) {row : Option Nat} (hg : (w.alloc o).grownBy w1 row) (hr : ∀ k, row = some k → B ≤ k ∧ ∃ cur t, w.heap[k]? = some (.cells cur t (0, 0)) ∧ (t = 9 ∨ t = 58)) :
    w1.heap[b]? = some (.cells #[.int .i64 most, kv, bv, .slice (some ⟨sb, 0, none⟩) L L] 89 (0, 0)) ∧ w1.heap[sb]? = some (.cells (slots.map (Value.int .i32)).toArray 21 (0, 0)) ∧ Off B w w1 ∧ B ≤ w1.heap.size := by
  have hlt := lt_of_block h.obj
  have hlt2 := lt_of_block h.tab
  have ne : ∀ {g t : Nat} {c : Array Value}, w.heap[g]? = some (.cells c t (0, 0)) → t ≠ 9 → t ≠ 58 → some g ≠ row := by
    intro g t c hgc h9 h58 e
    obtain ⟨_, cur, t', hc, ht⟩ := hr g e.symm
    rcases ht with ht | ht <;> subst ht
    · exact apart hgc hc h9 rfl
    · exact apart hgc hc h58 rfl
  refine ⟨?_, ?_, ?_, ?_⟩
  · rw [hg.block b (by simp; omega) (ne h.obj (by decide) (by decide)), Below.heap_alloc _ _ _ hlt]; exact h.obj
  · rw [hg.block sb (by simp; omega) (ne h.tab (by decide) (by decide)), Below.heap_alloc _ _ _ hlt2]; exact h.tab
  · refine ((Off.refl B w).alloc o).grown hg fun k hk => ?_
    obtain ⟨hB, cur, t, hc, ht⟩ := hr k hk
    refine ⟨hB, cur, t, (0, 0), ?_, by rcases ht with ht | ht <;> simp [ht]⟩
    rw [Below.heap_alloc _ _ _ (lt_of_block hc)]; exact hc
  · have := hg.size; have := h.hB; simp at *; omega

theorem ne_of_types {w : World} {B B' e e' n n' : Nat} {v v' : Value} {xs xs' : List Value} (h : w.ownsRow B e 1 v n xs) (h' : w.ownsRow B' e' 1 v' n' xs') (hne : e ≠ e') : v.ownBlock = none ∨ v.ownBlock ≠ v'.ownBlock := by
  cases hv : v.ownBlock with
  | none => exact .inl rfl
  | some k =>
    right
    intro he
    obtain ⟨_, c, hc⟩ := own_type h k hv
    obtain ⟨_, c', hc'⟩ := own_type h' k he.symm
    exact apart hc hc' hne rfl

theorem Raw.push_key (h : Raw w B b sb most keys bts slots kv bv L) (key : ByteArray) (o : Obj) (hg : (w.alloc o).grownBy w1 kv.ownBlock) (hown : w1.ownsRow B 9 1 v1 (keys.length + 1) (keys.map Value.string ++ [.string key])) :
    (w1.cell? ⟨b, 1, none⟩ = some kv ∧ w1.cell? ⟨b, 2, none⟩ = some bv ∧ w1.cell? ⟨b, 3, none⟩ = some (.slice (some ⟨sb, 0, none⟩) L L) ∧ (∀ i, w1.frozen? ⟨b, i, none⟩ = false)) ∧ Raw (w1.setCell ⟨b, 1, none⟩ v1) B b sb most (keys ++ [key]) bts slots v1 bv L ∧ Off B w (w1.setCell ⟨b, 1, none⟩ v1) := by
  obtain ⟨ho, ht, hoff, hB1⟩ := h.grown o hg (fun k hk => by obtain ⟨h1, cur, h2⟩ := own_type h.krow k hk; exact ⟨h1, cur, 9, h2, .inl rfl⟩)
  have hoff2 := hoff.setCell (g := b) (i := 1) ⟨h.hb, _, 89, (0, 0), ho, by decide⟩ v1
  refine ⟨⟨by rw [cell_of_row _ _ _ _ _ _ ho]; rfl, by rw [cell_of_row _ _ _ _ _ _ ho]; rfl, by rw [cell_of_row _ _ _ _ _ _ ho]; rfl, fun i => frozen_of_row _ _ _ _ _ ho⟩, ⟨?_, ?_, ?_, ?_, h.hb, h.hsb, Nat.le_trans h.hB hoff2.size⟩, hoff2⟩
  · rw [heap_setCell_same _ _ _ _ _ _ ho]; rfl
  · rw [heap_setCell_other _ _ _ _ (apart ht ho (by decide))]; exact ht
  · simp only [List.length_append, List.length_cons, List.length_nil, List.map_append, List.map_cons, List.map_nil]
    exact ownsRow_setCell_other hown (own_apart hown ho (by decide)) _
  · exact ownsRow_setCell_other ((h.brow.alloc o).kept hg (ne_of_types h.brow h.krow (by decide))) (own_apart ((h.brow.alloc o).kept hg (ne_of_types h.brow h.krow (by decide))) ho (by decide)) _

theorem Raw.push_bits (h : Raw w B b sb most keys bts slots kv bv L) (x : Int) (o : Obj) (hg : (w.alloc o).grownBy w1 bv.ownBlock) (hown : w1.ownsRow B 58 1 v1 (bts.length + 1) (bts.map (Value.int .u64) ++ [.int .u64 x])) :
    (w1.cell? ⟨b, 1, none⟩ = some kv ∧ w1.cell? ⟨b, 2, none⟩ = some bv ∧ w1.cell? ⟨b, 3, none⟩ = some (.slice (some ⟨sb, 0, none⟩) L L) ∧ (∀ i, w1.frozen? ⟨b, i, none⟩ = false)) ∧ (∀ i, i < slots.length → w1.cell? ⟨sb, i, none⟩ = some (.int .i32 (slots.getD i 0))) ∧ (∀ i, w1.frozen? ⟨sb, i, none⟩ = false) ∧ sb ≠ b ∧ Raw (w1.setCell ⟨b, 2, none⟩ v1) B b sb most keys (bts ++ [x]) slots kv v1 L ∧ Off B w (w1.setCell ⟨b, 2, none⟩ v1) := by
  obtain ⟨ho, ht, hoff, hB1⟩ := h.grown o hg (fun k hk => by obtain ⟨h1, cur, h2⟩ := own_type h.brow k hk; exact ⟨h1, cur, 58, h2, .inr rfl⟩)
  have hoff2 := hoff.setCell (g := b) (i := 2) ⟨h.hb, _, 89, (0, 0), ho, by decide⟩ v1
  refine ⟨⟨by rw [cell_of_row _ _ _ _ _ _ ho]; rfl, by rw [cell_of_row _ _ _ _ _ _ ho]; rfl, by rw [cell_of_row _ _ _ _ _ _ ho]; rfl, fun i => frozen_of_row _ _ _ _ _ ho⟩, fun i hi => ?_, fun i => frozen_of_row _ _ _ _ _ ht, apart ht ho (by decide), ⟨?_, ?_, ?_, ?_, h.hb, h.hsb, Nat.le_trans h.hB hoff2.size⟩, hoff2⟩
  · rw [cell_of_row _ _ _ _ _ _ ht]
    simp [List.getD_eq_getElem?_getD, hi]
  · rw [heap_setCell_same _ _ _ _ _ _ ho]; rfl
  · rw [heap_setCell_other _ _ _ _ (apart ht ho (by decide))]; exact ht
  · exact ownsRow_setCell_other ((h.krow.alloc o).kept hg (ne_of_types h.krow h.brow (by decide))) (own_apart ((h.krow.alloc o).kept hg (ne_of_types h.krow h.brow (by decide))) ho (by decide)) _
  · simp only [List.length_append, List.length_cons, List.length_nil, List.map_append, List.map_cons, List.map_nil]
    exact ownsRow_setCell_other hown (own_apart hown ho (by decide)) _

/-- With the new text in its rows, and not yet in its table. -/
theorem Raw.mid (h : Raw w B b sb most (keys ++ [key]) bts slots kv bv L) (hs : Sto w' B b sb' most keys bts' slots n kv' bv' L) (hno : ∀ i, i < keys.length → keys.getD i ByteArray.empty ≠ key) (hk : key.size ≤ maxLen) (hhalf : 2 * keys.length < L) :
    Mid w B b sb most (keys ++ [key]) bts slots n kv bv L keys.length := by
  have h64 := hs.bound.1
  refine ⟨h.obj, h.tab, h.krow, h.brow, h.hb, h.hsb, h.hB, hs.hL, hs.sane.more (Nat.le_refl _) key, by simp, ?_, ?_, ?_⟩
  · have := hs.hL; simp; omega
  · intro i i' hi hi' he
    simp at hi hi'
    rcases Nat.lt_or_ge i keys.length with h1 | h1 <;> rcases Nat.lt_or_ge i' keys.length with h2 | h2
    · rw [getD_append _ _ _ h1, getD_append _ _ _ h2] at he; exact hs.nodup i i' h1 h2 he
    · rw [getD_append _ _ _ h1, show i' = keys.length by omega, getD_last] at he; exact absurd he (hno i h1)
    · rw [getD_append _ _ _ h2, show i = keys.length by omega, getD_last] at he; exact absurd he.symm (hno i' h2)
    · omega
  · intro k hk'
    simp at hk'
    rcases hk' with hk' | hk'
    · exact hs.small k hk'
    · rw [hk']; exact hk
end
end Go.Proofs.Ytbjieimdllapgaa
