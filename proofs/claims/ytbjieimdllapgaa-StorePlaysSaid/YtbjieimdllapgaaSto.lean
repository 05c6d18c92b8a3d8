/- What a store is in memory; which blocks a call may turn; and what follows for the cells that a walk reads. -/
import Derived.Test.YtbjieimdllapgaaLook
import Derived.OneCell
import Derived.Deep.QuietTactic
import Derived.BigQuiet
import Derived.StillTailTactics
import Derived.WalkSmall
namespace Go.Proofs.Ytbjieimdllapgaa
open Go.ChangeShapes Go.WideShapes Go.ChangeAt Go.RowKit

/-- A block of the store's make: from B on, and of one of its four element types. -/
def Ours (B k : Nat) (w : World) : Prop := B ≤ k ∧ ∃ cs t r, w.heap[k]? = some (.cells cs t r) ∧ (t = 89 ∨ t = 21 ∨ t = 9 ∨ t = 58)

/-- w' is w but for new blocks, draws, and what stands in blocks of the store's make. -/
structure Off (B : Nat) (w w' : World) : Prop where
  os : w'.os = w.os
  tape : w'.tape = w.tape
  output : w'.output = w.output
  size : w.heap.size ≤ w'.heap.size
  block : ∀ k, k < w.heap.size → ¬ Ours B k w → w'.heap[k]? = w.heap[k]?

theorem Off.refl (B : Nat) (w : World) : Off B w w := ⟨rfl, rfl, rfl, Nat.le_refl _, fun _ _ _ => rfl⟩
theorem Off.trans {B : Nat} {a b c : World} (h : Off B a b) (k : Off B b c) : Off B a c :=
  ⟨k.os.trans h.os, k.tape.trans h.tape, k.output.trans h.output, Nat.le_trans h.size k.size, fun i hi hn => by
    have e := h.block i hi hn
    rw [k.block i (Nat.lt_of_lt_of_le hi h.size) (by unfold Ours; rw [e]; exact hn), e]⟩
theorem Off.drewN {B : Nat} {a b : World} (h : Off B a b) (n : Nat) : Off B a (b.drewN n) := ⟨h.os, h.tape, h.output, h.size, h.block⟩
theorem Off.drew {B : Nat} {a b : World} (h : Off B a b) : Off B a b.drew := ⟨h.os, h.tape, h.output, h.size, h.block⟩
theorem Off.alloc {B : Nat} {a b : World} (h : Off B a b) (o : Obj) : Off B a (b.alloc o) :=
  h.trans ⟨rfl, rfl, rfl, by simp, fun k hk _ => Below.heap_alloc b o k hk⟩
theorem Off.setCell {B : Nat} {a b : World} (h : Off B a b) {g i : Nat} (ho : Ours B g b) (u : Value) : Off B a (b.setCell ⟨g, i, none⟩ u) := by
  refine h.trans ⟨rfl, rfl, rfl, ?_, fun k hk hn => ?_⟩
  · show _ ≤ (b.heap.modify g _).size
    simp
  · refine heap_setCell_other b ⟨g, i, none⟩ k u (fun e => hn ?_)
    have e : k = g := e
    rw [e]; exact ho
theorem Off.grown {B : Nat} {a b c : World} {row : Option Nat} (h : Off B a b) (hg : b.grownBy c row) (hr : ∀ k, row = some k → Ours B k b) : Off B a c :=
  h.trans ⟨hg.os, hg.tape, hg.output, hg.size, fun k hk hn => hg.block k hk (fun e => hn (hr k e.symm))⟩
theorem Off.below {B : Nat} {w0 w w' : World} (h : Off B w w') (hb : Below B w0 w) (hB : B ≤ w.heap.size) : Below B w0 w' :=
  hb.trans ⟨h.os, h.tape, h.output, h.size, fun k hk => h.block k (Nat.lt_of_lt_of_le hk hB) (fun ⟨hn, _⟩ => by omega)⟩

/-- A store in memory: its own block, its table, its two rows; and what holds of them. -/
structure Sto (w : World) (B b sb : Nat) (most : Int) (keys : List ByteArray) (bits : List Int) (slots : List Int) (n : Nat) (kv bv : Value) (L : Nat) : Prop where
  obj : w.heap[b]? = some (.cells #[.int .i64 most, kv, bv, .slice (some ⟨sb, 0, none⟩) L L] 89 (0, 0))
  tab : w.heap[sb]? = some (.cells (slots.map (Value.int .i32)).toArray 21 (0, 0))
  krow : w.ownsRow B 9 1 kv keys.length (keys.map Value.string)
  brow : w.ownsRow B 58 1 bv bits.length (bits.map (Value.int .u64))
  lens : bits.length = keys.length
  hb : B ≤ b
  hsb : B ≤ sb
  hB : B ≤ w.heap.size
  hL : L = 2 ^ n
  sane : Tab keys keys.length slots n
  half : 2 * keys.length ≤ L
  nodup : ∀ i i', i < keys.length → i' < keys.length → keys.getD i ByteArray.empty = keys.getD i' ByteArray.empty → i = i'
  lo : 1 ≤ most
  hi : most ≤ 20000
  room : keys.length ≤ most
  fits : ∀ x ∈ bits, 0 ≤ x ∧ x ≤ 18446744073709551615
  small : ∀ k ∈ keys, k.size ≤ maxLen

section
variable {w w' : World} {B b sb n L : Nat} {most : Int} {keys : List ByteArray} {bts slots : List Int} {kv bv : Value}

theorem Sto.of_heap (h : Sto w B b sb most keys bts slots n kv bv L) (hh : w'.heap = w.heap) : Sto w' B b sb most keys bts slots n kv bv L := by
  obtain ⟨h1, h2, h3, h4, h5, h6, h7, h8, h9⟩ := h
  refine ⟨by rw [hh]; exact h1, by rw [hh]; exact h2, ?_, ?_, h5, h6, h7, by rw [hh]; exact h8, h9, ‹_›, ‹_›, ‹_›, ‹_›, ‹_›, ‹_›, ‹_›, ‹_›⟩
  · unfold World.ownsRow at h3 ⊢; rw [hh]; exact h3
  · unfold World.ownsRow at h4 ⊢; rw [hh]; exact h4

theorem Sto.f (h : Sto w B b sb most keys bts slots n kv bv L) : w.cell? ⟨b, 0, none⟩ = some (.int .i64 most) ∧ w.cell? ⟨b, 1, none⟩ = some kv ∧ w.cell? ⟨b, 2, none⟩ = some bv ∧
    w.cell? ⟨b, 3, none⟩ = some (.slice (some ⟨sb, 0, none⟩) L L) ∧ (∀ i, w.frozen? ⟨b, i, none⟩ = false) ∧ (∀ i, w.frozen? ⟨sb, i, none⟩ = false) :=
  ⟨by rw [cell_of_row _ _ _ _ _ _ h.obj]; rfl, by rw [cell_of_row _ _ _ _ _ _ h.obj]; rfl, by rw [cell_of_row _ _ _ _ _ _ h.obj]; rfl, by rw [cell_of_row _ _ _ _ _ _ h.obj]; rfl,
    fun i => frozen_of_row _ _ i _ _ h.obj, fun i => frozen_of_row _ _ i _ _ h.tab⟩

theorem Sto.slot (h : Sto w B b sb most keys bts slots n kv bv L) (i : Nat) (hi : i < L) : w.cell? ⟨sb, i, none⟩ = some (.int .i32 (slots.getD i 0)) := by
  rw [cell_of_row _ _ _ _ _ _ h.tab]
  have hl : i < slots.length := by rw [h.sane.len, ← h.hL]; exact hi
  simp [List.getD_eq_getElem?_getD, hl]

/-- A row that the call owns, cell by cell. -/
theorem row_cells {α : Type} {e : Nat} {v : Value} {xs : List α} {f : α → Value} (d : α) (h : w.ownsRow B e 1 v xs.length (xs.map f)) :
    xs = [] ∨ ∃ g cap, v = .slice (some ⟨g, 0, none⟩) xs.length cap ∧ B ≤ g ∧ g < w.heap.size ∧ xs.length ≤ cap ∧ cap ≤ maxLen ∧ (∀ i, i < xs.length → w.cell? ⟨g, i, none⟩ = some (f (xs.getD i d))) ∧ (∀ i, w.frozen? ⟨g, i, none⟩ = false) ∧
      ∃ cur, w.heap[g]? = some (.cells cur e (0, 0)) ∧ cur.size = cap := by
  rcases h.2 with ⟨_, h0⟩ | ⟨g, cap, cur, hv, hb, hg, hc, hm, hs, ht⟩
  · left; simpa using h0
  · right
    refine ⟨g, cap, hv, hb, lt_of_block hg, hc, hm, fun i hi => ?_, fun i => frozen_of_row _ _ i _ _ hg, cur, hg, by omega⟩
    rw [cell_of_row _ _ _ _ _ _ hg]
    have h1 : (cur.toList.take (xs.length * 1))[i]? = (xs.map f)[i]? := by rw [ht]
    rw [List.getElem?_take, if_pos (by omega)] at h1
    rw [← Array.getElem?_toList, h1]
    simp [List.getD_eq_getElem?_getD, hi]

theorem Sto.sees (h : Sto w B b sb most keys bts slots n kv bv L) : Sees w b sb L kv keys slots :=
  ⟨h.f.2.1, h.f.2.2.2.1, h.slot, by
    rcases row_cells ByteArray.empty h.krow with h0 | ⟨g, cap, hv, _, _, _, _, hc, _⟩
    · exact .inl h0
    · exact .inr ⟨g, cap, hv, hc⟩⟩

theorem Sto.bound (h : Sto w B b sb most keys bts slots n kv bv L) : 64 ≤ L ∧ L ≤ 65536 ∧ keys.length < 2 ^ n := by
  have h1 := h.hL
  have h2 := two_pow_le n h.sane.hi
  have h3 : 64 ≤ 2 ^ n := Nat.pow_le_pow_right (n := 2) (by decide) h.sane.lo
  have h4 := h.half
  omega
end
end Go.Proofs.Ytbjieimdllapgaa
