/- Contracts of what sets and takes away bits: Mark, Clear; and of New. -/
import Derived.Test.YtbjieimdllapgaaReads
import Derived.Laws.OwnMore
import Derived.Laws.Closers25b
namespace Go.Proofs.Ytbjieimdllapgaa
open Go.ChangeShapes Go.WideShapes Go.ChangeAt Go.RowKit

theorem apart {w : World} {g g' t t' : Nat} {c c' : Array Value} {r r' : Nat × Nat} (h : w.heap[g]? = some (.cells c t r)) (h' : w.heap[g']? = some (.cells c' t' r')) (hne : t ≠ t') : g ≠ g' := by
  intro e
  subst e
  rw [h] at h'
  simp only [Option.some.injEq, Obj.cells.injEq] at h'
  exact hne h'.2.1

theorem own_type {w : World} {B e size n : Nat} {v : Value} {xs : List Value} (h : w.ownsRow B e size v n xs) : ∀ k, v.ownBlock = some k → B ≤ k ∧ ∃ cur, w.heap[k]? = some (.cells cur e (0, 0)) := by
  intro k hk
  rcases h.2 with ⟨rfl, _⟩ | ⟨g, cap, cur, rfl, hb, hg, _⟩
  · simp [Value.ownBlock] at hk
  · simp [Value.ownBlock] at hk
    subst hk
    exact ⟨hb, cur, hg⟩

theorem own_apart {w : World} {B e size n g t : Nat} {v : Value} {xs : List Value} {c : Array Value} {r : Nat × Nat} (h : w.ownsRow B e size v n xs) (hg : w.heap[g]? = some (.cells c t r)) (hne : e ≠ t) : v.ownBlock ≠ some g := by
  intro hk
  obtain ⟨_, cur, hc⟩ := own_type h g hk
  exact apart hc hg hne rfl

section
variable {w : World} {B b sb n L : Nat} {most : Int} {keys : List ByteArray} {bts slots : List Int} {kv bv : Value}

theorem Sto.marked (h : Sto w B b sb most keys bts slots n kv bv L) (g cap : Nat) (hv : bv = .slice (some ⟨g, 0, none⟩) bts.length cap) (i : Nat) (Y : Int) (hY : 0 ≤ Y ∧ Y ≤ 18446744073709551615) :
    Sto (w.setCell ⟨g, i, none⟩ (.int .u64 Y)) B b sb most keys (bts.set i Y) slots n kv bv L ∧ Off B w (w.setCell ⟨g, i, none⟩ (.int .u64 Y)) := by
  obtain ⟨hB, cur, hg⟩ := own_type h.brow g (by rw [hv]; rfl)
  have hbrow := h.brow
  rw [hv] at hbrow
  have st := hbrow.stored i (.int .u64 Y)
  refine ⟨⟨?_, ?_, ?_, ?_, ?_, h.hb, h.hsb, ?_, h.hL, h.sane, h.half, h.nodup, h.lo, h.hi, h.room, ?_, h.small⟩, ?_⟩
  · rw [heap_setCell_other _ _ _ _ (apart h.obj hg (by decide))]; exact h.obj
  · rw [heap_setCell_other _ _ _ _ (apart h.tab hg (by decide))]; exact h.tab
  · exact ownsRow_setCell_other h.krow (own_apart h.krow hg (by decide)) _
  · rw [List.length_set, List.map_set, hv]; exact st.1
  · rw [List.length_set]; exact h.lens
  · exact Nat.le_trans h.hB st.2.size
  · intro x hx
    rcases List.mem_or_eq_of_mem_set hx with hx | hx
    · exact h.fits x hx
    · rw [hx]; exact hY
  · exact (Off.refl B w).setCell ⟨hB, cur, 58, (0, 0), hg, by decide⟩ _

theorem Sto.mark_yes (h : Sto w B b sb most keys bts slots n kv bv L) (i : Nat) (hi : i < keys.length) (x : Int) :
    Calls Try.prog 28 #[.pointer (some ⟨b, 0, none⟩), .int .i64 i, .int .u64 x] w fun e w' => e = .returned (.int .i64 0) ∧ Off B w w' ∧ Sto w' B b sb most keys (bts.set i (bits .or .u64 (bts.getD i 0) x)) slots n kv bv L := by
  have f2 := h.f.2.2.1
  have hlen := h.lens
  rcases row_cells (0 : Int) h.brow with h0 | ⟨g, cap, hv, _, _, hc, hm, hcell, hfr, _⟩
  · rw [h0] at hlen; simp at hlen; omega
  have hk := hcell i (by omega)
  have hf := hfr i
  have hM := Lib.hid (h.marked g cap hv i (bits .or .u64 (bts.getD i 0) x) (by have := bits_lo_u64 .or (bts.getD i 0) x; have := bits_hi_u64 .or (bts.getD i 0) x; omega))
  generalize bts.getD i 0 = X at *
  rw [hv] at f2
  have hh := Lib.hid (h.has_yes i (by omega) (by omega))
  have hi0 : (0 : Int) ≤ i := by omega
  have hi1 : (i : Int) < bts.length := by omega
  clear h hcell hfr hv hlen
  go_enter Try.func28, Try.ntmps28
  go_wp2_with (go_at_call 49; refine hh.out.mono ?_; rintro e w' ⟨rfl, rfl⟩)
  go_ret
  exact ⟨rfl, hM.out.2, hM.out.1⟩

theorem Sto.mark_no (h : Sto w B b sb most keys bts slots n kv bv L) (i x : Int) (h0 : i < 0 ∨ keys.length ≤ i) :
    Calls Try.prog 28 #[.pointer (some ⟨b, 0, none⟩), .int .i64 i, .int .u64 x] w fun e w' => e = .returned (.int .i64 46) ∧ w' = w := by
  have hh := Lib.hid (h.has_no i h0)
  clear h h0
  go_enter Try.func28, Try.ntmps28
  go_wp2_with (go_at_call 49; refine hh.out.mono ?_; rintro e w' ⟨rfl, rfl⟩)
  go_ret
  exact ⟨rfl, rfl⟩

theorem Sto.clear_yes (h : Sto w B b sb most keys bts slots n kv bv L) (i : Nat) (hi : i < keys.length) (x : Int) :
    Calls Try.prog 29 #[.pointer (some ⟨b, 0, none⟩), .int .i64 i, .int .u64 x] w fun e w' => e = .returned (.int .i64 0) ∧ Off B w w' ∧ Sto w' B b sb most keys (bts.set i (bits .andNot .u64 (bts.getD i 0) x)) slots n kv bv L := by
  have f2 := h.f.2.2.1
  have hlen := h.lens
  rcases row_cells (0 : Int) h.brow with h0 | ⟨g, cap, hv, _, _, hc, hm, hcell, hfr, _⟩
  · rw [h0] at hlen; simp at hlen; omega
  have hk := hcell i (by omega)
  have hf := hfr i
  have hM := Lib.hid (h.marked g cap hv i (bits .andNot .u64 (bts.getD i 0) x) (by have := bits_lo_u64 .andNot (bts.getD i 0) x; have := bits_hi_u64 .andNot (bts.getD i 0) x; omega))
  generalize bts.getD i 0 = X at *
  rw [hv] at f2
  have hh := Lib.hid (h.has_yes i (by omega) (by omega))
  have hi0 : (0 : Int) ≤ i := by omega
  have hi1 : (i : Int) < bts.length := by omega
  clear h hcell hfr hv hlen
  go_enter Try.func29, Try.ntmps29
  go_wp2_with (go_at_call 49; refine hh.out.mono ?_; rintro e w' ⟨rfl, rfl⟩)
  go_ret
  exact ⟨rfl, hM.out.2, hM.out.1⟩

theorem Sto.clear_no (h : Sto w B b sb most keys bts slots n kv bv L) (i x : Int) (h0 : i < 0 ∨ keys.length ≤ i) :
    Calls Try.prog 29 #[.pointer (some ⟨b, 0, none⟩), .int .i64 i, .int .u64 x] w fun e w' => e = .returned (.int .i64 46) ∧ w' = w := by
  have hh := Lib.hid (h.has_no i h0)
  clear h h0
  go_enter Try.func29, Try.ntmps29
  go_wp2_with (go_at_call 49; refine hh.out.mono ?_; rintro e w' ⟨rfl, rfl⟩)
  go_ret
  exact ⟨rfl, rfl⟩
end

set_option maxHeartbeats 1000000 in
theorem new_no (m : Int) (w : World) (h : m < 1 ∨ 20000 < m) : Calls Try.prog 21 #[.int .i64 m] w fun e w' => e = .returned (.tuple #[.pointer none, .int .i64 42]) ∧ w' = w := by
  rcases h with h | h
  · go_enter Try.func21, Try.ntmps21
    go_wp2
    go_ret2
    exact ⟨rfl, rfl⟩
  · have h' : ¬ m < 1 := by omega
    go_enter Try.func21, Try.ntmps21
    go_wp2
    go_ret2
    exact ⟨rfl, rfl⟩

theorem info21 : (Try.prog.info? 21).map (fun i => (i.zero, i.size, i.bytes)) = some (some (.int .i32 0), 1, 4) := by kernel_rfl

theorem made_zeros (n : Nat) : madeCells #[Value.int .i32 0] n = ((List.replicate n (0 : Int)).map (Value.int .i32)).toArray := by
  apply Array.toList_inj.1
  rw [toList_madeCells_one]
  simp

theorem make_slots (n : Nat) (hn : n ≤ 65536) (w : World) : (Instr.makeSlice 86 (.int .i64 (n : Int)) (.int .i64 (n : Int))).run Try.prog w =
    .ok (.slice (some ⟨w.heap.size, 0, none⟩) n n) (w.alloc (.cells ((List.replicate n (0 : Int)).map (Value.int .i32)).toArray 21)) := by
  obtain ⟨i0, hi, hz0, hz1, hz2⟩ := info_parts info21
  have h := run_makeSlice (P := Try.prog) w 86 21 i0 (.int .i32 0) Try.underlying86 hi hz0 .i64 .i64 (n : Int) (n : Int) (by omega) (by omega) (by rw [hz1]; omega) (by rw [hz2]; omega) (by omega)
  rw [h, hz1, ← made_zeros]
  simp [Value.cells]

set_option maxRecDepth 100000 in
set_option maxHeartbeats 1000000 in
theorem new_yes (m : Int) (w : World) (B : Nat) (hB : B ≤ w.heap.size) (h1 : 1 ≤ m) (h2 : m ≤ 20000) : Calls Try.prog 21 #[.int .i64 m] w fun e w' => (∃ b sb, e = .returned (.tuple #[.pointer (some ⟨b, 0, none⟩), .int .i64 0]) ∧ Sto w' B b sb m [] [] (List.replicate 64 0) 6 (.slice none 0 0) (.slice none 0 0) 64) ∧ Off B w w' := by
  have hmk : ∀ w : World, (Instr.makeSlice 86 (.int .i64 64) (.int .i64 64)).run Try.prog w = .ok (.slice (some ⟨w.heap.size, 0, none⟩) 64 64) (w.alloc (.cells ((List.replicate 64 (0 : Int)).map (Value.int .i32)).toArray 21)) := make_slots 64 (by decide)
  generalize hz : ((List.replicate 64 (0 : Int)).map (Value.int .i32)).toArray = Z at hmk
  have HZ := Lib.hid hz
  clear hz
  go_enter Try.func21, Try.ntmps21
  go_wp2
  go_ret2
  refine ⟨⟨w.heap.size + 1, w.heap.size, rfl, ?_⟩, ?_⟩
  · refine ⟨?_, ?_, World.ownsRow_nil _ _ _ _, World.ownsRow_nil _ _ _ _, rfl, by omega, hB, by simp; omega, rfl, Tab.fresh [] 6 (by decide) (by decide), by decide, fun i _ hi => by simp at hi, h1, h2, by simp; omega, by simp, by simp⟩
    · have := heap_alloc_new (w.alloc (.cells Z 21)) (.cells #[.int .i64 m, .slice none 0 0, .slice none 0 0, .slice (some ⟨w.heap.size, 0, none⟩) 64 64] 89)
      simpa using this
    · rw [HZ.out, Below.heap_alloc _ _ _ (by simp)]
      exact heap_alloc_new w _
  · exact ((Off.refl B w).alloc _).alloc _
end Go.Proofs.Ytbjieimdllapgaa
