/- What replaces a use of a macro without parameters: its tokens, at the place of the name. -/
import Derived.Test.YtojneaffoekpnaaPut
namespace Go.Proofs.Ytojneaffoekpnaa
open Go.ChangeShapes Go.WideShapes Go.ChangeAt Go.RowKit
set_option linter.unusedVariables false
set_option linter.unusedSimpArgs false

/-- The tokens of a macro, in memory. -/
def BodyAt (w : World) (o : Option Addr) (ts : List TK) : Prop := ts.length = 0 ∨ ∃ g off, o = some ⟨g, off, none⟩ ∧ Toks w g off ts
theorem BodyAt.below {w w' : World} {o : Option Addr} {ts : List TK} (h : BodyAt w o ts) (hb : Below w.heap.size w w') : BodyAt w' o ts := by
  rcases h with h | ⟨g, off, h1, h2⟩
  · exact .inl h
  · exact .inr ⟨g, off, h1, h2.below hb⟩

/-- While a use is replaced. -/
structure Rpl (w wr : World) (o : Option Addr) (kk c : Nat) (v : Value) (acc : List TK) (n : TK) : Prop where
  rep : Rep (w.heap.size + 3) (w.heap.size + 1 + 1) (w.heap.size + 1) wr v acc n
  d : wr.heap[w.heap.size]? = some (.cells #[.bool true, .slice none 0 0, .slice o kk c] 63 (0, 0))
  bel : Below w.heap.size w wr
theorem Rpl.below {w wr w' : World} {o : Option Addr} {kk c : Nat} {v : Value} {acc : List TK} {n : TK} (h : Rpl w wr o kk c v acc n) (hb : Below wr.heap.size wr w') : Rpl w w' o kk c v acc n :=
  ⟨h.rep.below hb, (hb.block _ (lt_of_block h.d)).trans h.d, h.bel.trans (hb.mono h.bel.size)⟩
theorem Rpl.off {w wr w' : World} {o : Option Addr} {kk c : Nat} {v v' : Value} {acc acc' : List TK} {n : TK} (h : Rpl w wr o kk c v acc n) (hr : Rep (w.heap.size + 3) (w.heap.size + 1 + 1) (w.heap.size + 1) w' v' acc' n) (ho : Off (w.heap.size + 3) (w.heap.size + 1 + 1) wr w') : Rpl w w' o kk c v' acc' n :=
  ⟨hr, (ho.block _ (by omega) (by omega)).trans h.d, h.bel.trans ((ho.mono (by omega)).below (by omega))⟩
theorem rpl_new (w : World) (o : Option Addr) (kk c : Nat) (n : TK) : Rpl w (((w.alloc (.cells #[.bool true, .slice none 0 0, .slice o kk c] 63)).alloc (.cells #[.int .i64 n.kind, .int .i64 n.pos, .int .i64 n.line, .string n.text, .int .i64 n.num] 25)).alloc (.cells #[.slice none 0 0] 22)) o kk c (.slice none 0 0) [] n := by
  have s1 : (w.alloc (.cells #[.bool true, .slice none 0 0, .slice o kk c] 63)).heap.size = w.heap.size + 1 := World.size_alloc _ _
  have s2 : ((w.alloc (.cells #[.bool true, .slice none 0 0, .slice o kk c] 63)).alloc (.cells #[.int .i64 n.kind, .int .i64 n.pos, .int .i64 n.line, .string n.text, .int .i64 n.num] 25)).heap.size = w.heap.size + 1 + 1 := by rw [World.size_alloc, s1]
  have s3 : (((w.alloc (.cells #[.bool true, .slice none 0 0, .slice o kk c] 63)).alloc (.cells #[.int .i64 n.kind, .int .i64 n.pos, .int .i64 n.line, .string n.text, .int .i64 n.num] 25)).alloc (.cells #[.slice none 0 0] 22)).heap.size = w.heap.size + 1 + 1 + 1 := by rw [World.size_alloc, s2]
  have a0 := heap_alloc_new w (.cells #[.bool true, .slice none 0 0, .slice o kk c] 63)
  have a1 := heap_alloc_new (w.alloc (.cells #[.bool true, .slice none 0 0, .slice o kk c] 63)) (.cells #[.int .i64 n.kind, .int .i64 n.pos, .int .i64 n.line, .string n.text, .int .i64 n.num] 25)
  have a2 := heap_alloc_new ((w.alloc (.cells #[.bool true, .slice none 0 0, .slice o kk c] 63)).alloc (.cells #[.int .i64 n.kind, .int .i64 n.pos, .int .i64 n.line, .string n.text, .int .i64 n.num] 25)) (.cells #[.slice none 0 0] 22)
  rw [s1] at a1
  rw [s2] at a2
  have b0 : Below w.heap.size w (w.alloc (.cells #[.bool true, .slice none 0 0, .slice o kk c] 63)) := (Below.refl _ _).alloc (Nat.le_refl _) _
  have b1 : Below (w.heap.size + 1) (w.alloc (.cells #[.bool true, .slice none 0 0, .slice o kk c] 63)) ((w.alloc (.cells #[.bool true, .slice none 0 0, .slice o kk c] 63)).alloc (.cells #[.int .i64 n.kind, .int .i64 n.pos, .int .i64 n.line, .string n.text, .int .i64 n.num] 25)) := (Below.refl _ _).alloc (by rw [s1]; exact Nat.le_refl _) _
  have b2 : Below (w.heap.size + 1 + 1) ((w.alloc (.cells #[.bool true, .slice none 0 0, .slice o kk c] 63)).alloc (.cells #[.int .i64 n.kind, .int .i64 n.pos, .int .i64 n.line, .string n.text, .int .i64 n.num] 25)) (((w.alloc (.cells #[.bool true, .slice none 0 0, .slice o kk c] 63)).alloc (.cells #[.int .i64 n.kind, .int .i64 n.pos, .int .i64 n.line, .string n.text, .int .i64 n.num] 25)).alloc (.cells #[.slice none 0 0] 22)) := (Below.refl _ _).alloc (by rw [s2]; exact Nat.le_refl _) _
  exact ⟨⟨a2, (b2.block _ (by omega)).trans a1, World.ownsRow_nil _ _ _ _, by omega, by omega, by omega, by omega⟩, (b2.block _ (by omega)).trans ((b1.block _ (by omega)).trans a0), (b0.trans (b1.mono (by omega))).trans (b2.mono (by omega))⟩

set_option maxRecDepth 100000 in
set_option maxHeartbeats 1600000 in
theorem repl_any (b : Nat) (o : Option Addr) (c : Nat) (ts : List TK) (n : TK) (l : Value) (w : World) (hi : w.cell? ⟨b, 0, none⟩ = some (.bool false)) (hb : BodyAt w o ts) (hn : ts.length ≤ 8192) :
    Calls Try.prog 34 #[.pointer (some ⟨b, 0, none⟩), plainV o ts.length c, l, tkV n] w fun e w' => ∃ v, e = .returned v ∧ Row w w' v (ts.map (moved n)) ∧ (ts.length = 0 → v = .slice none 0 0) := by
  have hmf : ∀ (fn : Fn) (first cap : Array Value) (w : World), (Instr.makeFunc fn first cap).run Try.prog w = .ok (.func fn first cap) w := fun _ _ _ _ => rfl
  have HBD := Lib.hid hb
  have HI0 := Lib.hid hi
  have hbw : b < w.heap.size := World.block_lt_of_cell? w _ hi
  have HN := Lib.hid (rpl_new w o ts.length c n)
  clear hb hi
  unfold plainV tkV
  have hi0 : (((w.alloc (.cells #[.bool true, .slice none 0 0, .slice o ts.length c] 63)).alloc (.cells #[.int .i64 n.kind, .int .i64 n.pos, .int .i64 n.line, .string n.text, .int .i64 n.num] 25)).alloc (.cells #[.slice none 0 0] 22)).cell? ⟨b, 0, none⟩ = some (.bool false) := (HN.out.bel.cell hbw).trans HI0.out
  go_enter Try.func34, Try.ntmps34
  go_wp2_with fail
  clear hi0
  generalize ((w.alloc (.cells #[.bool true, .slice none 0 0, .slice o ts.length c] 63)).alloc (.cells #[.int .i64 n.kind, .int .i64 n.pos, .int .i64 n.line, .string n.text, .int .i64 n.num] 25)).alloc (.cells #[.slice none 0 0] 22) = W at HN ⊢
  go_loopw [26] (fun i wr => ∃ (k : Nat) (v : Value), i = .int .i64 k ∧ k ≤ ts.length ∧ Hid (k = 0 → v = .slice none 0 0) ∧ Hid (Rpl w wr o ts.length c v ((ts.take k).map (moved n)) n)) (fun i _ => ts.length - (intOf i).toNat)
  case atStart => exact ⟨0, _, rfl, by omega, Lib.hid fun _ => rfl, Lib.hid (by simpa using HN.out)⟩
  case round =>
    obtain ⟨k, v, rfl, hk, HZ, HR⟩ := hrel
    by_cases hlt : k < ts.length
    · obtain ⟨g, off, rfl, hT⟩ : ∃ g off, o = some ⟨g, off, none⟩ ∧ Toks w g off ts := by
        rcases HBD.out with h | h
        · omega
        · exact h
      have hgw := hT.1
      obtain ⟨t, ht⟩ : ∃ t, ts[k] = t := ⟨_, rfl⟩
      obtain ⟨c0, c1, c2, c3, c4⟩ := (hT.below HR.out.bel).2 k hlt
      rw [ht] at c0 c1 c2 c3 c4
      have HT := Lib.hid ht
      have d0 : wr.cell? ⟨w.heap.size, 0, none⟩ = some (.bool true) := (cell_of_row _ _ _ _ _ _ HR.out.d).trans rfl
      have d1 : wr.cell? ⟨w.heap.size, 1, none⟩ = some (.slice none 0 0) := (cell_of_row _ _ _ _ _ _ HR.out.d).trans rfl
      have d2 : wr.cell? ⟨w.heap.size, 2, none⟩ = some (.slice (some ⟨g, off, none⟩) ts.length c) := (cell_of_row _ _ _ _ _ _ HR.out.d).trans rfl
      have hlti : (k : Int) < ts.length := by omega
      have hk0 : (0 : Int) ≤ k := by omega
      have hsz := HR.out.bel.size
      have hsz2 : w.heap.size < wr.heap.size := lt_of_block HR.out.d
      clear ht hT
      have HRA := Lib.hid (HR.out.below ((Below.refl _ _).alloc (Nat.le_refl _) (.cells #[.int .i64 t.kind, .int .i64 t.pos, .int .i64 t.line, .string t.text, .int .i64 t.num] 25)))
      have HBX : Hid ((wr.alloc (.cells #[.int .i64 t.kind, .int .i64 t.pos, .int .i64 t.line, .string t.text, .int .i64 t.num] 25)).heap[wr.heap.size]? = some (.cells #[.int .i64 t.kind, .int .i64 t.pos, .int .i64 t.line, .string t.text, .int .i64 t.num] 25 (0, 0))) := Lib.hid (heap_alloc_new _ _)
      go_wp2_with fail
      refine (none_any (some ⟨g, off, none⟩) ts.length c t _).mono ?_
      rintro e w5 ⟨rfl, hb5⟩
      have HR5 := Lib.hid (HRA.out.below hb5)
      have hbx := (hb5.block _ (lt_of_block HBX.out)).trans HBX.out
      have x0 : w5.cell? ⟨wr.heap.size, 0, none⟩ = some (.int .i64 t.kind) := (cell_of_row _ _ _ _ _ _ hbx).trans rfl
      have x1 : w5.cell? ⟨wr.heap.size, 1, none⟩ = some (.int .i64 t.pos) := (cell_of_row _ _ _ _ _ _ hbx).trans rfl
      have x2 : w5.cell? ⟨wr.heap.size, 2, none⟩ = some (.int .i64 t.line) := (cell_of_row _ _ _ _ _ _ hbx).trans rfl
      have x3 : w5.cell? ⟨wr.heap.size, 3, none⟩ = some (.string t.text) := (cell_of_row _ _ _ _ _ _ hbx).trans rfl
      have x4 : w5.cell? ⟨wr.heap.size, 4, none⟩ = some (.int .i64 t.num) := (cell_of_row _ _ _ _ _ _ hbx).trans rfl
      have htl : ((ts.take k).map (moved n)).length = k := by simp; omega
      have HTL := Lib.hid htl
      clear hb5 hbx c0 c1 c2 c3 c4 d0 d1 d2 HRA HBX htl
      have HR6 := Lib.hid (HR5.out.below ((Below.refl _ _).alloc (Nat.le_refl _) (.cells #[.int .i64 t.kind, .int .i64 t.pos, .int .i64 t.line, .string t.text, .int .i64 t.num] 25)))
      have hk6 : TkAt (w5.alloc (.cells #[.int .i64 t.kind, .int .i64 t.pos, .int .i64 t.line, .string t.text, .int .i64 t.num] 25)) w5.heap.size 0 t := by
        have h := heap_alloc_new w5 (.cells #[.int .i64 t.kind, .int .i64 t.pos, .int .i64 t.line, .string t.text, .int .i64 t.num] 25)
        exact ⟨(cell_of_row _ _ _ _ _ _ h).trans rfl, (cell_of_row _ _ _ _ _ _ h).trans rfl, (cell_of_row _ _ _ _ _ _ h).trans rfl, (cell_of_row _ _ _ _ _ _ h).trans rfl, (cell_of_row _ _ _ _ _ _ h).trans rfl⟩
      have HPUT := Lib.hid (put_any (w.heap.size + 3) (w.heap.size + 1 + 1) (w.heap.size + 1) w5.heap.size 1 v _ n t _ HR6.out.rep hk6 (by rw [HTL.out]; omega))
      clear hk6
      go_wp2_with fail
      refine HPUT.out.mono ?_
      rintro e w7 ⟨rfl, v7, hr7, ho7⟩
      have HR7 := Lib.hid (HR6.out.off hr7 ho7)
      have hsn : (ts.take k).map (moved n) ++ [moved n t] = (ts.take (k + 1)).map (moved n) := by
        rw [List.take_succ_eq_append_getElem hlt, HT.out, List.map_append]
        rfl
      rw [hsn] at HR7
      clear hr7 ho7 hsn HPUT x0 x1 x2 x3 x4
      go_wp2_with fail
      go_roundw
      case rel => exact ⟨k + 1, v7, by go_num, by omega, Lib.hid fun h => by omega, HR7⟩
      case measure => simp [intOf]; omega
    · obtain rfl : k = ts.length := by omega
      have f0 : wr.cell? ⟨w.heap.size + 1 + 1, 0, none⟩ = some v := (cell_of_row _ _ _ _ _ _ HR.out.rep.out).trans rfl
      obtain ⟨o1, c1, rfl⟩ := any_form HR.out.rep.own
      have fi : wr.cell? ⟨b, 0, none⟩ = some (.bool false) := (HR.out.bel.cell hbw).trans HI0.out
      go_wp2_with fail
      go_ret
      refine ⟨_, rfl, ⟨?_, HR.out.bel⟩, fun h => by have h1 := HZ.out h; simpa using h1⟩
      have h := HR.out.rep.own
      rw [List.take_length] at h
      simpa using h.mono (base' := w.heap.size) (by omega)
end Go.Proofs.Ytojneaffoekpnaa
