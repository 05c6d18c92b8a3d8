/- A macro without parameters is defined. -/
import Derived.Test.YtojneaffoekpnaaDir
import Derived.WideMake
namespace Go.Proofs.Ytojneaffoekpnaa
open Go.ChangeShapes Go.WideShapes Go.ChangeAt Go.RowKit
set_option linter.unusedVariables false
set_option linter.unusedSimpArgs false

def definedB : ByteArray := ⟨#[100, 101, 102, 105, 110, 101, 100]⟩
/-- The address of what follows the first of some tokens. -/
def restA (g off cap : Nat) : Option Addr := if cap = 1 then some ⟨g, off, none⟩ else some ⟨g, off + 5, none⟩

/-- What the rest of a definition reads. -/
structure DefW (w X : World) (mq b r : Nat) (A : Option Addr) (nb c : Nat) (t : TK) : Prop where
  bel : Below w.heap.size w X
  m0 : X.cell? ⟨mq, 0, none⟩ = some (.pointer (some ⟨b, 0, none⟩))
  f1 : X.cell? ⟨b, 1, none⟩ = some (.map (some r))
  name : X.heap[w.heap.size]? = some (.cells #[.int .i64 1, .int .i64 t.pos, .int .i64 t.line, .string t.text, .int .i64 t.num] 25 (0, 0))
  d : X.heap[w.heap.size + 1]? = some (.cells #[.bool true, .slice none 0 0, .slice A nb c] 63 (0, 0))
  gm : X.heap[r]? = some (.map #[] 0)
theorem DefW.below {w X X' : World} {mq b r : Nat} {A : Option Addr} {nb c : Nat} {t : TK} (h : DefW w X mq b r A nb c t) (hb : Below X.heap.size X X') : DefW w X' mq b r A nb c t :=
  ⟨h.bel.trans (hb.mono h.bel.size), (hb.cell (World.block_lt_of_cell? X _ h.m0)).trans h.m0, (hb.cell (World.block_lt_of_cell? X _ h.f1)).trans h.f1, (hb.block _ (lt_of_block h.name)).trans h.name, (hb.block _ (lt_of_block h.d)).trans h.d, (hb.block _ (lt_of_block h.gm)).trans h.gm⟩
theorem defw_new {w : World} {mq b r : Nat} {A : Option Addr} {nb c : Nat} {n : Int} {tv : Value} {t : TK} (hm0 : w.cell? ⟨mq, 0, none⟩ = some (.pointer (some ⟨b, 0, none⟩))) (hu : Usr w b r false n tv none) :
    DefW w ((w.alloc (.cells #[.int .i64 1, .int .i64 t.pos, .int .i64 t.line, .string t.text, .int .i64 t.num] 25)).alloc (.cells #[.bool true, .slice none 0 0, .slice A nb c] 63)) mq b r A nb c t := by
  have s1 : (w.alloc (.cells #[.int .i64 1, .int .i64 t.pos, .int .i64 t.line, .string t.text, .int .i64 t.num] 25)).heap.size = w.heap.size + 1 := World.size_alloc _ _
  have a0 := heap_alloc_new w (.cells #[.int .i64 1, .int .i64 t.pos, .int .i64 t.line, .string t.text, .int .i64 t.num] 25)
  have a1 := heap_alloc_new (w.alloc (.cells #[.int .i64 1, .int .i64 t.pos, .int .i64 t.line, .string t.text, .int .i64 t.num] 25)) (.cells #[.bool true, .slice none 0 0, .slice A nb c] 63)
  rw [s1] at a1
  have b0 : Below w.heap.size w (w.alloc (.cells #[.int .i64 1, .int .i64 t.pos, .int .i64 t.line, .string t.text, .int .i64 t.num] 25)) := (Below.refl _ _).alloc (Nat.le_refl _) _
  have b1 : Below (w.heap.size + 1) (w.alloc (.cells #[.int .i64 1, .int .i64 t.pos, .int .i64 t.line, .string t.text, .int .i64 t.num] 25)) ((w.alloc (.cells #[.int .i64 1, .int .i64 t.pos, .int .i64 t.line, .string t.text, .int .i64 t.num] 25)).alloc (.cells #[.bool true, .slice none 0 0, .slice A nb c] 63)) := (Below.refl _ _).alloc (by rw [s1]; exact Nat.le_refl _) _
  have bb := b0.trans (b1.mono (by omega))
  exact ⟨bb, (bb.cell (World.block_lt_of_cell? w _ hm0)).trans hm0, (bb.cell (lt_of_block hu.obj)).trans ((cell_of_row _ _ _ _ _ _ hu.obj).trans rfl), (b1.block _ (by omega)).trans a0, a1, (bb.block _ (lt_of_block hu.mp)).trans hu.mp⟩
theorem len_map (r : Nat) (es : Array MapEntry) (c : Nat) (w : World) (hb : w.heap[r]? = some (.map es c)) : (Builtin.len_ #[47] 3 #[.map (some r)]).run Try.prog w = .ok (.int .i64 es.size) w := by
  have hg : (getObj r).run Try.prog w = .ok (.map es c) w := by simp [getObj, Sem.run, hb]
  simp [Builtin.len_, run_underlying Try.underlying47, hg, go_sem]
theorem map_first (r : Nat) (z : ByteArray) (A : Option Addr) (nb c : Nat) (w : World) (h : w.heap[r]? = some (.map #[] 0)) :
    ∃ w', (Instr.mapUpdate 47 (.map (some r)) (.string z) (.agg #[.bool true, .slice none 0 0, .slice A nb c])).run Try.prog w = .ok () w' ∧ w'.heap[r]? = some (mapOf (some (z, A, nb, c))) ∧ w.grownBy w' (some r) := by
  refine ⟨_, run_mapUpdate_first w 47 9 63 r 0 z _ Try.underlying47 Try.underlying9 h, ?_, ⟨rfl, rfl, rfl, by simp, fun k hk hne => ?_⟩⟩
  · have := lt_of_block h
    simp [mapOf, this]
  · have hkr : r ≠ k := fun e => hne (by rw [e])
    simp [hkr]

set_option maxRecDepth 100000 in
set_option maxHeartbeats 1600000 in
theorem define_any (mq b r : Nat) (n : Int) (tv : Value) (p : Int) (g off cap : Nat) (t : TK) (body : List TK) (w : World) (hm0 : w.cell? ⟨mq, 0, none⟩ = some (.pointer (some ⟨b, 0, none⟩))) (hu : Usr w b r false n tv none)
    (ht : Toks w g off (t :: body)) (hcap : body.length + 1 ≤ cap) (hk : t.kind = 1) (hd : t.text ≠ definedB) (hbr : ∀ h : 0 < body.length, isMk body[0] ⟨#[40]⟩ = false) :
    Calls Try.prog 23 #[.pointer (some ⟨mq, 0, none⟩), .int .i64 p, .slice (some ⟨g, off, none⟩) (body.length + 1) cap] w fun e w' => e = .returned (.tuple #[]) ∧ w'.heap[r]? = some (mapOf (some (t.text, restA g off cap, body.length, cap - 1))) ∧ w.grownBy w' (some r) := by
  have HU := Lib.hid hu
  have HT := Lib.hid ht
  have HM0 := Lib.hid hm0
  have h0 := ht.2 0 (by simp)
  simp only [Nat.zero_mul, Nat.add_zero, List.getElem_cons_zero] at h0
  obtain ⟨c0, c1, c2, c3, c4⟩ := h0
  rw [hk] at c0
  have hdb : (t.text.toList == [100, 101, 102, 105, 110, 101, 100]) = false := by
    have h1 : (t.text.toList == definedB.toList) = false := by rw [beq_text]; simpa using hd
    rwa [show definedB.toList = [100, 101, 102, 105, 110, 101, 100] by simp [definedB, ByteArray.toList_eq]] at h1
  have hl1 : ((body.length : Int) + 1 == 0) = false := by rw [beq_eq_false_iff_ne]; omega
  have hgw : g < w.heap.size := ht.1
  have hcap2 : (1 : Int) ≤ cap := by omega
  obtain ⟨A, hA⟩ : ∃ A, (if cap = 1 then (some ⟨g, off, none⟩ : Option Addr) else some ⟨g, off + 5, none⟩) = A := ⟨_, rfl⟩
  have HA : Hid (restA g off cap = A) := Lib.hid hA
  have HBR := Lib.hid hbr
  clear hu ht hm0 hbr hd
  obtain ⟨W, hW⟩ : ∃ W, (w.alloc (.cells #[.int .i64 1, .int .i64 t.pos, .int .i64 t.line, .string t.text, .int .i64 t.num] 25)).alloc (.cells #[.bool true, .slice none 0 0, .slice A body.length (cap - 1)] 63) = W := ⟨_, rfl⟩
  have HW := Lib.hid hW
  clear hW
  go_enter Try.func23, Try.ntmps23
  go_wp2_with fail
  rw [HW.out]
  have HDW := Lib.hid (HW.out ▸ defw_new (t := t) (A := A) (nb := body.length) (c := cap - 1) HM0.out HU.out)
  rcases Nat.eq_zero_or_pos body.length with hb0 | hb0
  · have hl2 : decide (0 < body.length) = false := decide_eq_false (by omega)
    have hz : body.length = 0 := hb0
    refine wp_region_kept (by kernel_rfl) (by kernel_rfl) (fun ι hne f hf hcl => ?_)
    repeat (go_big_quiet_step (fail))
    refine wpQuiet_nil ?_
    intro w4 hb4
    clear hb0 hl2 hz
    have HD4 := Lib.hid (HDW.out.below hb4)
    clear hb4
    have x0 := HD4.out.m0
    have x1 := HD4.out.f1
    have x2 : w4.cell? ⟨w.heap.size, 3, none⟩ = some (.string t.text) := (cell_of_row _ _ _ _ _ _ HD4.out.name).trans rfl
    have hs4 := HD4.out.bel.size
    go_wp2_with fail
    have l1 : (Instr.lookup 47 (.map (some r)) (.string t.text) true).run Try.prog w4.drew = .ok (.tuple #[.agg #[.bool false, .slice none 0 0, .slice none 0 0], .bool false]) w4.drew := look r none _ _ HD4.out.gm
    have l2 : (Instr.lookup 47 (.map (some r)) (.string t.text) true).run Try.prog (w4.alloc (.cells #[.bool false, .slice none 0 0, .slice none 0 0] 63)).drew = .ok (.tuple #[.agg #[.bool false, .slice none 0 0, .slice none 0 0], .bool false]) (w4.alloc (.cells #[.bool false, .slice none 0 0, .slice none 0 0] 63)).drew := look r none _ _ ((Below.heap_alloc _ _ _ (lt_of_block HD4.out.gm)).trans HD4.out.gm)
    have q1 : mq < w4.heap.size := World.block_lt_of_cell? _ _ x0
    have q2 : b < w4.heap.size := World.block_lt_of_cell? _ _ x1
    have q3 : w.heap.size < w4.heap.size := lt_of_block HD4.out.name
    have r1 : mq ≠ w4.heap.size := by omega
    have r2 : b ≠ w4.heap.size := by omega
    have r3 : w.heap.size ≠ w4.heap.size := by omega
    go_region
    all_goals (
      clear l1 l2 x0 x1 x2
      have HD5 := Lib.hid (HD4.out.below ((Below.refl _ _).alloc (Nat.le_refl _) (.cells #[.bool false, .slice none 0 0, .slice none 0 0] 63)).drew)
      generalize World.drew _ = W5 at HD5 ⊢
      have x0 := HD5.out.m0
      have x1 := HD5.out.f1
      have x2 : W5.cell? ⟨w.heap.size, 3, none⟩ = some (.string t.text) := (cell_of_row _ _ _ _ _ _ HD5.out.name).trans rfl
      have y0 : W5.cell? ⟨w.heap.size + 1, 0, none⟩ = some (.bool true) := (cell_of_row _ _ _ _ _ _ HD5.out.d).trans rfl
      have y1 : W5.cell? ⟨w.heap.size + 1, 1, none⟩ = some (.slice none 0 0) := (cell_of_row _ _ _ _ _ _ HD5.out.d).trans rfl
      have y2 : W5.cell? ⟨w.heap.size + 1, 2, none⟩ = some (.slice A body.length (cap - 1)) := (cell_of_row _ _ _ _ _ _ HD5.out.d).trans rfl
      have gm := HD5.out.gm
      obtain ⟨w6, hmu, hw6, hgr⟩ := map_first r t.text A body.length (cap - 1) W5.drew gm
      have HW6 := Lib.hid (And.intro hw6 hgr)
      have hln := len_map r #[] 0 W5 gm
      have hl64 : ((0 : Int) == 64) = false := by decide
      clear hw6 hgr
      go_wp2_with fail
      go_region
      all_goals (
        clear x0 x1 x2 y0 y1 y2 hmu gm hln
        go_wp2_with fail
        first | go_end0 | skip
        refine ⟨rfl, by rw [HA.out]; exact HW6.out.1, ?_⟩
        have hb := HD5.out.bel
        have hg := HW6.out.2
        exact ⟨hg.os.trans hb.os, hg.tape.trans hb.tape, hg.output.trans hb.output, Nat.le_trans hb.size hg.size, fun k hk hne => (hg.block k (Nat.lt_of_lt_of_le hk hb.size) hne).trans (hb.block k hk)⟩))
  · obtain ⟨x, xs, hbx⟩ : ∃ x xs, body = x :: xs := by
      cases body with
      | nil => simp at hb0
      | cons x xs => exact ⟨x, xs, rfl⟩
    have h1 := HT.out.2 1 (by rw [hbx]; simp)
    have e1 : (t :: body)[1]'(by rw [hbx]; simp) = x := by subst hbx; rfl
    rw [e1] at h1
    have hm := HBR.out hb0
    have e2 : body[0]'hb0 = x := by subst hbx; rfl
    rw [e2] at hm
    obtain ⟨b0, b1, b2, b3, b4⟩ := h1
    simp only [Nat.one_mul] at b0 b1 b2 b3 b4
    have HC := Lib.hid fun w' => mark_any x ⟨#[40]⟩ w'
    rw [hm] at HC
    have hl2 : (0 : Int) < (body.length : Int) := by omega
    have hl3 : (1 : Int) < (body.length : Int) + 1 := by omega
    clear hm e1 e2 hbx
    refine wp_region_kept (by kernel_rfl) (by kernel_rfl) (fun ι hne f hf hcl => ?_)
    have hgW : g < W.heap.size := Nat.lt_of_lt_of_le hgw HDW.out.bel.size
    have g0 : ∀ n, (f n).cell? ⟨g, off + 5, none⟩ = some (.int .i64 x.kind) := fun n => ((hf n).cell hgW).trans ((HDW.out.bel.cell hgw).trans b0)
    have g1 : ∀ n, (f n).cell? ⟨g, off + 5 + 1, none⟩ = some (.int .i64 x.pos) := fun n => ((hf n).cell hgW).trans ((HDW.out.bel.cell hgw).trans b1)
    have g2 : ∀ n, (f n).cell? ⟨g, off + 5 + 2, none⟩ = some (.int .i64 x.line) := fun n => ((hf n).cell hgW).trans ((HDW.out.bel.cell hgw).trans b2)
    have g3 : ∀ n, (f n).cell? ⟨g, off + 5 + 3, none⟩ = some (.string x.text) := fun n => ((hf n).cell hgW).trans ((HDW.out.bel.cell hgw).trans b3)
    have g4 : ∀ n, (f n).cell? ⟨g, off + 5 + 4, none⟩ = some (.int .i64 x.num) := fun n => ((hf n).cell hgW).trans ((HDW.out.bel.cell hgw).trans b4)
    have HF := Lib.hid hcl
    clear hcl hf
    repeat (go_big_quiet_step ((go_at_call 20; exact kept_of HF.out _ (HC.out _))))
    refine wpQuiet_nil ?_
    intro w4 hb4
    clear hb0 hl2 hl3 g0 g1 g2 g3 g4 b0 b1 b2 b3 b4
    have HD4 := Lib.hid (HDW.out.below hb4)
    clear hb4
    have x0 := HD4.out.m0
    have x1 := HD4.out.f1
    have x2 : w4.cell? ⟨w.heap.size, 3, none⟩ = some (.string t.text) := (cell_of_row _ _ _ _ _ _ HD4.out.name).trans rfl
    have hs4 := HD4.out.bel.size
    go_wp2_with fail
    have l1 : (Instr.lookup 47 (.map (some r)) (.string t.text) true).run Try.prog w4.drew = .ok (.tuple #[.agg #[.bool false, .slice none 0 0, .slice none 0 0], .bool false]) w4.drew := look r none _ _ HD4.out.gm
    have l2 : (Instr.lookup 47 (.map (some r)) (.string t.text) true).run Try.prog (w4.alloc (.cells #[.bool false, .slice none 0 0, .slice none 0 0] 63)).drew = .ok (.tuple #[.agg #[.bool false, .slice none 0 0, .slice none 0 0], .bool false]) (w4.alloc (.cells #[.bool false, .slice none 0 0, .slice none 0 0] 63)).drew := look r none _ _ ((Below.heap_alloc _ _ _ (lt_of_block HD4.out.gm)).trans HD4.out.gm)
    have q1 : mq < w4.heap.size := World.block_lt_of_cell? _ _ x0
    have q2 : b < w4.heap.size := World.block_lt_of_cell? _ _ x1
    have q3 : w.heap.size < w4.heap.size := lt_of_block HD4.out.name
    have r1 : mq ≠ w4.heap.size := by omega
    have r2 : b ≠ w4.heap.size := by omega
    have r3 : w.heap.size ≠ w4.heap.size := by omega
    go_region
    all_goals (
      clear l1 l2 x0 x1 x2
      have HD5 := Lib.hid (HD4.out.below ((Below.refl _ _).alloc (Nat.le_refl _) (.cells #[.bool false, .slice none 0 0, .slice none 0 0] 63)).drew)
      generalize World.drew _ = W5 at HD5 ⊢
      have x0 := HD5.out.m0
      have x1 := HD5.out.f1
      have x2 : W5.cell? ⟨w.heap.size, 3, none⟩ = some (.string t.text) := (cell_of_row _ _ _ _ _ _ HD5.out.name).trans rfl
      have y0 : W5.cell? ⟨w.heap.size + 1, 0, none⟩ = some (.bool true) := (cell_of_row _ _ _ _ _ _ HD5.out.d).trans rfl
      have y1 : W5.cell? ⟨w.heap.size + 1, 1, none⟩ = some (.slice none 0 0) := (cell_of_row _ _ _ _ _ _ HD5.out.d).trans rfl
      have y2 : W5.cell? ⟨w.heap.size + 1, 2, none⟩ = some (.slice A body.length (cap - 1)) := (cell_of_row _ _ _ _ _ _ HD5.out.d).trans rfl
      have gm := HD5.out.gm
      obtain ⟨w6, hmu, hw6, hgr⟩ := map_first r t.text A body.length (cap - 1) W5.drew gm
      have HW6 := Lib.hid (And.intro hw6 hgr)
      have hln := len_map r #[] 0 W5 gm
      have hl64 : ((0 : Int) == 64) = false := by decide
      clear hw6 hgr
      go_wp2_with fail
      go_region
      all_goals (
        clear x0 x1 x2 y0 y1 y2 hmu gm hln
        go_wp2_with fail
        first | go_end0 | skip
        refine ⟨rfl, by rw [HA.out]; exact HW6.out.1, ?_⟩
        have hb := HD5.out.bel
        have hg := HW6.out.2
        exact ⟨hg.os.trans hb.os, hg.tape.trans hb.tape, hg.output.trans hb.output, Nat.le_trans hb.size hg.size, fun k hk hne => (hg.block k (Nat.lt_of_lt_of_le hk hb.size) hne).trans (hb.block k hk)⟩))
end Go.Proofs.Ytojneaffoekpnaa
