/- One token is put into what replaces a use. -/
import Derived.Test.YtojneaffoekpnaaSmall
namespace Go.Proofs.Ytojneaffoekpnaa
open Go.ChangeShapes Go.WideShapes Go.ChangeAt Go.RowKit
set_option linter.unusedVariables false
set_option linter.unusedSimpArgs false

/-- Below B, all blocks but one are as they were. -/
structure Off (B ob : Nat) (w w' : World) : Prop where
  os : w'.os = w.os
  tape : w'.tape = w.tape
  output : w'.output = w.output
  size : w.heap.size ≤ w'.heap.size
  block : ∀ k, k < B → k ≠ ob → w'.heap[k]? = w.heap[k]?
theorem Off.trans {B ob : Nat} {a b c : World} (h : Off B ob a b) (h2 : Off B ob b c) : Off B ob a c :=
  ⟨h2.os.trans h.os, h2.tape.trans h.tape, h2.output.trans h.output, Nat.le_trans h.size h2.size, fun k hk hne => (h2.block k hk hne).trans (h.block k hk hne)⟩
theorem Off.mono {B B' ob : Nat} {a b : World} (h : Off B ob a b) (hb : B' ≤ B) : Off B' ob a b := ⟨h.os, h.tape, h.output, h.size, fun k hk => h.block k (Nat.lt_of_lt_of_le hk hb)⟩
theorem Off.of_below {B ob : Nat} {a b : World} (h : Below B a b) : Off B ob a b := ⟨h.os, h.tape, h.output, h.size, fun k hk _ => h.block k hk⟩
theorem Off.below {B ob : Nat} {a b : World} (h : Off B ob a b) (hb : B ≤ ob) : Below B a b := ⟨h.os, h.tape, h.output, h.size, fun k hk => h.block k hk (by omega)⟩
theorem Off.below_ob {B ob : Nat} {a b : World} (h : Off B ob a b) (hb : ob ≤ B) : Below ob a b := ⟨h.os, h.tape, h.output, h.size, fun k hk => h.block k (by omega) (by omega)⟩

/-- A token, at the place of the name that is used. -/
def moved (n k : TK) : TK := ⟨k.kind, n.pos, n.line, k.text, k.num⟩

/-- What stands in memory while a use is replaced. -/
structure Rep (B ob nb : Nat) (w : World) (v : Value) (acc : List TK) (n : TK) : Prop where
  out : w.heap[ob]? = some (.cells #[v] 22 (0, 0))
  name : w.heap[nb]? = some (.cells #[.int .i64 n.kind, .int .i64 n.pos, .int .i64 n.line, .string n.text, .int .i64 n.num] 25 (0, 0))
  own : w.ownsRow B 25 5 v acc.length (cellsOf acc)
  hob : ob < B
  hnb : nb < B
  hne : nb ≠ ob
  hB : B ≤ w.heap.size

theorem Rep.below {B ob nb : Nat} {w w' : World} {v : Value} {acc : List TK} {n : TK} (h : Rep B ob nb w v acc n) (hb : Below w.heap.size w w') : Rep B ob nb w' v acc n := by
  have e1 := h.hob
  have e2 := h.hnb
  have e3 := h.hB
  refine ⟨(hb.block _ (by omega)).trans h.out, (hb.block _ (by omega)).trans h.name, ?_, e1, e2, h.hne, Nat.le_trans e3 hb.size⟩
  refine h.own.kept (row := none) ⟨hb.os, hb.tape, hb.output, hb.size, fun i hi _ => hb.block i hi⟩ ?_
  cases hv : v.ownBlock with
  | none => exact .inl rfl
  | some g => exact .inr (by simp)
theorem Rep.alloc {B ob nb : Nat} {w : World} {v : Value} {acc : List TK} {n : TK} (h : Rep B ob nb w v acc n) (o : Obj) : Rep B ob nb (w.alloc o) v acc n := h.below ((Below.refl _ _).alloc (Nat.le_refl _) o)
theorem Rep.drew {B ob nb : Nat} {w : World} {v : Value} {acc : List TK} {n : TK} (h : Rep B ob nb w v acc n) : Rep B ob nb w.drew v acc n := h.below (Below.refl _ _).drew
theorem Rep.push {B ob nb : Nat} {w w2 : World} {v v2 : Value} {acc : List TK} {n t : TK} (h : Rep B ob nb w v acc n) (hg : w.grownBy w2 v.ownBlock) (hown : w2.ownsRow B 25 5 v2 (acc.length + 1) (cellsOf acc ++ tkCells t)) :
    w2.cell? ⟨ob, 0, none⟩ = some v ∧ w2.frozen? ⟨ob, 0, none⟩ = false ∧ Rep B ob nb (w2.setCell ⟨ob, 0, none⟩ v2) v2 (acc ++ [t]) n ∧ Off B ob w (w2.setCell ⟨ob, 0, none⟩ v2) := by
  have e1 := h.hob
  have e2 := h.hnb
  have e3 := h.hB
  have hb : Below B w w2 := (Below.refl B w).grown hg e3 fun k hk => (h.own.lt k hk).1
  have ho := (hb.block _ e1).trans h.out
  have hs : (w2.setCell ⟨ob, 0, none⟩ v2).heap.size = w2.heap.size := by simp [World.setCell]
  refine ⟨(cell_of_row _ _ _ _ _ _ ho).trans rfl, frozen_of_row _ _ _ _ _ ho, ⟨?_, ?_, ?_, e1, e2, h.hne, by rw [hs]; exact Nat.le_trans e3 hg.size⟩, ⟨hb.os, hb.tape, hb.output, by rw [hs]; exact hb.size, fun k hk hne => ?_⟩⟩
  · rw [heap_setCell_same _ _ _ _ _ _ ho]
    rfl
  · rw [heap_setCell_other _ _ _ _ (by show nb ≠ ob; exact h.hne)]
    exact (hb.block _ e2).trans h.name
  · rw [cellsOf_snoc, List.length_append]
    refine hown.kept (row := some ob) ⟨rfl, rfl, rfl, by rw [hs]; exact Nat.le_refl _, fun k hk hkb => heap_setCell_other _ _ _ _ fun e => hkb (by rw [e])⟩ ?_
    cases hv : v2.ownBlock with
    | none => exact .inl rfl
    | some g =>
      right
      have := (hown.lt g hv).1
      intro e
      cases e
      omega
  · rw [heap_setCell_other _ _ _ _ hne]
    exact hb.block k hk

set_option maxRecDepth 100000 in
set_option maxHeartbeats 1600000 in
theorem put_any (B ob nb hb c : Nat) (v : Value) (acc : List TK) (n k : TK) (w : World) (hR : Rep B ob nb w v acc n) (hk : TkAt w hb 0 k) (hn : acc.length + 1 ≤ 8192) :
    Calls Try.prog 45 #[.slice (some ⟨hb, 0, none⟩) 1 c, .pointer (some ⟨ob, 0, none⟩), .pointer (some ⟨nb, 0, none⟩)] w fun e w' => e = .returned (.tuple #[]) ∧ ∃ v', Rep B ob nb w' v' (acc ++ [moved n k]) n ∧ Off B ob w w' := by
  obtain ⟨i25, hi25, ha25, hb25, hc25⟩ := info_parts info25
  have HI := Lib.hid (And.intro hi25 (And.intro ha25 (And.intro hb25 hc25)))
  clear hi25 ha25 hb25 hc25
  have HR := Lib.hid hR
  obtain ⟨o0, c0, rfl⟩ := any_form hR.own
  have e1 := hR.hob
  have e2 := hR.hnb
  have e3 := hR.hB
  have f0 : w.cell? ⟨ob, 0, none⟩ = some (.slice o0 acc.length c0) := (cell_of_row _ _ _ _ _ _ hR.out).trans rfl
  obtain ⟨k0, k1, k2, k3, k4⟩ := hk
  have g1 : w.cell? ⟨nb, 1, none⟩ = some (.int .i64 n.pos) := (cell_of_row _ _ _ _ _ _ hR.name).trans rfl
  have g2 : w.cell? ⟨nb, 2, none⟩ = some (.int .i64 n.line) := (cell_of_row _ _ _ _ _ _ hR.name).trans rfl
  have q1 : ob < w.heap.size := by omega
  have q2 : nb < w.heap.size := by omega
  have hadd : ((acc.length : Int) + 1) ≤ 8192 := by omega
  clear hR
  go_enter Try.func45, Try.ntmps45
  go_wp2_with fail
  refine wp_loop_rounds 2 ?_
  rw [rounds_succ]
  go_wp2_with fail
  go_region
  have HR1 := Lib.hid ((HR.out.alloc (.cells #[.int .i64 k.kind, .int .i64 n.pos, .int .i64 n.line, .string k.text, .int .i64 k.num] 25)).drew.alloc (.cells #[.int .i64 k.kind, .int .i64 n.pos, .int .i64 n.line, .string k.text, .int .i64 k.num] 25))
  have hs1 : (w.alloc (.cells #[.int .i64 k.kind, .int .i64 n.pos, .int .i64 n.line, .string k.text, .int .i64 k.num] 25)).drew.heap.size = w.heap.size + 1 := World.size_alloc _ _
  have HS1 := Lib.hid hs1
  have HNC : Hid (∀ (j : Nat) (u : Value), (tkCells (moved n k))[j]? = some u → ((w.alloc (.cells #[.int .i64 k.kind, .int .i64 n.pos, .int .i64 n.line, .string k.text, .int .i64 k.num] 25)).drew.alloc (.cells #[.int .i64 k.kind, .int .i64 n.pos, .int .i64 n.line, .string k.text, .int .i64 k.num] 25)).cell? ((⟨w.heap.size + 1, 0, none⟩ : Addr).add j) = some u) := Lib.hid fun j u hu => by
    have := new_cells (w.alloc (.cells #[.int .i64 k.kind, .int .i64 n.pos, .int .i64 n.line, .string k.text, .int .i64 k.num] 25)).drew (moved n k) j u hu
    rw [hs1] at this
    exact this
  have HBB : Hid (Below w.heap.size w ((w.alloc (.cells #[.int .i64 k.kind, .int .i64 n.pos, .int .i64 n.line, .string k.text, .int .i64 k.num] 25)).drew.alloc (.cells #[.int .i64 k.kind, .int .i64 n.pos, .int .i64 n.line, .string k.text, .int .i64 k.num] 25))) := Lib.hid (((Below.refl _ _).alloc (Nat.le_refl _) _).drew.alloc (by rw [hs1]; omega) _)
  clear hs1
  go_wp2_with (at_builtin; refine wpList_append_own _ rfl _ _ 22 rfl B 25 i25 zeroTok 5 48 Try.underlying22 HI.out.1 HI.out.2.1 HI.out.2.2.1 HI.out.2.2.2 rfl (by decide) _ _ _ rfl HR1.out.own ⟨w.heap.size + 1, 0, none⟩ 1 1 (tkCells (moved n k)) rfl rfl ?c1 ?c2 ?c3 ?c4 ?c5 ?_)
  case c1 => exact HNC.out
  case c2 => exact cells_tk _
  case c3 => unfold maxLen; omega
  case c4 => omega
  case c5 => exact HR1.out.hB
  intro v2 w2 hown2 hgrow2 _
  obtain ⟨o2, c2, rfl⟩ := any_form hown2
  obtain ⟨p0, p1, hR2, hO2⟩ := HR1.out.push hgrow2 hown2
  have HR2 := Lib.hid hR2
  have HO2 := Lib.hid hO2
  clear hown2 hgrow2 hR2 hO2 k0 k1 k2 k3 k4 g1 g2 f0
  go_wp2_with fail
  rw [rounds_succ]
  go_wp2_with fail
  first | go_end0 | skip
  exact ⟨rfl, _, HR2.out, (Off.of_below (HBB.out.mono e3)).trans HO2.out⟩
end Go.Proofs.Ytojneaffoekpnaa
