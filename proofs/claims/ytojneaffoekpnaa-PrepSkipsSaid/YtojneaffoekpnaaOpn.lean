/- The user with a condition open, in memory. -/
import Derived.Test.YtojneaffoekpnaaDirs
import Derived.Test.YtojneaffoekpnaaOnce
import Derived.Test.YtojneaffoekpnaaLine
namespace Go.Proofs.Ytojneaffoekpnaa
open Go.ChangeShapes Go.WideShapes Go.ChangeAt Go.RowKit
set_option linter.unusedVariables false
set_option linter.unusedSimpArgs false

structure Opn (w W : World) (b r og oc : Nat) (x y : Bool) : Prop where
  made : Made w W b r false none
  cond : Cond W (b + 1) b og oc x y
  hog : b + 1 < og
theorem Opn.below {w W W' : World} {b r og oc : Nat} {x y : Bool} (h : Opn w W b r og oc x y) (hb : Below W.heap.size W W') : Opn w W' b r og oc x y := ⟨h.made.below hb, h.cond.below hb, h.hog⟩
theorem Opn.drew {w W : World} {b r og oc : Nat} {x y : Bool} (h : Opn w W b r og oc x y) : Opn w W.drew b r og oc x y := h.below (Below.refl _ _).drew

theorem made_grown {w W W' : World} {b r k : Nat} {mo : Dic} (h : Made w W b r false mo) (hg : W.grownBy W' (some k)) (h1 : w.heap.size + 1 + 1 < k) (h2 : k ≠ b) (h3 : k ≠ r) : Made w W' b r false mo := by
  have hk : ∀ j, j ≠ k → j < W.heap.size → W'.heap[j]? = W.heap[j]? := fun j hj hlt => hg.block j hlt (fun e => hj (by simpa using e))
  have hs := h.bel.size
  exact ⟨⟨hg.os.trans h.bel.os, hg.tape.trans h.bel.tape, hg.output.trans h.bel.output, Nat.le_trans hs hg.size, fun j hlt => (hk j (by omega) (by omega)).trans (h.bel.block j hlt)⟩, (hk _ (by omega) (lt_of_block h.c0)).trans h.c0, (hk _ (by omega) (lt_of_block h.c1)).trans h.c1, (hk _ (by omega) (lt_of_block h.c2)).trans h.c2, h.hb, ⟨(hk _ (fun e => h2 e.symm) (lt_of_block h.usr.obj)).trans h.usr.obj, (hk _ (fun e => h3 e.symm) (lt_of_block h.usr.mp)).trans h.usr.mp⟩, h.hrb, h.hzr⟩

theorem opn_if {w W W' : World} {b r og oc : Nat} (h : Mad w W b r none) (hrb : r + 1 = b) (hg : W.grownBy W' (some (b + 1))) (hl : W.heap.size ≤ og) (hc : Cond W' (b + 1) b og oc false false) : Opn w W' b r og oc false false := by
  have e := h.made.hb
  have hm := lt_of_block h.m
  exact ⟨made_grown h.made hg (by omega) (by omega) (by omega), hc, by omega⟩
theorem Opn.turn {w W W' : World} {b r og oc : Nat} (h : Opn w W b r og oc false false) (hrb : r + 1 = b) (hg : W.grownBy W' (some og)) (hc : Cond W' (b + 1) b og oc true true) : Opn w W' b r og oc true true := by
  have e := h.made.hb
  have e2 := h.hog
  exact ⟨made_grown h.made hg (by omega) (by omega) (by omega), hc, e2⟩

/-- What is told, and a condition is open. -/
def NeaO (w W : World) (b base g j : Nat) (v : Value) (ts0 : List TK) (t : TK) (og oc : Nat) : Prop :=
  Near w W b base g j v ts0 t ∧ Cond W (b + 1) b og oc true true ∧ b + 1 < base
theorem NeaO.below {w W W' : World} {b base g j og oc : Nat} {v : Value} {ts0 : List TK} {t : TK} (h : NeaO w W b base g j v ts0 t og oc) (hb : Below W.heap.size W W') : NeaO w W' b base g j v ts0 t og oc := by
  obtain ⟨hN, hC, hl⟩ := h
  have hs := hN.bel.size
  have e1 := hN.hbb
  have e2 := hN.hbase
  refine ⟨⟨hN.bel.trans (hb.mono hs), (hb.block _ (lt_of_block hN.c0)).trans hN.c0, (hb.block _ (lt_of_block hN.c1)).trans hN.c1, (hb.block _ (lt_of_block hN.c2)).trans hN.c2, hN.hb, hN.hbb, Nat.le_trans hN.hbase hb.size, hN.hg, (hb.cell (by show b < _; omega)).trans hN.told, ?_, tk_below hN.tok (hb.mono (by have := hN.hg; omega))⟩, hC.below hb, hl⟩
  refine hN.own.kept (row := none) ⟨hb.os, hb.tape, hb.output, hb.size, fun k hk _ => hb.block k hk⟩ ?_
  cases hv : v.ownBlock with
  | none => exact .inl rfl
  | some g => exact .inr (by simp)
theorem neao_zero {w W : World} {b r g j og oc : Nat} {t : TK} (h : Opn w W b r og oc true true) (hg : g < w.heap.size) (ht : TkAt W g j t) : NeaO w W b W.heap.size g j (.slice none 0 0) [] t og oc := by
  have hs := h.made.bel.size
  exact ⟨⟨h.made.bel, h.made.c0, h.made.c1, h.made.c2, h.made.hb, lt_of_block h.made.usr.obj, Nat.le_refl _, hg, (cell_of_row _ _ _ _ _ _ h.made.usr.obj).trans rfl, World.ownsRow_nil _ _ _ _, ht⟩, h.cond, lt_of_block h.cond.m⟩
theorem neao_of {w W W' : World} {b r g j og oc : Nat} {ts0 : List TK} {t : TK} (h : Opn w W b r og oc true true) (hg : g < w.heap.size) (ht : TkAt W g j t) (hT : Told W W' b false r none ts0) : ∃ v, NeaO w W' b W.heap.size g j v ts0 t og oc := by
  obtain ⟨v, hv⟩ := near_of h.made hg ht hT
  have hm := h.cond.m
  have e := h.hog
  have hne : ∀ k, k ≠ b → k < W.heap.size → W'.heap[k]? = W.heap[k]? := fun k hk hlt => hT.1.block k hlt (fun e => hk (by simpa using e))
  obtain ⟨cs, h1, h2⟩ := h.cond.row
  exact ⟨v, hv, ⟨(hne _ (by omega) (lt_of_block hm)).trans hm, ⟨cs, (hne _ (by omega) (lt_of_block h1)).trans h1, h2⟩, h.cond.ne, h.cond.cap⟩, lt_of_block hm⟩

/-- What is told, and the condition is at its end. -/
def NeaS (w W : World) (b base g j : Nat) (v : Value) (ts0 : List TK) (t : TK) (og oc : Nat) : Prop :=
  Near w W b base g j v ts0 t ∧ W.heap[b + 1]? = some (.cells #[.pointer (some ⟨b, 0, none⟩), .slice (some ⟨og, 0, none⟩) 0 oc] 41 (0, 0)) ∧ b + 1 < base
theorem NeaO.shut {w W W' : World} {b base g j og oc : Nat} {v : Value} {ts0 : List TK} {t : TK} (h : NeaO w W b base g j v ts0 t og oc) (hg : W.grownBy W' (some (b + 1))) (hm : W'.heap[b + 1]? = some (.cells #[.pointer (some ⟨b, 0, none⟩), .slice (some ⟨og, 0, none⟩) 0 oc] 41 (0, 0))) : NeaS w W' b base g j v ts0 t og oc := by
  obtain ⟨hN, hC, hl⟩ := h
  have hs := hN.bel.size
  have e0 := hN.hb
  have e1 := hN.hbb
  have e2 := hN.hbase
  have e3 := hN.hg
  have hne : ∀ k, k ≠ b + 1 → k < W.heap.size → W'.heap[k]? = W.heap[k]? := fun k hk hlt => hg.block k hlt (fun e => hk (by simpa using e))
  have hB : Below b W W' := ⟨hg.os, hg.tape, hg.output, hg.size, fun k hk => hne k (by omega) (by omega)⟩
  have hb1 : W'.cell? ⟨b, 3, none⟩ = W.cell? ⟨b, 3, none⟩ := by
    unfold World.cell?
    rw [hne b (by omega) (by omega)]
  refine ⟨⟨hN.bel.trans (hB.mono (by omega)), (hB.block _ (by omega)).trans hN.c0, (hB.block _ (by omega)).trans hN.c1, (hB.block _ (by omega)).trans hN.c2, e0, e1, Nat.le_trans e2 hg.size, e3, hb1.trans hN.told, ?_, tk_below hN.tok (hB.mono (by omega))⟩, hm, hl⟩
  refine hN.own.kept (row := some (b + 1)) hg ?_
  cases hv : v.ownBlock with
  | none => exact .inl rfl
  | some k =>
    right
    have := (hN.own.lt k hv).1
    intro e
    cases e
    omega
theorem s_kept {w W W2 : World} {b base g j og oc : Nat} {v : Value} {ts0 : List TK} {t : TK} {x0 x1 x2 : Value} (h : NeaS w W b base g j v ts0 t og oc) (o : Obj) (hgr : (W.alloc o).drew.grownBy W2 v.ownBlock) :
    W2.cell? ⟨b + 1, 0, none⟩ = some (.pointer (some ⟨b, 0, none⟩)) ∧ (W2.setCell ⟨w.heap.size, 0, none⟩ x0).cell? ⟨b + 1, 0, none⟩ = some (.pointer (some ⟨b, 0, none⟩)) ∧
    ((W2.setCell ⟨w.heap.size, 0, none⟩ x0).setCell ⟨w.heap.size + 1, 0, none⟩ x1).cell? ⟨b + 1, 0, none⟩ = some (.pointer (some ⟨b, 0, none⟩)) ∧
    (((W2.setCell ⟨w.heap.size, 0, none⟩ x0).setCell ⟨w.heap.size + 1, 0, none⟩ x1).setCell ⟨w.heap.size + 1 + 1, 0, none⟩ x2).cell? ⟨b + 1, 0, none⟩ = some (.pointer (some ⟨b, 0, none⟩)) := by
  have e := h.1.hb
  have e2 := h.1.hbase
  have hB0 : Below base W (W.alloc o).drew := (Below.alloc (Below.refl _ _) e2 o).drew
  have hB : Below base W W2 := hB0.trans ((Below.refl base _).grown hgr (Nat.le_trans e2 hB0.size) fun k hk => (h.1.own.lt k hk).1)
  have q0 : W2.cell? ⟨b + 1, 0, none⟩ = some (.pointer (some ⟨b, 0, none⟩)) := (cell_of_row _ _ _ _ _ _ ((hB.block _ h.2.2).trans h.2.1)).trans rfl
  have hne : ∀ (X : World) (z : Nat) (u : Value), z ≠ b + 1 → (X.setCell ⟨z, 0, none⟩ u).cell? ⟨b + 1, 0, none⟩ = X.cell? ⟨b + 1, 0, none⟩ := fun X z u hz => World.cell?_setCell_other X _ _ u (fun e => hz (congrArg Addr.block e))
  exact ⟨q0, (hne _ _ _ (by omega)).trans q0, (hne _ _ _ (by omega)).trans ((hne _ _ _ (by omega)).trans q0), (hne _ _ _ (by omega)).trans ((hne _ _ _ (by omega)).trans ((hne _ _ _ (by omega)).trans q0))⟩
end Go.Proofs.Ytojneaffoekpnaa
