/- A channel copied. -/
import Derived.Test.YtfcoljioojidnaaClone
import Derived.Lib.OwnKind
import Derived.Deep.RegionLaw
namespace Go.Proofs.Ytfcoljioojidnaa
open Go.ChangeShapes Go.WideShapes Go.ChangeAt Go.RowKit
set_option linter.unusedVariables false
set_option linter.unusedSimpArgs false

theorem owns_below {w w' : World} {B size n : Nat} {e : TypeId} {v : Value} {xs : List Value} (h : w.ownsRow B e size v n xs) (hb : Below w.heap.size w w') : w'.ownsRow B e size v n xs :=
  h.kept (row := none) ⟨hb.os, hb.tape, hb.output, hb.size, fun k hk _ => hb.block k hk⟩ (by cases v.ownBlock <;> simp)
/-- A row of another kind, or another block, is written. -/
theorem owns_set {w : World} {B size n : Nat} {e : TypeId} {v : Value} {xs : List Value} (h : w.ownsRow B e size v n xs) (a : Addr) (u : Value) (hne : v.ownBlock ≠ some a.block) : (w.setCell a u).ownsRow B e size v n xs :=
  h.kept (row := some a.block) ⟨rfl, rfl, rfl, by simp [World.setCell], fun k hk hka => heap_setCell_other _ _ _ _ fun e => hka (by rw [e])⟩ (.inr hne)
theorem owns_ne {w : World} {B B' size size' n n' : Nat} {e e' : TypeId} {v v' : Value} {xs xs' : List Value} (h : w.ownsRow B e size v n xs) (h' : w.ownsRow B' e' size' v' n' xs') (hee : e ≠ e') {g : Nat} (hg : v'.ownBlock = some g) : v.ownBlock ≠ some g := by
  intro hv
  obtain ⟨c, fz, h1⟩ := Lib.ownsRow_kind h g hv
  obtain ⟨c', fz', h2⟩ := Lib.ownsRow_kind h' g hg
  rw [h1] at h2
  injection h2 with h2
  injection h2 with _ h2
  exact hee h2
theorem owns_neObj {w : World} {B size n : Nat} {e T : TypeId} {v : Value} {xs : List Value} (h : w.ownsRow B e size v n xs) {b : Nat} {cs : Array Value} {fr : Nat × Nat} (hb : w.heap[b]? = some (.cells cs T fr)) (hT : e ≠ T) : v.ownBlock ≠ some b := by
  intro hv
  obtain ⟨c, fz, h1⟩ := Lib.ownsRow_kind h b hv
  rw [h1] at hb
  injection hb with h2
  injection h2 with _ h2
  exact hT h2

theorem owns_n {w : World} {B n size : Nat} {e : TypeId} {o : Option Addr} {k c : Nat} {xs : List Value} (h : w.ownsRow B e size (slV ⟨o, k, c⟩) n xs) : k = n := by
  rcases h.2 with ⟨e, hn⟩ | ⟨g, cap, cur, e, _⟩
  · injection e with e1 e2 e3
    exact e2.trans hn.symm
  · injection e
theorem lt_of_block' {w : World} {g i : Nat} {v : Value} (h : w.cell? ⟨g, i, none⟩ = some v) : g < w.heap.size := World.block_lt_of_cell? w _ h
/-- What the call owns: messages. -/
def Owns (w : World) (B : Nat) (L : List SL) (Q : List (List Int)) (k : Nat) : Prop := ∀ j (h1 : j < L.length) (h2 : j < Q.length), j < k → w.ownsRow B 2 1 (slV L[j]) Q[j].length (intsV Q[j])
def chV (r : Int) (s : SL) : Value := .agg #[.int .i64 r, slV s]
structure CI (w : World) (b : Nat) (r : Int) (t : SL) (L : List SL) (Q : List (List Int)) (i : Nat) (M : List SL) (wr : World) : Prop where
  len : M.length = L.length
  rest : ∀ j (h1 : j < M.length) (h2 : j < L.length), i ≤ j → M[j] = L[j]
  row : wr.ownsRow w.heap.size 29 1 (slV t) L.length (M.map slV)
  own : Owns wr w.heap.size M Q i
  box : wr.heap[b]? = some (.cells #[.int .i64 r, slV t] 27 (0, 0))
  res : wr.heap[b + 1]? = some (.cells #[.int .i64 0, .slice none 0 0] 27 (0, 0))
  bel : Below w.heap.size w wr
theorem CI.step {w wr w1 : World} {b i g : Nat} {r : Int} {t u : SL} {L M : List SL} {Q : List (List Int)} (h : CI w b r t L Q i M wr) (hw : wr.heap.size ≥ w.heap.size) (hi : i < L.length) (hq : i < Q.length) (ht : t.o = some ⟨g, 0, none⟩) (ht2 : t.n = L.length) (hb1 : Below wr.heap.size wr w1) (ho : w1.ownsRow wr.heap.size 2 1 (slV u) Q[i].length (intsV Q[i])) (hbw : w.heap.size ≤ b) :
    CI w b r t L Q (i + 1) (M.set i u) (w1.setCell ⟨g, i, none⟩ (slV u)) := by
  have hrow := owns_below h.row hb1
  have htv : slV t = .slice (some ⟨g, 0, none⟩) L.length t.c := by unfold slV; rw [ht, ht2]
  have hgb : (slV t).ownBlock = some g := by rw [htv]; rfl
  have hbox : w1.heap[b]? = some (.cells #[.int .i64 r, slV t] 27 (0, 0)) := (hb1.block b (lt_of_block h.box)).trans h.box
  have hres : w1.heap[b + 1]? = some (.cells #[.int .i64 0, .slice none 0 0] 27 (0, 0)) := (hb1.block _ (lt_of_block h.res)).trans h.res
  have hgb0 : g ≠ b := fun e => owns_neObj hrow hbox (by decide) (by rw [hgb, e])
  have hgb1 : g ≠ b + 1 := fun e => owns_neObj hrow hres (by decide) (by rw [hgb, e])
  have hgw : w.heap.size ≤ g := (h.row.lt g hgb).1
  refine ⟨by simp [h.len], ?_, ?_, ?_, ?_, ?_, ?_⟩
  · intro j h1 h2 hij
    rw [List.getElem_set_ne (by omega)]
    exact h.rest j (by simpa using h1) h2 (by omega)
  · rw [htv] at hrow ⊢
    have := (hrow.stored i (slV u)).1
    rw [List.map_set]
    exact this
  · intro j h1 h2 hj
    by_cases e : j = i
    · subst e
      rw [List.getElem_set_self]
      exact owns_set (Joins.ownsRow_le ho hw) _ _ (owns_ne ho hrow (by decide) hgb)
    · rw [List.getElem_set_ne (by omega)]
      have := owns_below (h.own j (by simpa using h1) h2 (by omega)) hb1
      exact owns_set this _ _ (owns_ne this hrow (by decide) hgb)
  · rw [heap_setCell_other _ _ _ _ (by exact fun e => hgb0 e.symm)]
    exact hbox
  · rw [heap_setCell_other _ _ _ _ (by exact fun e => hgb1 e.symm)]
    exact hres
  · exact (h.bel.trans (hb1.mono h.bel.size)).setCell hgw _

theorem CI.finish {w wr : World} {b : Nat} {r : Int} {t : SL} {L M : List SL} {Q : List (List Int)} (h : CI w b r t L Q L.length M wr) (u v : Value) (hb : w.heap.size ≤ b) :
    (((wr.setCell ⟨b + 1, 0, none⟩ u).setCell ⟨b + 1, 1, none⟩ v)).ownsRow w.heap.size 29 1 (slV t) L.length (M.map slV) ∧ Owns ((wr.setCell ⟨b + 1, 0, none⟩ u).setCell ⟨b + 1, 1, none⟩ v) w.heap.size M Q L.length ∧ Below w.heap.size w ((wr.setCell ⟨b + 1, 0, none⟩ u).setCell ⟨b + 1, 1, none⟩ v) := by
  refine ⟨?_, ?_, ?_⟩
  · have := owns_neObj h.row h.res (by decide)
    exact owns_set (owns_set h.row _ _ this) _ _ this
  · intro j h1 h2 hj
    have h3 := h.own j h1 h2 hj
    have := owns_neObj h3 h.res (by decide)
    exact owns_set (owns_set h3 _ _ this) _ _ this
  · exact (h.bel.setCell (by show w.heap.size ≤ b + 1; omega) _).setCell (by show w.heap.size ≤ b + 1; omega) _
theorem CI.start {w w2 : World} {r : Int} {s : Value} {t : SL} {L : List SL} {Q : List (List Int)} {o1 o2 : Obj} (hb : Below w.heap.size ((w.alloc o1).alloc o2) w2) (ho : w2.ownsRow ((w.alloc o1).alloc o2).heap.size 29 1 (slV t) L.length (L.map slV)) (hbox : w2.heap[w.heap.size]? = some (.cells #[.int .i64 r, s] 27 (0, 0))) (hres : w2.heap[w.heap.size + 1]? = some (.cells #[.int .i64 0, .slice none 0 0] 27 (0, 0))) :
    CI w w.heap.size r t L Q 0 L (w2.setCell ⟨w.heap.size, 1, none⟩ (slV t)) := by
  refine ⟨rfl, fun _ _ _ _ => rfl, ?_, fun j _ _ h => by omega, ?_, ?_, ?_⟩
  · exact owns_set (Joins.ownsRow_le ho (by simp; omega)) _ _ (owns_neObj ho hbox (by decide))
  · rw [heap_setCell_same _ _ _ _ _ _ hbox]
    rfl
  · rw [heap_setCell_other _ _ _ _ (by simp)]
    exact hres
  · exact (((Below.refl _ w).alloc (Nat.le_refl _) _).alloc (by simp) _ |>.trans hb).setCell (Nat.le_refl _) _

set_option maxHeartbeats 4000000 in
set_option maxRecDepth 100000 in
theorem copied23 (r : Int) (s : SL) (L : List SL) (Q : List (List Int)) (w : World) (hn : s.n = L.length) (h : QRow w s.o L) (hm : Msgs w L Q) (hbig : L.length * 24 ≤ 140737488355328) (hbq : ∀ q ∈ Q, q.length * 8 ≤ 140737488355328) :
    Calls Try.prog 23 #[chV r s] w fun e w' => ∃ t M, e = .returned (chV r t) ∧ t.n = L.length ∧ M.length = L.length ∧ w'.ownsRow w.heap.size 29 1 (slV t) L.length (M.map slV) ∧ Owns w' w.heap.size M Q L.length ∧ Below w.heap.size w w' := by
  have HM := Lib.hid hm
  have HBQ := Lib.hid hbq
  have HR := Lib.hid h
  have C27 := fun W => clone27 s L W hn
  have HC27 := Lib.hid C27
  obtain ⟨so, sn, sc⟩ := s
  simp only at hn
  subst hn
  clear hm hbq h C27
  unfold chV slV
  simp only
  go_enter Try.func23, Try.ntmps23
  go_wp2_with fail
  refine (HC27.out _ (HR.out.below (((Below.refl _ _).alloc (Nat.le_refl _) _).alloc (by simp) _)) hbig).mono ?_
  rintro e w2 ⟨t, rfl, ho, hb⟩
  obtain ⟨t0, tn, tc⟩ := t
  have htn : tn = L.length := owns_n ho
  subst htn
  have b1 : w2.heap[w.heap.size]? = some (.cells #[.int .i64 r, .slice so L.length sc] 27 (0, 0)) := (hb.block _ (by simp; omega)).trans ((Below.heap_alloc _ _ _ (by simp)).trans (heap_alloc_new w _))
  have b2 : w2.heap[w.heap.size + 1]? = some (.cells #[.int .i64 0, .slice none 0 0] 27 (0, 0)) := (hb.block _ (by simp)).trans (by rw [show w.heap.size + 1 = (w.alloc (Obj.cells #[Value.int IntKind.i64 r, Value.slice so L.length sc] 27)).heap.size by simp]; exact heap_alloc_new _ _)
  have k1 : w2.cell? ⟨w.heap.size, 1, none⟩ = some (.slice so L.length sc) := (cell_of_row _ _ _ _ _ _ b1).trans rfl
  have k2 : w2.frozen? ⟨w.heap.size, 1, none⟩ = false := frozen_of_row _ _ _ _ _ b1
  have HCI := Lib.hid (CI.start (w := w) (Q := Q) (hb.mono (by simp; omega)) ho b1 b2)
  have HB := Lib.hid hb
  clear hb ho b1 b2
  unfold slV
  simp only
  go_wp2_with fail
  go_loopw [11] (fun iv wr => ∃ (i : Nat) (M : List SL), iv = .int .i64 i ∧ i ≤ L.length ∧ Hid (CI w w.heap.size r ⟨t0, L.length, tc⟩ L Q i M wr)) (fun i _ => L.length - (intOf i).toNat)
  case atStart => exact ⟨0, L, rfl, by omega, HCI⟩
  case round =>
    obtain ⟨i, M, rfl, hi, HC⟩ := hrel
    have hi0 : (0 : Int) ≤ i := by omega
    by_cases hlt : i < L.length
    · have hlti : (i : Int) < L.length := by omega
      obtain ⟨g, cap, hg⟩ := Joins.ownsRow_form HC.out.row (by omega)
      unfold slV at hg
      injection hg with e1 e2 e3
      simp only at e1 e3
      subst e1 e3
      have hq : i < Q.length := by have := HM.out.1; omega
      have HQ := Lib.hid hq
      have hMi : i < M.length := by have := HC.out.len; omega
      have hMe : M[i] = L[i] := HC.out.rest i hMi hlt (Nat.le_refl _)
      obtain ⟨⟨mo, mn, mc⟩, hml⟩ : ∃ s, L[i] = s := ⟨_, rfl⟩
      have l1 : wr.drew.cell? ⟨w.heap.size, 1, none⟩ = some (.slice (some ⟨g, 0, none⟩) L.length tc) := (cell_of_row _ _ _ _ _ _ HC.out.box).trans rfl
      have l2 : wr.drew.cell? ⟨g, i, none⟩ = some (.slice mo mn mc) := by
        have := HC.out.row.cellAt i (by omega)
        refine Eq.trans this ?_
        rw [List.getElem?_map, List.getElem?_eq_getElem hMi, hMe, hml]
        rfl
      have hmsg : MsgAt wr.drew ⟨mo, mn, mc⟩ Q[i] := hml ▸ (HM.out.2 i hlt hq).below (HC.out.bel.drew)
      have HC28 := Lib.hid (clone28 ⟨mo, mn, mc⟩ Q[i] wr.drew hmsg (HBQ.out _ (List.getElem_mem hq)))
      have HCD := Lib.hid (HC.out.row.drew)
      clear hq hmsg hMe hml
      go_wp2_with fail
      go_region_law
        (first
          | (go_simp
             go_at_call 28
             refine HC28.out.mono ?_
             rintro e w1 ⟨⟨u0, un, uc⟩, rfl, hu, hb1⟩
             simp only [slV]
             have HU := Lib.hid hu
             have HB1 := Lib.hid hb1
             have m1 : w1.cell? ⟨w.heap.size, 1, none⟩ = some (.slice (some ⟨g, 0, none⟩) L.length tc) := (hb1.cell (by exact lt_of_block HC.out.box)).trans l1
             have m2 : w1.cell? ⟨g, i, none⟩ = some (.slice mo mn mc) := (hb1.cell (by exact lt_of_block' l2)).trans l2
             have m3 : w1.frozen? ⟨g, i, none⟩ = false := (hb1.frozen (by exact lt_of_block' l2)).trans (HCD.out.frozenAt i)
             clear hu hb1))
      all_goals (
        have HST := Lib.hid (HC.out.step (u := ⟨u0, un, uc⟩) HC.out.bel.size hlt HQ.out rfl rfl ⟨HB1.out.os, HB1.out.tape, HB1.out.output, HB1.out.size, HB1.out.block⟩ HU.out (Nat.le_refl _))
        clear l1 l2 m1 m2 m3
        simp only [Exit.inBlock, Exit.then]
        go_wp2_with fail
        go_roundw
        case rel => exact ⟨i + 1, _, by go_num, by omega, HST⟩
        case measure => simp [intOf]; omega)
    · have hlti : ¬ (i : Int) < L.length := by omega
      have hil : i = L.length := by omega
      subst hil
      have p1 : wr.cell? ⟨w.heap.size, 0, none⟩ = some (.int .i64 r) := (cell_of_row _ _ _ _ _ _ HC.out.box).trans rfl
      have p2 : wr.cell? ⟨w.heap.size, 1, none⟩ = some (.slice t0 L.length tc) := (cell_of_row _ _ _ _ _ _ HC.out.box).trans rfl
      have q1 : wr.cell? ⟨w.heap.size + 1, 0, none⟩ = some (.int .i64 0) := (cell_of_row _ _ _ _ _ _ HC.out.res).trans rfl
      have q2 : wr.cell? ⟨w.heap.size + 1, 1, none⟩ = some (.slice none 0 0) := (cell_of_row _ _ _ _ _ _ HC.out.res).trans rfl
      have q3 : wr.frozen? ⟨w.heap.size + 1, 0, none⟩ = false := frozen_of_row _ _ _ _ _ HC.out.res
      have q4 : wr.frozen? ⟨w.heap.size + 1, 1, none⟩ = false := frozen_of_row _ _ _ _ _ HC.out.res
      clear hlt hi
      have HE := Lib.hid (HC.out.finish (Value.int IntKind.i64 r) (Value.slice t0 L.length tc) (Nat.le_refl _))
      go_wp2_with fail
      refine bodyPost_ret (v := Value.agg #[Value.int IntKind.i64 r, Value.slice t0 L.length tc]) (by simp [results, Try.results23, go_sem, q1, q2, q3, q4]) rfl ?_
      exact ⟨⟨t0, L.length, tc⟩, rfl, rfl, M, HC.out.len, HE.out⟩
end Go.Proofs.Ytfcoljioojidnaa
