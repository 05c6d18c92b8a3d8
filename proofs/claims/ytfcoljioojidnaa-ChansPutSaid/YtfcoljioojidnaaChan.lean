/- A channel in memory. -/
import Derived.Test.YtfcoljioojidnaaTake
import Derived.Test.YtfcoljioojidnaaFind
import Derived.Test.YtfcoljioojidnaaSame
namespace Go.Proofs.Ytfcoljioojidnaa
open Go.ChangeShapes Go.WideShapes Go.ChangeAt Go.RowKit
set_option linter.unusedVariables false
set_option linter.unusedSimpArgs false

/-- A queue in memory: its row and its messages. -/
structure QI (W : World) (t : SL) (M : List SL) (Q : List (List Int)) : Prop where
  n : t.n = M.length
  len : M.length = Q.length
  row : QRow W t.o M
  msg : Msgs W M Q
theorem QI.below {W W' : World} {t : SL} {M : List SL} {Q : List (List Int)} (h : QI W t M Q) (hb : Below W.heap.size W W') : QI W' t M Q :=
  ⟨h.n, h.len, h.row.below hb, h.msg.below hb⟩
theorem QI.nil (W : World) : QI W ⟨none, 0, 0⟩ [] [] := ⟨rfl, rfl, .inl rfl, rfl, fun i h => by simp at h⟩
theorem QI.ofOwns {W : World} {B : Nat} {t : SL} {M : List SL} {Q : List (List Int)} (hM : M.length = Q.length) (ho : W.ownsRow B 29 1 (slV t) Q.length (M.map slV)) (hw : Owns W B M Q Q.length) : QI W t M Q := by
  have h := owns_q (hM ▸ ho)
  exact ⟨h.1, hM, h.2, hM, fun i h1 h2 => owns_msg (hw i h1 h2 h2)⟩
/-- A channel's box. -/
structure CH (W : World) (b : Nat) (t : SL) (M : List SL) (Q : List (List Int)) : Prop where
  box : W.heap[b]? = some (.cells #[.int .i64 0, slV t] 27 (0, 0))
  q : QI W t M Q
theorem CH.below {W W' : World} {b : Nat} {t : SL} {M : List SL} {Q : List (List Int)} (h : CH W b t M Q) (hb : Below W.heap.size W W') : CH W' b t M Q :=
  ⟨(hb.block _ (lt_of_block h.box)).trans h.box, h.q.below hb⟩
theorem CH.cells {W : World} {b : Nat} {t : SL} {M : List SL} {Q : List (List Int)} (h : CH W b t M Q) : W.cell? ⟨b, 0, none⟩ = some (.int .i64 0) ∧ W.cell? ⟨b, 1, none⟩ = some (slV t) :=
  ⟨(cell_of_row _ _ _ _ _ _ h.box).trans rfl, (cell_of_row _ _ _ _ _ _ h.box).trans rfl⟩
theorem CH.new {W : World} {t : SL} {M : List SL} {Q : List (List Int)} (h : QI W t M Q) :
    CH (W.alloc (Obj.cells #[.int .i64 0, slV t] 27)) W.heap.size t M Q ∧ Below W.heap.size W (W.alloc (Obj.cells #[.int .i64 0, slV t] 27)) := by
  have hb : Below W.heap.size W (W.alloc (Obj.cells #[.int .i64 0, slV t] 27)) := (Below.refl _ W).alloc (Nat.le_refl _) _
  exact ⟨⟨heap_alloc_new W _, h.below hb⟩, hb⟩
theorem PutP.ok {w w' : World} {room : Int} {F : List (Int × Bool)} {Q : List (List Int)} {m : List Int} {srt : Bool} {e : Ending} (h : PutP w room 0 F Q m srt e w') (hc : putCode room F Q.length m = 0) (hq : (putQ F Q m srt).length = Q.length + 1) :
    ∃ t M, e = .returned (.tuple #[chV 0 t, .int .i64 0]) ∧ QI w' t M (putQ F Q m srt) ∧ Below w.heap.size w w' := by
  obtain ⟨t, M, he, hn, hM, ho, hw⟩ := h.2.1 hc
  exact ⟨t, M, he, .ofOwns (hM.trans hq.symm) (hq ▸ ho) (hq ▸ hw), h.2.2⟩
theorem putQ_len (F : List (Int × Bool)) (Q : List (List Int)) (m : List Int) (srt : Bool) : (putQ F Q m srt).length = Q.length + 1 := by
  have := putAt_le F Q m srt
  unfold putQ
  simp
  omega
theorem owns_form1 {w : World} {B n : Nat} {e : TypeId} {s : SL} {xs : List Value} (h : w.ownsRow B e 1 (slV s) n xs) (hn : 0 < n) : ∃ g c, s = ⟨some ⟨g, 0, none⟩, n, c⟩ := by
  obtain ⟨o, k, c⟩ := s
  obtain ⟨g, cap, hg⟩ := Joins.ownsRow_form h hn
  unfold slV at hg
  injection hg with e1 e2 e3
  simp only at e1 e2 e3
  subst e1 e2 e3
  exact ⟨g, _, rfl⟩
theorem PutP.two {w w' : World} {room : Int} {F : List (Int × Bool)} {Q : List (List Int)} {m : List Int} {srt : Bool} {e : Ending} {x y : Int} (h : PutP w room 0 F Q m srt e w') (hc : putCode room F Q.length m = 0) (hq : putQ F Q m srt = [[x], [y]]) (hl : Q.length + 1 = 2) :
    ∃ g g1 g4 c c1 c4, e = .returned (.tuple #[chV 0 ⟨some ⟨g, 0, none⟩, 2, c⟩, .int .i64 0]) ∧ QI w' ⟨some ⟨g, 0, none⟩, 2, c⟩ [⟨some ⟨g1, 0, none⟩, 1, c1⟩, ⟨some ⟨g4, 0, none⟩, 1, c4⟩] [[x], [y]] ∧ Below w.heap.size w w' := by
  obtain ⟨t, M, he, hn, hM, ho, hw⟩ := h.2.1 hc
  rw [hl] at hM ho hw
  rw [hq] at hw
  have hqi : QI w' t M [[x], [y]] := .ofOwns hM ho hw
  obtain ⟨g, c, rfl⟩ := owns_form1 ho (by decide)
  match M, hM with
  | [a, b], _ =>
    have h0 := hw 0 (by simp) (by simp) (by decide)
    have h1 := hw 1 (by simp) (by simp) (by decide)
    simp only [List.getElem_cons_zero, List.getElem_cons_succ] at h0 h1
    obtain ⟨g1, c1, rfl⟩ := owns_form1 h0 (by simp)
    obtain ⟨g4, c4, rfl⟩ := owns_form1 h1 (by simp)
    exact ⟨g, g1, g4, c, c1, c4, he, hqi, h.2.2⟩
theorem QI.two {W : World} {g g1 g4 c c1 c4 : Nat} {x y : Int} (h : QI W ⟨some ⟨g, 0, none⟩, 2, c⟩ [⟨some ⟨g1, 0, none⟩, 1, c1⟩, ⟨some ⟨g4, 0, none⟩, 1, c4⟩] [[x], [y]]) :
    W.cell? ⟨g, 0, none⟩ = some (.slice (some ⟨g1, 0, none⟩) 1 c1) ∧ W.cell? ⟨g, 1, none⟩ = some (.slice (some ⟨g4, 0, none⟩) 1 c4) ∧ W.cell? ⟨g1, 0, none⟩ = some (.int .i64 x) ∧ W.cell? ⟨g4, 0, none⟩ = some (.int .i64 y) := by
  rcases h.row with h1 | ⟨g', off, e, hg, hc⟩
  · simp at h1
  · injection e with e
    injection e with e1 e2
    subst e1 e2
    have m0 := (h.msg.2 0 (by simp) (by simp)).2
    have m1 := (h.msg.2 1 (by simp) (by simp)).2
    simp only [List.getElem_cons_zero, List.getElem_cons_succ] at m0 m1
    rcases m0 with h1 | ⟨g', off, e, hm0⟩
    · simp at h1
    rcases m1 with h1 | ⟨g'', off', e', hm1⟩
    · simp at h1
    injection e with e
    injection e with e1 e2
    subst e1 e2
    injection e' with e
    injection e with e1 e2
    subst e1 e2
    exact ⟨hc 0 (by simp), hc 1 (by simp), hm0.2 0 (by simp), hm1.2 0 (by simp)⟩
theorem PutP.bad {w w' : World} {room r : Int} {F : List (Int × Bool)} {Q : List (List Int)} {m : List Int} {srt : Bool} {e : Ending} (h : PutP w room r F Q m srt e w') (hc : putCode room F Q.length m ≠ 0) :
    e = .returned (.tuple #[chV 0 ⟨none, 0, 0⟩, .int .i64 (putCode room F Q.length m)]) ∧ Below w.heap.size w w' := ⟨h.1 hc, h.2.2⟩
end Go.Proofs.Ytfcoljioojidnaa
