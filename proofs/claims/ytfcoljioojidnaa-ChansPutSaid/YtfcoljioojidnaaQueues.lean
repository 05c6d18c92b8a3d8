/- Two channels in boxes, and the shape: what the laws keep from round to round. -/
import Derived.Test.YtfcoljioojidnaaOrder
import Derived.Test.YtfcoljioojidnaaShown
import Derived.Deep.RegionHeld3
namespace Go.Proofs.Ytfcoljioojidnaa
open Go.ChangeShapes Go.WideShapes Go.ChangeAt Go.RowKit
set_option linter.unusedVariables false
set_option linter.unusedSimpArgs false

/-- A queue whose blocks stand from B on. -/
structure QB (B : Nat) (W : World) (t : SL) (M : List SL) (Q : List (List Int)) : Prop where
  q : QI W t M Q
  top : ∀ a, t.o = some a → B ≤ a.block
  msg : ∀ s ∈ M, ∀ a, s.o = some a → B ≤ a.block
theorem QB.below {B : Nat} {W W' : World} {t : SL} {M : List SL} {Q : List (List Int)} (h : QB B W t M Q) (hb : Below W.heap.size W W') : QB B W' t M Q := ⟨h.q.below hb, h.top, h.msg⟩
theorem QB.low {B B' : Nat} {W : World} {t : SL} {M : List SL} {Q : List (List Int)} (h : QB B W t M Q) (hB : B' ≤ B) : QB B' W t M Q :=
  ⟨h.q, fun a ha => Nat.le_trans hB (h.top a ha), fun s hs a ha => Nat.le_trans hB (h.msg s hs a ha)⟩
theorem QB.nil (B : Nat) (W : World) : QB B W ⟨none, 0, 0⟩ [] [] := ⟨.nil W, (fun a h => by cases h), (fun s h => by cases h)⟩
theorem QB.set {B : Nat} {W : World} {t : SL} {M : List SL} {Q : List (List Int)} (h : QB B W t M Q) {b k : Nat} (hb : b < B) (v : Value) : QB B (W.setCell ⟨b, k, none⟩ v) t M Q := by
  refine ⟨⟨h.q.n, h.q.len, ?_, h.q.len, fun i h1 h2 => ?_⟩, h.top, h.msg⟩
  · rcases h.q.row with h0 | ⟨g, off, e, hg, hc⟩
    · exact .inl h0
    · refine .inr ⟨g, off, e, by simpa [World.setCell] using hg, fun i hi => ?_⟩
      rw [World.cell?_setCell_far _ _ _ _ (by have : B ≤ g := h.top _ e; show b ≠ g; omega)]
      exact hc i hi
  · obtain ⟨hn, hr⟩ := h.q.msg.2 i h1 h2
    refine ⟨hn, ?_⟩
    rcases hr with h0 | ⟨g, off, e, hg, hc⟩
    · exact .inl h0
    · refine .inr ⟨g, off, e, by simpa [World.setCell] using hg, fun j hj => ?_⟩
      rw [World.cell?_setCell_far _ _ _ _ (by have : B ≤ g := h.msg _ (List.getElem_mem h1) _ e; show b ≠ g; omega)]
      exact hc j hj
theorem QB.ofOwns {W : World} {B : Nat} {t : SL} {M : List SL} {Q : List (List Int)} (hM : M.length = Q.length) (ho : W.ownsRow B 29 1 (slV t) Q.length (M.map slV)) (hw : Owns W B M Q Q.length) : QB B W t M Q := by
  refine ⟨.ofOwns hM ho hw, fun a ha => ?_, fun s hs a ha => ?_⟩
  · exact (ho.lt a.block (by unfold slV; rw [ha]; rfl)).1
  · obtain ⟨j, hj, rfl⟩ := List.mem_iff_getElem.1 hs
    exact ((hw j hj (hM ▸ hj) (hM ▸ hj)).lt a.block (by unfold slV; rw [ha]; rfl)).1

/-- Put, whatever the message. -/
theorem put_all (room r : Int) (f s t : SL) (F : List (Int × Bool)) (L : List SL) (Q : List (List Int)) (m : List Int) (srt : Bool) (w : World) (hf : f.n = F.length) (hF : FieldsAt w f.o F) (hq : QI w s L Q) (ht : MsgAt w t m)
    (hf8 : F.length * 8 ≤ 140737488355328) (hm8 : m.length * 8 ≤ 140737488355328) (hbig : (L.length + 1) * 24 ≤ 140737488355328) (hbq : ∀ q ∈ Q, q.length * 8 ≤ 140737488355328) :
    Calls Try.prog 8 #[.agg #[.int .i64 room, slV f], chV r s, slV t, .bool srt] w (PutP w room r F Q m srt) := by
  by_cases he : m.length = F.length
  · exact put_any room r f s t F L Q m srt w hf hF hq.n hq.row hq.msg ht he hm8 hbig hbq
  · refine (put_short room r f s t srt w (by rw [ht.1, hf]; exact he) (by rw [ht.1]; omega) (by rw [hf]; omega)).mono ?_
    rintro e w' ⟨rfl, hb⟩
    have hc : putCode room F Q.length m = 42 := by unfold putCode; rw [if_pos he]
    exact ⟨(fun _ => by rw [hc]), (fun h => by rw [hc] at h; cases h), hb⟩
theorem PutP.fine {w w' : World} {room r : Int} {F : List (Int × Bool)} {Q : List (List Int)} {m : List Int} {srt : Bool} {e : Ending} (h : PutP w room r F Q m srt e w') (hc : putCode room F Q.length m = 0) :
    ∃ t M, e = .returned (.tuple #[chV r t, .int .i64 0]) ∧ Hid (QB w.heap.size w' t M (putQ F Q m srt)) ∧ Below w.heap.size w w' := by
  obtain ⟨t, M, he, hn, hM, ho, hw⟩ := h.2.1 hc
  have hq := putQ_len F Q m srt
  exact ⟨t, M, he, Lib.hid (.ofOwns (hM.trans hq.symm) (hq ▸ ho) (hq ▸ hw)), h.2.2⟩

/-- What the laws keep. -/
structure RI (w : World) (room : Int) (f : SL) (b : Nat) (ta : SL) (Ma : List SL) (Qa : List (List Int)) (tb : SL) (Mb : List SL) (Qb : List (List Int)) (W : World) : Prop where
  shp : W.heap[w.heap.size]? = some (.cells #[.int .i64 room, slV f] 24 (0, 0))
  lt : w.heap.size < b
  ca : W.heap[b]? = some (.cells #[.int .i64 0, slV ta] 27 (0, 0))
  cb : W.heap[b + 1]? = some (.cells #[.int .i64 0, slV tb] 27 (0, 0))
  qa : QB (b + 2) W ta Ma Qa
  qb : QB (b + 2) W tb Mb Qb
  bel : Below w.heap.size w W
theorem RI.below {w W W' : World} {room : Int} {f ta tb : SL} {b : Nat} {Ma Mb : List SL} {Qa Qb : List (List Int)} (h : RI w room f b ta Ma Qa tb Mb Qb W) (hb : Below W.heap.size W W') : RI w room f b ta Ma Qa tb Mb Qb W' :=
  ⟨(hb.block _ (lt_of_block h.shp)).trans h.shp, h.lt, (hb.block _ (lt_of_block h.ca)).trans h.ca, (hb.block _ (lt_of_block h.cb)).trans h.cb, h.qa.below hb, h.qb.below hb, h.bel.trans (hb.mono h.bel.size)⟩
theorem RI.setA {w W : World} {room : Int} {f ta tb t : SL} {b : Nat} {Ma Mb M : List SL} {Qa Qb Q : List (List Int)} (h : RI w room f b ta Ma Qa tb Mb Qb W) (hq : QB (b + 2) W t M Q) : RI w room f b t M Q tb Mb Qb ((W.setCell ⟨b, 0, none⟩ (.int .i64 0)).setCell ⟨b, 1, none⟩ (slV t)) := by
  have hl := h.lt
  refine ⟨?_, hl, ?_, ?_, (hq.set (by omega) _).set (by omega) _, (h.qb.set (by omega) _).set (by omega) _, (h.bel.setCell (by show w.heap.size ≤ b; omega) _).setCell (by show w.heap.size ≤ b; omega) _⟩
  · rw [heap_setCell_other _ _ _ _ (by show w.heap.size ≠ b; omega), heap_setCell_other _ _ _ _ (by show w.heap.size ≠ b; omega)]
    exact h.shp
  · rw [heap_setCell_same _ _ _ _ _ _ (heap_setCell_same _ _ _ _ _ _ h.ca)]
    rfl
  · rw [heap_setCell_other _ _ _ _ (by show b + 1 ≠ b; omega), heap_setCell_other _ _ _ _ (by show b + 1 ≠ b; omega)]
    exact h.cb
theorem RI.setB {w W : World} {room : Int} {f ta tb t : SL} {b : Nat} {Ma Mb M : List SL} {Qa Qb Q : List (List Int)} (h : RI w room f b ta Ma Qa tb Mb Qb W) (hq : QB (b + 2) W t M Q) : RI w room f b ta Ma Qa t M Q ((W.setCell ⟨b + 1, 0, none⟩ (.int .i64 0)).setCell ⟨b + 1, 1, none⟩ (slV t)) := by
  have hl := h.lt
  refine ⟨?_, hl, ?_, ?_, (h.qa.set (by omega) _).set (by omega) _, (hq.set (by omega) _).set (by omega) _, (h.bel.setCell (by show w.heap.size ≤ b + 1; omega) _).setCell (by show w.heap.size ≤ b + 1; omega) _⟩
  · rw [heap_setCell_other _ _ _ _ (by show w.heap.size ≠ b + 1; omega), heap_setCell_other _ _ _ _ (by show w.heap.size ≠ b + 1; omega)]
    exact h.shp
  · rw [heap_setCell_other _ _ _ _ (by show b ≠ b + 1; omega), heap_setCell_other _ _ _ _ (by show b ≠ b + 1; omega)]
    exact h.ca
  · rw [heap_setCell_same _ _ _ _ _ _ (heap_setCell_same _ _ _ _ _ _ h.cb)]
    rfl
theorem RI.cells {w W : World} {room : Int} {f ta tb : SL} {b : Nat} {Ma Mb : List SL} {Qa Qb : List (List Int)} (h : RI w room f b ta Ma Qa tb Mb Qb W) :
    W.cell? ⟨w.heap.size, 0, none⟩ = some (.int .i64 room) ∧ W.cell? ⟨w.heap.size, 1, none⟩ = some (slV f) ∧ W.cell? ⟨b, 0, none⟩ = some (.int .i64 0) ∧ W.cell? ⟨b, 1, none⟩ = some (slV ta) ∧ W.cell? ⟨b + 1, 0, none⟩ = some (.int .i64 0) ∧ W.cell? ⟨b + 1, 1, none⟩ = some (slV tb) :=
  ⟨(cell_of_row _ _ _ _ _ _ h.shp).trans rfl, (cell_of_row _ _ _ _ _ _ h.shp).trans rfl, (cell_of_row _ _ _ _ _ _ h.ca).trans rfl, (cell_of_row _ _ _ _ _ _ h.ca).trans rfl, (cell_of_row _ _ _ _ _ _ h.cb).trans rfl, (cell_of_row _ _ _ _ _ _ h.cb).trans rfl⟩
theorem RI.frozen {w W : World} {room : Int} {f ta tb : SL} {b : Nat} {Ma Mb : List SL} {Qa Qb : List (List Int)} (h : RI w room f b ta Ma Qa tb Mb Qb W) :
    W.frozen? ⟨b, 0, none⟩ = false ∧ W.frozen? ⟨b, 1, none⟩ = false ∧ W.frozen? ⟨b + 1, 0, none⟩ = false ∧ W.frozen? ⟨b + 1, 1, none⟩ = false :=
  ⟨frozen_of_row _ _ _ _ _ h.ca, frozen_of_row _ _ _ _ _ h.ca, frozen_of_row _ _ _ _ _ h.cb, frozen_of_row _ _ _ _ _ h.cb⟩
end Go.Proofs.Ytfcoljioojidnaa
