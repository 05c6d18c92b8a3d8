/- What is put behind all comes out in its order. -/
import Derived.Test.YtfcoljioojidnaaRise
namespace Go.Proofs.Ytfcoljioojidnaa
open Go.ChangeShapes Go.WideShapes Go.ChangeAt Go.RowKit
set_option linter.unusedVariables false
set_option linter.unusedSimpArgs false

theorem QB.grown {B : Nat} {W W' : World} {t : SL} {M : List SL} {Q : List (List Int)} (h : QB B W t M Q) {row : Option Nat} (hg : W.grownBy W' row) (hr : ∀ g, row = some g → g < B) : QB B W' t M Q := by
  refine ⟨⟨h.q.n, h.q.len, ?_, h.q.len, fun i h1 h2 => ?_⟩, h.top, h.msg⟩
  · rcases h.q.row with h0 | ⟨g, off, e, hlt, hc⟩
    · exact .inl h0
    · exact .inr ⟨g, off, e, Nat.lt_of_lt_of_le hlt hg.size, fun i hi => hg.cell (hc i hi) fun e' => by
        have h1 := hr _ e'.symm
        have h2 : B ≤ g := h.top _ e
        have h3 : g < B := h1
        omega⟩
  · obtain ⟨hn, hr'⟩ := h.q.msg.2 i h1 h2
    refine ⟨hn, ?_⟩
    rcases hr' with h0 | ⟨g, off, e, hlt, hc⟩
    · exact .inl h0
    · exact .inr ⟨g, off, e, Nat.lt_of_lt_of_le hlt hg.size, fun j hj => hg.cell (hc j hj) fun e' => by
        have h3 : g < B := hr _ e'.symm
        have h2 : B ≤ g := h.msg _ (List.getElem_mem h1) _ e
        omega⟩

/-- What the law keeps. -/
structure QS (w : World) (room : Int) (f : SL) (b : Nat) (t : SL) (M : List SL) (Q : List (List Int)) (s : SL) (I : List SL) (P : List (List Int)) (W : World) : Prop where
  shp : W.heap[w.heap.size]? = some (.cells #[.int .i64 room, slV f] 24 (0, 0))
  lt : w.heap.size < b
  box : W.heap[b]? = some (.cells #[.int .i64 0, slV t] 27 (0, 0))
  q : QB (b + 1) W t M Q
  row : W.ownsRow (b + 1) 29 1 (slV s) P.length (I.map slV)
  len : I.length = P.length
  own : OwnZ W (b + 1) (I.zip P)
  bel : Below w.heap.size w W
theorem QS.below {w W W' : World} {room : Int} {f t s : SL} {b : Nat} {M I : List SL} {Q P : List (List Int)} (h : QS w room f b t M Q s I P W) (hb : Below W.heap.size W W') : QS w room f b t M Q s I P W' :=
  ⟨(hb.block _ (lt_of_block h.shp)).trans h.shp, h.lt, (hb.block _ (lt_of_block h.box)).trans h.box, h.q.below hb, owns_below h.row hb, h.len, h.own.mono fun _ _ _ hh => owns_below hh hb, h.bel.trans (hb.mono h.bel.size)⟩
theorem owns_box {W : World} {B size n k : Nat} {e : TypeId} {v : Value} {xs : List Value} (h : W.ownsRow B e size v n xs) {b : Nat} (hb : b < B) (u : Value) : (W.setCell ⟨b, k, none⟩ u).ownsRow B e size v n xs :=
  owns_set h _ _ fun e => by have : B ≤ b := (h.lt _ e).1; omega
theorem QS.set {w W : World} {room : Int} {f t t' s : SL} {b : Nat} {M M' I : List SL} {Q Q' P : List (List Int)} (h : QS w room f b t M Q s I P W) (hq : QB (b + 1) W t' M' Q') : QS w room f b t' M' Q' s I P ((W.setCell ⟨b, 0, none⟩ (.int .i64 0)).setCell ⟨b, 1, none⟩ (slV t')) := by
  have hl := h.lt
  refine ⟨?_, hl, ?_, (hq.set (by omega) _).set (by omega) _, owns_box (owns_box h.row (by omega) _) (by omega) _, h.len, h.own.mono fun _ _ _ hh => owns_box (owns_box hh (by omega) _) (by omega) _, (h.bel.setCell (by show w.heap.size ≤ b; omega) _).setCell (by show w.heap.size ≤ b; omega) _⟩
  · rw [heap_setCell_other _ _ _ _ (by show w.heap.size ≠ b; omega), heap_setCell_other _ _ _ _ (by show w.heap.size ≠ b; omega)]
    exact h.shp
  · rw [heap_setCell_same _ _ _ _ _ _ (heap_setCell_same _ _ _ _ _ _ h.box)]
    rfl
theorem QS.push {w W W' : World} {room : Int} {f t s s' u : SL} {b B : Nat} {M I : List SL} {Q P : List (List Int)} {x : List Int} (h : QS w room f b t M Q s I P W) (hq : QB B W t M Q) (hB : ∀ g, (slV s).ownBlock = some g → g < B) (hBb : b < B)
    (ho : W'.ownsRow (b + 1) 29 1 (slV s') (P.length + 1) (I.map slV ++ [slV u])) (hg : W.grownBy W' (slV s).ownBlock) (hu : W.ownsRow (b + 1) 2 1 (slV u) x.length (intsV x)) : QS w room f b t M Q s' (I ++ [u]) (P ++ [x]) W' := by
  have hl := h.lt
  refine ⟨obj_grown h.row h.shp (by decide) hg, hl, obj_grown h.row h.box (by decide) hg, (hq.grown hg hB).low (by omega), ?_, by simp [h.len], ?_, h.bel.grown hg h.bel.size (fun k hk => by have := (h.row.lt k hk).1; omega)⟩
  · rw [List.map_append, List.length_append]
    exact ho
  · rw [List.zip_append h.len]
    intro p hp
    rcases List.mem_append.1 hp with hp | hp
    · exact owns_grown (h.own p hp) h.row (by decide) hg
    · simp only [List.zip_cons_cons, List.zip_nil_right, List.mem_singleton] at hp
      subst hp
      exact owns_grown hu h.row (by decide) hg
theorem QS.cells {w W : World} {room : Int} {f t s : SL} {b : Nat} {M I : List SL} {Q P : List (List Int)} (h : QS w room f b t M Q s I P W) :
    W.cell? ⟨w.heap.size, 0, none⟩ = some (.int .i64 room) ∧ W.cell? ⟨w.heap.size, 1, none⟩ = some (slV f) ∧ W.cell? ⟨b, 0, none⟩ = some (.int .i64 0) ∧ W.cell? ⟨b, 1, none⟩ = some (slV t) ∧ W.frozen? ⟨b, 0, none⟩ = false ∧ W.frozen? ⟨b, 1, none⟩ = false :=
  ⟨(cell_of_row _ _ _ _ _ _ h.shp).trans rfl, (cell_of_row _ _ _ _ _ _ h.shp).trans rfl, (cell_of_row _ _ _ _ _ _ h.box).trans rfl, (cell_of_row _ _ _ _ _ _ h.box).trans rfl, frozen_of_row _ _ _ _ _ h.box, frozen_of_row _ _ _ _ _ h.box⟩
theorem QS.start {w W1 : World} {room : Int} {f : SL} (hb : Below (w.alloc (Obj.cells #[.int .i64 room, slV f] 24)).heap.size (w.alloc (Obj.cells #[.int .i64 room, slV f] 24)) W1) :
    QS w room f W1.heap.size ⟨none, 0, 0⟩ [] [] ⟨none, 0, 0⟩ [] [] (W1.alloc (Obj.cells #[.int .i64 0, .slice none 0 0] 27)) := by
  have hs := hb.size
  have h0 : W1.heap[w.heap.size]? = some (Obj.cells #[.int .i64 room, slV f] 24) := (hb.block w.heap.size (by simp)).trans (heap_alloc_new w _)
  have hl : w.heap.size < W1.heap.size := lt_of_block h0
  have h3 : Below W1.heap.size W1 (W1.alloc (Obj.cells #[.int .i64 0, .slice none 0 0] 27)) := (Below.refl _ _).alloc (Nat.le_refl _) _
  refine ⟨(h3.block _ hl).trans h0, hl, heap_alloc_new _ _, .nil _ _, World.ownsRow_nil _ _ _ _, rfl, (fun p hp => by cases hp), ?_⟩
  exact (((Below.refl _ w).alloc (Nat.le_refl _) _).trans (hb.mono (by simp))).trans (h3.mono (by omega))
theorem qs_new1 {w wr w1 W' : World} {room : Int} {f t0 t s u : SL} {b : Nat} {M0 M I : List SL} {Q0 Q P : List (List Int)} {x : List Int} (h : QS w room f b t0 M0 Q0 s I P wr) (hW : Below wr.heap.size wr W') (hq : QB W'.heap.size w1 t M Q) (hu : w1.ownsRow W'.heap.size 2 1 (slV u) x.length (intsV x)) (hb : Below wr.heap.size wr w1) :
    QS w room f b t0 M0 Q0 s I P (w1.alloc (.cells #[.int .i64 0, .slice t.o t.n t.c] 27)) ∧ (w1.alloc (.cells #[.int .i64 0, .slice t.o t.n t.c] 27)).heap[w1.heap.size]? = some (.cells #[.int .i64 0, .slice t.o t.n t.c] 27 (0, 0)) ∧ QB wr.heap.size (w1.alloc (.cells #[.int .i64 0, .slice t.o t.n t.c] 27)) t M Q ∧ (w1.alloc (.cells #[.int .i64 0, .slice t.o t.n t.c] 27)).ownsRow wr.heap.size 2 1 (slV u) x.length (intsV x) := by
  have h1 := h.below hb
  exact ⟨h1.below ((Below.refl _ _).alloc (Nat.le_refl _) _), heap_alloc_new _ _, (hq.low hW.size).below ((Below.refl _ _).alloc (Nat.le_refl _) _), (Joins.ownsRow_le hu hW.size).alloc _⟩
theorem qs_new2 {w wr w1 : World} {room : Int} {f t0 t s u : SL} {b : Nat} {M0 M I : List SL} {Q0 Q P : List (List Int)} {x : List Int} (h : QS w room f b t0 M0 Q0 s I P wr) (hq : QB (wr.alloc (.cells #[.int .i64 0, .slice none 0 0] 27)).drew.heap.size w1 t M Q) (hu : w1.ownsRow (wr.alloc (.cells #[.int .i64 0, .slice none 0 0] 27)).drew.heap.size 2 1 (slV u) x.length (intsV x)) (hb1 : Below (wr.alloc (.cells #[.int .i64 0, .slice none 0 0] 27)).drew.heap.size (wr.alloc (.cells #[.int .i64 0, .slice none 0 0] 27)).drew w1) (hb : Below wr.heap.size wr w1) :
    QS w room f b t0 M0 Q0 s I P ((w1.setCell ⟨wr.heap.size, 0, none⟩ (.int .i64 0)).setCell ⟨wr.heap.size, 1, none⟩ (.slice t.o t.n t.c)) ∧ ((w1.setCell ⟨wr.heap.size, 0, none⟩ (.int .i64 0)).setCell ⟨wr.heap.size, 1, none⟩ (.slice t.o t.n t.c)).heap[wr.heap.size]? = some (.cells #[.int .i64 0, .slice t.o t.n t.c] 27 (0, 0)) ∧ QB wr.heap.size ((w1.setCell ⟨wr.heap.size, 0, none⟩ (.int .i64 0)).setCell ⟨wr.heap.size, 1, none⟩ (.slice t.o t.n t.c)) t M Q ∧ ((w1.setCell ⟨wr.heap.size, 0, none⟩ (.int .i64 0)).setCell ⟨wr.heap.size, 1, none⟩ (.slice t.o t.n t.c)).ownsRow wr.heap.size 2 1 (slV u) x.length (intsV x) := by
  have hz0 : (wr.alloc (.cells #[.int .i64 0, .slice none 0 0] 27)).heap[wr.heap.size]? = some (.cells #[.int .i64 0, .slice none 0 0] 27 (0, 0)) := heap_alloc_new _ _
  have hz1 : w1.heap[wr.heap.size]? = some (.cells #[.int .i64 0, .slice none 0 0] 27 (0, 0)) := (hb1.block wr.heap.size (by show wr.heap.size < (wr.alloc _).heap.size; rw [World.size_alloc]; omega)).trans hz0
  have hsz : (wr.alloc (.cells #[.int .i64 0, .slice none 0 0] 27)).drew.heap.size = wr.heap.size + 1 := by show (wr.alloc _).heap.size = _; rw [World.size_alloc]
  rw [hsz] at hq hu
  refine ⟨h.below (keepS hb _ _), ?_, ((hq.set (by omega) _).set (by omega) _).low (by omega), Joins.ownsRow_le (owns_box (owns_box hu (by omega) _) (by omega) _) (by omega)⟩
  rw [heap_setCell_same _ _ _ _ _ _ (heap_setCell_same _ _ _ _ _ _ hz1)]
  rfl
theorem putQ_end (F : List (Int × Bool)) (Q : List (List Int)) (m : List Int) : putQ F Q m false = Q ++ [fitted F m] := by
  unfold putQ putAt
  simp
theorem PutP.fine2 {w w' : World} {room r : Int} {F : List (Int × Bool)} {Q : List (List Int)} {m : List Int} {e : Ending} (h : PutP w room r F Q m false e w') (hc : putCode room F Q.length m = 0) :
    ∃ t M u, e = .returned (.tuple #[chV r t, .int .i64 0]) ∧ Hid (QB w.heap.size w' t M (Q ++ [fitted F m]) ∧ M[Q.length]? = some u ∧ w'.ownsRow w.heap.size 2 1 (slV u) (fitted F m).length (intsV (fitted F m))) ∧ Below w.heap.size w w' := by
  obtain ⟨t, M, he, hn, hM, ho, hw⟩ := h.2.1 hc
  have hq := putQ_len F Q m false
  have hqb : QB w.heap.size w' t M (putQ F Q m false) := .ofOwns (hM.trans hq.symm) (hq ▸ ho) (hq ▸ hw)
  rw [putQ_end] at hqb hw
  have h1 := hw Q.length (by omega) (by simp) (by omega)
  rw [List.getElem_append_right (Nat.le_refl _)] at h1
  simp only [Nat.sub_self, List.getElem_cons_zero] at h1
  exact ⟨t, M, M[Q.length]'(by omega), he, Lib.hid ⟨hqb, List.getElem?_eq_getElem _, h1⟩, h.2.2⟩
/-- Behind the call and the new box. -/
structure NX (w : World) (room : Int) (f : SL) (b : Nat) (t0 : SL) (M0 : List SL) (Q0 : List (List Int)) (s : SL) (I : List SL) (P : List (List Int)) (t : SL) (M : List SL) (Q : List (List Int)) (u : SL) (x : List Int) (k : Nat) (X : World) : Prop where
  qs : QS w room f b t0 M0 Q0 s I P X
  box : X.heap[k]? = some (.cells #[.int .i64 0, .slice t.o t.n t.c] 27 (0, 0))
  ne : b ≠ k
  hi : ∃ B, (∀ g, (slV s).ownBlock = some g → g < B) ∧ b < B ∧ QB B X t M Q ∧ X.ownsRow B 2 1 (slV u) x.length (intsV x)
theorem NX.one {w wr w1 W' : World} {room : Int} {f t0 t s u : SL} {b : Nat} {M0 M I : List SL} {Q0 Q P : List (List Int)} {x : List Int} (h : QS w room f b t0 M0 Q0 s I P wr) (hW : Below wr.heap.size wr W') (hq : QB W'.heap.size w1 t M Q) (hu : w1.ownsRow W'.heap.size 2 1 (slV u) x.length (intsV x)) (hb : Below wr.heap.size wr w1) :
    NX w room f b t0 M0 Q0 s I P t M Q u x w1.heap.size (w1.alloc (.cells #[.int .i64 0, .slice t.o t.n t.c] 27)) := by
  obtain ⟨h1, h2, h3, h4⟩ := qs_new1 h hW hq hu hb
  have hl := lt_of_block h.box
  exact ⟨h1, h2, by have := hb.size; omega, wr.heap.size, fun g hg => (h.row.lt g hg).2, hl, h3, h4⟩
theorem NX.two {w wr w1 : World} {room : Int} {f t0 t s u : SL} {b : Nat} {M0 M I : List SL} {Q0 Q P : List (List Int)} {x : List Int} (h : QS w room f b t0 M0 Q0 s I P wr) (hq : QB (wr.alloc (.cells #[.int .i64 0, .slice none 0 0] 27)).drew.heap.size w1 t M Q) (hu : w1.ownsRow (wr.alloc (.cells #[.int .i64 0, .slice none 0 0] 27)).drew.heap.size 2 1 (slV u) x.length (intsV x)) (hb1 : Below (wr.alloc (.cells #[.int .i64 0, .slice none 0 0] 27)).drew.heap.size (wr.alloc (.cells #[.int .i64 0, .slice none 0 0] 27)).drew w1) (hb : Below wr.heap.size wr w1) :
    NX w room f b t0 M0 Q0 s I P t M Q u x wr.heap.size ((w1.setCell ⟨wr.heap.size, 0, none⟩ (.int .i64 0)).setCell ⟨wr.heap.size, 1, none⟩ (.slice t.o t.n t.c)) := by
  obtain ⟨h1, h2, h3, h4⟩ := qs_new2 h hq hu hb1 hb
  have hl := lt_of_block h.box
  exact ⟨h1, h2, by omega, wr.heap.size, fun g hg => (h.row.lt g hg).2, hl, h3, h4⟩
/-- The channel is taken over, and its last message kept. -/
structure NY (w : World) (room : Int) (f : SL) (b : Nat) (s : SL) (I : List SL) (P : List (List Int)) (t : SL) (M : List SL) (Q : List (List Int)) (u : SL) (x : List Int) (k : Nat) (X : World) : Prop where
  qs : QS w room f b t M Q s I P X
  box : X.heap[k]? = some (.cells #[.int .i64 0, .slice t.o t.n t.c] 27 (0, 0))
  hi : ∃ B, (∀ g, (slV s).ownBlock = some g → g < B) ∧ b < B ∧ QB B X t M Q ∧ X.ownsRow B 2 1 (slV u) x.length (intsV x)
theorem NX.take {w X : World} {room : Int} {f t0 t s u : SL} {b k : Nat} {M0 M I : List SL} {Q0 Q P : List (List Int)} {x : List Int} (h : NX w room f b t0 M0 Q0 s I P t M Q u x k X) :
    NY w room f b s I P t M Q u x k ((X.setCell ⟨b, 0, none⟩ (.int .i64 0)).setCell ⟨b, 1, none⟩ (slV t)) := by
  obtain ⟨B, h1, h2, h3, h4⟩ := h.hi
  refine ⟨h.qs.set (h3.low h2), ?_, B, h1, h2, (h3.set h2 _).set h2 _, owns_box (owns_box h4 h2 _) h2 _⟩
  rw [heap_setCell_other _ _ _ _ (by exact fun e => h.ne e.symm), heap_setCell_other _ _ _ _ (by exact fun e => h.ne e.symm)]
  exact h.box
theorem NY.push {w X X' : World} {room : Int} {f t s s' u : SL} {b k : Nat} {M I : List SL} {Q P : List (List Int)} {x : List Int} (h : NY w room f b s I P t M Q u x k X) (o : Obj)
    (ho : X'.ownsRow (b + 1) 29 1 (slV s') (P.length + 1) (I.map slV ++ [slV u])) (hg : (X.alloc o).grownBy X' (slV s).ownBlock) : QS w room f b t M Q s' (I ++ [u]) (P ++ [x]) X' := by
  obtain ⟨B, h1, h2, h3, h4⟩ := h.hi
  have hb : Below X.heap.size X (X.alloc o) := (Below.refl _ _).alloc (Nat.le_refl _) _
  exact (h.qs.below hb).push (h3.below hb) h1 h2 ho hg (Joins.ownsRow_le (h4.alloc o) h2)
theorem new_one (W : World) (v : Value) (T : TypeId) (g : Nat) (hg : W.heap.size = g) (j : Nat) (u : Value) (hu : [v][j]? = some u) : (W.alloc (.cells #[v] T)).cell? ((⟨g, 0, none⟩ : Addr).add j) = some u := by
  subst hg
  have hj : j = 0 := by
    rw [List.getElem?_eq_some_iff] at hu
    simpa using hu.1
  subst hj
  simp only [List.getElem?_cons_zero, Option.some.injEq] at hu
  subst hu
  exact (cell_of_row _ _ _ _ _ _ (heap_alloc_new W (.cells #[v] T))).trans rfl
/-- The cell of a message in a queue. -/
theorem QI.cell {W : World} {t : SL} {M : List SL} {Q : List (List Int)} (h : QI W t M Q) {i : Nat} (hi : i < M.length) : ∃ g off, t.o = some ⟨g, off, none⟩ ∧ g < W.heap.size ∧ W.cell? ⟨g, off + i, none⟩ = some (slV M[i]) := by
  rcases h.row with h0 | ⟨g, off, e, hg, hc⟩
  · omega
  · exact ⟨g, off, e, hg, hc i hi⟩

theorem take_first (r : Int) (s : SL) (L : List SL) (x : List Int) (Q : List (List Int)) (w : World) (hq : QI w s L (x :: Q)) (hbig : L.length * 24 ≤ 140737488355328) (hbq : ∀ q ∈ x :: Q, q.length * 8 ≤ 140737488355328) :
    Calls Try.prog 14 #[chV r s, .int .i64 0] w fun e w' => ∃ t M u, e = .returned (.tuple #[chV r t, slV u, .int .i64 0]) ∧ Hid (QB w.heap.size w' t M Q ∧ MsgAt w' u x) ∧ Below w.heap.size w w' := by
  have hL : L.length = Q.length + 1 := by have := hq.len; simpa using this
  refine Calls.mono (take_some r 0 s L (x :: Q) w hq.n (by omega) hq.row hq.msg hbig hbq) ?_
  rintro e w' ⟨t, M, h0, rfl, hM, ho, hw, hb⟩
  match M, h0 with
  | u :: M, _ =>
    have hM' : M.length = Q.length := by simp at hM; omega
    refine ⟨t, M, u, rfl, Lib.hid ⟨.ofOwns hM' ?_ ?_, ?_⟩, hb⟩
    · have e1 : L.length - 1 = Q.length := by omega
      rw [e1] at ho
      simpa using ho
    · intro j h1 h2 hj
      exact hw (j + 1) (by simp; omega) (by simp; omega) (by omega)
    · exact owns_msg (hw 0 (by simp) (by simp) (by omega))

set_option maxHeartbeats 4000000 in
set_option maxRecDepth 100000 in
theorem queue4 (room : Int) (f s : SL) (F : List (Int × Bool)) (L : List SL) (l : List (List Int)) (w : World) (hf : f.n = F.length) (hF : FieldsAt w f.o F) (hs : s.n = L.length) (hR : QRow w s.o L) (hM : Msgs w L l)
    (hf8 : F.length ≤ 1048576) (hl8 : L.length ≤ 1048576) (hm8 : ∀ m ∈ l, m.length ≤ 1048576) :
    Calls Try.prog 4 #[.agg #[.int .i64 room, slV f], slV s] w fun e w' => e = .returned (.bool true) ∧ Below w.heap.size w w' := by
  have HF := Lib.hid hF
  have HR := Lib.hid hR
  have HM := Lib.hid hM
  have HM8 := Lib.hid hm8
  have HF8 := Lib.hid hf8
  obtain ⟨fo, fn, fc⟩ := f
  obtain ⟨so, sn, sc⟩ := s
  obtain ⟨i29, hi29, hz0, hsz, hby⟩ := info_parts info29
  have HI29 := Lib.hid (And.intro hi29 (And.intro hz0 (And.intro hsz hby)))
  clear hi29 hz0 hsz hby
  simp only at hf hs
  subst hf hs
  clear hF hR hM hm8 hf8
  unfold slV
  simp only at HF HR ⊢
  go_enter Try.func4, Try.ntmps4
  go_wp2_with fail
  refine (shown6 _).mono ?_
  rintro e W1 ⟨rfl, hb⟩
  have HS := Lib.hid (QS.start (f := ⟨fo, F.length, fc⟩) hb)
  have HB1 := Lib.hid hb
  clear hb
  obtain ⟨b, hb⟩ : ∃ b, W1.heap.size = b := ⟨_, rfl⟩
  go_wp2_with fail
  rw [hb] at HS
  obtain ⟨W2, hW2⟩ : ∃ W2, W1.alloc (Obj.cells #[.int .i64 0, .slice none 0 0] 27) = W2 := ⟨_, rfl⟩
  rw [hW2] at HS ⊢
  clear hW2 hb HB1
  go_loopw [7, 8] (fun sv iv wr => ∃ (i : Nat) (To : Option Addr) (Tc : Nat) (M : List SL) (Q : List (List Int)) (to : Option Addr) (tc : Nat) (I : List SL), sv = .slice to Q.length tc ∧ iv = .int .i64 i ∧ i ≤ L.length ∧ Q.length ≤ i ∧ Hid (∀ q ∈ Q, q.length = F.length) ∧ Hid (QS w room ⟨fo, F.length, fc⟩ b ⟨To, Q.length, Tc⟩ M Q ⟨to, Q.length, tc⟩ I Q wr)) (fun _ i _ => L.length - (intOf i).toNat)
  case atStart => exact ⟨0, none, 0, [], [], none, 0, [], rfl, rfl, by omega, by simp, Lib.hid (fun q h => by cases h), HS⟩
  case round =>
    obtain ⟨i, To, Tc, M, Q, to, tc, I, rfl, rfl, hi, hQi, HG, HI⟩ := hrel
    have hi0 : (0 : Int) ≤ i := by omega
    by_cases hlt : i < L.length
    · have hlti : (i : Int) < L.length := by omega
      have hlq : i < l.length := by have := HM.out.1; omega
      obtain ⟨⟨mo, mn, mc⟩, hm⟩ : ∃ s, L[i] = s := ⟨_, rfl⟩
      obtain ⟨m, hml⟩ : ∃ m, l[i] = m := ⟨_, rfl⟩
      have HMA : Hid (MsgAt w ⟨mo, mn, mc⟩ m ∧ m.length ≤ 1048576) := Lib.hid ⟨hm ▸ hml ▸ HM.out.2 i hlt hlq, hml ▸ HM8.out _ (List.getElem_mem hlq)⟩
      obtain ⟨g, off, rfl, hg, hc⟩ : ∃ g off, so = some ⟨g, off, none⟩ ∧ g < w.heap.size ∧ ∀ i (h : i < L.length), w.cell? ⟨g, off + i, none⟩ = some (slV L[i]) := by
        rcases HR.out with h | h
        · omega
        · exact h
      have hcm : w.cell? ⟨g, off + i, none⟩ = some (.slice mo mn mc) := (hc i hlt).trans (by rw [hm]; rfl)
      have HKS : Hid (∀ w', Below wr.heap.size wr w' → (Below wr.heap.size wr w' ∧ w'.cell? ⟨w.heap.size, 0, none⟩ = some (.int .i64 room) ∧ w'.cell? ⟨w.heap.size, 1, none⟩ = some (.slice fo F.length fc) ∧ w'.cell? ⟨b, 0, none⟩ = some (.int .i64 0) ∧ w'.cell? ⟨b, 1, none⟩ = some (.slice To Q.length Tc) ∧ w'.cell? ⟨g, off + i, none⟩ = some (.slice mo mn mc))) := Lib.hid fun w' hb =>
        have h := (HI.out.below hb).cells
        ⟨hb, h.1, h.2.1, h.2.2.1, h.2.2.2.1, ((HI.out.below hb).bel.cell hg).trans hcm⟩
      have HP : Hid (∀ w', Below wr.heap.size wr w' → Calls Try.prog 8 #[.agg #[.int .i64 room, .slice fo F.length fc], .agg #[.int .i64 0, .slice To Q.length Tc], .slice mo mn mc, .bool false] w' (PutP w' room 0 F Q m false)) := Lib.hid fun w' hb => by
        have h := HI.out.below hb
        have hQl := h.q.q.len
        exact put_all room 0 ⟨fo, F.length, fc⟩ ⟨To, Q.length, Tc⟩ ⟨mo, mn, mc⟩ F M Q m false w' rfl (HF.out.below h.bel) h.q.q (HMA.out.1.below h.bel) (by have := HF8.out; omega) (by have := HMA.out.2; omega) (by omega) (fun q hq => by have := HG.out q hq; have := HF8.out; omega)
      clear hcm hc hm hml hg
      by_cases hcode : putCode room F Q.length m = 0
      · obtain ⟨x, hx⟩ : ∃ x, fitted F m = x := ⟨_, rfl⟩
        have HC : Hid (∀ w', Below wr.heap.size wr w' → Calls Try.prog 8 #[.agg #[.int .i64 room, .slice fo F.length fc], .agg #[.int .i64 0, .slice To Q.length Tc], .slice mo mn mc, .bool false] w' fun e w1 => ∃ t M u, e = .returned (.tuple #[.agg #[.int .i64 0, .slice t.o t.n t.c], .int .i64 0]) ∧ Hid (QB w'.heap.size w1 t M (Q ++ [x]) ∧ M[Q.length]? = some u ∧ w1.ownsRow w'.heap.size 2 1 (slV u) x.length (intsV x)) ∧ Below w'.heap.size w' w1) := Lib.hid fun w' hb => (HP.out w' hb).mono fun e w1 h => hx ▸ h.fine2 hcode
        have HX0 : Hid (x.length = F.length) := Lib.hid (by rw [← hx]; exact fitted_len F m (putCode_zero hcode).1)
        have hroom : ¬ (room < (Q.length : Int) + 1) := by have := (putCode_zero hcode).2.2; omega
        have hw1 : IntKind.i64.wrap ((Q.length : Int) + 1) = (Q.length : Int) + 1 := by rw [IntKind.wrap_i64]; omega
        have hw2 : IntKind.i64.wrap ((Q.length : Int) + 1 - 1) = (Q.length : Int) := by rw [IntKind.wrap_i64]; omega
        clear HP hcode hx
        go_wp2_with fail
        go_region_held3 (fun w' => Below wr.heap.size wr w' ∧ w'.cell? ⟨w.heap.size, 0, none⟩ = some (.int .i64 room) ∧ w'.cell? ⟨w.heap.size, 1, none⟩ = some (.slice fo F.length fc) ∧ w'.cell? ⟨b, 0, none⟩ = some (.int .i64 0) ∧ w'.cell? ⟨b, 1, none⟩ = some (.slice To Q.length Tc) ∧ w'.cell? ⟨g, off + i, none⟩ = some (.slice mo mn mc))
          (first | assumption | with_reducible exact HKS.out _ (Below.refl _ _).drew | with_reducible exact HKS.out _ (by assumption) | with_reducible exact HKS.out _ (Below.alloc (And.left (by assumption)) (Below.size (And.left (by assumption))) _) | with_reducible exact HKS.out _ (Below.alloc (by assumption) (Below.size (by assumption)) _) | with_reducible exact HKS.out _ (keepS (by assumption) _ _))
          (first
            | (go_simp
               go_at_call 8
               refine (HC.out _ (And.left (by assumption))).mono ?_
               rintro e w1 ⟨t, M', u, rfl, HT, hb1⟩
               have hB2 : Below wr.heap.size wr w1 := keepB' (And.left (by assumption)) hb1
               first
                 | (have hq := again2 wr w1 hb1
                    have hfa := hq.1
                    have hfb := hq.2.1
                    have hca := hq.2.2.1
                    have hcb := hq.2.2.2
                    clear hq)
                 | skip))
        have HX := Lib.hid (NX.one HI.out (Below.refl _ _).drew HT.out.1 HT.out.2.2 hB2)
        generalize w1.alloc (Obj.cells #[.int .i64 0, .slice t.o t.n t.c] 27) = X at HX ⊢
        generalize w1.heap.size = k at HX ⊢
        rotate_left
        have HX := Lib.hid (NX.two HI.out HT.out.1 HT.out.2.2 hb1 hB2)
        clear hca hcb hfa hfb
        generalize (w1.setCell ⟨wr.heap.size, 0, none⟩ (.int .i64 0)).setCell ⟨wr.heap.size, 1, none⟩ (.slice t.o t.n t.c) = X at HX ⊢
        generalize wr.heap.size = k at HX ⊢
        all_goals (
          rename_i hh
          have HU := Lib.hid HT.out.2.1
          clear hh hb1 HT hB2
          obtain ⟨B, _, hbB, hqB, huB⟩ := HX.out.hi
          obtain ⟨to', tn', tc'⟩ := t
          obtain rfl : tn' = Q.length + 1 := by have := hqB.q.n.trans hqB.q.len; simpa using this
          have hlM : M'.length = Q.length + 1 := by have := hqB.q.len; simpa using this
          have hQM : Q.length < M'.length := by omega
          obtain ⟨⟨uo, un, uc⟩, hu⟩ : ∃ u', u' = u := ⟨_, rfl⟩
          subst hu
          obtain ⟨g', off', hto, hg', hcell⟩ := hqB.q.cell hQM
          simp only at hto
          subst hto
          have hmu : M'[Q.length] = ⟨uo, un, uc⟩ := by have := HU.out; rw [List.getElem?_eq_getElem hQM] at this; exact Option.some.inj this
          rw [hmu] at hcell
          unfold slV at hcell
          simp only at hcell
          have HY := Lib.hid HX.out.take
          unfold slV at HY
          simp only at HY
          have f1 := HX.out.qs.cells.2.2.2.2.1
          have f2 := HX.out.qs.cells.2.2.2.2.2
          have c0 := HX.out.qs.cells.1
          have c1 := HX.out.qs.cells.2.2.1
          have c2 := HX.out.qs.cells.2.2.2.1
          have c3 : X.cell? ⟨k, 0, none⟩ = some (.int .i64 0) := (cell_of_row _ _ _ _ _ _ HX.out.box).trans rfl
          have c4 : X.cell? ⟨k, 1, none⟩ = some (.slice (some ⟨g', off', none⟩) (Q.length + 1) tc') := (cell_of_row _ _ _ _ _ _ HX.out.box).trans rfl
          unfold slV at c2
          simp only at c2
          have hbk : ¬ (b = k) := HX.out.ne
          have hkb : ¬ (k = b) := fun e => HX.out.ne e.symm
          have hgB : B ≤ g' := hqB.top _ rfl
          have hgb : ¬ (g' = b) := by omega
          have hbg : ¬ (b = g') := by omega
          have hql0 : (0 : Int) ≤ Q.length := by omega
          have hql1 : (Q.length : Int) < (Q.length : Int) + 1 := by omega
          have hql2 : Q.length < Q.length + 1 := by omega
          have HROW := Lib.hid (HY.out.qs.row.alloc (Obj.cells #[.slice uo un uc] 29))
          have HN := Lib.hid (new_one ((X.setCell ⟨b, 0, none⟩ (.int .i64 0)).setCell ⟨b, 1, none⟩ (.slice (some ⟨g', off', none⟩) (Q.length + 1) tc')) (.slice uo un uc) 29 X.heap.size (by simp [World.setCell]))
          have HL1 : Hid (∀ v ∈ [Value.slice uo un uc], v.oneCell' = true) := Lib.hid (by simp [Value.oneCell'])
          have HL2 : Hid (Q.length + 1 ≤ maxLen) := Lib.hid (by unfold maxLen; omega)
          have HL3 : Hid ((Q.length + 1) * 24 ≤ 140737488355328) := Lib.hid (by omega)
          have HL4 : Hid (b + 1 ≤ (((X.setCell ⟨b, 0, none⟩ (.int .i64 0)).setCell ⟨b, 1, none⟩ (.slice (some ⟨g', off', none⟩) (Q.length + 1) tc')).alloc (Obj.cells #[.slice uo un uc] 29)).heap.size) := Lib.hid (by have := lt_of_block HX.out.qs.box; simp [World.setCell]; omega)
          clear hqB huB hbB hgB hmu hg' hQM hlM HU
          go_wp2_with (at_builtin; refine wpList_append_own _ rfl _ _ 25 rfl (b + 1) 29 i29 (.slice none 0 0) 1 24 Try.underlying25 HI29.out.1 HI29.out.2.1 HI29.out.2.2.1 HI29.out.2.2.2 rfl (by decide) _ _ _ rfl HROW.out ⟨X.heap.size, 0, none⟩ 1 1 [.slice uo un uc] rfl rfl HN.out HL1.out HL2.out HL3.out HL4.out ?_)
          intro v2 w2 hown2 hgr2 _
          obtain ⟨o2, cc2, rfl, -⟩ := owns_sl hown2
          have HQS2 := Lib.hid (HY.out.push (s' := ⟨o2, Q.length + 1, cc2⟩) (Obj.cells #[.slice uo un uc] 29) hown2 hgr2)
          clear hown2 hgr2 c0 c1 c2 c3 c4 f1 f2 hcell
          simp only [slV]
          go_wp2_with fail
          go_roundw
          case rel => exact ⟨i + 1, _, _, M', Q ++ [x], o2, cc2, I ++ [⟨uo, un, uc⟩], by simp, by go_num, by omega, by simp; omega, Lib.hid (fun q hq => by
            rcases List.mem_append.1 hq with hq | hq
            · exact HG.out q hq
            · rw [List.mem_singleton.1 hq]
              exact HX0.out), by rw [List.length_append]; exact HQS2⟩
          case measure => simp [intOf]; omega)
      · obtain ⟨kc, hkc⟩ : ∃ kc, putCode room F Q.length m = kc := ⟨_, rfl⟩
        have HC : Hid (∀ w', Below wr.heap.size wr w' → Calls Try.prog 8 #[.agg #[.int .i64 room, .slice fo F.length fc], .agg #[.int .i64 0, .slice To Q.length Tc], .slice mo mn mc, .bool false] w' fun e w1 => e = .returned (.tuple #[.agg #[.int .i64 0, .slice none 0 0], .int .i64 kc]) ∧ Below w'.heap.size w' w1) := Lib.hid fun w' hb => (HP.out w' hb).mono fun e w1 h => hkc ▸ h.bad hcode
        have hk0 : (kc != 0) = true := by rw [← hkc]; simpa using hcode
        clear HP hcode hkc
        go_wp2_with fail
        go_region_held3 (fun w' => Below wr.heap.size wr w' ∧ w'.cell? ⟨w.heap.size, 0, none⟩ = some (.int .i64 room) ∧ w'.cell? ⟨w.heap.size, 1, none⟩ = some (.slice fo F.length fc) ∧ w'.cell? ⟨b, 0, none⟩ = some (.int .i64 0) ∧ w'.cell? ⟨b, 1, none⟩ = some (.slice To Q.length Tc) ∧ w'.cell? ⟨g, off + i, none⟩ = some (.slice mo mn mc))
          (first | assumption | with_reducible exact HKS.out _ (Below.refl _ _).drew | with_reducible exact HKS.out _ (by assumption) | with_reducible exact HKS.out _ (Below.alloc (And.left (by assumption)) (Below.size (And.left (by assumption))) _) | with_reducible exact HKS.out _ (Below.alloc (by assumption) (Below.size (by assumption)) _) | with_reducible exact HKS.out _ (keepS (by assumption) _ _))
          (first
            | (go_simp
               go_at_call 8
               refine (HC.out _ (And.left (by assumption))).mono ?_
               rintro e w1 ⟨rfl, hb1⟩
               have hB2 : Below wr.heap.size wr w1 := keepB' (And.left (by assumption)) hb1
               first
                 | (have hq := again2 wr w1 hb1
                    have hfa := hq.1
                    have hfb := hq.2.1
                    have hca := hq.2.2.1
                    have hcb := hq.2.2.2
                    clear hq)
                 | skip))
        have HX := Lib.hid (HI.out.below (hB2.alloc hB2.size (Obj.cells #[.int .i64 0, .slice none 0 0] 27)))
        rename_i hh
        clear hh hb1 hB2
        generalize w1.alloc (Obj.cells #[.int .i64 0, .slice none 0 0] 27) = X at HX ⊢
        generalize w1.heap.size = k at HX ⊢
        rotate_left
        have HX := Lib.hid (HI.out.below (keepS hB2 (.int .i64 0) (.slice none 0 0)))
        rename_i hh
        clear hca hcb hfa hfb hh hb1 hB2
        generalize (w1.setCell ⟨wr.heap.size, 0, none⟩ (.int .i64 0)).setCell ⟨wr.heap.size, 1, none⟩ (.slice none 0 0) = X at HX ⊢
        generalize wr.heap.size = k at HX ⊢
        all_goals (
          go_wp2_with fail
          go_roundw
          case rel => exact ⟨i + 1, To, Tc, M, Q, to, tc, I, rfl, by go_num, by omega, by omega, HG, HX⟩
          case measure => simp [intOf]; omega)
    · have hlti : ¬ (i : Int) < L.length := by omega
      have hQL : Q.length ≤ 1048576 := by omega
      clear hi0 hlt hi hQi
      go_wp2_with fail
      clear hlti
      have HQL := Lib.hid hQL
      go_loopw [11] (fun iv wr => ∃ (i : Nat) (To : Option Addr) (Tn Tc : Nat) (M' : List SL), iv = .int .i64 i ∧ i ≤ Q.length ∧ Hid (QS w room ⟨fo, F.length, fc⟩ b ⟨To, Tn, Tc⟩ M' (Q.drop i) ⟨to, Q.length, tc⟩ I Q wr)) (fun i _ => Q.length - (intOf i).toNat)
      case atStart => exact ⟨0, To, Q.length, Tc, M, rfl, by omega, by rw [List.drop_zero]; exact HI⟩
      case round =>
        obtain ⟨i, To, Tn, Tc, M', rfl, hi, HJ⟩ := hrel
        have hi0 : (0 : Int) ≤ i := by omega
        have b2 := HJ.out.cells.2.2.1
        have b3 := HJ.out.cells.2.2.2.1
        unfold slV at b3
        simp only at b3
        have hLM : M'.length = Q.length - i := by have := HJ.out.q.q.len; simpa using this
        by_cases hlt : i < Q.length
        · have hlti : (i : Int) < Q.length := by omega
          obtain ⟨x, hx⟩ : ∃ x, Q[i] = x := ⟨_, rfl⟩
          have hdr : Q.drop i = x :: Q.drop (i + 1) := by rw [List.drop_eq_getElem_cons hlt, hx]
          have hqi := HJ.out.q.q
          rw [hdr] at hqi
          have HT0 := Lib.hid (take_first 0 ⟨To, Tn, Tc⟩ M' x (Q.drop (i + 1)) wr hqi (by omega) (fun q hq => by
            have := HG.out q (by rw [← hdr] at hq; exact List.mem_of_mem_drop hq)
            have := HF8.out
            omega))
          have hxF : Hid (x.length ≤ 1048576) := Lib.hid (by have := HG.out x (by rw [← hx]; exact List.getElem_mem _); have := HF8.out; omega)
          have hIi : i < I.length := by have := HJ.out.len; omega
          have HIM : Hid (MsgAt wr I[i] x) := Lib.hid (by
            have h := HJ.out.own (I[i], Q[i]) (by rw [List.mem_iff_getElem]; exact ⟨i, by simp; omega, by simp⟩)
            rw [← hx]
            exact owns_msg h)
          clear hqi hdr hx
          unfold chV slV at HT0
          simp only at HT0
          go_wp2_with fail
          refine HT0.out.mono ?_
          rintro e w1 ⟨⟨to1, tn1, tc1⟩, M1, ⟨uo, un, uc⟩, rfl, HT1, hb1⟩
          have HB1 : Hid (Below wr.heap.size wr (w1.alloc (Obj.cells #[.int .i64 0, .slice to1 tn1 tc1] 27))) := Lib.hid (hb1.alloc hb1.size _)
          obtain ⟨gi, ci, hgi⟩ := owns_form1 HJ.out.row (by omega)
          injection hgi with e1 e2 e3
          subst e1 e3
          clear e2
          obtain ⟨⟨io, inn, ic⟩, hIs⟩ : ∃ s, I[i] = s := ⟨_, rfl⟩
          have hcell0 : wr.cell? ⟨gi, i, none⟩ = some (.slice io inn ic) := by
            refine (World.ownsRow.cellAt HJ.out.row i (by show i < Q.length * 1; omega)).trans ?_
            rw [List.getElem?_map, List.getElem?_eq_getElem hIi, hIs]
            rfl
          have l5 : ∀ o, (w1.alloc o).cell? ⟨gi, i, none⟩ = some (.slice io inn ic) := fun o => Lib.cell?_alloc_some _ ((hb1.cell (lt_of_block' hcell0)).trans hcell0)
          have HIM2 : Hid (∀ o, MsgAt (w1.alloc o) ⟨io, inn, ic⟩ x) := Lib.hid fun o => hIs ▸ HIM.out.below (hb1.alloc hb1.size o)
          have HU2 : Hid (∀ o, MsgAt (w1.alloc o) ⟨uo, un, uc⟩ x) := Lib.hid fun o => HT1.out.2.below ((Below.refl _ _).alloc (Nat.le_refl _) o)
          have HQ2 : Hid (QB (b + 1) (w1.alloc (Obj.cells #[.int .i64 0, .slice to1 tn1 tc1] 27)) ⟨to1, tn1, tc1⟩ M1 (Q.drop (i + 1))) := Lib.hid ((HT1.out.1.low (by have := lt_of_block HJ.out.box; omega)).below ((Below.refl _ _).alloc (Nat.le_refl _) _))
          have HK2 : Hid ((w1.alloc (Obj.cells #[.int .i64 0, .slice to1 tn1 tc1] 27)).heap[w1.heap.size]? = some (.cells #[.int .i64 0, .slice to1 tn1 tc1] 27 (0, 0))) := Lib.hid (heap_alloc_new _ _)
          clear HT1 hb1 hcell0 hIs b2 b3
          simp only
          go_wp2_with fail
          refine (numbers15 ⟨uo, un, uc⟩ ⟨io, inn, ic⟩ x x _ (HU2.out _) (HIM2.out _) (by have := hxF.out; omega) (by have := hxF.out; omega)).mono ?_
          rintro e w2 ⟨rfl, nn, rfl⟩
          rw [show decide (x = x) = true by simp]
          obtain ⟨X, hX⟩ : ∃ X, World.drewN (w1.alloc (Obj.cells #[.int .i64 0, .slice to1 tn1 tc1] 27)) nn = X := ⟨_, rfl⟩
          have hbX : Below (w1.alloc (Obj.cells #[.int .i64 0, .slice to1 tn1 tc1] 27)).heap.size (w1.alloc (Obj.cells #[.int .i64 0, .slice to1 tn1 tc1] 27)) X := by rw [← hX]; exact bdrew (Below.refl _ _) nn
          have HSX := Lib.hid (((HJ.out.below HB1.out).below hbX).set (HQ2.out.below hbX))
          have hk := (hbX.block _ (lt_of_block HK2.out)).trans HK2.out
          have hcs := ((HJ.out.below HB1.out).below hbX).cells
          have c3 : X.cell? ⟨w1.heap.size, 0, none⟩ = some (.int .i64 0) := (cell_of_row _ _ _ _ _ _ hk).trans rfl
          have c4 : X.cell? ⟨w1.heap.size, 1, none⟩ = some (.slice to1 tn1 tc1) := (cell_of_row _ _ _ _ _ _ hk).trans rfl
          have c1 := hcs.2.2.1
          have c2 := hcs.2.2.2.1
          have f1 := hcs.2.2.2.2.1
          have f2 := hcs.2.2.2.2.2
          unfold slV at c2
          simp only at c2
          rw [hX]
          unfold slV at HSX
          simp only at HSX
          clear hX hbX hk hcs HK2 HQ2 HU2 HIM2 HB1 l5
          go_wp2_with fail
          go_roundw
          case rel => exact ⟨i + 1, to1, tn1, tc1, M1, by go_num, by omega, HSX⟩
          case measure => simp [intOf]; omega
        · have hlti : ¬ (i : Int) < Q.length := by omega
          have hTn : Tn = M'.length := HJ.out.q.q.n
          have hTn0 : Tn = 0 := by omega
          clear hTn
          subst hTn0
          have HBE := Lib.hid HJ.out.bel
          go_wp2_with fail
          refine (take_none 0 0 ⟨To, 0, Tc⟩ wr (.inr (by simp)) (by simp)).mono ?_
          rintro e w1 ⟨rfl, hb1⟩
          have HBF := Lib.hid (HBE.out.trans (hb1.mono HBE.out.size))
          clear hb1
          simp only [chV, slV]
          go_wp2_with fail
          go_ret
          exact ⟨rfl, HBF.out.alloc HBF.out.size _⟩
end Go.Proofs.Ytfcoljioojidnaa
