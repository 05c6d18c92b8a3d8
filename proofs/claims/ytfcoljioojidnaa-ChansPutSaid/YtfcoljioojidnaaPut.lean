/- The program's Put. -/
import Derived.Test.YtfcoljioojidnaaInsert2
import Derived.Test.YtfcoljioojidnaaIndex
namespace Go.Proofs.Ytfcoljioojidnaa
open Go.ChangeShapes Go.WideShapes Go.ChangeAt Go.RowKit
set_option linter.unusedVariables false
set_option linter.unusedSimpArgs false

/-- A row of types in memory. -/
def FieldsAt (w : World) (o : Option Addr) (F : List (Int × Bool)) : Prop :=
  F.length = 0 ∨ ∃ g off, o = some ⟨g, off, none⟩ ∧ g < w.heap.size ∧ ∀ i (h : i < F.length), w.cell? ⟨g, off + i * 2, none⟩ = some (.int .i64 F[i].1) ∧ w.cell? ⟨g, off + i * 2 + 1, none⟩ = some (.bool F[i].2)
theorem FieldsAt.below {w w' : World} {o : Option Addr} {F : List (Int × Bool)} (h : FieldsAt w o F) (hb : Below w.heap.size w w') : FieldsAt w' o F :=
  h.imp id fun ⟨g, off, e, hg, hi⟩ => ⟨g, off, e, Nat.lt_of_lt_of_le hg hb.size, fun i hl => ⟨(hb.cell hg).trans (hi i hl).1, (hb.cell hg).trans (hi i hl).2⟩⟩

/-- The two parameters and the result in memory. -/
structure PF (w : World) (room r : Int) (f s : SL) (wr : World) : Prop where
  shp : wr.heap[w.heap.size]? = some (.cells #[.int .i64 room, slV f] 24 (0, 0))
  chn : wr.heap[w.heap.size + 1]? = some (.cells #[.int .i64 r, slV s] 27 (0, 0))
  res : wr.heap[w.heap.size + 2]? = some (.cells #[.int .i64 0, .slice none 0 0] 27 (0, 0))
  bel : Below w.heap.size w wr

set_option maxHeartbeats 4000000 in
set_option maxRecDepth 100000 in
theorem put_short (room r : Int) (f s t : SL) (srt : Bool) (w : World) (h : t.n ≠ f.n) (hn : t.n ≤ 9223372036854775807) (hf : f.n ≤ 9223372036854775807) :
    Calls Try.prog 8 #[.agg #[.int .i64 room, slV f], chV r s, slV t, .bool srt] w fun e w' => e = .returned (.tuple #[chV 0 ⟨none, 0, 0⟩, .int .i64 42]) ∧ Below w.heap.size w w' := by
  obtain ⟨fo, fn, fc⟩ := f
  obtain ⟨so, sn, sc⟩ := s
  obtain ⟨t0, tn, tc⟩ := t
  simp only at h hn hf
  have hne : ((tn : Int) != (fn : Int)) = true := by rw [bne_iff_ne]; omega
  unfold chV slV
  simp only
  go_enter Try.func8, Try.ntmps8
  go_wp2_with fail
  refine bodyPost_ret (v := .tuple #[.agg #[.int .i64 0, .slice none 0 0], .int .i64 42]) (by simp [results, Try.results8, go_sem]) rfl ?_
  exact ⟨rfl, (((Below.refl _ w).alloc (Nat.le_refl _) _).alloc (by simp) _).alloc (by simp; omega) _⟩

theorem PF.start (room r : Int) (f s : SL) (w : World) : PF w room r f s (((w.alloc (Obj.cells #[.int .i64 room, slV f] 24)).alloc (Obj.cells #[.int .i64 r, slV s] 27)).alloc (Obj.cells #[.int .i64 0, .slice none 0 0] 27)) := by
  refine ⟨?_, ?_, ?_, (((Below.refl _ w).alloc (Nat.le_refl _) _).alloc (by simp) _).alloc (by simp; omega) _⟩
  · rw [Below.heap_alloc _ _ _ (by simp; omega), Below.heap_alloc _ _ _ (by simp)]
    exact heap_alloc_new w _
  · rw [Below.heap_alloc _ _ _ (by simp)]
    rw [show w.heap.size + 1 = (w.alloc (Obj.cells #[.int .i64 room, slV f] 24)).heap.size by simp]
    exact heap_alloc_new _ _
  · rw [show w.heap.size + 2 = ((w.alloc (Obj.cells #[.int .i64 room, slV f] 24)).alloc (Obj.cells #[.int .i64 r, slV s] 27)).heap.size by simp]
    exact heap_alloc_new _ _
theorem PF.below {w wr w' : World} {room r : Int} {f s : SL} (h : PF w room r f s wr) (hb : Below wr.heap.size wr w') : PF w room r f s w' :=
  ⟨(hb.block _ (lt_of_block h.shp)).trans h.shp, (hb.block _ (lt_of_block h.chn)).trans h.chn, (hb.block _ (lt_of_block h.res)).trans h.res, h.bel.trans (hb.mono h.bel.size)⟩

def fitted (F : List (Int × Bool)) (m : List Int) : List Int := List.zipWith (fun t v => fitI t.1 t.2 v) F m
def putAt (F : List (Int × Bool)) (Q : List (List Int)) (m : List Int) (srt : Bool) : Nat := if srt = true ∧ 0 ≤ firstI (fitted F m) Q then (firstI (fitted F m) Q).toNat else Q.length
def putQ (F : List (Int × Bool)) (Q : List (List Int)) (m : List Int) (srt : Bool) : List (List Int) := Q.take (putAt F Q m srt) ++ [fitted F m] ++ Q.drop (putAt F Q m srt)
def putCode (room : Int) (F : List (Int × Bool)) (n : Nat) (m : List Int) : Int := if m.length ≠ F.length then 42 else if F.any (fun t => !tyB t.1 t.2) then 42 else if room ≤ n then 45 else 0
def PutP (w : World) (room r : Int) (F : List (Int × Bool)) (Q : List (List Int)) (m : List Int) (srt : Bool) (e : Ending) (w' : World) : Prop :=
  (putCode room F Q.length m ≠ 0 → e = .returned (.tuple #[chV 0 ⟨none, 0, 0⟩, .int .i64 (putCode room F Q.length m)])) ∧
  (putCode room F Q.length m = 0 → ∃ t M, e = .returned (.tuple #[chV r t, .int .i64 0]) ∧ t.n = Q.length + 1 ∧ M.length = Q.length + 1 ∧ w'.ownsRow w.heap.size 29 1 (slV t) (Q.length + 1) (M.map slV) ∧ Owns w' w.heap.size M (putQ F Q m srt) (Q.length + 1)) ∧
  Below w.heap.size w w'
theorem any_bad {F : List (Int × Bool)} {i : Nat} (hi : i < F.length) (h : tyB F[i].1 F[i].2 = false) : F.any (fun t => !tyB t.1 t.2) = true :=
  List.any_eq_true.2 ⟨F[i], List.getElem_mem hi, by rw [h]; rfl⟩
theorem none_bad {F : List (Int × Bool)} (h : ∀ j (hj : j < F.length), tyB F[j].1 F[j].2 = true) : F.any (fun t => !tyB t.1 t.2) = false := by
  rw [List.any_eq_false]
  intro t ht
  obtain ⟨j, hj, rfl⟩ := List.mem_iff_getElem.1 ht
  simp [h j hj]

theorem PF.fail {w wr : World} {room r : Int} {f s : SL} {F : List (Int × Bool)} {Q : List (List Int)} {m : List Int} {srt : Bool} (h : PF w room r f s wr) (u v : Value) (k : Int) (hk : putCode room F Q.length m = k) (h0 : k ≠ 0) : PutP w room r F Q m srt (.returned (.tuple #[chV 0 ⟨none, 0, 0⟩, .int .i64 k])) ((wr.setCell ⟨w.heap.size + 1 + 1, 0, none⟩ u).setCell ⟨w.heap.size + 1 + 1, 1, none⟩ v) :=
  ⟨fun _ => by rw [hk], fun e => absurd (hk.symm.trans e) h0, (h.bel.setCell (by show w.heap.size ≤ w.heap.size + 1 + 1; omega) _).setCell (by show w.heap.size ≤ w.heap.size + 1 + 1; omega) _⟩

theorem fitted_len (F : List (Int × Bool)) (m : List Int) (h : m.length = F.length) : (fitted F m).length = F.length := by
  unfold fitted
  rw [List.length_zipWith, h, Nat.min_self]
/-- The fitted numbers up to i, and zeroes. -/
def fl (F : List (Int × Bool)) (m : List Int) (i : Nat) : List Int := (fitted F m).take i ++ List.replicate (F.length - i) 0
theorem fl_len (F : List (Int × Bool)) (m : List Int) (h : m.length = F.length) {i : Nat} (hi : i ≤ F.length) : (fl F m i).length = F.length := by
  unfold fl
  rw [List.length_append, List.length_take, fitted_len F m h, List.length_replicate]
  omega
theorem fl_step {F : List (Int × Bool)} {m : List Int} (h : m.length = F.length) {i : Nat} (hi : i < F.length) : (fl F m i).set i (fitI F[i].1 F[i].2 (m[i]'(h ▸ hi))) = fl F m (i + 1) := by
  have hfl := fitted_len F m h
  unfold fl
  rw [List.set_append_right _ _ (by rw [List.length_take]; omega), List.take_succ_eq_append_getElem (by omega), show F.length - i = (F.length - (i + 1)) + 1 by omega, List.replicate_succ]
  have e : i - ((fitted F m).take i).length = 0 := by rw [List.length_take]; omega
  rw [e, List.set_cons_zero, List.append_assoc]
  congr 2
  unfold fitted
  rw [List.getElem_zipWith]
theorem fl_end (F : List (Int × Bool)) (m : List Int) (h : m.length = F.length) : fl F m F.length = fitted F m := by
  unfold fl
  rw [List.take_of_length_le (by rw [fitted_len F m h]; exact Nat.le_refl _), Nat.sub_self, List.replicate_zero, List.append_nil]
structure FX (w : World) (room r : Int) (f s : SL) (H b : Nat) (F : List (Int × Bool)) (m : List Int) (i : Nat) (wr : World) : Prop where
  pf : PF w room r f s wr
  row : wr.ownsRow w.heap.size 2 1 (.slice (some ⟨H, 0, none⟩) F.length F.length) F.length (intsV (fl F m i))
  bx : wr.heap[b]? = some (.cells #[.slice (some ⟨H, 0, none⟩) F.length F.length] 29 (0, 0))
theorem FX.step {w wr w1 : World} {room r : Int} {f s : SL} {H b : Nat} {F : List (Int × Bool)} {m : List Int} {i : Nat} (h : FX w room r f s H b F m i wr) (hm : m.length = F.length) (hi : i < F.length) (hb : Below wr.heap.size wr w1) :
    FX w room r f s H b F m (i + 1) (w1.setCell ⟨H, i, none⟩ (.int .i64 (fitI F[i].1 F[i].2 (m[i]'(hm ▸ hi))))) := by
  have hrow := owns_below h.row hb
  have hpf := h.pf.below hb
  have hbx : w1.heap[b]? = some (.cells #[.slice (some ⟨H, 0, none⟩) F.length F.length] 29 (0, 0)) := (hb.block b (lt_of_block h.bx)).trans h.bx
  have n1 : w.heap.size ≠ H := fun e => owns_neObj hrow hpf.shp (by decide) (by rw [e]; rfl)
  have n2 : w.heap.size + 1 ≠ H := fun e => owns_neObj hrow hpf.chn (by decide) (by rw [e]; rfl)
  have n3 : w.heap.size + 2 ≠ H := fun e => owns_neObj hrow hpf.res (by decide) (by rw [e]; rfl)
  have n4 : b ≠ H := fun e => owns_neObj hrow hbx (by decide) (by rw [e]; rfl)
  refine ⟨⟨?_, ?_, ?_, hpf.bel.setCell (hrow.lt H rfl).1 _⟩, ?_, ?_⟩
  · rw [heap_setCell_other _ _ _ _ (by exact n1)]; exact hpf.shp
  · rw [heap_setCell_other _ _ _ _ (by exact n2)]; exact hpf.chn
  · rw [heap_setCell_other _ _ _ _ (by exact n3)]; exact hpf.res
  · have := (hrow.stored i (.int .i64 (fitI F[i].1 F[i].2 (m[i]'(hm ▸ hi))))).1
    rw [← fl_step hm hi]
    unfold intsV at this ⊢
    rw [List.map_set]
    exact this
  · rw [heap_setCell_other _ _ _ _ (by exact n4)]; exact hbx
theorem FX.below {w wr w1 : World} {room r : Int} {f s : SL} {H b : Nat} {F : List (Int × Bool)} {m : List Int} {i : Nat} (h : FX w room r f s H b F m i wr) (hb : Below wr.heap.size wr w1) : FX w room r f s H b F m i w1 :=
  ⟨h.pf.below hb, owns_below h.row hb, (hb.block b (lt_of_block h.bx)).trans h.bx⟩
theorem FX.start {w wr w2 : World} {room r : Int} {f s : SL} {H : Nat} {F : List (Int × Bool)} {m : List Int} (h : PF w room r f s wr) (hg : wr.grownBy w2 none) (ho : w2.ownsRow w.heap.size 2 1 (.slice (some ⟨H, 0, none⟩) F.length F.length) F.length (madeCells #[Value.int .i64 0] F.length).toList) :
    FX w room r f s H w2.heap.size F m 0 (w2.alloc (.cells #[.slice (some ⟨H, 0, none⟩) F.length F.length] 29)) := by
  refine ⟨h.below (((Below.refl _ wr).grown hg (Nat.le_refl _) (fun k hk => by cases hk)).alloc hg.size _), ?_, heap_alloc_new _ _⟩
  have e : (madeCells #[Value.int .i64 0] F.length).toList = intsV (fl F m 0) := by
    unfold fl intsV
    rw [List.take_zero, List.nil_append, Nat.sub_zero, List.map_replicate]
    exact toList_madeCells_one _ _
  rw [← e]
  exact ho.alloc _

theorem owns_grown {w w' : World} {B size n size' n' B' : Nat} {e e' : TypeId} {v v' : Value} {xs xs' : List Value} (h : w.ownsRow B e size v n xs) (h' : w.ownsRow B' e' size' v' n' xs') (hee : e ≠ e') (hg : w.grownBy w' v'.ownBlock) : w'.ownsRow B e size v n xs := by
  refine h.kept hg ?_
  cases hv : v.ownBlock with
  | none => exact .inl rfl
  | some g =>
    right
    intro e2
    exact owns_ne h h' hee e2.symm hv
theorem obj_grown {w w' : World} {B size n : Nat} {e T : TypeId} {v : Value} {xs : List Value} (h : w.ownsRow B e size v n xs) {b : Nat} {cs : Array Value} {fr : Nat × Nat} (hb : w.heap[b]? = some (.cells cs T fr)) (hT : e ≠ T) (hg : w.grownBy w' v.ownBlock) : w'.heap[b]? = some (.cells cs T fr) :=
  (hg.block b (lt_of_block hb) (fun e2 => owns_neObj h hb hT e2.symm)).trans hb
/-- Messages owned, pair by pair. -/
def OwnZ (w : World) (B : Nat) (Z : List (SL × List Int)) : Prop := ∀ p ∈ Z, w.ownsRow B 2 1 (slV p.1) p.2.length (intsV p.2)
theorem Owns.toZ {w : World} {B : Nat} {L : List SL} {Q : List (List Int)} (h : Owns w B L Q L.length) : OwnZ w B (L.zip Q) := by
  intro p hp
  obtain ⟨j, hj, rfl⟩ := List.mem_iff_getElem.1 hp
  rw [List.length_zip] at hj
  rw [List.getElem_zip]
  exact h j (by omega) (by omega) (by omega)
theorem Owns.ofZ {w : World} {B k : Nat} {L : List SL} {Q : List (List Int)} (h : OwnZ w B (L.zip Q)) : Owns w B L Q k := by
  intro j h1 h2 _
  have := h (L[j], Q[j]) (by rw [List.mem_iff_getElem]; exact ⟨j, by rw [List.length_zip]; omega, List.getElem_zip⟩)
  exact this
theorem OwnZ.put {w : World} {B K : Nat} {L : List SL} {Q : List (List Int)} {u : SL} {x : List Int} (h : OwnZ w B (L.zip Q)) (hl : L.length = Q.length) (hu : w.ownsRow B 2 1 (slV u) x.length (intsV x)) : OwnZ w B ((L.take K ++ [u] ++ L.drop K).zip (Q.take K ++ [x] ++ Q.drop K)) := by
  rw [List.zip_append (by simp [hl]), List.zip_append (by simp [hl])]
  intro p hp
  rw [List.mem_append, List.mem_append] at hp
  have h0 : L.zip Q = (L.take K).zip (Q.take K) ++ (L.drop K).zip (Q.drop K) := by
    rw [← List.zip_append (by simp [hl]), List.take_append_drop, List.take_append_drop]
  have h1 : ∀ p, p ∈ (L.take K).zip (Q.take K) → p ∈ L.zip Q := fun p hp => by
    rw [h0]
    exact List.mem_append_left _ hp
  have h2 : ∀ p, p ∈ (L.drop K).zip (Q.drop K) → p ∈ L.zip Q := fun p hp => by
    rw [h0]
    exact List.mem_append_right _ hp
  rcases hp with (hp | hp) | hp
  · exact h p (h1 p hp)
  · simp only [List.zip_cons_cons, List.zip_nil_right, List.mem_singleton] at hp
    subst hp
    exact hu
  · exact h p (h2 p hp)
theorem OwnZ.mono {w w' : World} {B B' : Nat} {Z : List (SL × List Int)} (h : OwnZ w B Z) (hk : ∀ v n xs, w.ownsRow B 2 1 v n xs → w'.ownsRow B' 2 1 v n xs) : OwnZ w' B' Z := fun p hp => hk _ _ _ (h p hp)

/-- What stands before Insert. -/
structure PM (w : World) (r : Int) (s : Value) (H : Nat) (F : List (Int × Bool)) (m : List Int) (c n k : Nat) (o3 : Option Addr) (M : List SL) (Q : List (List Int)) (W : World) : Prop where
  row : W.ownsRow w.heap.size 29 1 (.slice o3 n c) n (M.map slV)
  fit : W.ownsRow w.heap.size 2 1 (.slice (some ⟨H, 0, none⟩) F.length F.length) F.length (intsV (fitted F m))
  own : OwnZ W w.heap.size (M.zip Q)
  arg : W.heap[k]? = some (.cells #[.slice (some ⟨H, 0, none⟩) F.length F.length] 29 (0, 0))
  off : ∀ a, o3 = some a → k ≠ a.block
  chn : W.heap[w.heap.size + 1]? = some (.cells #[.int .i64 r, s] 27 (0, 0))
  res : W.heap[w.heap.size + 2]? = some (.cells #[.int .i64 0, .slice none 0 0] 27 (0, 0))
  bel : Below w.heap.size w W
theorem PM.start {w W w3 : World} {room r : Int} {f s : SL} {H b12 n c : Nat} {F : List (Int × Bool)} {m : List Int} {o3 : Option Addr} {M : List SL} {Q : List (List Int)} (he : m.length = F.length) (hZ : FX w room r f s H b12 F m F.length w3) (ho : w3.ownsRow W.heap.size 29 1 (.slice o3 n c) n (M.map slV)) (hw : w.heap.size ≤ W.heap.size) (hown : Owns w3 W.heap.size M Q M.length) (v : Value) :
    PM w r v H F m c n w3.heap.size o3 M Q (((w3.setCell ⟨w.heap.size + 1, 0, none⟩ (.int .i64 r)).setCell ⟨w.heap.size + 1, 1, none⟩ v).alloc (.cells #[.slice (some ⟨H, 0, none⟩) F.length F.length] 29)) := by
  have hchn := hZ.pf.chn
  have hfit := hZ.row
  rw [fl_end F m he] at hfit
  have hsz : ((w3.setCell ⟨w.heap.size + 1, 0, none⟩ (.int .i64 r)).setCell ⟨w.heap.size + 1, 1, none⟩ v).heap.size = w3.heap.size := by simp [World.setCell]
  have g1 := owns_neObj ho hchn (by decide)
  have g2 := owns_neObj hfit hchn (by decide)
  refine ⟨?_, ?_, ?_, ?_, ?_, ?_, ?_, ?_⟩
  · exact (owns_set (owns_set (Joins.ownsRow_le ho hw) _ _ g1) _ _ g1).alloc _
  · exact (owns_set (owns_set hfit _ _ g2) _ _ g2).alloc _
  · refine hown.toZ.mono fun v n xs h => ?_
    have g3 := owns_neObj h hchn (by decide)
    exact (owns_set (owns_set (Joins.ownsRow_le h hw) _ _ g3) _ _ g3).alloc _
  · rw [← hsz]
    exact heap_alloc_new _ _
  · rintro a rfl e
    have := (ho.lt a.block rfl).2
    omega
  · rw [Below.heap_alloc _ _ _ (by rw [hsz]; exact lt_of_block hchn), heap_setCell_same _ _ _ _ _ _ (heap_setCell_same _ _ _ _ _ _ hchn)]
    rfl
  · rw [Below.heap_alloc _ _ _ (by rw [hsz]; exact lt_of_block hZ.pf.res), heap_setCell_other _ _ _ _ (by show w.heap.size + 2 ≠ w.heap.size + 1; omega), heap_setCell_other _ _ _ _ (by show w.heap.size + 2 ≠ w.heap.size + 1; omega)]
    exact hZ.pf.res
  · exact ((hZ.pf.bel.setCell (by show w.heap.size ≤ w.heap.size + 1; omega) _).setCell (by show w.heap.size ≤ w.heap.size + 1; omega) _).alloc (by rw [hsz]; exact hZ.pf.bel.size) _
/-- What stands behind Insert and the last stores. -/
theorem PM.done {w W w5 : World} {room r : Int} {s : Value} {H n c k K : Nat} {F : List (Int × Bool)} {m : List Int} {o3 : Option Addr} {M : List SL} {Q : List (List Int)} {srt : Bool} {t : SL} (h : PM w r s H F m c n k o3 M Q W) (he : m.length = F.length) (hM : M.length = n) (hQ : Q.length = n) (hK : K ≤ n) (hat : putAt F Q m srt = K) (hco : putCode room F Q.length m = 0)
    (ho : w5.ownsRow w.heap.size 29 1 (slV t) (n + 1) ((M.map slV).take K ++ [slV ⟨some ⟨H, 0, none⟩, F.length, F.length⟩] ++ (M.map slV).drop K)) (hg : W.grownBy w5 (Value.slice o3 n c).ownBlock) (u v x : Value) :
    PutP w room r F Q m srt (.returned (.tuple #[chV r t, .int .i64 0])) (((w5.setCell ⟨w.heap.size + 1, 1, none⟩ u).setCell ⟨w.heap.size + 1 + 1, 0, none⟩ v).setCell ⟨w.heap.size + 1 + 1, 1, none⟩ x) := by
  have hchn := obj_grown h.row h.chn (by decide) hg
  have hres := obj_grown h.row h.res (by decide) hg
  have hfit := owns_grown h.fit h.row (by decide) hg
  have hown : OwnZ w5 w.heap.size (M.zip Q) := h.own.mono fun _ _ _ hh => owns_grown hh h.row (by decide) hg
  have hz := OwnZ.put (K := K) hown (hM.trans hQ.symm) (u := ⟨some ⟨H, 0, none⟩, F.length, F.length⟩) (x := fitted F m) (by rw [fitted_len F m he]; exact hfit)
  have hs : ∀ {v0 : Value} {e : TypeId} {n : Nat} {xs : List Value}, e ≠ 27 → w5.ownsRow w.heap.size e 1 v0 n xs → (((w5.setCell ⟨w.heap.size + 1, 1, none⟩ u).setCell ⟨w.heap.size + 1 + 1, 0, none⟩ v).setCell ⟨w.heap.size + 1 + 1, 1, none⟩ x).ownsRow w.heap.size e 1 v0 n xs := fun he hh =>
    owns_set (owns_set (owns_set hh _ _ (owns_neObj hh hchn he)) _ _ (owns_neObj hh hres he)) _ _ (owns_neObj hh hres he)
  have hn : t.n = n + 1 := owns_n (o := t.o) (c := t.c) ho
  refine ⟨fun hc => absurd hco hc, fun _ => ⟨t, M.take K ++ [⟨some ⟨H, 0, none⟩, F.length, F.length⟩] ++ M.drop K, rfl, by rw [hQ]; exact hn, ?_, ?_, ?_⟩, ?_⟩
  · simp only [List.length_append, List.length_take, List.length_drop, List.length_singleton]
    omega
  · rw [hQ]
    have := hs (by decide) ho
    rw [← List.map_take, ← List.map_drop] at this
    simpa only [List.map_append, List.map_cons, List.map_nil] using this
  · unfold putQ
    rw [hat]
    exact Owns.ofZ (hz.mono fun _ _ _ hh => hs (by decide) hh)
  · refine (((h.bel.grown hg h.bel.size (fun q hq => (h.row.lt q hq).1)).setCell ?_ _).setCell ?_ _).setCell ?_ _
    all_goals (simp only []; omega)

theorem putAt_le (F : List (Int × Bool)) (Q : List (List Int)) (m : List Int) (srt : Bool) : putAt F Q m srt ≤ Q.length := by
  unfold putAt
  split
  · rename_i h
    unfold firstI at h ⊢
    split
    · rename_i j hj
      have := (List.findIdx?_eq_some_iff_getElem.1 hj).1
      simp
      omega
    · simp
  · exact Nat.le_refl _

set_option maxHeartbeats 4000000 in
set_option maxRecDepth 100000 in
theorem put_any (room r : Int) (f s t : SL) (F : List (Int × Bool)) (L : List SL) (Q : List (List Int)) (m : List Int) (srt : Bool) (w : World) (hf : f.n = F.length) (hF : FieldsAt w f.o F) (hs : s.n = L.length) (hR : QRow w s.o L) (hM : Msgs w L Q) (ht : MsgAt w t m) (he : m.length = F.length)
    (hm8 : m.length * 8 ≤ 140737488355328) (hbig : (L.length + 1) * 24 ≤ 140737488355328) (hbq : ∀ q ∈ Q, q.length * 8 ≤ 140737488355328) :
    Calls Try.prog 8 #[.agg #[.int .i64 room, slV f], chV r s, slV t, .bool srt] w (PutP w room r F Q m srt) := by
  have HF := Lib.hid hF
  have HR := Lib.hid hR
  have HM := Lib.hid hM
  have HT := Lib.hid ht.2
  have HBQ := Lib.hid hbq
  have hPF := PF.start room r f s w
  have hcode : putCode room F Q.length m = if F.any (fun t => !tyB t.1 t.2) then 42 else if room ≤ Q.length then 45 else 0 := by
    unfold putCode
    rw [if_neg (fun h => h he)]
  have HCO := Lib.hid hcode
  obtain ⟨fo, fn, fc⟩ := f
  obtain ⟨so, sn, sc⟩ := s
  obtain ⟨t0, tn, tc⟩ := t
  simp only at hf hs
  have htn : tn = F.length := ht.1.trans he
  subst hf hs htn
  have hQL : Q.length = L.length := hM.1.symm
  have HQL := Lib.hid hQL
  have hne : ((F.length : Int) != (F.length : Int)) = false := by simp
  have HPF := Lib.hid hPF
  clear hF hR hM ht hbq hPF hcode hQL
  obtain ⟨i2, hi2, hz0, hsz, hby⟩ := info_parts info2
  have HI := Lib.hid (And.intro hi2 (And.intro hz0 (And.intro hsz hby)))
  clear hi2 hz0 hsz hby
  unfold chV slV
  unfold chV slV at HPF
  simp only at HF HR HT HPF ⊢
  go_enter Try.func8, Try.ntmps8
  go_wp2_with fail
  go_loopw [27] (fun iv wr => ∃ (i : Nat), iv = .int .i64 i ∧ i ≤ F.length ∧ Hid (∀ j (hj : j < F.length), j < i → tyB F[j].1 F[j].2 = true) ∧ Hid (PF w room r ⟨fo, F.length, fc⟩ ⟨so, L.length, sc⟩ wr)) (fun i _ => F.length - (intOf i).toNat)
  case atStart => exact ⟨0, rfl, by omega, Lib.hid fun j _ h => by omega, HPF⟩
  case round =>
    obtain ⟨i, rfl, hi, HG, HP⟩ := hrel
    have hi0 : (0 : Int) ≤ i := by omega
    by_cases hlt : i < F.length
    · have hlti : (i : Int) < F.length := by omega
      obtain ⟨g, off, rfl, hg, hc⟩ : ∃ g off, fo = some ⟨g, off, none⟩ ∧ g < w.heap.size ∧ ∀ i (h : i < F.length), w.cell? ⟨g, off + i * 2, none⟩ = some (.int .i64 F[i].1) ∧ w.cell? ⟨g, off + i * 2 + 1, none⟩ = some (.bool F[i].2) := by
        rcases HF.out with h | h
        · omega
        · exact h
      obtain ⟨b, hb⟩ : ∃ b, F[i].1 = b := ⟨_, rfl⟩
      obtain ⟨sg, hsg⟩ : ∃ b, F[i].2 = b := ⟨_, rfl⟩
      have l1 : wr.cell? ⟨g, off + i * 2, none⟩ = some (.int .i64 b) := (HP.out.bel.cell hg).trans ((hc i hlt).1.trans (by rw [hb]))
      have l2 : wr.cell? ⟨g, off + i * 2 + 1, none⟩ = some (.bool sg) := (HP.out.bel.cell hg).trans ((hc i hlt).2.trans (by rw [hsg]))
      have HBS := Lib.hid (And.intro hb hsg)
      clear hb hsg hc
      go_wp2_with fail
      refine (type19 b sg _).mono ?_
      rintro e w1 ⟨rfl, hb1⟩
      have HP1 := Lib.hid (HP.out.below (((Below.refl _ wr).alloc (Nat.le_refl _) _).trans (hb1.mono (by simp))))
      obtain ⟨ty, hty⟩ : ∃ x, tyB b sg = x := ⟨_, rfl⟩
      rw [hty]
      have HTY := Lib.hid hty
      clear hb1 hty l1 l2
      cases ty
      · have q1 : w1.cell? ⟨w.heap.size + 1 + 1, 0, none⟩ = some (.int .i64 0) := (cell_of_row _ _ _ _ _ _ HP1.out.res).trans rfl
        have q2 : w1.cell? ⟨w.heap.size + 1 + 1, 1, none⟩ = some (.slice none 0 0) := (cell_of_row _ _ _ _ _ _ HP1.out.res).trans rfl
        have q3 : w1.frozen? ⟨w.heap.size + 1 + 1, 0, none⟩ = false := frozen_of_row _ _ _ _ _ HP1.out.res
        have q4 : w1.frozen? ⟨w.heap.size + 1 + 1, 1, none⟩ = false := frozen_of_row _ _ _ _ _ HP1.out.res
        have HK : Hid (putCode room F Q.length m = 42) := Lib.hid (by
          rw [HCO.out, if_pos (any_bad hlt (by rw [HBS.out.1, HBS.out.2]; exact HTY.out))])
        go_wp2_with fail
        refine bodyPost_ret (v := .tuple #[.agg #[.int .i64 0, .slice none 0 0], .int .i64 42]) (by simp [results, Try.results8, go_sem, q1, q2, q3, q4]) rfl ?_
        exact HP1.out.fail _ _ _ HK.out (by decide)
      · go_wp2_with fail
        go_roundw
        case rel => exact ⟨i + 1, by go_num, by omega, Lib.hid fun j hj hji => by
          by_cases e : j = i
          · subst e
            rw [HBS.out.1, HBS.out.2]
            exact HTY.out
          · exact HG.out j hj (by omega), HP1⟩
        case measure => simp [intOf]; omega
    · have hlti : ¬ (i : Int) < F.length := by omega
      have HNB := Lib.hid (none_bad fun j hj => HG.out j hj (by omega))
      have p1 : wr.cell? ⟨w.heap.size, 0, none⟩ = some (.int .i64 room) := (cell_of_row _ _ _ _ _ _ HP.out.shp).trans rfl
      have p2 : wr.cell? ⟨w.heap.size, 1, none⟩ = some (.slice fo F.length fc) := (cell_of_row _ _ _ _ _ _ HP.out.shp).trans rfl
      have p3 : wr.cell? ⟨w.heap.size + 1, 0, none⟩ = some (.int .i64 r) := (cell_of_row _ _ _ _ _ _ HP.out.chn).trans rfl
      have p4 : wr.cell? ⟨w.heap.size + 1, 1, none⟩ = some (.slice so L.length sc) := (cell_of_row _ _ _ _ _ _ HP.out.chn).trans rfl
      by_cases hfull : room ≤ L.length
      · have q1 : wr.cell? ⟨w.heap.size + 1 + 1, 0, none⟩ = some (.int .i64 0) := (cell_of_row _ _ _ _ _ _ HP.out.res).trans rfl
        have q2 : wr.cell? ⟨w.heap.size + 1 + 1, 1, none⟩ = some (.slice none 0 0) := (cell_of_row _ _ _ _ _ _ HP.out.res).trans rfl
        have q3 : wr.frozen? ⟨w.heap.size + 1 + 1, 0, none⟩ = false := frozen_of_row _ _ _ _ _ HP.out.res
        have q4 : wr.frozen? ⟨w.heap.size + 1 + 1, 1, none⟩ = false := frozen_of_row _ _ _ _ _ HP.out.res
        have HK : Hid (putCode room F Q.length m = 45) := Lib.hid (by
          rw [HCO.out, HNB.out, if_neg (by decide), HQL.out, if_pos hfull])
        go_wp2_with fail
        refine bodyPost_ret (v := .tuple #[.agg #[.int .i64 0, .slice none 0 0], .int .i64 45]) (by simp [results, Try.results8, go_sem, q1, q2, q3, q4]) rfl ?_
        exact HP.out.fail _ _ _ HK.out (by decide)
      · have HK : Hid (putCode room F Q.length m = 0) := Lib.hid (by
          rw [HCO.out, HNB.out, if_neg (by decide), HQL.out, if_neg hfull])
        have HH : Hid (w.heap.size ≤ wr.heap.size) := Lib.hid HP.out.bel.size
        have HL1 : Hid (F.length ≤ maxLen) := Lib.hid (by unfold maxLen; omega)
        have HL2 : Hid (i2.bytes * F.length ≤ 281474976710656) := Lib.hid (by rw [HI.out.2.2.2]; omega)
        go_wp2_with (refine wpList_make_full _ rfl _ _ 29 rfl w.heap.size 2 i2 (.int .i64 0) 1 Try.underlying29 HI.out.1 HI.out.2.1 HI.out.2.2.1 .i64 .i64 _ _ F.length rfl rfl rfl rfl HL2.out HL1.out HH.out ?_)
        intro w2 hown hgrow
        have hX := FX.start (m := m) HP.out hgrow hown
        obtain ⟨H, hH⟩ : ∃ H, wr.heap.size = H := ⟨_, rfl⟩
        obtain ⟨b12, hb12⟩ : ∃ b, w2.heap.size = b := ⟨_, rfl⟩
        rw [hH, hb12] at hX
        rw [hH]
        have HX := Lib.hid hX
        clear hown hgrow hX hH p1 p2 p3 p4
        go_wp2_with (rw [hb12])
        clear hb12 hi hlt hlti hi0
        go_loopw [48] (fun iv wr => ∃ (i : Nat), iv = .int .i64 i ∧ i ≤ F.length ∧ Hid (FX w room r ⟨fo, F.length, fc⟩ ⟨so, L.length, sc⟩ H b12 F m i wr)) (fun i _ => F.length - (intOf i).toNat)
        case atStart => exact ⟨0, rfl, by omega, HX⟩
        case round =>
          rename_i wr0
          obtain ⟨i, rfl, hi, HY⟩ := hrel
          have hi0 : (0 : Int) ≤ i := by omega
          by_cases hlt : i < F.length
          · have hlti : (i : Int) < F.length := by omega
            have hlm : i < m.length := by omega
            obtain ⟨g, off, rfl, hg, hc⟩ : ∃ g off, fo = some ⟨g, off, none⟩ ∧ g < w.heap.size ∧ ∀ i (h : i < F.length), w.cell? ⟨g, off + i * 2, none⟩ = some (.int .i64 F[i].1) ∧ w.cell? ⟨g, off + i * 2 + 1, none⟩ = some (.bool F[i].2) := by
              rcases HF.out with h | h
              · omega
              · exact h
            obtain ⟨g2, off2, rfl, hg2, hc2⟩ : ∃ g off, t0 = some ⟨g, off, none⟩ ∧ Ints w g off m := by
              rcases HT.out with h | h
              · omega
              · exact h
            obtain ⟨b, hb⟩ : ∃ b, F[i].1 = b := ⟨_, rfl⟩
            obtain ⟨sg, hsg⟩ : ∃ b, F[i].2 = b := ⟨_, rfl⟩
            obtain ⟨v, hv⟩ : ∃ v, m[i] = v := ⟨_, rfl⟩
            have m0 : wr.cell? ⟨g2, off2 + i, none⟩ = some (.int .i64 v) := (HY.out.pf.bel.cell hg2).trans ((hc2 i hlm).trans (by rw [hv]))
            have l1 : wr.drew.cell? ⟨g, off + i * 2, none⟩ = some (.int .i64 b) := (HY.out.pf.bel.cell hg).trans ((hc i hlt).1.trans (by rw [hb]))
            have l2 : wr.drew.cell? ⟨g, off + i * 2 + 1, none⟩ = some (.bool sg) := (HY.out.pf.bel.cell hg).trans ((hc i hlt).2.trans (by rw [hsg]))
            have l3 : wr.drew.cell? ⟨b12, 0, none⟩ = some (.slice (some ⟨H, 0, none⟩) F.length F.length) := (cell_of_row _ _ _ _ _ _ HY.out.bx).trans rfl
            have l4 : wr.drew.cell? ⟨w.heap.size, 1, none⟩ = some (.slice (some ⟨g, off, none⟩) F.length fc) := (cell_of_row _ _ _ _ _ _ HY.out.pf.shp).trans rfl
            have hrow := HY.out.row
            have l5 : ∃ u, wr.drew.cell? ⟨H, i, none⟩ = some (.int .i64 u) := by
              refine ⟨(fl F m i)[i]'(by rw [fl_len F m he hi]; exact hlt), (hrow.cellAt i (by omega)).trans ?_⟩
              unfold intsV
              rw [List.getElem?_map, List.getElem?_eq_getElem (by rw [fl_len F m he hi]; exact hlt)]
              rfl
            obtain ⟨u, l5⟩ := l5
            have HBS := Lib.hid (And.intro hb (And.intro hsg hv))
            have HFR := Lib.hid (hrow.frozenAt i)
            have HB12 := Lib.hid (lt_of_block HY.out.bx)
            have HBS0 := Lib.hid (lt_of_block HY.out.pf.shp)
            have HG1 : Hid (g < wr.heap.size) := Lib.hid (Nat.lt_of_lt_of_le hg HY.out.pf.bel.size)
            have HG5 : Hid (H < wr.heap.size) := Lib.hid ((hrow.lt H rfl).2)
            clear hb hsg hv hc hc2 hrow
            go_wp2_with fail
            go_region_law
              (first
                | (go_simp
                   go_at_call 20
                   refine (fit_any b v sg wr.drew).mono ?_
                   rintro e w1 ⟨rfl, hb1⟩
                   have HB1 := Lib.hid hb1
                   have k1 : w1.cell? ⟨g, off + i * 2, none⟩ = some (.int .i64 b) := (hb1.cell (by exact HG1.out)).trans l1
                   have k2 : w1.cell? ⟨g, off + i * 2 + 1, none⟩ = some (.bool sg) := (hb1.cell (by exact HG1.out)).trans l2
                   have k3 : w1.cell? ⟨b12, 0, none⟩ = some (.slice (some ⟨H, 0, none⟩) F.length F.length) := (hb1.cell (by exact HB12.out)).trans l3
                   have k4 : w1.cell? ⟨w.heap.size, 1, none⟩ = some (.slice (some ⟨g, off, none⟩) F.length fc) := (hb1.cell (by exact HBS0.out)).trans l4
                   have k5 : w1.cell? ⟨H, i, none⟩ = some (.int .i64 u) := (hb1.cell (by exact HG5.out)).trans l5
                   have k6 : w1.frozen? ⟨H, i, none⟩ = false := (hb1.frozen (by exact HG5.out)).trans HFR.out
                   clear hb1))
            all_goals (
              have HST : Hid (FX w room r ⟨some ⟨g, off, none⟩, F.length, fc⟩ ⟨so, L.length, sc⟩ H b12 F m (i + 1) (w1.setCell ⟨H, i, none⟩ (.int .i64 (fitI b sg v)))) := Lib.hid (by
                have := HY.out.step he hlt ⟨HB1.out.os, HB1.out.tape, HB1.out.output, HB1.out.size, HB1.out.block⟩
                rw [HBS.out.1, HBS.out.2.1, HBS.out.2.2] at this
                exact this)
              clear l1 l2 l3 l4 l5 k1 k2 k3 k4 k5 k6 m0
              simp only [Exit.inBlock, Exit.then]
              go_wp2_with fail
              go_roundw
              case rel => exact ⟨i + 1, by go_num, by omega, HST⟩
              case measure => simp [intOf]; omega)
          · have hlti : ¬ (i : Int) < F.length := by omega
            have hin : i = F.length := by omega
            subst hin
            have r1 : wr.cell? ⟨w.heap.size + 1, 0, none⟩ = some (.int .i64 r) := (cell_of_row _ _ _ _ _ _ HY.out.pf.chn).trans rfl
            have r2 : wr.cell? ⟨w.heap.size + 1, 1, none⟩ = some (.slice so L.length sc) := (cell_of_row _ _ _ _ _ _ HY.out.pf.chn).trans rfl
            have r3 : wr.cell? ⟨b12, 0, none⟩ = some (.slice (some ⟨H, 0, none⟩) F.length F.length) := (cell_of_row _ _ _ _ _ _ HY.out.bx).trans rfl
            have hmsg : MsgAt wr ⟨some ⟨H, 0, none⟩, F.length, F.length⟩ (fitted F m) := by
              apply owns_msg (B := w.heap.size)
              have := HY.out.row
              rw [fl_end F m he] at this
              rw [fitted_len F m he]
              exact this
            have HMS := Lib.hid hmsg
            clear hmsg hlt
            cases srt
            · have HAT : Hid (putAt F Q m false = L.length) := Lib.hid (by unfold putAt; rw [if_neg (by simp), HQL.out])
              go_wp2_with fail
              refine (copied23 r ⟨so, L.length, sc⟩ L Q wr rfl (HR.out.below HY.out.pf.bel) (HM.out.below HY.out.pf.bel) (by omega) HBQ.out).mono ?_
              rintro e w3 ⟨⟨o3, n3, c3⟩, M, rfl, hn3, hML, ho3, hown, hbel⟩
              simp only at hn3
              subst hn3
              have HZ := Lib.hid (HY.out.below hbel)
              have HPM := Lib.hid (PM.start he HZ.out ho3 HY.out.pf.bel.size (by rw [hML]; exact hown) (.slice o3 L.length c3))
              have HML := Lib.hid hML
              have s1 : w3.cell? ⟨w.heap.size + 1, 0, none⟩ = some (.int .i64 r) := (cell_of_row _ _ _ _ _ _ HZ.out.pf.chn).trans rfl
              have s2 : w3.cell? ⟨w.heap.size + 1, 1, none⟩ = some (.slice so L.length sc) := (cell_of_row _ _ _ _ _ _ HZ.out.pf.chn).trans rfl
              have s3 : w3.frozen? ⟨w.heap.size + 1, 0, none⟩ = false := frozen_of_row _ _ _ _ _ HZ.out.pf.chn
              have s4 : w3.frozen? ⟨w.heap.size + 1, 1, none⟩ = false := frozen_of_row _ _ _ _ _ HZ.out.pf.chn
              have s5 : w3.cell? ⟨b12, 0, none⟩ = some (.slice (some ⟨H, 0, none⟩) F.length F.length) := (cell_of_row _ _ _ _ _ _ HZ.out.bx).trans rfl
              have hb12 : ¬ (b12 = w.heap.size + 1) := by
                intro e
                have h1 := HZ.out.bx
                have h2 := HZ.out.pf.chn
                rw [e, h2] at h1
                injection h1 with h1
                injection h1 with _ h1
                exact absurd h1 (by decide)
              clear ho3 hown hbel hML r1 r2 r3
              simp only [chV, slV]
              go_wp2_with fail
              have HIN := Lib.hid (insert24 w.heap.size w3.heap.size o3 L.length c3 L.length 29 (M.map slV) ⟨some ⟨H, 0, none⟩, F.length, F.length⟩ _ HPM.out.row (slV_one M) (Nat.le_refl _) HPM.out.arg HPM.out.off HPM.out.bel.size hbig)
              refine HIN.out.mono ?_
              rintro e w5 ⟨⟨t1, tn, tc1⟩, rfl, ho5, hg5⟩
              have HD := fun u v x => HPM.out.done (t := ⟨t1, tn, tc1⟩) he HML.out HQL.out (Nat.le_refl _) HAT.out HK.out ho5 hg5 u v x
              have HDD := Lib.hid HD
              have hc1 := obj_grown HPM.out.row HPM.out.chn (by decide) hg5
              have hc2 := obj_grown HPM.out.row HPM.out.res (by decide) hg5
              have v1 : w5.cell? ⟨w.heap.size + 1, 0, none⟩ = some (.int .i64 r) := (cell_of_row _ _ _ _ _ _ hc1).trans rfl
              have v2 : w5.cell? ⟨w.heap.size + 1, 1, none⟩ = some (.slice o3 L.length c3) := (cell_of_row _ _ _ _ _ _ hc1).trans rfl
              have v3 : w5.frozen? ⟨w.heap.size + 1, 1, none⟩ = false := frozen_of_row _ _ _ _ _ hc1
              have v4 : w5.cell? ⟨w.heap.size + 1 + 1, 0, none⟩ = some (.int .i64 0) := (cell_of_row _ _ _ _ _ _ hc2).trans rfl
              have v5 : w5.cell? ⟨w.heap.size + 1 + 1, 1, none⟩ = some (.slice none 0 0) := (cell_of_row _ _ _ _ _ _ hc2).trans rfl
              have v6 : w5.frozen? ⟨w.heap.size + 1 + 1, 0, none⟩ = false := frozen_of_row _ _ _ _ _ hc2
              have v7 : w5.frozen? ⟨w.heap.size + 1 + 1, 1, none⟩ = false := frozen_of_row _ _ _ _ _ hc2
              clear HD ho5 hg5 hc1 hc2 s1 s2 s3 s4 s5
              simp only [slV]
              go_wp2_with fail
              refine bodyPost_ret (v := .tuple #[.agg #[.int .i64 r, .slice t1 tn tc1], .int .i64 0]) (by simp [results, Try.results8, go_sem, v4, v5, v6, v7]) rfl ?_
              exact HDD.out _ _ _
            · have HIX := Lib.hid (index21 b12 ⟨some ⟨H, 0, none⟩, F.length, F.length⟩ (fitted F m) so sc L Q wr r3 HMS.out (HR.out.below HY.out.pf.bel) (HM.out.below HY.out.pf.bel) (by omega) (by rw [fitted_len F m he]; omega) (fun q hq => by have := HBQ.out q hq; omega))
              go_wp2_with fail
              refine HIX.out.mono ?_
              rintro e w1 ⟨rfl, q', rfl⟩
              have HYW := Lib.hid (HY.out.below (bdrew (Below.refl _ wr) q'))
              obtain ⟨W, hW⟩ : ∃ W, wr.drewN q' = W := ⟨_, rfl⟩
              have r4 : (wr.drewN q').cell? ⟨w.heap.size + 1, 0, none⟩ = some (.int .i64 r) := r1
              have r5 : (wr.drewN q').cell? ⟨w.heap.size + 1, 1, none⟩ = some (.slice so L.length sc) := r2
              have r6 : (wr.drewN q').cell? ⟨b12, 0, none⟩ = some (.slice (some ⟨H, 0, none⟩) F.length F.length) := r3
              rw [hW] at HYW r4 r5 r6 ⊢
              clear hW r1 r2 r3
              by_cases hf : 0 ≤ firstI (fitted F m) Q
              · obtain ⟨K, hK⟩ : ∃ K : Nat, firstI (fitted F m) Q = K := ⟨(firstI (fitted F m) Q).toNat, by omega⟩
                rw [hK] at hf ⊢
                have HAT : Hid (putAt F Q m true = K) := Lib.hid (by unfold putAt; rw [if_pos ⟨rfl, by omega⟩, hK]; rfl)
                clear hK
                have HKL : Hid (K ≤ L.length) := Lib.hid (by rw [← HAT.out, ← HQL.out]; exact putAt_le F Q m true)
                go_wp2_with fail
                refine (copied23 r ⟨so, L.length, sc⟩ L Q W rfl (HR.out.below HYW.out.pf.bel) (HM.out.below HYW.out.pf.bel) (by omega) HBQ.out).mono ?_
                rintro e w3 ⟨⟨o3, n3, c3⟩, M, rfl, hn3, hML, ho3, hown, hbel⟩
                simp only at hn3
                subst hn3
                have HZ := Lib.hid (HYW.out.below hbel)
                have HPM := Lib.hid (PM.start he HZ.out ho3 HYW.out.pf.bel.size (by rw [hML]; exact hown) (.slice o3 L.length c3))
                have HML := Lib.hid hML
                have s1 : w3.cell? ⟨w.heap.size + 1, 0, none⟩ = some (.int .i64 r) := (cell_of_row _ _ _ _ _ _ HZ.out.pf.chn).trans rfl
                have s2 : w3.cell? ⟨w.heap.size + 1, 1, none⟩ = some (.slice so L.length sc) := (cell_of_row _ _ _ _ _ _ HZ.out.pf.chn).trans rfl
                have s3 : w3.frozen? ⟨w.heap.size + 1, 0, none⟩ = false := frozen_of_row _ _ _ _ _ HZ.out.pf.chn
                have s4 : w3.frozen? ⟨w.heap.size + 1, 1, none⟩ = false := frozen_of_row _ _ _ _ _ HZ.out.pf.chn
                have s5 : w3.cell? ⟨b12, 0, none⟩ = some (.slice (some ⟨H, 0, none⟩) F.length F.length) := (cell_of_row _ _ _ _ _ _ HZ.out.bx).trans rfl
                have hb12 : ¬ (b12 = w.heap.size + 1) := by
                  intro e
                  have h1 := HZ.out.bx
                  have h2 := HZ.out.pf.chn
                  rw [e, h2] at h1
                  injection h1 with h1
                  injection h1 with _ h1
                  exact absurd h1 (by decide)
                clear ho3 hown hbel hML r4 r5 r6
                simp only [chV, slV]
                go_wp2_with fail
                have HIN := Lib.hid (insert24 w.heap.size w3.heap.size o3 L.length c3 K 29 (M.map slV) ⟨some ⟨H, 0, none⟩, F.length, F.length⟩ _ HPM.out.row (slV_one M) HKL.out HPM.out.arg HPM.out.off HPM.out.bel.size hbig)
                refine HIN.out.mono ?_
                rintro e w5 ⟨⟨t1, tn, tc1⟩, rfl, ho5, hg5⟩
                have HD := fun u v x => HPM.out.done (t := ⟨t1, tn, tc1⟩) he HML.out HQL.out HKL.out HAT.out HK.out ho5 hg5 u v x
                have HDD := Lib.hid HD
                have hc1 := obj_grown HPM.out.row HPM.out.chn (by decide) hg5
                have hc2 := obj_grown HPM.out.row HPM.out.res (by decide) hg5
                have v1 : w5.cell? ⟨w.heap.size + 1, 0, none⟩ = some (.int .i64 r) := (cell_of_row _ _ _ _ _ _ hc1).trans rfl
                have v2 : w5.cell? ⟨w.heap.size + 1, 1, none⟩ = some (.slice o3 L.length c3) := (cell_of_row _ _ _ _ _ _ hc1).trans rfl
                have v3 : w5.frozen? ⟨w.heap.size + 1, 1, none⟩ = false := frozen_of_row _ _ _ _ _ hc1
                have v4 : w5.cell? ⟨w.heap.size + 1 + 1, 0, none⟩ = some (.int .i64 0) := (cell_of_row _ _ _ _ _ _ hc2).trans rfl
                have v5 : w5.cell? ⟨w.heap.size + 1 + 1, 1, none⟩ = some (.slice none 0 0) := (cell_of_row _ _ _ _ _ _ hc2).trans rfl
                have v6 : w5.frozen? ⟨w.heap.size + 1 + 1, 0, none⟩ = false := frozen_of_row _ _ _ _ _ hc2
                have v7 : w5.frozen? ⟨w.heap.size + 1 + 1, 1, none⟩ = false := frozen_of_row _ _ _ _ _ hc2
                clear HD ho5 hg5 hc1 hc2 s1 s2 s3 s4 s5
                simp only [slV]
                go_wp2_with fail
                refine bodyPost_ret (v := .tuple #[.agg #[.int .i64 r, .slice t1 tn tc1], .int .i64 0]) (by simp [results, Try.results8, go_sem, v4, v5, v6, v7]) rfl ?_
                exact HDD.out _ _ _
              · have HAT : Hid (putAt F Q m true = L.length) := Lib.hid (by unfold putAt; rw [if_neg (fun h => hf h.2), HQL.out])
                go_wp2_with fail
                refine (copied23 r ⟨so, L.length, sc⟩ L Q W rfl (HR.out.below HYW.out.pf.bel) (HM.out.below HYW.out.pf.bel) (by omega) HBQ.out).mono ?_
                rintro e w3 ⟨⟨o3, n3, c3⟩, M, rfl, hn3, hML, ho3, hown, hbel⟩
                simp only at hn3
                subst hn3
                have HZ := Lib.hid (HYW.out.below hbel)
                have HPM := Lib.hid (PM.start he HZ.out ho3 HYW.out.pf.bel.size (by rw [hML]; exact hown) (.slice o3 L.length c3))
                have HML := Lib.hid hML
                have s1 : w3.cell? ⟨w.heap.size + 1, 0, none⟩ = some (.int .i64 r) := (cell_of_row _ _ _ _ _ _ HZ.out.pf.chn).trans rfl
                have s2 : w3.cell? ⟨w.heap.size + 1, 1, none⟩ = some (.slice so L.length sc) := (cell_of_row _ _ _ _ _ _ HZ.out.pf.chn).trans rfl
                have s3 : w3.frozen? ⟨w.heap.size + 1, 0, none⟩ = false := frozen_of_row _ _ _ _ _ HZ.out.pf.chn
                have s4 : w3.frozen? ⟨w.heap.size + 1, 1, none⟩ = false := frozen_of_row _ _ _ _ _ HZ.out.pf.chn
                have s5 : w3.cell? ⟨b12, 0, none⟩ = some (.slice (some ⟨H, 0, none⟩) F.length F.length) := (cell_of_row _ _ _ _ _ _ HZ.out.bx).trans rfl
                have hb12 : ¬ (b12 = w.heap.size + 1) := by
                  intro e
                  have h1 := HZ.out.bx
                  have h2 := HZ.out.pf.chn
                  rw [e, h2] at h1
                  injection h1 with h1
                  injection h1 with _ h1
                  exact absurd h1 (by decide)
                clear ho3 hown hbel hML r4 r5 r6
                simp only [chV, slV]
                go_wp2_with fail
                have HIN := Lib.hid (insert24 w.heap.size w3.heap.size o3 L.length c3 L.length 29 (M.map slV) ⟨some ⟨H, 0, none⟩, F.length, F.length⟩ _ HPM.out.row (slV_one M) (Nat.le_refl _) HPM.out.arg HPM.out.off HPM.out.bel.size hbig)
                refine HIN.out.mono ?_
                rintro e w5 ⟨⟨t1, tn, tc1⟩, rfl, ho5, hg5⟩
                have HD := fun u v x => HPM.out.done (t := ⟨t1, tn, tc1⟩) he HML.out HQL.out (Nat.le_refl _) HAT.out HK.out ho5 hg5 u v x
                have HDD := Lib.hid HD
                have hc1 := obj_grown HPM.out.row HPM.out.chn (by decide) hg5
                have hc2 := obj_grown HPM.out.row HPM.out.res (by decide) hg5
                have v1 : w5.cell? ⟨w.heap.size + 1, 0, none⟩ = some (.int .i64 r) := (cell_of_row _ _ _ _ _ _ hc1).trans rfl
                have v2 : w5.cell? ⟨w.heap.size + 1, 1, none⟩ = some (.slice o3 L.length c3) := (cell_of_row _ _ _ _ _ _ hc1).trans rfl
                have v3 : w5.frozen? ⟨w.heap.size + 1, 1, none⟩ = false := frozen_of_row _ _ _ _ _ hc1
                have v4 : w5.cell? ⟨w.heap.size + 1 + 1, 0, none⟩ = some (.int .i64 0) := (cell_of_row _ _ _ _ _ _ hc2).trans rfl
                have v5 : w5.cell? ⟨w.heap.size + 1 + 1, 1, none⟩ = some (.slice none 0 0) := (cell_of_row _ _ _ _ _ _ hc2).trans rfl
                have v6 : w5.frozen? ⟨w.heap.size + 1 + 1, 0, none⟩ = false := frozen_of_row _ _ _ _ _ hc2
                have v7 : w5.frozen? ⟨w.heap.size + 1 + 1, 1, none⟩ = false := frozen_of_row _ _ _ _ _ hc2
                clear HD ho5 hg5 hc1 hc2 s1 s2 s3 s4 s5
                simp only [slV]
                go_wp2_with fail
                refine bodyPost_ret (v := .tuple #[.agg #[.int .i64 r, .slice t1 tn tc1], .int .i64 0]) (by simp [results, Try.results8, go_sem, v4, v5, v6, v7]) rfl ?_
                exact HDD.out _ _ _
end Go.Proofs.Ytfcoljioojidnaa
