/- A channel of one's own is written over: nothing below it turns. -/
import Derived.Test.YtfcoljioojidnaaQueues
namespace Go.Proofs.Ytfcoljioojidnaa
open Go.ChangeShapes Go.WideShapes Go.ChangeAt Go.RowKit
set_option linter.unusedVariables false
set_option linter.unusedSimpArgs false

/-- A queue of one's own that is being written over: the headers from i on are as they were. -/
structure SP (B : Nat) (t : SL) (M : List SL) (i : Nat) (W : World) : Prop where
  row : ∃ xs, W.ownsRow B 29 1 (slV t) M.length xs ∧ ∀ j (h : j < M.length), i ≤ j → xs[j]? = some (slV M[j])
  msg : ∀ j (h : j < M.length), i ≤ j → ∃ n xs, W.ownsRow B 2 1 (slV M[j]) n xs ∧ ∀ v ∈ xs, ∃ q, v = .int .i64 q
theorem SP.below {B : Nat} {t : SL} {M : List SL} {i : Nat} {W W' : World} (h : SP B t M i W) (hb : Below W.heap.size W W') : SP B t M i W' := by
  obtain ⟨xs, h1, h2⟩ := h.row
  refine ⟨⟨xs, owns_below h1 hb, h2⟩, fun j hj hi => ?_⟩
  obtain ⟨n, ys, h3, h4⟩ := h.msg j hj hi
  exact ⟨n, ys, owns_below h3 hb, h4⟩
theorem owns_form {w : World} {B n : Nat} {e : TypeId} {s : SL} {xs : List Value} {g : Nat} (h : w.ownsRow B e 1 (slV s) n xs) (hg : (slV s).ownBlock = some g) : s.o = some ⟨g, 0, none⟩ ∧ s.n = n := by
  obtain ⟨o, k, c⟩ := s
  rcases h.2 with ⟨e, hn⟩ | ⟨g', cap, cur, e, _⟩
  · rw [e] at hg
    cases hg
  · unfold slV at e
    injection e with e1 e2 e3
    simp only at e1 e2
    subst e1 e2
    unfold slV at hg
    simp only [Value.ownBlock, Option.map_some, Option.some.injEq] at hg
    subst hg
    exact ⟨rfl, rfl⟩
/-- A number is written into a message's row. -/
theorem SP.num {B : Nat} {t : SL} {M : List SL} {i g k n : Nat} {s : SL} {zs : List Value} {W : World} (h : SP B t M i W) (hs : W.ownsRow B 2 1 (slV s) n zs) (hg : (slV s).ownBlock = some g) (q : Int) : SP B t M i (W.setCell ⟨g, k, none⟩ (.int .i64 q)) := by
  obtain ⟨xs, h1, h2⟩ := h.row
  refine ⟨⟨xs, owns_set h1 _ _ (owns_ne h1 hs (by decide) hg), h2⟩, fun j hj hi => ?_⟩
  obtain ⟨m, ys, h3, h4⟩ := h.msg j hj hi
  by_cases e : (slV M[j]).ownBlock = some g
  · obtain ⟨e1, e2⟩ := owns_form h3 e
    have hv : slV M[j] = .slice (some ⟨g, 0, none⟩) m M[j].c := by unfold slV; rw [e1, e2]
    rw [hv] at h3 ⊢
    refine ⟨m, ys.set k (.int .i64 q), (h3.stored k _).1, fun v hv => ?_⟩
    rcases List.mem_or_eq_of_mem_set hv with hv | rfl
    · exact h4 v hv
    · exact ⟨q, rfl⟩
  · exact ⟨m, ys, owns_set h3 _ _ e, h4⟩
/-- A header is written over. -/
theorem SP.nil {B : Nat} {t : SL} {M : List SL} {i g : Nat} {W : World} (h : SP B t M i W) (hi : i < M.length) (hg : t.o = some ⟨g, 0, none⟩) (v : Value) : SP B t M (i + 1) (W.setCell ⟨g, i, none⟩ v) := by
  obtain ⟨xs, h1, h2⟩ := h.row
  have hn := owns_n h1
  have hv : slV t = .slice (some ⟨g, 0, none⟩) M.length t.c := by unfold slV; rw [hg, hn]
  have hgb : (slV t).ownBlock = some g := by rw [hv]; rfl
  refine ⟨⟨xs.set i v, ?_, fun j hj hij => ?_⟩, fun j hj hij => ?_⟩
  · have h1' := h1
    rw [hv] at h1' ⊢
    exact (h1'.stored i v).1
  · rw [List.getElem?_set_ne (by omega)]
    exact h2 j hj (by omega)
  · obtain ⟨m, ys, h3, h4⟩ := h.msg j hj (by omega)
    exact ⟨m, ys, owns_set h3 _ _ (owns_ne h3 h1 (by decide) hgb), h4⟩
theorem SP.ofOwns {B : Nat} {t : SL} {M : List SL} {Q : List (List Int)} {W : World} (hM : M.length = Q.length) (ho : W.ownsRow B 29 1 (slV t) Q.length (M.map slV)) (hw : Owns W B M Q Q.length) : SP B t M 0 W := by
  refine ⟨⟨M.map slV, hM ▸ ho, fun j hj _ => ?_⟩, fun j hj _ => ⟨_, _, hw j hj (hM ▸ hj) (hM ▸ hj), fun v hv => ?_⟩⟩
  · rw [List.getElem?_map, List.getElem?_eq_getElem hj]
    rfl
  · obtain ⟨q, _, rfl⟩ := List.mem_map.1 hv
    exact ⟨q, rfl⟩
structure SX (w : World) (B : Nat) (r : Int) (t : SL) (M : List SL) (i : Nat) (W : World) : Prop where
  sp : SP B t M i W
  box : W.heap[w.heap.size]? = some (.cells #[.int .i64 r, slV t] 27 (0, 0))
  bel : Below B w W
theorem SX.num {w W : World} {B : Nat} {r : Int} {t : SL} {M : List SL} {i g k n : Nat} {s : SL} {zs : List Value} (h : SX w B r t M i W) (hs : W.ownsRow B 2 1 (slV s) n zs) (hg : (slV s).ownBlock = some g) (q : Int) : SX w B r t M i (W.setCell ⟨g, k, none⟩ (.int .i64 q)) := by
  refine ⟨h.sp.num hs hg q, ?_, h.bel.setCell (hs.lt g hg).1 _⟩
  rw [heap_setCell_other _ _ _ _ (by exact fun e => owns_neObj hs h.box (by decide) (by rw [hg, e]))]
  exact h.box
theorem SX.nil {w W : World} {B : Nat} {r : Int} {t : SL} {M : List SL} {i g : Nat} (h : SX w B r t M i W) (hi : i < M.length) (hg : t.o = some ⟨g, 0, none⟩) (v : Value) : SX w B r t M (i + 1) (W.setCell ⟨g, i, none⟩ v) := by
  obtain ⟨xs, h1, h2⟩ := h.sp.row
  have hgb : (slV t).ownBlock = some g := by unfold slV; rw [hg]; rfl
  refine ⟨h.sp.nil hi hg v, ?_, h.bel.setCell (h1.lt g hgb).1 _⟩
  rw [heap_setCell_other _ _ _ _ (by exact fun e => owns_neObj h1 h.box (by decide) (by rw [hgb, e]))]
  exact h.box

set_option maxHeartbeats 4000000 in
set_option maxRecDepth 100000 in
theorem spoil11 (r : Int) (t : SL) (M : List SL) (B : Nat) (w : World) (h : SP B t M 0 w) (hB : B ≤ w.heap.size) (hl : M.length ≤ 9223372036854775806) (hl2 : ∀ s ∈ M, s.n ≤ 9223372036854775806) :
    Calls Try.prog 11 #[chV r t] w fun e w' => e = .returned (.tuple #[]) ∧ Below B w w' := by
  have H0 := Lib.hid h
  have HL2 := Lib.hid hl2
  have hn : t.n = M.length := by obtain ⟨xs, h1, _⟩ := h.row; exact owns_n h1
  have HT := Lib.hid (fun g (hg : (slV t).ownBlock = some g) => by obtain ⟨xs, h1, _⟩ := h.row; exact (owns_form h1 hg).1)
  obtain ⟨to, tn, tc⟩ := t
  simp only at hn
  subst hn
  clear h hl2
  unfold chV slV
  simp only
  go_enter Try.func11, Try.ntmps11
  go_wp2_with fail
  have HX : Hid (SX w B r ⟨to, M.length, tc⟩ M 0 (w.alloc (Obj.cells #[.int .i64 r, .slice to M.length tc] 27))) :=
    Lib.hid ⟨H0.out.below ((Below.refl _ w).alloc (Nat.le_refl _) _), heap_alloc_new w _, ((Below.refl B w).alloc hB _)⟩
  go_loopw [2] (fun iv wr => ∃ (i : Nat), iv = .int .i64 i ∧ i ≤ M.length ∧ Hid (SX w B r ⟨to, M.length, tc⟩ M i wr)) (fun i _ => M.length - (intOf i).toNat)
  case atStart => exact ⟨0, rfl, by omega, HX⟩
  case round =>
    obtain ⟨i, rfl, hi, HI⟩ := hrel
    have hi0 : (0 : Int) ≤ i := by omega
    have b1 : wr.cell? ⟨w.heap.size, 1, none⟩ = some (.slice to M.length tc) := (cell_of_row _ _ _ _ _ _ HI.out.box).trans rfl
    by_cases hlt : i < M.length
    · have hlti : (i : Int) < M.length := by omega
      obtain ⟨xs, hx1, hx2⟩ := HI.out.sp.row
      obtain ⟨g, c, hg⟩ := owns_form1 hx1 (by omega)
      injection hg with e1 e2 e3
      subst e1 e3
      clear e2 hx1 hx2
      obtain ⟨⟨o2, n2, c2⟩, hs⟩ : ∃ s, M[i] = s := ⟨_, rfl⟩
      have hn2 : n2 ≤ 9223372036854775806 := by have := HL2.out _ (List.getElem_mem hlt); rw [hs] at this; exact this
      have HS := Lib.hid hs
      have HHD : Hid (∀ W, SX w B r ⟨some ⟨g, 0, none⟩, M.length, tc⟩ M i W → W.cell? ⟨w.heap.size, 1, none⟩ = some (.slice (some ⟨g, 0, none⟩) M.length tc) ∧ W.cell? ⟨g, i, none⟩ = some (.slice o2 n2 c2) ∧ W.frozen? ⟨g, i, none⟩ = false ∧ ∃ ys, W.ownsRow B 2 1 (slV ⟨o2, n2, c2⟩) n2 ys ∧ ∀ v ∈ ys, ∃ q, v = .int .i64 q) := Lib.hid fun W h => by
        obtain ⟨xs, h1, h2⟩ := h.sp.row
        refine ⟨(cell_of_row _ _ _ _ _ _ h.box).trans rfl, ?_, h1.frozenAt i, ?_⟩
        · refine (World.ownsRow.cellAt h1 i (by show i < M.length * 1; omega)).trans ?_
          rw [h2 i hlt (Nat.le_refl _), hs]
          rfl
        · obtain ⟨n, ys, h3, h4⟩ := h.sp.msg i hlt (Nat.le_refl _)
          rw [hs] at h3
          obtain rfl := owns_n h3
          exact ⟨ys, h3, h4⟩
      clear hs
      go_wp2_with fail
      clear b1
      go_loopw [3] (fun kv w2 => ∃ (k : Nat), kv = .int .i64 k ∧ k ≤ n2 ∧ Hid (SX w B r ⟨some ⟨g, 0, none⟩, M.length, tc⟩ M i w2)) (fun k _ => n2 - (intOf k).toNat)
      case atStart => exact ⟨0, rfl, by omega, HI⟩
      case round =>
        rename_i w2
        obtain ⟨k, rfl, hk, HJ⟩ := hrel
        have hk0 : (0 : Int) ≤ k := by omega
        obtain ⟨b1, b2, b3, ys, hy, hyi⟩ := HHD.out _ HJ.out
        by_cases hkt : k < n2
        · have hkti : (k : Int) < n2 := by omega
          obtain ⟨g2, c3, hg2⟩ := owns_form1 hy (by omega)
          injection hg2 with e1 e2 e3
          subst e1 e3
          clear e2
          have hyl : ys.length = n2 := by simpa using hy.1
          obtain ⟨q, hq⟩ := hyi _ (List.getElem_mem (by omega : k < ys.length))
          have b4 := (World.ownsRow.cellAt hy k (by show k < n2 * 1; omega)).trans (by rw [List.getElem?_eq_getElem (by omega), hq])
          have b5 := hy.frozenAt k
          have HK := Lib.hid (HJ.out.num hy (k := k) (g := g2) rfl (-9))
          clear hy hyi hq hyl
          go_wp2_with fail
          go_roundw
          case rel => exact ⟨k + 1, by go_num, by omega, HK⟩
          case measure => simp [intOf]; omega
        · have hkti : ¬ (k : Int) < n2 := by omega
          have HK := Lib.hid (HJ.out.nil hlt rfl (.slice none 0 0))
          clear hy hyi
          go_wp2_with fail
          go_roundw
          case rel => exact ⟨i + 1, by go_num, by omega, HK⟩
          case measure => simp [intOf]; omega
    · have hlti : ¬ (i : Int) < M.length := by omega
      go_wp2_with fail
      refine bodyPost_end (v := .tuple #[]) (by simp [results, Try.results11, go_sem]) rfl ?_
      exact ⟨rfl, HI.out.bel⟩
end Go.Proofs.Ytfcoljioojidnaa
