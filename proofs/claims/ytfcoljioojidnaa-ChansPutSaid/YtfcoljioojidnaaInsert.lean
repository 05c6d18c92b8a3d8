/- A message put into the row at a place. -/
import Derived.Test.YtfcoljioojidnaaCopied
import Derived.Shelf.Spec.SlicesInsertGrow
namespace Go.Proofs.Ytfcoljioojidnaa
open Go.ChangeShapes Go.WideShapes Go.ChangeAt Go.RowKit
set_option linter.unusedVariables false
set_option linter.unusedSimpArgs false

set_option maxHeartbeats 4000000 in
set_option maxRecDepth 100000 in
/-- Behind all. -/
theorem insert_end (B k : Nat) (o : Option Addr) (n c : Nat) (xs : List Value) (u : SL) (w : World) (h : w.ownsRow B 29 1 (.slice o n c) n xs) (hk : w.cell? ⟨k, 0, none⟩ = some (slV u)) (hB : B ≤ w.heap.size) (hbig : (n + 1) * 24 ≤ 140737488355328) :
    Calls Try.prog 24 #[.slice o n c, .int .i64 n, .slice (some ⟨k, 0, none⟩) 1 1] w fun e w' => ∃ t, e = .returned (slV t) ∧ w'.ownsRow B 29 1 (slV t) (n + 1) (xs ++ [slV u]) ∧ w.grownBy w' (slV ⟨o, n, c⟩).ownBlock := by
  obtain ⟨i29, hi, hz0, hsz, hby⟩ := info_parts info29
  have HI := Lib.hid (And.intro hi (And.intro hz0 (And.intro hsz hby)))
  clear hi hz0 hsz hby
  have HH := Lib.hid h
  have HK := Lib.hid hk
  have hn0 : (0 : Int) ≤ n := by omega
  have hone : ∀ v ∈ [slV u], v.oneCell' = true := fun v hv => by rw [List.mem_singleton.1 hv]; rfl
  have hnew : ∀ j v, [slV u][j]? = some v → w.cell? ((⟨k, 0, none⟩ : Addr).add j) = some v := by
    intro j v hj
    rw [Addr.add_lit]
    cases j with
    | zero => simp only [List.getElem?_cons_zero, Option.some.injEq] at hj; rw [← hj]; exact hk
    | succ j => simp at hj
  have HN := Lib.hid hnew
  have HO1 := Lib.hid hone
  have HL4 : Hid (n + 1 ≤ maxLen) := Lib.hid (by unfold maxLen; omega)
  have HL5 := Lib.hid hbig
  have HW : Hid (n + 1 ≤ 9223372036854775807) := Lib.hid (by omega)
  clear hnew hone
  rcases h.2 with ⟨e, rfl⟩ | ⟨g, cap, cur, e, hb, hg, hnc, hcm, hcs, ht⟩
  · injection e with e1 e2 e3
    subst e1 e3
    clear h hk
    go_enter Try.func24, Try.ntmps24
    go_wp2_with (at_builtin; refine wpList_append_own _ rfl _ _ 25 rfl B 29 i29 (.slice none 0 0) 1 24 Try.underlying25 HI.out.1 HI.out.2.1 HI.out.2.2.1 HI.out.2.2.2 rfl (by decide) _ _ _ rfl HH.out ⟨k, 0, none⟩ 1 1 [slV u] rfl rfl HN.out HO1.out HL4.out HL5.out hB ?_)
    intro v' w1 hown hgrow hnil
    have HO := Lib.hid hown
    have HG := Lib.hid hgrow
    clear hown hgrow hnil
    go_wp2_with fail
    go_ret
    have ho := HO.out
    obtain ⟨o, c, rfl, hf⟩ := owns_sl ho
    exact ⟨_, rfl, ho, HG.out⟩
  · injection e with e1 e2 e3
    subst e1 e3
    clear h hk hb hg hcs ht
    unfold maxLen at hcm
    by_cases hcn : c = n
    · subst hcn
      go_enter Try.func24, Try.ntmps24
      go_wp2_with (at_builtin; refine wpList_append_own _ rfl _ _ 25 rfl B 29 i29 (.slice none 0 0) 1 24 Try.underlying25 HI.out.1 HI.out.2.1 HI.out.2.2.1 HI.out.2.2.2 rfl (by decide) _ _ _ rfl HH.out ⟨k, 0, none⟩ 1 1 [slV u] rfl rfl HN.out HO1.out HL4.out HL5.out hB ?_)
      intro v' w1 hown hgrow hnil
      have HO := Lib.hid hown
      have HG := Lib.hid hgrow
      clear hown hgrow hnil
      go_wp2_with fail
      go_ret
      have ho := HO.out
      obtain ⟨o, c, rfl, hf⟩ := owns_sl ho
      exact ⟨_, rfl, ho, HG.out⟩
    · go_enter Try.func24, Try.ntmps24
      go_wp2_with (at_builtin; refine wpList_append_own _ rfl _ _ 25 rfl B 29 i29 (.slice none 0 0) 1 24 Try.underlying25 HI.out.1 HI.out.2.1 HI.out.2.2.1 HI.out.2.2.2 rfl (by decide) _ _ _ rfl HH.out ⟨k, 0, none⟩ 1 1 [slV u] rfl rfl HN.out HO1.out HL4.out HL5.out hB ?_)
      intro v' w1 hown hgrow hnil
      have HO := Lib.hid hown
      have HG := Lib.hid hgrow
      clear hown hgrow hnil
      go_wp2_with fail
      go_ret
      have ho := HO.out
      obtain ⟨o, c, rfl, hf⟩ := owns_sl ho
      exact ⟨_, rfl, ho, HG.out⟩

/-- A list with l laid over it from o on. -/
def over (xs : List Value) : Nat → List Value → List Value
  | _, [] => xs
  | o, v :: r => over (xs.set o v) (o + 1) r
theorem over_len : ∀ (l : List Value) (o : Nat) (xs : List Value), (over xs o l).length = xs.length
  | [], _, _ => rfl
  | v :: r, o, xs => by rw [over, over_len r, List.length_set]
theorem over_eq : ∀ (l : List Value) (o : Nat) (xs : List Value), o + l.length ≤ xs.length → over xs o l = xs.take o ++ l ++ xs.drop (o + l.length)
  | [], o, xs, _ => by simp [over]
  | v :: r, o, xs, h => by
    simp only [List.length_cons] at h
    have ho : o < xs.length := by omega
    rw [over, over_eq r (o + 1) (xs.set o v) (by rw [List.length_set]; omega)]
    have h1 : (xs.set o v).take (o + 1) = xs.take o ++ [v] := by
      rw [List.take_set, List.take_succ_eq_append_getElem ho, List.set_append_right _ _ (by simp; omega)]
      simp [Nat.min_eq_left (Nat.le_of_lt ho)]
    have h2 : (xs.set o v).drop (o + 1 + r.length) = xs.drop (o + (r.length + 1)) := by
      rw [List.drop_set_of_lt (by omega)]
      congr 1
      omega
    rw [h1, h2]
    simp
theorem over_two {xs zs : List Value} {n i : Nat} (u : Value) (hx : xs.length = n) (hz : zs.length = n + 1) (hi : i < n) (ht : zs.take i = xs.take i) : over (over zs i [u]) (i + 1) (xs.drop i) = xs.take i ++ [u] ++ xs.drop i := by
  have e1 : over zs i [u] = zs.take i ++ [u] ++ zs.drop (i + 1) := over_eq [u] i zs (by simp; omega)
  have hd : (over zs i [u]).drop (i + 1 + (xs.drop i).length) = [] := List.drop_eq_nil_of_le (by rw [over_len, List.length_drop]; omega)
  rw [over_eq _ _ _ (by rw [over_len, List.length_drop]; omega), hd, List.append_nil, e1, ht]
  congr 1
  rw [List.take_append_of_le_length (by simp; omega), List.take_of_length_le (by simp; omega)]
theorem over_two' {xs zs : List Value} {n i : Nat} (u : Value) (hx : xs.length = n) (hz : zs.length = n + 1) (hi : i < n) (ht : zs.take i = xs.take i) : over (over zs (i + 1) (xs.drop i)) i [u] = xs.take i ++ [u] ++ xs.drop i := by
  have e1 : over zs (i + 1) (xs.drop i) = zs.take (i + 1) ++ xs.drop i := by
    have hd : zs.drop (i + 1 + (xs.drop i).length) = [] := List.drop_eq_nil_of_le (by rw [List.length_drop]; omega)
    rw [over_eq _ _ _ (by rw [List.length_drop]; omega), hd, List.append_nil]
  rw [over_eq _ _ _ (by rw [over_len]; simp; omega), e1]
  have h1 : (zs.take (i + 1)).length = i + 1 := by rw [List.length_take]; omega
  rw [List.take_append_of_le_length (by omega), List.take_take, Nat.min_eq_left (by omega), ht, List.length_singleton, List.drop_append_of_le_length (by omega), List.drop_eq_nil_of_le (by omega), List.nil_append]
theorem owns_over : ∀ (l : List Value) (o : Nat) (W : World) (B g n c : Nat) (xs : List Value), W.ownsRow B 29 1 (.slice (some ⟨g, 0, none⟩) n c) n xs → (W.setCells g o l).ownsRow B 29 1 (.slice (some ⟨g, 0, none⟩) n c) n (over xs o l) ∧ W.grownBy (W.setCells g o l) (some g)
  | [], _, W, _, _, _, _, _, h => ⟨h, rfl, rfl, rfl, Nat.le_refl _, fun _ _ _ => rfl⟩
  | v :: r, o, W, B, g, n, c, xs, h => by
    have h1 := h.stored o v
    have h2 := owns_over r (o + 1) _ B g n c _ h1.1
    exact ⟨h2.1, h2.2.os.trans h1.2.os, h2.2.tape.trans h1.2.tape, h2.2.output.trans h1.2.output, Nat.le_trans h1.2.size h2.2.size, fun k hk hne => (h2.2.block k (Nat.lt_of_lt_of_le hk h1.2.size) hne).trans (h1.2.block k hk hne)⟩
theorem size29 : (Try.prog.info? 29).map (·.size) = some 1 := by
  obtain ⟨i, hi, _, hs, _⟩ := info_parts info29
  rw [hi]
  simp [hs]
theorem row_some {W : World} {B g n c : Nat} {xs : List Value} (h : W.ownsRow B 29 1 (.slice (some ⟨g, 0, none⟩) n c) n xs) (j : Nat) (hj : j < n) : (W.cell? ⟨g, j, none⟩).isSome = true := by
  have hl : xs.length = n := by simpa using h.1
  rw [h.cellAt j (by omega), List.getElem?_eq_getElem (by omega)]
  rfl
theorem run_copy_own {W : World} {B g n c : Nat} {xs : List Value} (h : W.ownsRow B 29 1 (.slice (some ⟨g, 0, none⟩) n c) n xs) (o dLen dCap : Nat) (a : Addr) (sLen sCap : Nat) (cs : List Value) (hn : cs.length = Nat.min sLen dLen) (ho : o + cs.length ≤ n) (hsrc : ∀ j v, cs[j]? = some v → W.cell? (a.add j) = some v) (h1 : ∀ v ∈ cs, v.oneCell' = true) (ty : TypeId) :
    (Builtin.copy_ #[25, 25] ty #[.slice (some ⟨g, o, none⟩) dLen dCap, .slice (some a) sLen sCap]).run Try.prog W = .ok (goInt cs.length) (W.setCells g o cs) :=
  run_copy_cells W 25 25 ty 29 g o dLen dCap a sLen sCap cs Try.underlying25 size29 hn hsrc (fun j hj => row_some h _ (by omega)) (fun j _ => h.frozenAt _) h1

set_option maxHeartbeats 4000000 in
set_option maxRecDepth 100000 in
/-- In the midst, no room. -/
theorem insert_grow (B k g : Nat) (n i : Nat) (xs : List Value) (u : SL) (w : World) (h : w.ownsRow B 29 1 (.slice (some ⟨g, 0, none⟩) n n) n xs) (h1c : ∀ v ∈ xs, v.oneCell' = true) (hi : i < n) (hk : w.cell? ⟨k, 0, none⟩ = some (slV u)) (hB : B ≤ w.heap.size) (hbig : (n + 1) * 24 ≤ 140737488355328) :
    Calls Try.prog 24 #[.slice (some ⟨g, 0, none⟩) n n, .int .i64 i, .slice (some ⟨k, 0, none⟩) 1 1] w fun e w' => ∃ t, e = .returned (slV t) ∧ w'.ownsRow B 29 1 (slV t) (n + 1) (xs.take i ++ [slV u] ++ xs.drop i) ∧ Below w.heap.size w w' := by
  have hlen : xs.length = n := by simpa using h.1
  have hgw : g < w.heap.size := (h.lt g rfl).2
  have hkw : k < w.heap.size := World.block_lt_of_cell? w _ hk
  obtain ⟨i29, hi29, hz0, hsz, hby⟩ := info_parts info29
  have hold : (Builtin.firstCells i29.size i (.slice (some ⟨g, 0, none⟩) i n)).run Try.prog w.drew = .ok (xs.take i).toArray w.drew := by
    rw [hsz]
    refine run_firstCells_some w.drew 1 i ⟨g, 0, none⟩ i n (xs.take i) (by rw [List.length_take]; omega) (fun j v hj => ?_)
    rw [Addr.add_lit, Nat.zero_add]
    rw [List.getElem?_take] at hj
    split at hj
    · exact (h.cellAt j (by omega)).trans hj
    · cases hj
  have hap : ∀ ty, (Builtin.append_ #[25, 3] ty #[.slice (some ⟨g, 0, none⟩) i n, .int .i64 ((n : Int) + 1 - i)]).run Try.prog w = .ok (.slice (some ⟨w.heap.size, 0, none⟩) (n + 1) (grownCap w (n + 1) n 29)) (w.drew.alloc (.cells ((xs.take i).toArray ++ Builtin.zeroCells (Value.slice none 0 0).cells (n + 1 - i) ++ Builtin.zeroCells (Value.slice none 0 0).cells (grownCap w (n + 1) n 29 - (n + 1))) 29)) := fun ty => by
    have hr := Lib.run_append_grow_zeros w 25 3 ty 29 i29 _ .i64 .i64 Try.underlying25 Try.underlying3 hi29 hz0 (some ⟨g, 0, none⟩) i n (xs.take i) hold (n + 1 - i) (by omega) (by omega) (by omega) (by omega) (by rw [hby]; omega) (by rw [hby, show i + (n + 1 - i) = n + 1 by omega]; exact growslice_fits (by omega) hbig)
    rw [show i + (n + 1 - i) = n + 1 by omega, show ((n + 1 - i : Nat) : Int) = (n : Int) + 1 - i by omega] at hr
    exact hr
  obtain ⟨G, hG⟩ : ∃ G, G = grownCap w (n + 1) n 29 := ⟨_, rfl⟩
  obtain ⟨ROW, hROW⟩ : ∃ ROW : Array Value, ROW = (xs.take i).toArray ++ Builtin.zeroCells (Value.slice none 0 0).cells (n + 1 - i) ++ Builtin.zeroCells (Value.slice none 0 0).cells (G - (n + 1)) := ⟨_, rfl⟩
  have hGn : n + 1 ≤ G := by rw [hG]; exact grownCap_ge w _ _ _
  have hGm : G ≤ maxLen := by rw [hG]; exact grownCap_le_maxLen w _ _ _ (by unfold maxLen; omega)
  have hRs : ROW.size = G := by rw [hROW]; simp [Builtin.zeroCells, Value.cells]; omega
  rw [← hG, ← hROW] at hap
  obtain ⟨W1, hW1⟩ : ∃ W1, W1 = w.drew.alloc (.cells ROW 29) := ⟨_, rfl⟩
  rw [← hW1] at hap
  have ho1 : W1.ownsRow w.heap.size 29 1 (.slice (some ⟨w.heap.size, 0, none⟩) (n + 1) G) (n + 1) (ROW.toList.take (n + 1)) :=
    ⟨by rw [List.length_take, Array.length_toList]; omega, .inr ⟨w.heap.size, G, ROW, rfl, Nat.le_refl _, by rw [hW1]; exact heap_alloc_new w.drew _, hGn, hGm, by omega, by rw [Nat.mul_one]⟩⟩
  have hzt : (ROW.toList.take (n + 1)).take i = xs.take i := by
    rw [List.take_take, Nat.min_eq_left (by omega), hROW]
    simp only [Array.toList_append, List.append_assoc]
    rw [List.take_append_of_le_length (by simp; omega), List.take_of_length_le (by simp; omega)]
  have hb1 : Below w.heap.size w W1 := by rw [hW1]; exact ((Below.refl _ w).drew).alloc (Nat.le_refl _) _
  have h2 := owns_over [slV u] i _ _ _ _ _ _ ho1
  obtain ⟨W2, hW2⟩ : ∃ W2, W2 = W1.setCells w.heap.size i [slV u] := ⟨_, rfl⟩
  have hcA : ∀ ty dc, (Builtin.copy_ #[25, 25] ty #[.slice (some ⟨w.heap.size, i, none⟩) (n + 1 - i) dc, .slice (some ⟨k, 0, none⟩) 1 1]).run Try.prog W1 = .ok (goInt 1) W2 := fun ty dc => by
    rw [hW2]
    refine run_copy_own ho1 i (n + 1 - i) dc ⟨k, 0, none⟩ 1 1 [slV u] (Nat.min_eq_left (show 1 ≤ n + 1 - i by omega)).symm (by simp; omega) (fun j v hj => ?_) (fun v hv => by rw [List.mem_singleton.1 hv]; rfl) ty
    rw [Addr.add_lit]
    cases j with
    | zero => simp only [List.getElem?_cons_zero, Option.some.injEq] at hj; rw [← hj]; exact (hb1.cell hkw).trans hk
    | succ j => simp at hj
  rw [← hW2] at h2
  have hb2 : Below w.heap.size w W2 := hb1.grown h2.2 hb1.size (fun q hq => by cases hq; exact Nat.le_refl _)
  have h3 := owns_over (xs.drop i) (i + 1) _ _ _ _ _ _ h2.1.drew
  obtain ⟨W3, hW3⟩ : ∃ W3, W3 = W2.drew.setCells w.heap.size (i + 1) (xs.drop i) := ⟨_, rfl⟩
  have hcB : ∀ ty dc sc, (Builtin.copy_ #[25, 25] ty #[.slice (some ⟨w.heap.size, i + 1, none⟩) (n - i) dc, .slice (some ⟨g, i, none⟩) (n - i) sc]).run Try.prog W2.drew = .ok (goInt (n - i : Nat)) W3 := fun ty dc sc => by
    rw [hW3]
    have hdl : (xs.drop i).length = n - i := by rw [List.length_drop, hlen]
    rw [← hdl]
    refine run_copy_own h2.1.drew (i + 1) (xs.drop i).length dc ⟨g, i, none⟩ (xs.drop i).length sc (xs.drop i) (Nat.min_self _).symm (by omega) (fun j v hj => ?_) (fun v hv => h1c v (List.mem_of_mem_drop hv)) ty
    rw [Addr.add_lit]
    refine (hb2.drew.cell (by exact hgw)).trans ?_
    rw [List.getElem?_drop] at hj
    have hjn : i + j < n := by
      rcases Nat.lt_or_ge (i + j) n with h' | h'
      · exact h'
      · rw [List.getElem?_eq_none (by omega)] at hj; cases hj
    exact (h.cellAt (i + j) (by omega)).trans hj
  rw [← hW3] at h3
  have hfin : W3.ownsRow B 29 1 (.slice (some ⟨w.heap.size, 0, none⟩) (n + 1) G) (n + 1) (xs.take i ++ [slV u] ++ xs.drop i) := by
    have := h3.1
    rw [over_two _ hlen (by rw [List.length_take, Array.length_toList]; omega) hi hzt] at this
    exact Joins.ownsRow_le this hB
  have hb3 : Below w.heap.size w W3 := hb2.drew.grown h3.2 hb2.size (fun q hq => by cases hq; exact Nat.le_refl _)
  have HF := Lib.hid (And.intro hfin hb3)
  have HAP := Lib.hid hap
  have HCA := Lib.hid hcA
  have HCB := Lib.hid hcB
  have hGi : ¬ (G = i) := by omega
  have hGi1 : ¬ (G = i + 1) := by omega
  have hni : ¬ (n = i) := by omega
  have hne : ¬ ((i : Int) = (n : Int)) := by omega
  have hG63 : G ≤ 9223372036854775807 := hGm
  have hw1 : IntKind.i64.wrap ((i : Int) + 1) = (i : Int) + 1 := by rw [IntKind.wrap_i64]; omega
  have hp1 : (0 : Int) ≤ (i : Int) + 1 := by omega
  have hp2 : ((i : Int) + 1).toNat = i + 1 := by omega
  have hin : i ≤ n := by omega
  have hin' : (i : Int) ≤ (n : Int) := by omega
  clear hold hap hG hROW hRs hGm hW1 ho1 hzt hb1 h2 hW2 hcA hb2 h3 hW3 hcB hfin hb3 hi29 hz0 hsz hby h hk h1c
  go_enter Try.func24, Try.ntmps24
  go_wp2_with (first
    | (at_builtin; refine Lib.wpList_append_run _ rfl _ _ _ _ rfl _ _ rfl rfl _ _ (HAP.out _) ?_)
    | (refine wpList_copy_runI _ rfl _ _ 25 25 rfl _ _ rfl rfl (HCA.out _ _) ?_))
  go_region_law (refine step_copy_runI rfl _ _ 25 25 rfl (.slice (some ⟨w.heap.size, i + 1, none⟩) (n - i) (G - (i + 1))) (.slice (some ⟨g, i, none⟩) (n - i) (n - i)) (by simp [Act.eval, Act.put]) (by simp [Act.eval, Act.put]) (HCB.out _ _ _) ?_)
  all_goals (
    go_wp2_with fail
    go_ret
    exact ⟨⟨_, _, _⟩, rfl, HF.out⟩)
end Go.Proofs.Ytfcoljioojidnaa
