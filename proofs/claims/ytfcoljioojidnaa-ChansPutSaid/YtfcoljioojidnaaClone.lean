/- Rows cloned. -/
import Derived.Test.YtfcoljioojidnaaSmall
import Derived.Lib.Walk
import Derived.Lib.SmallJoins
namespace Go.Proofs.Ytfcoljioojidnaa
open Go.ChangeShapes Go.WideShapes Go.ChangeAt Go.RowKit
set_option linter.unusedVariables false
set_option linter.unusedSimpArgs false

theorem info_parts {t : TypeId} {z : Value} {a b : Nat} (h : (Try.prog.info? t).map (fun i => (i.zero, i.size, i.bytes)) = some (some z, a, b)) : ∃ i, Try.prog.info? t = some i ∧ i.zero = some z ∧ i.size = a ∧ i.bytes = b := by
  cases hi : Try.prog.info? t with
  | none => rw [hi] at h; cases h
  | some i =>
    rw [hi] at h
    simp only [Option.map_some, Option.some.injEq, Prod.mk.injEq] at h
    exact ⟨i, rfl, h.1, h.2.1, h.2.2⟩
theorem info2 : (Try.prog.info? 2).map (fun i => (i.zero, i.size, i.bytes)) = some (some (.int .i64 0), 1, 8) := by kernel_rfl
theorem info29 : (Try.prog.info? 29).map (fun i => (i.zero, i.size, i.bytes)) = some (some (.slice none 0 0), 1, 24) := by kernel_rfl
def intsV (l : List Int) : List Value := l.map (.int .i64)
theorem intsV_one (l : List Int) : ∀ u ∈ intsV l, u.oneCell' = true := by
  intro u hu
  obtain ⟨x, _, rfl⟩ := List.mem_map.1 hu
  rfl
theorem slV_one (l : List SL) : ∀ u ∈ l.map slV, u.oneCell' = true := by
  intro u hu
  obtain ⟨x, _, rfl⟩ := List.mem_map.1 hu
  rfl
theorem owns_sl {w : World} {B n : Nat} {e : TypeId} {v : Value} {xs : List Value} (h : w.ownsRow B e 1 v n xs) : ∃ o c, v = slV ⟨o, n, c⟩ ∧ (∀ a, o = some a → B ≤ a.block ∧ a.block < w.heap.size ∧ a = ⟨a.block, 0, none⟩) := by
  rcases h.2 with ⟨rfl, rfl⟩ | ⟨g, cap, cur, rfl, hb, hg, _⟩
  · exact ⟨none, 0, rfl, fun a h => by cases h⟩
  · exact ⟨some ⟨g, 0, none⟩, cap, rfl, fun a h => by cases h; exact ⟨hb, (Array.getElem?_eq_some_iff.1 hg).1, rfl⟩⟩
theorem owns_msg {w : World} {B : Nat} {s : SL} {q : List Int} (h : w.ownsRow B 2 1 (slV s) q.length (intsV q)) : MsgAt w s q := by
  obtain ⟨o, n, c⟩ := s
  rcases h.2 with ⟨e, hn⟩ | ⟨g, cap, cur, e, hb, hg, hc, hm, hs, ht⟩
  · injection e with e1 e2 e3
    subst e1 e2 e3
    exact ⟨hn.symm, .inl hn⟩
  · have hl : ∀ k u, (intsV q)[k]? = some u → w.cell? ((⟨g, 0, none⟩ : Addr).add k) = some u := h.cells (by rw [e]; rfl)
    injection e with e1 e2 e3
    subst e1 e2 e3
    refine ⟨rfl, .inr ⟨g, 0, rfl, (Array.getElem?_eq_some_iff.1 hg).1, fun i hi => ?_⟩⟩
    have := hl i (.int .i64 q[i]) (by simp [intsV, hi])
    rw [Addr.add_lit] at this
    exact this

set_option maxHeartbeats 2000000 in
set_option maxRecDepth 100000 in
theorem clone28 (s : SL) (q : List Int) (w : World) (h : MsgAt w s q) (hbig : q.length * 8 ≤ 140737488355328) :
    Calls Try.prog 28 #[slV s] w fun e w' => ∃ t, e = .returned (slV t) ∧ w'.ownsRow w.heap.size 2 1 (slV t) q.length (intsV q) ∧ Below w.heap.size w w' := by
  have q29 : ∀ (w : World) (a : Option Addr) (n c n' c' : Nat), (binOp .eql 29 (.slice a n c) (.slice none n' c')).run Try.prog w = .ok (.bool a.isNone) w := fun w a n c n' c' => Lib.run_eql_slice_nil w _ _ a n c n' c' Try.underlying29
  obtain ⟨so, sn, sc⟩ := s
  obtain ⟨rfl, hA⟩ := h
  obtain ⟨i2, hi, hz0, hsz, hby⟩ := info_parts info2
  have HI := Lib.hid (And.intro hi (And.intro hz0 (And.intro hsz hby)))
  clear hi hz0 hsz hby
  have HA := Lib.hid hA
  clear hA
  unfold slV
  simp only
  cases so with
  | none =>
    have hq0 : q.length = 0 := by
      rcases HA.out with h | ⟨_, _, h, _⟩
      · exact h
      · cases h
    have HQ := Lib.hid hq0
    clear hq0
    go_enter Try.func28, Try.ntmps28
    go_wp2_with fail
    go_ret
    refine ⟨⟨none, 0, 0⟩, rfl, ?_, Below.refl _ _⟩
    rw [HQ.out, List.eq_nil_of_length_eq_zero HQ.out]
    exact World.ownsRow_nil _ _ _ _
  | some a =>
    go_enter Try.func28, Try.ntmps28
    go_wp2_with (at_builtin; refine wpList_append_own _ rfl _ _ 29 rfl w.heap.size 2 i2 (.int .i64 0) 1 8 Try.underlying29 HI.out.1 HI.out.2.1 HI.out.2.2.1 HI.out.2.2.2 rfl (by decide) _ _ _ rfl (World.ownsRow_made w #[] 0 (Nat.le_refl _) (Nat.zero_le _) (by simp)) a q.length sc (intsV q) rfl ?qc1 ?qc2 ?qc3 ?qc4 ?qc5 ?qc6 ?_)
    case qc1 => simp [intsV]
    case qc2 =>
      intro j u hj
      rcases HA.out with h | ⟨g, off, e, hI⟩
      · rw [List.eq_nil_of_length_eq_zero h] at hj; simp [intsV] at hj
      · cases e
        rw [Addr.add_lit]
        apply Lib.cell?_alloc_some
        have hjl : j < q.length := by
          rcases Nat.lt_or_ge j q.length with h | h
          · exact h
          · rw [List.getElem?_eq_none (by simpa [intsV] using h)] at hj; cases hj
        rw [hI.2 j hjl]
        simpa [intsV, hjl] using hj
    case qc3 => exact intsV_one q
    case qc4 => unfold maxLen; omega
    intro v' w1 hown hgrow hnil
    have HO := Lib.hid hown
    have HG := Lib.hid hgrow
    clear hown hgrow hnil
    go_wp2_with fail
    go_ret
    have ho := HO.out
    try simp only [Nat.zero_add, List.nil_append] at ho
    obtain ⟨o, c, rfl, hf⟩ := owns_sl ho
    exact ⟨_, rfl, ho, ((Below.refl _ w).alloc (Nat.le_refl _) _).grown HG.out (by simp) (by intro k hk; simp [Value.ownBlock] at hk; omega)⟩

/-- A row of messages' headers in memory. -/
def QRow (w : World) (o : Option Addr) (L : List SL) : Prop :=
  L.length = 0 ∨ ∃ g off, o = some ⟨g, off, none⟩ ∧ g < w.heap.size ∧ ∀ i (h : i < L.length), w.cell? ⟨g, off + i, none⟩ = some (slV L[i])
theorem QRow.below {w w' : World} {o : Option Addr} {L : List SL} (h : QRow w o L) (hb : Below w.heap.size w w') : QRow w' o L :=
  h.imp id fun ⟨g, off, e, hg, hi⟩ => ⟨g, off, e, Nat.lt_of_lt_of_le hg hb.size, fun i hl => (hb.cell hg).trans (hi i hl)⟩
def Msgs (w : World) (L : List SL) (Q : List (List Int)) : Prop := L.length = Q.length ∧ ∀ i (h1 : i < L.length) (h2 : i < Q.length), MsgAt w L[i] Q[i]
theorem Msgs.below {w w' : World} {L : List SL} {Q : List (List Int)} (h : Msgs w L Q) (hb : Below w.heap.size w w') : Msgs w' L Q := ⟨h.1, fun i h1 h2 => (h.2 i h1 h2).below hb⟩
theorem owns_q {w : World} {B : Nat} {s : SL} {L : List SL} (h : w.ownsRow B 29 1 (slV s) L.length (L.map slV)) : s.n = L.length ∧ QRow w s.o L := by
  obtain ⟨o, n, c⟩ := s
  rcases h.2 with ⟨e, hn⟩ | ⟨g, cap, cur, e, hb, hg, hc, hm, hs, ht⟩
  · injection e with e1 e2 e3
    subst e1 e2 e3
    exact ⟨hn.symm, .inl hn⟩
  · have hl : ∀ k u, (L.map slV)[k]? = some u → w.cell? ((⟨g, 0, none⟩ : Addr).add k) = some u := h.cells (by rw [e]; rfl)
    injection e with e1 e2 e3
    subst e1 e2 e3
    refine ⟨rfl, .inr ⟨g, 0, rfl, (Array.getElem?_eq_some_iff.1 hg).1, fun i hi => ?_⟩⟩
    have := hl i (slV L[i]) (by simp [hi])
    rw [Addr.add_lit] at this
    exact this

set_option maxHeartbeats 2000000 in
set_option maxRecDepth 100000 in
theorem clone27 (s : SL) (L : List SL) (w : World) (hn : s.n = L.length) (h : QRow w s.o L) (hbig : L.length * 24 ≤ 140737488355328) :
    Calls Try.prog 27 #[slV s] w fun e w' => ∃ t, e = .returned (slV t) ∧ w'.ownsRow w.heap.size 29 1 (slV t) L.length (L.map slV) ∧ Below w.heap.size w w' := by
  have q25 : ∀ (w : World) (a : Option Addr) (n c n' c' : Nat), (binOp .eql 25 (.slice a n c) (.slice none n' c')).run Try.prog w = .ok (.bool a.isNone) w := fun w a n c n' c' => Lib.run_eql_slice_nil w _ _ a n c n' c' Try.underlying25
  obtain ⟨so, sn, sc⟩ := s
  simp only at hn
  subst hn
  obtain ⟨i29, hi, hz0, hsz, hby⟩ := info_parts info29
  have HI := Lib.hid (And.intro hi (And.intro hz0 (And.intro hsz hby)))
  clear hi hz0 hsz hby
  have HA := Lib.hid h
  clear h
  obtain ⟨N, hN⟩ : ∃ N, N = L.map slV := ⟨_, rfl⟩
  have HN := Lib.hid hN
  rw [← hN]
  have hone : ∀ u ∈ N, u.oneCell' = true := by rw [hN]; exact slV_one L
  have HONE := Lib.hid hone
  have hNl : N.length = L.length := by rw [hN]; simp
  clear hN hone
  unfold slV
  simp only at HA ⊢
  cases so with
  | none =>
    have hq0 : L.length = 0 := by
      rcases HA.out with h | ⟨_, _, h, _⟩
      · exact h
      · cases h
    have HQ := Lib.hid hq0
    clear hq0
    go_enter Try.func27, Try.ntmps27
    go_wp2_with fail
    go_ret
    refine ⟨⟨none, 0, 0⟩, rfl, ?_, Below.refl _ _⟩
    rw [HQ.out, List.eq_nil_of_length_eq_zero (hNl.trans HQ.out)]
    exact World.ownsRow_nil _ _ _ _
  | some a =>
    go_enter Try.func27, Try.ntmps27
    go_wp2_with (at_builtin; refine wpList_append_own _ rfl _ _ 25 rfl w.heap.size 29 i29 (.slice none 0 0) 1 24 Try.underlying25 HI.out.1 HI.out.2.1 HI.out.2.2.1 HI.out.2.2.2 rfl (by decide) _ _ _ rfl (World.ownsRow_made w #[] 0 (Nat.le_refl _) (Nat.zero_le _) (by simp)) a L.length sc N rfl ?qc1 ?qc2 ?qc3 ?qc4 ?qc5 ?qc6 ?_)
    case qc1 => omega
    case qc2 =>
      intro j u hj
      rw [HN.out] at hj
      rcases HA.out with h | ⟨g, off, e, hg, hI⟩
      · rw [List.eq_nil_of_length_eq_zero h] at hj; simp at hj
      · cases e
        rw [Addr.add_lit]
        apply Lib.cell?_alloc_some
        have hjl : j < L.length := by
          rcases Nat.lt_or_ge j L.length with h | h
          · exact h
          · rw [List.getElem?_eq_none (by simpa using h)] at hj; cases hj
        rw [hI j hjl]
        simpa [hjl] using hj
    case qc3 => exact HONE.out
    case qc4 => unfold maxLen; omega
    case qc5 => omega
    case qc6 => simp
    intro v' w1 hown hgrow hnil
    have HO := Lib.hid hown
    have HG := Lib.hid hgrow
    clear hown hgrow hnil
    go_wp2_with fail
    go_ret
    have ho := HO.out
    try simp only [Nat.zero_add, List.nil_append] at ho
    obtain ⟨o, c, rfl, hf⟩ := owns_sl ho
    exact ⟨_, rfl, ho, ((Below.refl _ w).alloc (Nat.le_refl _) _).grown HG.out (by simp) (by intro k hk; simp [Value.ownBlock] at hk; omega)⟩
end Go.Proofs.Ytfcoljioojidnaa
