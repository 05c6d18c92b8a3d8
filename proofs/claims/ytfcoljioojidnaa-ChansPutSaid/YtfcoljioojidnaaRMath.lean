/- The document's Put: the lists. -/
import Derived.Test.YtfcoljioojidnaaCopy
namespace Go.Proofs.Ytfcoljioojidnaa
open Go.ChangeShapes Go.WideShapes Go.ChangeAt Go.RowKit
set_option linter.unusedVariables false
set_option linter.unusedSimpArgs false

theorem step_append_own {P : Program} {ops : Array Oper} {o : Oper} {a : Act} {w : World} {K : Act → World → Prop} {Q : Exit → Act → World → Prop} {E : Prop} (hgd : o.guard = none) (s x : Operand) (t : TypeId)
    (ho : o.op = .call { callee := .builtin .append, args := #[s, x], argTypes := #[t, t] })
    (base : Nat) (e : TypeId) (i : TypeInfo) (z : Value) (size bytes : Nat) (ht : P.underlying t = some (.slice e)) (hi : P.info? e = some i) (hz : i.zero = some z)
    (hsize : i.size = size) (hby : i.bytes = bytes) (hzs : z.cells.size = size) (hsz : 0 < size)
    (v : Value) (n : Nat) (xs : List Value) (hs : a.eval s = v) (hown : w.ownsRow base e size v n xs)
    (ad : Addr) (m c : Nat) (news : List Value) (hx : a.eval x = .slice (some ad) m c) (hl : news.length = m * size) (hnews : ∀ j u, news[j]? = some u → w.cell? (ad.add j) = some u) (h1 : ∀ u ∈ news, u.oneCell' = true)
    (h63 : n + m ≤ maxLen) (hbytes : (n + m) * bytes ≤ 140737488355328) (hbase : base ≤ w.heap.size)
    (hK : ∀ v' w', w'.ownsRow base e size v' (n + m) (xs ++ news) → w.grownBy w' v.ownBlock → K (a.put o.dst v') w') : if Region.wanted o (yielded ops a.tmps) = true then Oper.wp P o a w K Q else E := by
  have hw : Region.wanted o (yielded ops a.tmps) = true := by simp [Region.wanted, hgd]
  rw [if_pos hw]
  obtain ⟨v', w', hrun, r1, r2, r3⟩ := run_append_own (P := P) w base t o.type e i z size bytes ht hi hz hsize hby hzs hsz v n xs hown ad m c news hl hnews h1 h63 hbytes hbase
  unfold Oper.wp
  simp [execOp, ho, resolve, invoke, builtin, hs, hx, hrun, Result.andThen]
  exact hK v' w' r1 r2

/-- A list with one more at P. -/
def ins {α : Type} (P : Nat) (x : α) (Q : List α) : List α := Q.take P ++ [x] ++ Q.drop P
def rn (P i : Nat) : Nat := i + if P < i then 1 else 0
theorem ins_len {α : Type} {P : Nat} {x : α} {Q : List α} : (ins P x Q).length = Q.length + 1 := by
  unfold ins
  simp
  omega
theorem ins_lt {α : Type} {P i : Nat} {x : α} {Q : List α} (hi : i < Q.length) (h : i < P) : (ins P x Q)[i]? = some Q[i] := by
  unfold ins
  rw [List.append_assoc, List.getElem?_append_left (by rw [List.length_take]; omega), List.getElem?_take_of_lt h, List.getElem?_eq_getElem hi]
theorem ins_at {α : Type} {P : Nat} {x : α} {Q : List α} (h : P ≤ Q.length) : (ins P x Q)[P]? = some x := by
  unfold ins
  rw [List.append_assoc, List.getElem?_append_right (by rw [List.length_take]; omega)]
  rw [show P - (Q.take P).length = 0 by rw [List.length_take]; omega]
  rfl
theorem ins_gt {α : Type} {P i : Nat} {x : α} {Q : List α} (hi : i < Q.length) (h : P ≤ i) : (ins P x Q)[i + 1]? = some Q[i] := by
  unfold ins
  rw [List.getElem?_append_right (by simp; omega)]
  rw [show i + 1 - (Q.take P ++ [x]).length = i - P by simp; omega]
  rw [List.getElem?_drop, show P + (i - P) = i by omega, List.getElem?_eq_getElem hi]
theorem take_snoc' {α : Type} {l : List α} {i : Nat} {y : α} (h : l[i]? = some y) : l.take i ++ [y] = l.take (i + 1) := by
  obtain ⟨hi, rfl⟩ := List.getElem?_eq_some_iff.1 h
  exact (List.take_succ_eq_append_getElem hi).symm
theorem ins_skip {α : Type} {P i : Nat} {x : α} {Q : List α} (hi : i < Q.length) (h : P ≠ i) : (ins P x Q).take (rn P i) ++ [Q[i]] = (ins P x Q).take (rn P (i + 1)) := by
  unfold rn
  by_cases h1 : P < i
  · rw [if_pos h1, if_pos (by omega)]
    exact take_snoc' (ins_gt hi (by omega))
  · rw [if_neg h1, if_neg (by omega)]
    exact take_snoc' (ins_lt hi (by omega))
theorem ins_hit {α : Type} {P i : Nat} {x : α} {Q : List α} (hi : i < Q.length) (h : P = i) : (ins P x Q).take (rn P i) ++ [x] = (ins P x Q).take (i + 1) ∧ (ins P x Q).take (i + 1) ++ [Q[i]] = (ins P x Q).take (rn P (i + 1)) := by
  subst h
  unfold rn
  rw [if_neg (by omega), if_pos (by omega)]
  exact ⟨take_snoc' (ins_at (by omega)), take_snoc' (ins_gt hi (Nat.le_refl _))⟩
theorem ins_done {α : Type} {P : Nat} {x : α} {Q : List α} (h : P < Q.length) : (ins P x Q).take (rn P Q.length) = ins P x Q := by
  unfold rn
  rw [if_pos h]
  exact List.take_of_length_le (by rw [ins_len]; exact Nat.le_refl _)
theorem ins_last {α : Type} {P : Nat} {x : α} {Q : List α} (h : P = Q.length) : (ins P x Q).take (rn P Q.length) ++ [x] = ins P x Q := by
  subst h
  unfold rn
  rw [if_neg (by omega)]
  refine (take_snoc' (ins_at (Nat.le_refl _))).trans (List.take_of_length_le (by rw [ins_len]; exact Nat.le_refl _))
theorem putQ_ins (F : List (Int × Bool)) (Q : List (List Int)) (m : List Int) (srt : Bool) : putQ F Q m srt = ins (putAt F Q m srt) (fitted F m) Q := rfl
/-- Where the place is. -/
theorem putAt_iff (F : List (Int × Bool)) (Q : List (List Int)) (m : List Int) (srt : Bool) {i : Nat} (hi : i < Q.length) (h : ¬ putAt F Q m srt < i) : (srt = true ∧ lessB (fitted F m) Q[i] = true) ↔ putAt F Q m srt = i := by
  unfold putAt at h ⊢
  cases srt with
  | false =>
    rw [if_neg (by simp)]
    constructor
    · rintro ⟨h, _⟩
      cases h
    · intro e
      omega
  | true =>
    unfold firstI at h ⊢
    cases hf : Q.findIdx? (lessB (fitted F m)) with
    | none =>
      rw [hf] at h
      simp only at h ⊢
      rw [if_neg (by simp)]
      constructor
      · rintro ⟨_, h2⟩
        rw [List.findIdx?_eq_none_iff] at hf
        have := hf _ (List.getElem_mem hi)
        rw [this] at h2
        cases h2
      · intro e
        omega
    | some j =>
      rw [hf] at h
      simp only at h ⊢
      rw [if_pos ⟨trivial, by omega⟩] at h ⊢
      obtain ⟨h1, h2, h3⟩ := List.findIdx?_eq_some_iff_getElem.1 hf
      constructor
      · rintro ⟨_, h4⟩
        rcases Nat.lt_trichotomy i j with h5 | h5 | h5
        · have := h3 i h5
          rw [h4] at this
          simp at this
        · simp [h5]
        · exfalso
          apply h
          simp
          omega
      · intro e
        have e' : j = i := by simpa using e
        subst e'
        exact ⟨trivial, h2⟩
end Go.Proofs.Ytfcoljioojidnaa
