/- The order of messages, and what putting sorted does to a queue. -/
import Derived.Test.YtfcoljioojidnaaChan
namespace Go.Proofs.Ytfcoljioojidnaa
open Go.ChangeShapes Go.WideShapes Go.ChangeAt Go.RowKit
set_option linter.unusedVariables false
set_option linter.unusedSimpArgs false

theorem less_irrefl : ∀ a : List Int, lessB a a = false
  | [] => rfl
  | x :: r => by rw [lessB, if_pos rfl]; exact less_irrefl r
theorem less_trans : ∀ a b c : List Int, lessB a b = true → lessB b c = true → lessB a c = true
  | [], [], _, h, _ => by simp [lessB] at h
  | [], _ :: _, [], _, h => by simp [lessB] at h
  | [], _ :: _, _ :: _, _, _ => rfl
  | _ :: _, [], _, h, _ => by simp [lessB] at h
  | _ :: _, _ :: _, [], _, h => by simp [lessB] at h
  | x :: r, y :: s, z :: t, h1, h2 => by
    rw [lessB] at h1 h2 ⊢
    by_cases e1 : x = y
    · subst e1
      rw [if_pos rfl] at h1
      by_cases e2 : x = z
      · rw [if_pos e2] at h2 ⊢
        exact less_trans r s t h1 h2
      · rw [if_neg e2] at h2 ⊢
        exact h2
    · rw [if_neg e1] at h1
      have h1 := of_decide_eq_true h1
      by_cases e2 : y = z
      · subst e2
        rw [if_neg e1]
        exact decide_eq_true h1
      · rw [if_neg e2] at h2
        have h2 := of_decide_eq_true h2
        rw [if_neg (by omega)]
        exact decide_eq_true (by omega)
theorem less_tri : ∀ a b : List Int, lessB a b = false → lessB b a = false → a = b
  | [], [], _, _ => rfl
  | [], _ :: _, h, _ => by simp [lessB] at h
  | _ :: _, [], _, h => by simp [lessB] at h
  | x :: r, y :: s, h1, h2 => by
    rw [lessB] at h1 h2
    by_cases e : x = y
    · subst e
      rw [if_pos rfl] at h1 h2
      rw [less_tri r s h1 h2]
    · rw [if_neg e] at h1
      rw [if_neg (fun h => e h.symm)] at h2
      have h1 := of_decide_eq_false h1
      have h2 := of_decide_eq_false h2
      omega
theorem less_asymm {a b : List Int} (h : lessB a b = true) : lessB b a = false := by
  cases h2 : lessB b a
  · rfl
  · have := less_trans _ _ _ h h2
    rw [less_irrefl] at this
    cases this

/-- Where a message is put. -/
theorem putAt_spec (F : List (Int × Bool)) (Q : List (List Int)) (m : List Int) :
    (∀ j (h : j < Q.length), j < putAt F Q m true → lessB (fitted F m) Q[j] = false) ∧ (∀ h : putAt F Q m true < Q.length, lessB (fitted F m) Q[putAt F Q m true] = true) := by
  unfold putAt firstI
  cases h : Q.findIdx? (lessB (fitted F m)) with
  | none =>
    rw [List.findIdx?_eq_none_iff] at h
    refine ⟨fun j hj _ => h _ (List.getElem_mem hj), fun h2 => ?_⟩
    simp at h2
  | some k =>
    rw [List.findIdx?_eq_some_iff_getElem] at h
    obtain ⟨hk, h1, h2⟩ := h
    have e : (if true = true ∧ (0 : Int) ≤ (k : Int) then ((k : Int)).toNat else Q.length) = k := by
      rw [if_pos ⟨rfl, by omega⟩]
      simp
    simp only [e]
    refine ⟨fun j hj hjk => ?_, fun _ => h1⟩
    have := h2 j hjk
    simpa using this

/-- The queue rises. -/
def Rises (Q : List (List Int)) : Prop := Q.Pairwise fun p q => lessB q p = false
theorem rises_put {F : List (Int × Bool)} {Q : List (List Int)} {m : List Int} (h : Rises Q) : Rises (putQ F Q m true) := by
  obtain ⟨h1, h2⟩ := putAt_spec F Q m
  have hle := putAt_le F Q m true
  unfold putQ
  obtain ⟨K, hK⟩ : ∃ K, putAt F Q m true = K := ⟨_, rfl⟩
  obtain ⟨x, hx⟩ : ∃ x, fitted F m = x := ⟨_, rfl⟩
  simp only [hK, hx] at h1 h2 hle ⊢
  have hd : Rises (Q.take K ++ Q.drop K) := by rw [List.take_append_drop]; exact h
  obtain ⟨d1, d2, d3⟩ := List.pairwise_append.1 hd
  have hpre : ∀ p ∈ Q.take K, lessB x p = false := fun p hp => by
    obtain ⟨j, hj, rfl⟩ := List.mem_iff_getElem.1 hp
    rw [List.getElem_take]
    rw [List.length_take] at hj
    exact h1 j (by omega) (by omega)
  have hpost : ∀ q ∈ Q.drop K, lessB q x = false := fun q hq => by
    obtain ⟨j, hj, rfl⟩ := List.mem_iff_getElem.1 hq
    rw [List.length_drop] at hj
    have hKQ : K < Q.length := by omega
    have hx1 := h2 hKQ
    rw [List.getElem_drop]
    by_cases e : j = 0
    · subst e
      exact less_asymm hx1
    · cases hc : lessB Q[K + j] x
      · rfl
      · have := less_trans _ _ _ hc hx1
        rw [(List.pairwise_iff_getElem.1 h) K (K + j) hKQ (by omega) (by omega)] at this
        cases this
  unfold Rises
  rw [List.append_assoc, List.pairwise_append]
  refine ⟨d1, ?_, ?_⟩
  · rw [List.singleton_append, List.pairwise_cons]
    exact ⟨hpost, d2⟩
  · intro p hp q hq
    rcases List.mem_append.1 hq with hq | hq
    · rw [List.mem_singleton.1 hq]
      exact hpre p hp
    · exact d3 p hp q hq
theorem put_front {F : List (Int × Bool)} {Q : List (List Int)} {m : List Int} (hf : fitted F m = m) (h : ∀ q ∈ Q, lessB q m = false) : putQ F Q m true = m :: Q := by
  obtain ⟨h1, -⟩ := putAt_spec F Q m
  have hle := putAt_le F Q m true
  unfold putQ
  obtain ⟨K, hK⟩ : ∃ K, putAt F Q m true = K := ⟨_, rfl⟩
  rw [hf] at h1 ⊢
  simp only [hK] at h1 hle ⊢
  have hr : Q.take K = List.replicate K m := by
    rw [List.eq_replicate_iff]
    refine ⟨by rw [List.length_take]; omega, fun q hq => ?_⟩
    have hm := List.mem_of_mem_take hq
    obtain ⟨j, hj, rfl⟩ := List.mem_iff_getElem.1 hq
    rw [List.length_take] at hj
    rw [List.getElem_take] at hm ⊢
    exact less_tri _ _ (h _ hm) (h1 j (by omega) (by omega))
  have e : m :: Q = m :: (Q.take K ++ Q.drop K) := by rw [List.take_append_drop]
  rw [e, hr, ← List.cons_append, ← List.replicate_succ, List.replicate_succ']
theorem fitted_twice (F : List (Int × Bool)) (m : List Int) : fitted F (fitted F m) = fitted F m := by
  unfold fitted
  induction F generalizing m with
  | nil => rfl
  | cons t F ih =>
    cases m with
    | nil => rfl
    | cons v m =>
      simp only [List.zipWith_cons_cons]
      rw [fit_fit, ih]

/-- A queue that was made by putting sorted. -/
structure GQ (room : Int) (F : List (Int × Bool)) (Q : List (List Int)) : Prop where
  rises : Rises Q
  each : ∀ q ∈ Q, q.length = F.length ∧ fitted F q = q
  ok : Q ≠ [] → F.any (fun t => !tyB t.1 t.2) = false ∧ (Q.length : Int) ≤ room
theorem GQ.nil (room : Int) (F : List (Int × Bool)) : GQ room F [] := ⟨List.Pairwise.nil, (fun q h => by cases h), fun h => absurd rfl h⟩
theorem putCode_zero {room : Int} {F : List (Int × Bool)} {n : Nat} {m : List Int} (h : putCode room F n m = 0) : m.length = F.length ∧ F.any (fun t => !tyB t.1 t.2) = false ∧ (n : Int) < room := by
  unfold putCode at h
  by_cases h1 : m.length = F.length
  · rw [if_neg (fun e => e h1)] at h
    by_cases h2 : F.any (fun t => !tyB t.1 t.2) = true
    · rw [if_pos h2] at h
      cases h
    · rw [if_neg h2] at h
      by_cases h3 : room ≤ n
      · rw [if_pos h3] at h
        cases h
      · exact ⟨h1, by simpa using h2, by omega⟩
  · rw [if_pos h1] at h
    cases h
theorem putCode_is {room : Int} {F : List (Int × Bool)} {n : Nat} {m : List Int} (h1 : m.length = F.length) (h2 : F.any (fun t => !tyB t.1 t.2) = false) (h3 : (n : Int) < room) : putCode room F n m = 0 := by
  unfold putCode
  rw [if_neg (fun e => e h1), h2, if_neg (by decide), if_neg (by omega)]
theorem mem_putQ {F : List (Int × Bool)} {Q : List (List Int)} {m : List Int} {srt : Bool} {q : List Int} (h : q ∈ putQ F Q m srt) : q ∈ Q ∨ q = fitted F m := by
  unfold putQ at h
  rcases List.mem_append.1 h with h | h
  · rcases List.mem_append.1 h with h | h
    · exact .inl (List.mem_of_mem_take h)
    · exact .inr (List.mem_singleton.1 h)
  · exact .inl (List.mem_of_mem_drop h)
theorem GQ.put {room : Int} {F : List (Int × Bool)} {Q : List (List Int)} {m : List Int} (h : GQ room F Q) (hc : putCode room F Q.length m = 0) : GQ room F (putQ F Q m true) := by
  obtain ⟨h1, h2, h3⟩ := putCode_zero hc
  refine ⟨rises_put h.rises, fun q hq => ?_, fun _ => ⟨h2, by rw [putQ_len]; omega⟩⟩
  rcases mem_putQ hq with hq | rfl
  · exact h.each q hq
  · exact ⟨fitted_len F m h1, fitted_twice F m⟩
theorem GQ.back {room : Int} {F : List (Int × Bool)} {Q : List (List Int)} (h : GQ room F Q) {i : Nat} (hi : i < Q.length) : putCode room F (Q.drop (i + 1)).length Q[i] = 0 ∧ putQ F (Q.drop (i + 1)) Q[i] true = Q.drop i := by
  obtain ⟨h2, h3⟩ := h.ok (fun e => by rw [e] at hi; cases hi)
  have h1 := h.each _ (List.getElem_mem hi)
  refine ⟨putCode_is h1.1 h2 (by rw [List.length_drop]; omega), ?_⟩
  rw [List.drop_eq_getElem_cons hi]
  refine put_front h1.2 fun q hq => ?_
  obtain ⟨j, hj, rfl⟩ := List.mem_iff_getElem.1 hq
  rw [List.length_drop] at hj
  rw [List.getElem_drop]
  exact (List.pairwise_iff_getElem.1 h.rises) i _ hi (by omega) (by omega)
theorem GQ.step {room : Int} {F : List (Int × Bool)} {Q : List (List Int)} (h : GQ room F Q) {i : Nat} (hi : i < Q.length) (h0 : 0 < i) : lessB Q[i] (Q[i - 1]'(by omega)) = false :=
  (List.pairwise_iff_getElem.1 h.rises) (i - 1) i (by omega) hi (by omega)
end Go.Proofs.Ytfcoljioojidnaa
