/- What the tokens of a source are, one by one. -/
import Derived.Test.YtmkfcoeefopmiaaTokA
namespace Go.Proofs.Ytmkfcoeefopmiaa

section
variable {u : ByteArray} {k l c : Nat} {t : TK} {rest ts : List TK}

theorem tok_shape (hk : k < u.size) (h : (tokAt u k).er = 0) :
    ((tokAt u k).kind ≠ 0 ∧ (tokAt u k).kind ≠ 3 ∧ (tokAt u k).text = u.extract k (k + (tokAt u k).size) ∧ (tokAt u k).text.size = (tokAt u k).size) ∨
    ((tokAt u k).kind = 3 ∧ (tokAt u k).text = u.extract (k + 1) (k + (tokAt u k).text.size + 1) ∧ (tokAt u k).text.size + 2 = (tokAt u k).size) := by
  have hle := tokAt_le u k hk h
  have hsz : ∀ n, k + n ≤ u.size → (u.extract k (k + n)).size = n := fun n hn => by simp; omega
  unfold tokAt at *
  unfold tokR at *
  by_cases c1 : isL (byt (u.extract k u.size) 0) = true
  · simp only [if_pos c1] at *
    unfold nameT at *
    split at h
    · rename_i cc
      simp only [if_pos cc] at *
      left
      rw [ext_ext u k 0 _ (by omega)]
      exact ⟨by decide, by decide, rfl, hsz _ hle.1⟩
    · cases h
  simp only [if_neg c1] at *
  by_cases c2 : isD (byt (u.extract k u.size) 0) = true
  · simp only [if_pos c2] at *
    unfold numT at *
    split at h
    · rename_i cc
      simp only [if_pos cc] at *
      left
      rw [ext_ext u k 0 _ (by omega)]
      exact ⟨by decide, by decide, rfl, hsz _ hle.1⟩
    · cases h
  simp only [if_neg c2] at *
  by_cases c3 : byt (u.extract k u.size) 0 = 39
  · simp only [if_pos c3] at *
    cases hb : byteB (u.extract k u.size) with
    | none => rw [hb] at h; cases h
    | some q =>
      obtain ⟨x, n⟩ := q
      rw [hb] at hle
      simp only [byteT] at *
      left
      rw [ext_ext u k 0 _ (by omega)]
      exact ⟨by decide, by decide, rfl, hsz _ hle.1⟩
  simp only [if_neg c3] at *
  by_cases c4 : byt (u.extract k u.size) 0 = 34
  · simp only [if_pos c4] at *
    rw [quotAt_ext] at *
    cases hb : quotAt u (k + 1) with
    | none => rw [hb] at h; cases h
    | some q =>
      rw [hb] at h hle
      simp only [textT] at *
      by_cases cc : 201 < q
      · simp only [if_pos cc] at h; cases h
      · simp only [if_neg cc] at *
        have hq := quotAt_le u _ (k + 1) q (Nat.le_refl _) hb
        right
        rw [ext_ext u k 1 _ (by omega)]
        have h1 : (u.extract (k + 1) (k + q)).size = q - 1 := by simp; omega
        rw [h1, show k + (q - 1) + 1 = k + q by omega]
        exact ⟨by first | trivial | rfl, rfl, by omega⟩
  simp only [if_neg c4] at *
  by_cases c5 : 1 < (u.extract k u.size).size ∧ long2 (byt (u.extract k u.size) 0) (byt (u.extract k u.size) 1) = true
  · simp only [if_pos c5] at *
    left
    rw [ext_ext u k 0 _ (by omega)]
    exact ⟨by decide, by decide, rfl, hsz _ hle.1⟩
  simp only [if_neg c5] at *
  by_cases c6 : short1 (byt (u.extract k u.size) 0) = true
  · simp only [if_pos c6] at *
    left
    rw [ext_ext u k 0 _ (by omega)]
    exact ⟨by decide, by decide, rfl, hsz _ hle.1⟩
  · simp only [if_neg c6] at h; cases h

theorem Lx.some_ {e p : Nat} (h : Lx u k l c ts e p) (he : e = 0) : ts ≠ [] := by
  induction h with
  | fin _ _ _ _ => simp
  | opened _ _ _ _ _ => cases he
  | blank _ _ _ _ _ _ _ _ _ _ _ _ ih => exact ih he
  | wrong _ _ _ _ _ h => exact absurd he h
  | many _ _ _ _ _ _ _ => cases he
  | tok _ _ _ _ _ _ _ _ _ _ _ _ => simp

theorem Lx.head {e p : Nat} (h : Lx u k l c ts e p) (he : e = 0) (hk : k ≤ u.size) : ∃ t rest, ts = t :: rest ∧ k ≤ t.pos ∧ t.pos ≤ u.size ∧ (t.kind = 0 ↔ rest = []) := by
  induction h with
  | fin k l c h => exact ⟨_, _, rfl, Nat.le_refl _, hk, by simp⟩
  | opened _ _ _ _ _ => cases he
  | blank k l c n j ts e p h1 hb hn hx ih =>
    obtain ⟨t, rest, h2, h3, h4, h5⟩ := ih he (blankAt_le u k n j h1 hb)
    exact ⟨t, rest, h2, by omega, h4, h5⟩
  | wrong _ _ _ _ _ h => exact absurd he h
  | many _ _ _ _ _ _ _ => cases he
  | tok k l c ts e p h1 hb h0 hc hx ih =>
    refine ⟨_, _, rfl, Nat.le_refl _, hk, ?_⟩
    have h2 := hx.some_ he
    rcases tok_shape h1 h0 with ⟨h3, _⟩ | ⟨h3, _⟩
    · exact ⟨fun h => absurd h h3, fun h => absurd h h2⟩
    · exact ⟨fun h => by simp only at h; omega, fun h => absurd h h2⟩

theorem Lx.step (h : Lx u k l c (t :: rest) 0 0) (hk : k < t.pos) : ∃ n j, k < u.size ∧ blankAt u k = some (n, j) ∧ 0 < n ∧ Lx u (k + n) (l + j) c (t :: rest) 0 0 := by
  cases h with
  | fin _ _ _ _ => simp at hk
  | blank _ _ _ n j _ _ _ h1 hb hn hx => exact ⟨n, j, h1, hb, hn, hx⟩
  | tok _ _ _ _ _ _ _ _ _ _ _ => simp at hk

theorem Lx.here (h : Lx u k l c (t :: rest) 0 0) (hk : k ≤ u.size) (hp : t.pos ≤ k) :
    t.pos = k ∧ ((rest = [] ∧ t.kind = 0 ∧ t.text = ⟨#[]⟩ ∧ k = u.size) ∨
      (k < u.size ∧ t.kind = (tokAt u k).kind ∧ t.text = (tokAt u k).text ∧ (tokAt u k).er = 0 ∧ Lx u (k + (tokAt u k).size) l (c + 1) rest 0 0)) := by
  cases h with
  | fin _ _ _ h => exact ⟨rfl, .inl ⟨rfl, rfl, rfl, by omega⟩⟩
  | blank _ _ _ n j _ _ _ h1 hb hn hx =>
    obtain ⟨t', rest', h2, h3, _, _⟩ := hx.head rfl (blankAt_le u k n j h1 hb)
    cases h2
    omega
  | tok _ _ _ _ _ _ h1 hb h0 hc hx => exact ⟨rfl, .inr ⟨h1, rfl, rfl, h0, hx⟩⟩
end

/-- A token, cell by cell. -/
theorem cells_at (ts : List TK) (i : Nat) (t : TK) (h : ts[i]? = some t) (j : Nat) (hj : j < 5) : (cellsOf ts)[i * 5 + j]? = (tkCells t)[j]? := by
  induction ts generalizing i with
  | nil => cases h
  | cons t' ts ih =>
    cases i with
    | zero =>
      cases h
      rw [Nat.zero_mul, Nat.zero_add]
      show (tkCells t ++ cellsOf ts)[j]? = _
      rw [List.getElem?_append_left (by show j < 5; exact hj)]
    | succ i =>
      have h2 := ih i h
      rw [← h2]
      show (tkCells t' ++ cellsOf ts)[(i + 1) * 5 + j]? = _
      rw [List.getElem?_append_right (by show 5 ≤ _; omega)]
      congr 1
      show (i + 1) * 5 + j - 5 = _
      omega
end Go.Proofs.Ytmkfcoeefopmiaa
