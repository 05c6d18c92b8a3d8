/- What is wrong at a place hangs on what stands ahead of it. -/
import Derived.Test.YtmkfcoeefopmiaaLx
namespace Go.Proofs.Ytmkfcoeefopmiaa

/-- Two sources are the same up to place p; behind it the second one goes on with a blank. -/
structure Same (u v : ByteArray) (p : Nat) : Prop where
  hu : p < u.size
  hv : p + 1 < v.size
  eq : ∀ i, i ≤ p → byt v i = byt u i
  gap : byt v (p + 1) = 32

section
variable {u v : ByteArray} {p k : Nat}

theorem run_same (h : Same u v p) (q : Nat → Bool) (n : Nat) (hr : run q (u.data.toList.drop k) = n) (hn : k + n ≤ p) : run q (v.data.toList.drop k) = n := by
  induction n generalizing k with
  | zero =>
    have hu := h.hu
    have hv := h.hv
    rw [run_cons q v k (by omega), h.eq k (by omega)]
    rw [run_cons q u k (by omega)] at hr
    split at hr
    · omega
    · rename_i c; rw [if_neg c]
  | succ n ih =>
    have hu := h.hu
    have hv := h.hv
    rw [run_cons q v k (by omega), h.eq k (by omega)]
    rw [run_cons q u k (by omega)] at hr
    split at hr
    · rename_i c
      rw [if_pos c, ih (k := k + 1) (by omega) (by omega)]
    · omega

theorem find_same (h : Same u v p) (a b : Nat) : ∀ (j k : Nat), find2 a b (u.data.toList.drop k) = some j → k + j + 1 ≤ p → find2 a b (v.data.toList.drop k) = some j := by
  intro j
  induction j with
  | zero =>
    intro k hf hp
    have hu := h.hu
    have hv := h.hv
    obtain ⟨c, hc, hd⟩ := drop_at u k (by omega)
    obtain ⟨c', hc', hd'⟩ := drop_at v k (by omega)
    have h1 := heads_two u k a b
    have h2 := heads_two v k a b
    have h3 : two v k a b = two u k a b := by
      unfold two
      rw [h.eq k (by omega), h.eq (k + 1) (by omega)]
      simp [show k + 1 < v.size by omega, show k + 1 < u.size by omega]
    rw [hd] at h1 hf
    rw [hd'] at h2
    rw [hd']
    rw [find2] at hf ⊢
    rw [h2, h3, ← h1]
    split at hf
    · rename_i c; rw [if_pos c]
    · cases hx : find2 a b (u.data.toList.drop (k + 1)) with
      | none => rw [hx] at hf; cases hf
      | some y => rw [hx] at hf; simp at hf
  | succ j ih =>
    intro k hf hp
    have hu := h.hu
    have hv := h.hv
    obtain ⟨c, hc, hd⟩ := drop_at u k (by omega)
    obtain ⟨c', hc', hd'⟩ := drop_at v k (by omega)
    have h1 := heads_two u k a b
    have h2 := heads_two v k a b
    have h3 : two v k a b = two u k a b := by
      unfold two
      rw [h.eq k (by omega), h.eq (k + 1) (by omega)]
      simp [show k + 1 < v.size by omega, show k + 1 < u.size by omega]
    rw [hd] at h1 hf
    rw [hd'] at h2
    rw [hd']
    rw [find2] at hf ⊢
    rw [h2, h3, ← h1]
    split at hf
    · cases hf
    · rename_i c
      rw [if_neg c]
      cases hx : find2 a b (u.data.toList.drop (k + 1)) with
      | none => rw [hx] at hf; cases hf
      | some y =>
        rw [hx] at hf
        simp at hf
        subst hf
        rw [ih (k + 1) hx (by omega)]
        rfl

theorem blank_same (h : Same u v p) (n j : Nat) (hb : blankAt u k = some (n, j)) (hn : k + n ≤ p) : blankAt v k = some (n, j) := by
  have hu := h.hu
  have hv := h.hv
  have e0 := h.eq k (by omega)
  have e1 : k + 1 < u.size ∧ byt v (k + 1) = byt u (k + 1) ∨ k = p := by
    by_cases hk : k = p
    · exact .inr hk
    · exact .inl ⟨by omega, h.eq (k + 1) (by omega)⟩
  have hv1 : k + 1 < v.size := by omega
  unfold blankAt at hb ⊢
  rw [e0]
  split at hb
  · rename_i c; rw [if_pos c]; exact hb
  rename_i c1; rw [if_neg c1]
  split at hb
  · rename_i c; rw [if_pos c]; exact hb
  rename_i c2; rw [if_neg c2]
  split at hb
  · rename_i c
    simp at hb
    rw [if_pos ⟨c.1, hv1, by rw [h.eq (k + 1) (by omega)]; exact c.2.2⟩, hb.1, hb.2]
  rename_i c3
  split at hb
  · rename_i c
    cases hf : find2 42 47 (u.data.toList.drop (k + 2)) with
    | none => rw [hf] at hb; cases hb
    | some i =>
      rw [hf] at hb
      simp at hb
      have hk1 := h.eq (k + 1) (by omega)
      rw [if_neg (by rintro ⟨x, _⟩; omega), if_pos ⟨c.1, hv1, by rw [hk1]; exact c.2.2⟩, find_same h 42 47 i (k + 2) hf (by omega), ← hb.1, ← hb.2]
      rfl
  rename_i c4
  split at hb
  · rename_i c
    simp only [Option.some.injEq, Prod.mk.injEq] at hb
    have hr := run_cons (fun c => c != 10) u k (by omega)
    have hr1 := run_cons (fun c => c != 10) u (k + 1) c.2.1
    rw [if_pos (by rw [c.1]; rfl)] at hr
    have hk1 := h.eq (k + 1) (by omega)
    rw [if_neg (by rintro ⟨x, _⟩; omega), if_neg (by rintro ⟨_, _, x⟩; rw [hk1, c.2.2] at x; cases x), if_pos ⟨c.1, hv1, by rw [hk1]; exact c.2.2⟩, run_same h _ n hb.1 hn, ← hb.2]
  rename_i c5
  have k1 : ∀ y, y ≠ 32 → ¬ (k + 1 < u.size ∧ byt u (k + 1) = y) → ¬ (k + 1 < v.size ∧ byt v (k + 1) = y) := by
    rintro y hy hno ⟨_, hh⟩
    rcases e1 with ⟨q1, q2⟩ | q
    · exact hno ⟨q1, by rw [← q2]; exact hh⟩
    · rw [q, h.gap] at hh; exact hy hh.symm
  rw [if_neg (fun x => k1 10 (by omega) (fun y => c3 ⟨x.1, y⟩) x.2), if_neg (fun x => k1 42 (by omega) (fun y => c4 ⟨x.1, y⟩) x.2), if_neg (fun x => k1 47 (by omega) (fun y => c5 ⟨x.1, y⟩) x.2)]
  exact hb

theorem take_same (h : Same u v p) : ∀ (n k : Nat), k + n ≤ p + 1 → (v.data.toList.drop k).take n = (u.data.toList.drop k).take n := by
  intro n
  induction n with
  | zero => intro k _; rfl
  | succ n ih =>
    intro k hk
    have hu := h.hu
    have hv := h.hv
    obtain ⟨c, hc, hd⟩ := drop_at u k (by omega)
    obtain ⟨c', hc', hd'⟩ := drop_at v k (by omega)
    have e : c' = c := UInt8.toNat_inj.1 (by rw [hc, hc', h.eq k (by omega)])
    rw [hd, hd', List.take_succ_cons, List.take_succ_cons, ih (k + 1) (by omega), e]

theorem byte_same (h : Same u v p) (x n : Nat) (hb : byteAt u k = some (x, n)) (hn : k + n ≤ p) : byteAt v k = some (x, n) := by
  have hu := h.hu
  have hv := h.hv
  have hle := byteAt_le u k x n hb
  unfold byteAt at hb ⊢
  rw [if_neg (show ¬ v.size < k + 3 by omega)]
  rw [if_neg (show ¬ u.size < k + 3 by omega)] at hb
  rw [h.eq (k + 1) (by omega), h.eq (k + 2) (by omega)]
  split at hb
  · cases hb
  rename_i c1
  rw [if_neg c1]
  split at hb
  · rename_i c2
    rw [if_pos c2]
    split at hb
    · cases hb
    split at hb
    · rename_i c3
      cases he : esc (byt u (k + 2)) with
      | none => rw [he] at hb; cases hb
      | some y =>
        rw [he] at hb
        simp at hb
        rw [if_neg (show ¬ v.size < k + 4 by omega), if_pos (show byt v (k + 3) = 39 by rw [h.eq (k + 3) (by omega)]; exact c3), ← hb.1, ← hb.2]
        rfl
    · cases hb
  · rename_i c2
    rw [if_neg c2]
    exact hb

theorem quot_same (h : Same u v p) : ∀ (m k q : Nat), q ≤ m → quotAt u k = some q → k + q ≤ p + 1 → quotAt v k = some q := by
  intro m
  induction m using Nat.strongRecOn with
  | _ m ih =>
    intro k q hm hq hp
    have hu := h.hu
    have hv := h.hv
    have hle := quotAt_le u _ k q (Nat.le_refl _) hq
    have hk : k < u.size := by omega
    have hk' : k < v.size := by omega
    have e0 := h.eq k (by omega)
    by_cases c1 : byt u k = 34
    · rw [quotAt_34 u k hk c1] at hq
      rw [quotAt_34 v k hk' (by rw [e0]; exact c1)]; exact hq
    by_cases c2 : byt u k = 10
    · rw [quotAt_10 u k hk c2] at hq; cases hq
    by_cases c3 : byt u k = 92
    · by_cases h2 : u.size ≤ k + 1
      · rw [quotAt_92_end u k hk c3 h2] at hq; cases hq
      by_cases d : byt u (k + 1) = 10
      · rw [quotAt_92_10 u k hk c3 (by omega) d] at hq; cases hq
      rw [quotAt_92 u k hk c3 (by omega) d] at hq
      cases hx : quotAt u (k + 2) with
      | none => rw [hx] at hq; cases hq
      | some x =>
        rw [hx] at hq
        simp at hq
        have hx1 := quotAt_le u _ (k + 2) x (Nat.le_refl _) hx
        rw [quotAt_92 v k hk' (by rw [e0]; exact c3) (by omega) (by rw [h.eq (k + 1) (by omega)]; exact d), ih (q - 2) (by omega) (k + 2) x (by omega) hx (by omega)]
        simp; exact hq
    · rw [quotAt_else u k hk c1 c2 c3] at hq
      cases hx : quotAt u (k + 1) with
      | none => rw [hx] at hq; cases hq
      | some x =>
        rw [hx] at hq
        simp at hq
        rw [quotAt_else v k hk' (by rw [e0]; exact c1) (by rw [e0]; exact c2) (by rw [e0]; exact c3), ih (q - 1) (by omega) (k + 1) x (by omega) hx (by omega)]
        simp; exact hq

theorem long2_gap (a : Nat) : long2 a 32 = false := by
  simp [long2]

theorem tok_same (h : Same u v p) (he : (tokAt u k).er = 0) (hn : k + (tokAt u k).size ≤ p) (hk : k < p) : (tokAt v k).er = 0 ∧ (tokAt v k).size = (tokAt u k).size := by
  have hu := h.hu
  have hv := h.hv
  have b0 : byt (v.extract k v.size) 0 = byt (u.extract k u.size) 0 := by rw [ext_byt, ext_byt]; exact h.eq k (by omega)
  have b1 : byt (v.extract k v.size) 1 = byt (u.extract k u.size) 1 := by rw [ext_byt, ext_byt]; exact h.eq (k + 1) (by omega)
  have s1 : 1 < (v.extract k v.size).size := by rw [ext_size]; omega
  have s2 : 1 < (u.extract k u.size).size := by rw [ext_size]; omega
  unfold tokAt at *
  unfold tokR at *
  rw [b0, b1]
  by_cases c1 : isL (byt (u.extract k u.size) 0) = true
  · simp only [if_pos c1] at *
    rw [drop_str] at he hn ⊢
    rw [drop_str]
    unfold nameT at *
    by_cases c : run isLD (u.data.toList.drop k) ≤ 32
    · simp only [if_pos c] at *
      rw [run_same h isLD _ rfl hn]
      simp only [if_pos c]
      exact ⟨trivial, trivial⟩
    · simp only [if_neg c] at he; cases he
  simp only [if_neg c1] at *
  by_cases c2 : isD (byt (u.extract k u.size) 0) = true
  · simp only [if_pos c2] at *
    rw [drop_str] at he hn ⊢
    rw [drop_str]
    unfold numT at *
    by_cases c : cap 2147483648 ((u.data.toList.drop k).take (run isD (u.data.toList.drop k))) 0 ≤ 2147483647
    · simp only [if_pos c] at *
      rw [run_same h isD _ rfl hn, take_same h _ _ (by omega)]
      simp only [if_pos c]
      exact ⟨trivial, trivial⟩
    · simp only [if_neg c] at he; cases he
  simp only [if_neg c2] at *
  by_cases c3 : byt (u.extract k u.size) 0 = 39
  · simp only [if_pos c3] at *
    rw [byteB_ext u k (by omega)] at he hn ⊢
    rw [byteB_ext v k (by omega)]
    cases hb : byteAt u k with
    | none => rw [hb] at he; cases he
    | some q =>
      obtain ⟨x, n⟩ := q
      rw [hb] at hn
      rw [byte_same h x n hb hn]
      exact ⟨rfl, rfl⟩
  simp only [if_neg c3] at *
  by_cases c4 : byt (u.extract k u.size) 0 = 34
  · simp only [if_pos c4] at *
    rw [quotAt_ext] at he hn ⊢
    rw [quotAt_ext]
    cases hb : quotAt u (k + 1) with
    | none => rw [hb] at he; cases he
    | some q =>
      rw [hb] at hn he
      simp only [textT] at hn he ⊢
      by_cases c : 201 < q
      · simp only [if_pos c] at he; cases he
      · simp only [if_neg c] at *
        rw [quot_same h q (k + 1) q (Nat.le_refl _) hb (by omega)]
        simp only [if_neg c]
        exact ⟨trivial, trivial⟩
  simp only [if_neg c4] at *
  by_cases c5 : long2 (byt (u.extract k u.size) 0) (byt (u.extract k u.size) 1) = true
  · simp only [if_pos (And.intro s1 c5), if_pos (And.intro s2 c5)] at *
    exact ⟨trivial, trivial⟩
  rw [if_neg (fun x : 1 < (u.extract k u.size).size ∧ _ => c5 x.2)] at he hn ⊢
  rw [if_neg (fun x : 1 < (v.extract k v.size).size ∧ _ => c5 x.2)]
  by_cases c6 : short1 (byt (u.extract k u.size) 0) = true
  · simp only [if_pos c6] at *; exact ⟨trivial, trivial⟩
  · simp only [if_neg c6] at he; cases he

theorem tok_wrong (h : Same u v p) (he : (tokAt u p).er = 2) : (tokAt v p).er = 2 := by
  have hu := h.hu
  have hv := h.hv
  have b0 : byt (v.extract p v.size) 0 = byt (u.extract p u.size) 0 := by rw [ext_byt, ext_byt]; exact h.eq p (Nat.le_refl _)
  have b1 : byt (v.extract p v.size) 1 = 32 := by rw [ext_byt]; exact h.gap
  unfold tokAt at *
  unfold tokR at *
  rw [b0, b1]
  by_cases c1 : isL (byt (u.extract p u.size) 0) = true
  · simp only [if_pos c1] at he
    unfold nameT at he
    split at he <;> cases he
  simp only [if_neg c1] at *
  by_cases c2 : isD (byt (u.extract p u.size) 0) = true
  · simp only [if_pos c2] at he
    unfold numT at he
    split at he <;> cases he
  simp only [if_neg c2] at *
  by_cases c3 : byt (u.extract p u.size) 0 = 39
  · simp only [if_pos c3] at he
    cases hb : byteB (u.extract p u.size) with
    | none => rw [hb] at he; cases he
    | some q => rw [hb] at he; cases he
  simp only [if_neg c3] at *
  by_cases c4 : byt (u.extract p u.size) 0 = 34
  · simp only [if_pos c4] at he
    cases hb : quotAt (u.extract p u.size) 1 with
    | none => rw [hb] at he; cases he
    | some q =>
      rw [hb] at he
      simp only [textT] at he
      split at he <;> cases he
  simp only [if_neg c4] at *
  rw [if_neg (by rw [long2_gap]; simp)]
  split at he
  · cases he
  split at he
  · cases he
  · rename_i c6; rw [if_neg c6]; rfl

theorem Lx.ge {l c e : Nat} {ts : List TK} (h : Lx u k l c ts e p) (he : e ≠ 0) : k ≤ p ∧ p < u.size := by
  induction h with
  | fin _ _ _ _ => exact absurd rfl he
  | opened k l c hk _ => exact ⟨Nat.le_refl _, hk⟩
  | blank k l c n j ts e p hk hb hn _ ih => have := ih he; omega
  | wrong k l c hk _ _ => exact ⟨Nat.le_refl _, hk⟩
  | many k l c hk _ _ _ => exact ⟨Nat.le_refl _, hk⟩
  | tok k l c ts e p hk hb h0 hc _ ih => have := ih he; omega

/-- What is wrong at a place is told whatever stands behind it and a blank. -/
theorem Lx.local_ {l c e : Nat} {ts : List TK} (h : Lx u k l c ts e p) (he : e = 2) (hs : Same u v p) : ∃ ts', Lx v k l c ts' 2 p := by
  have hu := hs.hu
  have hv := hs.hv
  induction h with
  | fin _ _ _ _ => cases he
  | opened _ _ _ _ _ => cases he
  | blank k l c n j ts e p hk hb hn hx ih =>
    obtain ⟨ts', h1⟩ := ih he hs hs.hu hs.hv
    have hg := hx.ge (by omega)
    exact ⟨ts', .blank k l c n j ts' 2 p (by omega) (blank_same hs n j hb (by omega)) hn h1⟩
  | wrong k l c hk hb h0 =>
    have h1 := Lx.wrong (u := v) k l c (by omega) (blank_same hs 0 0 hb (by omega)) (by rw [tok_wrong hs he]; omega)
    rw [tok_wrong hs he] at h1
    exact ⟨_, h1⟩
  | many _ _ _ _ _ _ _ => cases he
  | tok k l c ts e p hk hb h0 hc hx ih =>
    obtain ⟨ts', h1⟩ := ih he hs hs.hu hs.hv
    have hg := hx.ge (by omega)
    have hz := tokAt_le u k hk h0
    obtain ⟨q1, q2⟩ := tok_same hs h0 (by omega) (by omega)
    rw [← q2] at h1
    exact ⟨_, .tok k l c ts' 2 p (by omega) (blank_same hs 0 0 hb (by omega)) q1 hc h1⟩
end
end Go.Proofs.Ytmkfcoeefopmiaa
