/- What a source's tokens are, or what is wrong, as one relation; the document's Next, whole. -/
import Derived.Test.YtojneaffoekpnaaLTwo
import Derived.Test.YtojneaffoekpnaaLNextB
import Derived.Test.YtojneaffoekpnaaLNextC
import Derived.Test.YtojneaffoekpnaaLNextD
namespace Go.Proofs.Ytojneaffoekpnaa.lx
set_option linter.unusedVariables false
set_option linter.unusedSimpArgs false
open Go.ChangeShapes Go.WideShapes Go.ChangeAt Go.RowKit

/-- The token at place k. -/
def tokAt (u : ByteArray) (k : Nat) : TR := tokR (u.extract k u.size)
/-- A token as it is told: its number, where it stands, its line. -/
structure TK where
  kind : Nat
  pos : Nat
  line : Nat
  text : ByteArray
  num : Nat

/-- From place k and line l on, with c tokens told: the tokens, and what is wrong (0: nothing), and where. -/
inductive Lx (u : ByteArray) : Nat → Nat → Nat → List TK → Nat → Nat → Prop
  | fin (k l c : Nat) : u.size ≤ k → Lx u k l c [⟨0, k, l, ⟨#[]⟩, 0⟩] 0 0
  | opened (k l c : Nat) : k < u.size → blankAt u k = none → Lx u k l c [] 3 k
  | blank (k l c n j : Nat) (ts : List TK) (e p : Nat) : k < u.size → blankAt u k = some (n, j) → 0 < n → Lx u (k + n) (l + j) c ts e p → Lx u k l c ts e p
  | wrong (k l c : Nat) : k < u.size → blankAt u k = some (0, 0) → (tokAt u k).er ≠ 0 → Lx u k l c [] (tokAt u k).er k
  | many (k l c : Nat) : k < u.size → blankAt u k = some (0, 0) → (tokAt u k).er = 0 → c = 8191 → Lx u k l c [] 8 k
  | tok (k l c : Nat) (ts : List TK) (e p : Nat) : k < u.size → blankAt u k = some (0, 0) → (tokAt u k).er = 0 → c ≠ 8191 → Lx u (k + (tokAt u k).size) l (c + 1) ts e p → Lx u k l c (⟨(tokAt u k).kind, k, l, (tokAt u k).text, (tokAt u k).num⟩ :: ts) e p

theorem ext_size (u : ByteArray) (k : Nat) : (u.extract k u.size).size = u.size - k := by simp
theorem ext_byt (u : ByteArray) (k i : Nat) : byt (u.extract k u.size) i = byt u (k + i) := by
  unfold byt
  rw [drop_str]
  congr 1
  rw [List.getD_eq_getElem?_getD, List.getD_eq_getElem?_getD, List.getElem?_drop]
theorem ext_ext (u : ByteArray) (k a b : Nat) (h : k + b ≤ u.size) : (u.extract k u.size).extract a b = u.extract (k + a) (k + b) := by
  have h1 : ((u.extract k u.size).extract a b).data = (u.extract (k + a) (k + b)).data := by
    simp only [ByteArray.data_extract, Array.extract_extract]
    rw [Nat.min_eq_left h]
  cases hx : (u.extract k u.size).extract a b with
  | mk d => cases hy : u.extract (k + a) (k + b) with
    | mk d' => rw [hx, hy] at h1; simp only at h1; rw [h1]
theorem byteB_ext (u : ByteArray) (k : Nat) (hk : k < u.size) : byteB (u.extract k u.size) = byteAt u k := by
  unfold byteB byteAt
  rw [ext_size, ext_byt, ext_byt, ext_byt]
  by_cases h : u.size < k + 3
  · rw [if_pos h, if_pos (show u.size - k < 3 by omega)]
  rw [if_neg h, if_neg (show ¬ u.size - k < 3 by omega)]
  by_cases h4 : u.size < k + 4
  · simp only [if_pos h4, if_pos (show u.size - k < 4 by omega)]
  · simp only [if_neg h4, if_neg (show ¬ u.size - k < 4 by omega)]
theorem quotAt_ext (u : ByteArray) (k i : Nat) : quotAt (u.extract k u.size) i = quotAt u (k + i) := by
  unfold quotAt
  rw [drop_str, List.drop_drop]

/-- Where nothing is wrong, a token has at least one byte, and ends within the source. -/
theorem tokAt_le (u : ByteArray) (k : Nat) (hk : k < u.size) (h : (tokAt u k).er = 0) : k + (tokAt u k).size ≤ u.size ∧ 1 ≤ (tokAt u k).size := by
  unfold tokAt at *
  unfold tokR at *
  have hs := ext_size u k
  by_cases c1 : isL (byt (u.extract k u.size) 0) = true
  · simp only [if_pos c1] at *
    have h1 := run_le isLD (u.extract k u.size).data.toList
    rw [show (u.extract k u.size).data.toList.length = u.size - k by simp] at h1
    have h2 : 1 ≤ run isLD (u.extract k u.size).data.toList := by
      rw [drop_str, run_cons _ u k hk, if_pos (by rw [ext_byt] at c1; unfold isLD; rw [show k + 0 = k from rfl] at c1; rw [c1]; rfl)]
      omega
    unfold nameT at *
    split at h
    · rename_i c; rw [if_pos c]; simp only; omega
    · cases h
  simp only [if_neg c1] at *
  by_cases c2 : isD (byt (u.extract k u.size) 0) = true
  · simp only [if_pos c2] at *
    have h1 := run_le isD (u.extract k u.size).data.toList
    rw [show (u.extract k u.size).data.toList.length = u.size - k by simp] at h1
    have h2 : 1 ≤ run isD (u.extract k u.size).data.toList := by
      rw [drop_str, run_cons _ u k hk, if_pos (by rw [ext_byt] at c2; exact c2)]
      omega
    unfold numT at *
    split at h
    · rename_i c; rw [if_pos c]; simp only; omega
    · cases h
  simp only [if_neg c2] at *
  by_cases c3 : byt (u.extract k u.size) 0 = 39
  · simp only [if_pos c3] at *
    rw [byteB_ext u k hk] at *
    cases hb : byteAt u k with
    | none => rw [hb] at h; cases h
    | some p =>
      obtain ⟨v, n⟩ := p
      have := byteAt_le u k v n hb
      simp only [byteT]
      omega
  simp only [if_neg c3] at *
  by_cases c4 : byt (u.extract k u.size) 0 = 34
  · simp only [if_pos c4] at *
    rw [quotAt_ext] at *
    cases hb : quotAt u (k + 1) with
    | none => rw [hb] at h; cases h
    | some q =>
      have := quotAt_le u _ (k + 1) q (Nat.le_refl _) hb
      rw [hb] at h
      simp only [textT] at h ⊢
      split at h
      · cases h
      · rename_i c; rw [if_neg c]; simp only; omega
  simp only [if_neg c4] at *
  by_cases c5 : 1 < (u.extract k u.size).size ∧ long2 (byt (u.extract k u.size) 0) (byt (u.extract k u.size) 1) = true
  · simp only [if_pos c5] at *; omega
  simp only [if_neg c5] at *
  by_cases c6 : short1 (byt (u.extract k u.size) 0) = true
  · simp only [if_pos c6] at *; omega
  · simp only [if_neg c6] at h; cases h

theorem blank_zero (u : ByteArray) (k n j : Nat) (h : blankAt u k = some (n, j)) (hn : n = 0) : j = 0 := by
  subst hn
  unfold blankAt at h
  split at h
  · cases h
  split at h
  · cases h
  split at h
  · cases h
  split at h
  · cases hf : find2 42 47 (u.data.toList.drop (k + 2)) with
    | none => rw [hf] at h; cases h
    | some i => rw [hf] at h; cases h
  split at h
  · simp only [Option.some.injEq, Prod.mk.injEq] at h
    exact h.2.symm
  · cases h; rfl

theorem Lx.all (u : ByteArray) : ∀ (m k l c : Nat), u.size - k ≤ m → ∃ ts e p, Lx u k l c ts e p := by
  intro m
  induction m with
  | zero => intro k l c h; exact ⟨_, _, _, .fin k l c (by omega)⟩
  | succ m ih =>
    intro k l c h
    by_cases hk : u.size ≤ k
    · exact ⟨_, _, _, .fin k l c hk⟩
    have hk : k < u.size := by omega
    cases hb : blankAt u k with
    | none => exact ⟨_, _, _, .opened k l c hk hb⟩
    | some q =>
      obtain ⟨n, j⟩ := q
      by_cases hn : n = 0
      · have hj := blank_zero u k n j hb hn
        subst hn hj
        by_cases he : (tokAt u k).er = 0
        · by_cases hc : c = 8191
          · exact ⟨_, _, _, .many k l c hk hb he hc⟩
          · have := tokAt_le u k hk he
            obtain ⟨ts, e, p, h1⟩ := ih (k + (tokAt u k).size) l (c + 1) (by omega)
            exact ⟨_, _, _, .tok k l c ts e p hk hb he hc h1⟩
        · exact ⟨_, _, _, .wrong k l c hk hb he⟩
      · obtain ⟨ts, e, p, h1⟩ := ih (k + n) (l + j) c (by omega)
        exact ⟨_, _, _, .blank k l c n j ts e p hk hb (by omega) h1⟩

section
variable {u : ByteArray} {k l c e p : Nat} {ts : List TK}
theorem Lx.at_fin (h : Lx u k l c ts e p) (hk : u.size ≤ k) : ts = [⟨0, k, l, ⟨#[]⟩, 0⟩] ∧ e = 0 ∧ p = 0 := by
  cases h with
  | fin _ _ _ _ => exact ⟨rfl, rfl, rfl⟩
  | opened _ _ _ h _ => omega
  | blank _ _ _ _ _ _ _ _ h _ _ _ => omega
  | wrong _ _ _ h _ _ => omega
  | many _ _ _ h _ _ _ => omega
  | tok _ _ _ _ _ _ h _ _ _ _ => omega
theorem Lx.at_open (h : Lx u k l c ts e p) (hk : k < u.size) (hb : blankAt u k = none) : ts = [] ∧ e = 3 ∧ p = k := by
  cases h with
  | fin _ _ _ _ => omega
  | opened _ _ _ h _ => exact ⟨rfl, rfl, rfl⟩
  | blank _ _ _ _ _ _ _ _ _ h _ _ => rw [hb] at h; cases h
  | wrong _ _ _ _ h _ => rw [hb] at h; cases h
  | many _ _ _ _ h _ _ => rw [hb] at h; cases h
  | tok _ _ _ _ _ _ _ h _ _ _ => rw [hb] at h; cases h
theorem Lx.at_blank {n j : Nat} (h : Lx u k l c ts e p) (hk : k < u.size) (hb : blankAt u k = some (n, j)) (hn : 0 < n) : Lx u (k + n) (l + j) c ts e p := by
  cases h with
  | fin _ _ _ _ => omega
  | opened _ _ _ _ h => rw [hb] at h; cases h
  | blank _ _ _ _ _ _ _ _ _ h _ h' => rw [hb] at h; cases h; exact h'
  | wrong _ _ _ _ h _ => rw [hb] at h; cases h; omega
  | many _ _ _ _ h _ _ => rw [hb] at h; cases h; omega
  | tok _ _ _ _ _ _ _ h _ _ _ => rw [hb] at h; cases h; omega
theorem Lx.at_wrong (h : Lx u k l c ts e p) (hk : k < u.size) (hb : blankAt u k = some (0, 0)) (he : (tokAt u k).er ≠ 0) : ts = [] ∧ e = (tokAt u k).er ∧ p = k := by
  cases h with
  | fin _ _ _ _ => omega
  | opened _ _ _ _ h => rw [hb] at h; cases h
  | blank _ _ _ _ _ _ _ _ _ h hn h' => rw [hb] at h; cases h; omega
  | wrong _ _ _ _ h _ => exact ⟨rfl, rfl, rfl⟩
  | many _ _ _ _ h h2 _ => exact absurd h2 he
  | tok _ _ _ _ _ _ _ h h2 _ _ => exact absurd h2 he
theorem Lx.at_many (h : Lx u k l c ts e p) (hk : k < u.size) (hb : blankAt u k = some (0, 0)) (he : (tokAt u k).er = 0) (hc : c = 8191) : ts = [] ∧ e = 8 ∧ p = k := by
  cases h with
  | fin _ _ _ _ => omega
  | opened _ _ _ _ h => rw [hb] at h; cases h
  | blank _ _ _ _ _ _ _ _ _ h hn h' => rw [hb] at h; cases h; omega
  | wrong _ _ _ _ h h2 => exact absurd he h2
  | many _ _ _ _ h h2 _ => exact ⟨rfl, rfl, rfl⟩
  | tok _ _ _ _ _ _ _ h h2 h3 _ => exact absurd hc h3
theorem Lx.at_tok (h : Lx u k l c ts e p) (hk : k < u.size) (hb : blankAt u k = some (0, 0)) (he : (tokAt u k).er = 0) (hc : c ≠ 8191) :
    ∃ ts', ts = ⟨(tokAt u k).kind, k, l, (tokAt u k).text, (tokAt u k).num⟩ :: ts' ∧ Lx u (k + (tokAt u k).size) l (c + 1) ts' e p := by
  cases h with
  | fin _ _ _ _ => omega
  | opened _ _ _ _ h => rw [hb] at h; cases h
  | blank _ _ _ _ _ _ _ _ _ h hn h' => rw [hb] at h; cases h; omega
  | wrong _ _ _ _ h h2 => exact absurd he h2
  | many _ _ _ _ h h2 h3 => exact absurd h3 hc
  | tok _ _ _ _ _ _ _ h h2 h3 h4 => exact ⟨_, rfl, h4⟩
/-- All blanks passed at once. -/
theorem Lx.skip {k' l' : Nat} {b : Bool} (hs : Skip u k l k' l' b) : Lx u k l c ts e p → (if b then Lx u k' l' c ts e p ∧ (k' < u.size → blankAt u k' = some (0, 0)) else k' < u.size ∧ blankAt u k' = none ∧ Lx u k' l' c ts e p) := by
  induction hs with
  | fin k l hk => intro h; exact ⟨h, fun h' => by omega⟩
  | stop k l hk hb => intro h; exact ⟨h, fun _ => hb⟩
  | bad k l hk hb => intro h; exact ⟨hk, hb, h⟩
  | go k l n j k' l' b hk hb hn _ ih => intro h; exact ih (h.at_blank hk hb hn)
theorem Skip.add {k' l' : Nat} {b : Bool} (d : Nat) (hs : Skip u k l k' l' b) : Skip u k (l + d) k' (l' + d) b := by
  induction hs with
  | fin k l hk => exact .fin _ _ hk
  | stop k l hk hb => exact .stop _ _ hk hb
  | bad k l hk hb => exact .bad _ _ hk hb
  | go k l n j k' l' b hk hb hn _ ih => exact .go _ _ n j _ _ _ hk hb hn (by rw [show l + d + j = l + j + d by omega]; exact ih)
theorem Skip.le {k' l' : Nat} {b : Bool} (hs : Skip u k l k' l' b) : k ≤ k' ∧ (k ≤ u.size → k' ≤ u.size) := by
  induction hs with
  | fin k l hk => exact ⟨Nat.le_refl _, id⟩
  | stop k l hk hb => exact ⟨Nat.le_refl _, id⟩
  | bad k l hk hb => exact ⟨Nat.le_refl _, id⟩
  | go k l n j k' l' b hk hb hn _ ih => have := blankAt_le u k n j hk hb; exact ⟨by omega, fun _ => ih.2 this⟩
end

theorem least (P : Nat → Bool) : ∀ n, (∃ i, i < n ∧ P i = true) → ∃ i, i < n ∧ P i = true ∧ ∀ j, j < i → P j = false := by
  intro n
  induction n with
  | zero => rintro ⟨i, h, _⟩; omega
  | succ n ih =>
    rintro ⟨i, hi, hp⟩
    by_cases h : ∃ i, i < n ∧ P i = true
    · obtain ⟨i, h1, h2, h3⟩ := ih h; exact ⟨i, by omega, h2, h3⟩
    · have hin : i = n := by
        rcases Nat.lt_or_ge i n with h1 | h1
        · exact absurd ⟨i, h1, hp⟩ h
        · omega
      subst hin
      refine ⟨i, by omega, hp, fun j hj => ?_⟩
      cases hq : P j with
      | false => rfl
      | true => exact absurd ⟨j, hj, hq⟩ h
theorem take_mem0 : ∀ i, i < 15 → ∃ q ∈ marksB.take 15, marksB.getD i ByteArray.empty = q := by decide +kernel
theorem take_mem (i : Nat) (h : i < 15) : marksB.getD i ByteArray.empty ∈ marksB.take 15 := by obtain ⟨q, hq, e⟩ := take_mem0 i h; rw [e]; exact hq
theorem drop_mem0 : ∀ i, i < 41 → 15 ≤ i → ∃ q ∈ marksB.drop 15, marksB.getD i ByteArray.empty = q := by decide +kernel
theorem drop_mem (i : Nat) (h : i < 41) (h2 : 15 ≤ i) : marksB.getD i ByteArray.empty ∈ marksB.drop 15 := by obtain ⟨q, hq, e⟩ := drop_mem0 i h h2; rw [e]; exact hq
theorem take_idx : ∀ p ∈ marksB.take 15, ∃ i, i < 15 ∧ marksB.getD i ByteArray.empty = p := by decide +kernel
theorem drop_idx : ∀ p ∈ marksB.drop 15, ∃ i, i < 41 ∧ marksB.getD i ByteArray.empty = p := by decide +kernel
theorem pre_eq (u : ByteArray) (k : Nat) (p : ByteArray) (h : pre u k p = true) : u.extract k (k + p.size) = p ∧ k + p.size ≤ u.size := by
  unfold pre at h
  simp only [Bool.and_eq_true, decide_eq_true_eq, beq_iff_eq, ByteArray.toList_eq] at h
  refine ⟨?_, h.1⟩
  have h2 := Array.toList_inj.1 h.2
  cases hx : u.extract k (k + p.size) with
  | mk d => rw [hx] at h2; simp only at h2; rw [h2]
theorem long_of_pre (u : ByteArray) (k i : Nat) (hi : i < 15) (h : pre u k (marksB.getD i ByteArray.empty) = true) : k + 1 < u.size ∧ long2 (byt u k) (byt u (k + 1)) = true ∧ marksB.getD i ByteArray.empty = u.extract k (k + 2) ∧ (marksB.getD i ByteArray.empty).size = 2 := by
  obtain ⟨a, b, hp, hl⟩ := marks_long _ (take_mem i hi)
  have he := pre_eq u k _ h
  rw [hp] at h he ⊢
  rw [pre_2] at h
  unfold two at h
  simp at h
  refine ⟨h.1.1, ?_, he.1.symm, rfl⟩
  rw [h.1.2, h.2]; exact hl
theorem short_of_pre (u : ByteArray) (k i : Nat) (hk : k < u.size) (hi : i < 41) (hi2 : 15 ≤ i) (h : pre u k (marksB.getD i ByteArray.empty) = true) : short1 (byt u k) = true ∧ marksB.getD i ByteArray.empty = u.extract k (k + 1) ∧ (marksB.getD i ByteArray.empty).size = 1 := by
  obtain ⟨a, hp, hl⟩ := marks_short _ (drop_mem i hi hi2)
  have he := pre_eq u k _ h
  rw [hp] at h he ⊢
  rw [pre_1 u k hk] at h
  simp at h
  refine ⟨?_, he.1.symm, rfl⟩
  rw [h]; exact hl

/-- The document's Next answers the token at its place. -/
def nextV (r : TR) (k : Nat) : Value := sixT r (if r.er = 0 then k else 0) 0

set_option maxHeartbeats 1000000 in
theorem next_any (u : ByteArray) (k : Nat) (w : World) (hs : u.size ≤ 65535) (hk : k < u.size) :
    Calls Try.prog 27 #[.string u, .int .i64 k] w fun e w' => e = .returned (nextV (tokAt u k) k) ∧ Below w.heap.size w w' := by
  have hb0 : byt (u.extract k u.size) 0 = byt u k := ext_byt u k 0
  have hb1 : byt (u.extract k u.size) 1 = byt u (k + 1) := ext_byt u k 1
  have hvs := ext_size u k
  unfold tokAt tokR
  rw [hb0, hb1, hvs]
  by_cases c1 : isL (byt u k) = true
  · rw [if_pos c1, drop_str]
    refine (next_name u k w hs hk c1 _ (Lib.hid rfl)).mono fun e w' ⟨he, hb⟩ => ⟨?_, hb⟩
    rw [he]
    have hr := run_le isLD (u.data.toList.drop k)
    simp at hr
    unfold nameV nameT nextV sixT
    split
    · rw [ext_ext u k 0 _ (by omega)]; rfl
    · rfl
  rw [if_neg c1]
  have c1' : isL (byt u k) = false := by simpa using c1
  by_cases c2 : isD (byt u k) = true
  · rw [if_pos c2, drop_str]
    have hr := run_le isD (u.data.toList.drop k)
    simp at hr
    refine (next_num u k w hs hk c1' c2 _ (Lib.hid rfl) (fun j => cap 1099511627776 ((u.data.toList.drop k).take j) 0) rfl (Lib.hid fun j hj => ?_)).mono fun e w' ⟨he, hb⟩ => ⟨?_, hb⟩
    · have hjl : j < (u.data.toList.drop k).length := by simp; omega
      show cap 1099511627776 ((u.data.toList.drop k).take (j + 1)) 0 = min (10 * cap 1099511627776 ((u.data.toList.drop k).take j) 0 + (byt u (k + j) - 48)) 1099511627776
      rw [List.take_succ_eq_append_getElem hjl, cap_snoc, byt_drop u k j hjl]
    · rw [he]
      have e1 := cap_val 1099511627776 (by omega) ((u.data.toList.drop k).take (run isD (u.data.toList.drop k))) 0 0 rfl
      have e2 := cap_val 2147483648 (by omega) ((u.data.toList.drop k).take (run isD (u.data.toList.drop k))) 0 0 rfl
      unfold numV numT nextV sixT
      rw [e1, e2]
      by_cases hv : val ((u.data.toList.drop k).take (run isD (u.data.toList.drop k))) 0 ≤ 2147483647
      · rw [if_pos (by omega), if_pos (by omega), ext_ext u k 0 _ (by omega)]
        simp only [Nat.min_eq_left (show val ((u.data.toList.drop k).take (run isD (u.data.toList.drop k))) 0 ≤ 1099511627776 by omega), Nat.min_eq_left (show val ((u.data.toList.drop k).take (run isD (u.data.toList.drop k))) 0 ≤ 2147483648 by omega)]
        rfl
      · rw [if_neg (by omega), if_neg (by omega)]; rfl
  rw [if_neg c2]
  have c2' : isD (byt u k) = false := by simpa using c2
  by_cases c3 : byt u k = 39
  · rw [if_pos c3, byteB_ext u k hk]
    refine (next_byte u k w hs hk c3).mono fun e w' ⟨he, hb⟩ => ⟨?_, hb⟩
    rw [he]
    cases hx : byteAt u k with
    | none => rfl
    | some q =>
      obtain ⟨v, n⟩ := q
      have := byteAt_le u k v n hx
      simp only [byteT, byteNV, nextV, sixT]
      rw [ext_ext u k 0 _ (by omega)]
      rfl
  rw [if_neg c3]
  by_cases c4 : byt u k = 34
  · rw [if_pos c4, quotAt_ext]
    refine (next_text u k w hs hk c4).mono fun e w' ⟨he, hb⟩ => ⟨?_, hb⟩
    rw [he]
    cases hx : quotAt u (k + 1) with
    | none => rfl
    | some q =>
      have := quotAt_le u _ (k + 1) q (Nat.le_refl _) hx
      simp only [textT, textNV, nextV, sixT]
      split
      · rfl
      · rw [ext_ext u k 1 _ (by omega)]; rfl
  rw [if_neg c4]
  refine next_mark u k w hs hk (byt u k) rfl c1' c2' c3 c4 _ ?_
  by_cases c5 : 1 < u.size - k ∧ long2 (byt u k) (byt u (k + 1)) = true
  · rw [if_pos c5]
    obtain ⟨x, y, hm, hx, hy⟩ := long_mark _ _ c5.2
    have hpre : pre u k ⟨#[x, y]⟩ = true := by rw [pre_2, hx, hy]; unfold two; simp; omega
    obtain ⟨i0, hi0, hp0⟩ := take_idx _ hm
    obtain ⟨i, hi, hp, hmin⟩ := least (fun i => pre u k (marksB.getD i ByteArray.empty)) 15 ⟨i0, hi0, by rw [hp0]; exact hpre⟩
    obtain ⟨h1, h2, h3, h4⟩ := long_of_pre u k i hi hp
    refine .inl ⟨i, by omega, hmin, hp, ?_⟩
    rw [h4, h3, ext_ext u k 0 2 (by omega)]
    rfl
  · rw [if_neg c5]
    have hlow : ∀ i, i < 15 → pre u k (marksB.getD i ByteArray.empty) = false := fun i hi => by
      cases hp : pre u k (marksB.getD i ByteArray.empty) with
      | false => rfl
      | true => obtain ⟨h1, h2, _⟩ := long_of_pre u k i hi hp; exact absurd ⟨by omega, h2⟩ c5
    by_cases c6 : short1 (byt u k) = true
    · rw [if_pos c6]
      obtain ⟨x, hm, hx⟩ := short_mark _ c6
      have hpre : pre u k ⟨#[x]⟩ = true := by rw [pre_1 u k hk, hx]; simp
      obtain ⟨i0, hi0, hp0⟩ := drop_idx _ hm
      obtain ⟨i, hi, hp, hmin⟩ := least (fun i => pre u k (marksB.getD i ByteArray.empty)) 41 ⟨i0, hi0, by rw [hp0]; exact hpre⟩
      have hi15 : 15 ≤ i := by
        rcases Nat.lt_or_ge i 15 with h | h
        · have := hlow i h; rw [this] at hp; cases hp
        · exact h
      obtain ⟨h1, h3, h4⟩ := short_of_pre u k i hk hi hi15 hp
      refine .inl ⟨i, hi, hmin, hp, ?_⟩
      rw [h4, h3, ext_ext u k 0 1 (by omega)]
      rfl
    · rw [if_neg c6]
      refine .inr ⟨fun i hi => ?_, rfl⟩
      rcases Nat.lt_or_ge i 15 with h | h
      · exact hlow i h
      · cases hp : pre u k (marksB.getD i ByteArray.empty) with
        | false => rfl
        | true => exact absurd (short_of_pre u k i hk hi h hp).1 c6
end Go.Proofs.Ytojneaffoekpnaa.lx
