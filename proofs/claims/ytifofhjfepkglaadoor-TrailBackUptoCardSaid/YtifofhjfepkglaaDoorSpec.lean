/- The text of an end, and the end that a text tells: what the document says, in plain words. No program is spoken of here. -/
import Derived.Test.YtifofhjfepkglaaDoorPure
namespace Go.Proofs.YtifofhjfepkglaaDoor
open Go
set_option linter.unusedVariables false
set_option linter.unusedSimpArgs false

/-- A move. -/
structure MV where
  a : Int
  b : Int
  c : Int
  d : Int
  e : Int
  f : Int
  g : Int
def mvL (m : MV) : List Int := [m.a, m.b, m.c, m.d, m.e, m.f, m.g]
/-- An end. -/
structure FD where
  kind : Int
  what : Int
  err : Int
  at_ : Int
  trail : List MV
  cyc : Int
  states : Int
  steps : Int
def fdL (f : FD) : List Int := [f.kind, f.what, f.err, f.at_, f.states, f.steps]
def fd0 : FD := ⟨0, 0, 0, 0, [], -1, 0, 0⟩
def fdZ : FD := ⟨0, 0, 0, 0, [], 0, 0, 0⟩

def foundW : List UInt8 := [102, 111, 117, 110, 100]
def moveW : List UInt8 := [109, 111, 118, 101]
def cycleW : List UInt8 := [99, 121, 99, 108, 101]

/-! ### The text -/
def wordsB (w : List UInt8) (l : List Int) : List UInt8 := w ++ l.flatMap fun n => 32 :: Lib.itoa n
def lineB (w : List UInt8) (l : List Int) : List UInt8 := wordsB w l ++ [10]
def mvB (cyc : Int) (i : Nat) (m : MV) : List UInt8 := (if (i : Int) = cyc then lineB cycleW [] else []) ++ lineB moveW (mvL m)
def bodyB (cyc : Int) : Nat → List MV → List UInt8
  | _, [] => []
  | i, m :: r => mvB cyc i m ++ bodyB cyc (i + 1) r
def printB (f : FD) : List UInt8 := lineB foundW (fdL f) ++ bodyB f.cyc 0 f.trail
def badF (f : FD) : Bool := decide (f.kind < 1) || decide (4 < f.kind) || decide (f.cyc < -1) || decide ((f.trail.length : Int) ≤ f.cyc)

theorem wordsB_snoc (w : List UInt8) (l : List Int) (n : Int) : wordsB w (l ++ [n]) = wordsB w l ++ 32 :: Lib.itoa n := by simp [wordsB]
theorem wordsB_nil (w : List UInt8) : wordsB w [] = w := by simp [wordsB]
theorem bodyB_snoc (cyc : Int) : ∀ (i : Nat) (l : List MV) (m : MV), bodyB cyc i (l ++ [m]) = bodyB cyc i l ++ mvB cyc (i + l.length) m
  | i, [], m => by simp [bodyB]
  | i, x :: r, m => by
    have := bodyB_snoc cyc (i + 1) r m
    simp only [List.cons_append, bodyB, this, List.length_cons, List.append_assoc]
    rw [show i + 1 + r.length = i + (r.length + 1) by omega]

/-! ### What is read -/
def numsOf (w word : List UInt8) (n : Nat) : Option (List Int) :=
  match parts 32 w with
  | [] => none
  | p :: ps => if ps.length = n ∧ p = word then ps.mapM num else none
def mvOf : List Int → MV
  | [a, b, c, d, e, f, g] => ⟨a, b, c, d, e, f, g⟩
  | _ => ⟨0, 0, 0, 0, 0, 0, 0⟩
structure PS where
  first : Bool
  f : FD
  due : Bool
def ps0 : PS := ⟨true, fd0, false⟩
def headF (f : FD) : List Int → FD
  | [k, wh, er, a, ss, sp] => ⟨k, wh, er, a, f.trail, f.cyc, ss, sp⟩
  | _ => f
def stepP (st : PS) (w : List UInt8) : Option PS :=
  if st.first = true then
    match numsOf w foundW 6 with
    | some l => if l.headD 0 < 1 ∨ 4 < l.headD 0 then none else some ⟨false, headF st.f l, st.due⟩
    | none => none
  else if w = cycleW then
    if 0 ≤ st.f.cyc then none else some ⟨false, { st.f with cyc := st.f.trail.length }, true⟩
  else
    match numsOf w moveW 7 with
    | some l => some ⟨false, { st.f with trail := st.f.trail ++ [mvOf l] }, false⟩
    | none => none
/-- What is read: the end, or where the line begins that is wrong. -/
inductive PR where
  | ok (f : FD)
  | bad (at_ : Nat)
def parseL (at_ : Nat) (st : PS) : List (List UInt8) → PR
  | [] => .bad at_
  | [w] => if w = [] ∧ st.first = false ∧ st.due = false then .ok st.f else .bad at_
  | w :: x :: r =>
    match stepP st w with
    | none => .bad at_
    | some st' => parseL (at_ + w.length + 1) st' (x :: r)
def parseF (s : List UInt8) : PR := parseL 0 ps0 (parts 10 s)

theorem parseL_cons (at_ : Nat) (st : PS) (w : List UInt8) (l : List (List UInt8)) (h : l ≠ []) :
    parseL at_ st (w :: l) = (match stepP st w with | none => .bad at_ | some st' => parseL (at_ + w.length + 1) st' l) := by
  cases l with
  | nil => exact absurd rfl h
  | cons x r => rfl

theorem mapM_length {l : List (List UInt8)} {r : List Int} (h : l.mapM num = some r) : r.length = l.length := by
  induction l generalizing r with
  | nil => simp at h; subst h; rfl
  | cons x t ih =>
    simp only [List.mapM_cons] at h
    cases hx : num x with
    | none => simp [hx] at h
    | some n =>
      cases ht : t.mapM num with
      | none => simp [hx, ht] at h
      | some r' =>
        simp [hx, ht] at h
        subst h
        simp [ih ht]
theorem numsOf_length {w word : List UInt8} {n : Nat} {l : List Int} (h : numsOf w word n = some l) : l.length = n := by
  unfold numsOf at h
  split at h
  · cases h
  · split at h
    · rename_i hc
      rw [mapM_length h, hc.1]
    · cases h
theorem cycle_move : numsOf cycleW moveW 7 = none := by decide

/-! ### There and back -/
theorem itoa_no (n : Int) (h : inI n) (c : UInt8) (hc : c = 32 ∨ c = 10) : ∀ x ∈ Lib.itoa n, x ≠ c := by
  intro x hx e
  subst e
  unfold Lib.itoa at hx
  have hd : ∀ u, x ∈ Lib.decDigits u → False := fun u hu => by
    have := dec_all u x hu
    rcases hc with rfl | rfl
    · exact absurd this.1 (by decide)
    · exact absurd this.1 (by decide)
  split at hx
  · simp only [List.mem_cons] at hx
    rcases hx with h1 | h1
    · rcases hc with rfl | rfl <;> cases h1
    · exact hd _ h1
  · exact hd _ hx
theorem wordsB_no (w : List UInt8) (l : List Int) (hw : ∀ x ∈ w, x ≠ 10) (hl : ∀ n ∈ l, inI n) : ∀ x ∈ wordsB w l, x ≠ 10 := by
  intro x hx
  unfold wordsB at hx
  simp only [List.mem_append, List.mem_flatMap, List.mem_cons] at hx
  rcases hx with h | ⟨n, hn, rfl | h⟩
  · exact hw x h
  · decide
  · exact itoa_no n (hl n hn) 10 (.inr rfl) x h
theorem parts_words (w : List UInt8) (hw : ∀ x ∈ w, x ≠ 32) : ∀ l : List Int, (∀ n ∈ l, inI n) → parts 32 (wordsB w l) = w :: l.map Lib.itoa := by
  intro l
  induction l generalizing w with
  | nil =>
    intro _
    rw [wordsB_nil, parts_miss 32 w hw]
    rfl
  | cons n r ih =>
    intro hl
    have e : wordsB w (n :: r) = w ++ 32 :: wordsB (Lib.itoa n) r := by simp [wordsB]
    rw [e, parts_hit 32 w _ hw, ih (Lib.itoa n) (itoa_no n (hl n (by simp)) 32 (.inl rfl)) fun k hk => hl k (by simp [hk])]
    rfl
theorem mapM_itoa : ∀ l : List Int, (∀ n ∈ l, inI n) → (l.map Lib.itoa).mapM num = some l
  | [], _ => rfl
  | n :: r, h => by
    have h1 : num (Lib.itoa n) = some n := num_some.2 ⟨h n (by simp), rfl⟩
    simp [h1, mapM_itoa r fun k hk => h k (by simp [hk])]
theorem nums_words (w : List UInt8) (hw : ∀ x ∈ w, x ≠ 32) (l : List Int) (hl : ∀ n ∈ l, inI n) : numsOf (wordsB w l) w l.length = some l := by
  unfold numsOf
  rw [parts_words w hw l hl]
  simp [mapM_itoa l hl]
theorem unparts (c : UInt8) : ∀ (w p : List UInt8) (ps : List (List UInt8)), parts c w = p :: ps → w = p ++ ps.flatMap fun q => c :: q
  | [], p, ps, h => by
    simp [parts] at h
    obtain ⟨rfl, rfl⟩ := h
    rfl
  | x :: r, p, ps, h => by
    by_cases hx : x = c
    · subst hx
      simp only [parts, if_pos] at h
      injection h with h1 h2
      subst h1
      cases hp : parts x r with
      | nil => exact absurd hp (parts_ne x r)
      | cons q qs =>
        rw [hp] at h2
        subst h2
        have := unparts x r q qs hp
        simp [← this]
    · obtain ⟨q, qs, h1, h2⟩ := parts_cons c (r := r) hx
      rw [h2] at h
      injection h with h3 h4
      subst h3 h4
      have := unparts c r q qs h1
      simp [← this]
theorem itoa_mapM : ∀ (ps : List (List UInt8)) (l : List Int), ps.mapM num = some l → ps = l.map Lib.itoa ∧ ∀ k ∈ l, inI k
  | [], l, h => by simp at h; subst h; simp
  | x :: t, l, h => by
    simp only [List.mapM_cons] at h
    cases hx : num x with
    | none => simp [hx] at h
    | some n =>
      cases ht : t.mapM num with
      | none => simp [hx, ht] at h
      | some r' =>
        simp [hx, ht] at h
        subst h
        obtain ⟨h1, h2⟩ := itoa_mapM t r' ht
        obtain ⟨h3, h4⟩ := num_some.1 hx
        refine ⟨by rw [List.map_cons, h4, ← h1], fun k hk => ?_⟩
        simp only [List.mem_cons] at hk
        rcases hk with rfl | hk
        · exact h3
        · exact h2 k hk
theorem words_nums {w word : List UInt8} {n : Nat} {l : List Int} (h : numsOf w word n = some l) : w = wordsB word l ∧ ∀ k ∈ l, inI k := by
  unfold numsOf at h
  cases hp : parts 32 w with
  | nil => rw [hp] at h; cases h
  | cons p ps =>
    rw [hp] at h
    simp only at h
    split at h
    · rename_i hc
      obtain ⟨h1, h2⟩ := itoa_mapM ps l h
      refine ⟨?_, h2⟩
      rw [unparts 32 w p ps hp, hc.2, h1]
      simp [wordsB, List.flatMap_map]
    · cases h

/-- All numbers are ints. -/
def FIn (f : FD) : Prop := (∀ n ∈ fdL f, inI n) ∧ ∀ m ∈ f.trail, ∀ n ∈ mvL m, inI n

theorem parts_line {a b : List UInt8} (h : ∀ x ∈ a, x ≠ 10) : parts 10 (a ++ [10] ++ b) = a :: parts 10 b := by
  rw [List.append_assoc]
  exact parts_hit 10 a b h
theorem word_no {w : List UInt8} (h : w = foundW ∨ w = moveW ∨ w = cycleW) : (∀ x ∈ w, x ≠ 10) ∧ ∀ x ∈ w, x ≠ 32 := by
  rcases h with rfl | rfl | rfl <;> decide
theorem move_ne (l : List Int) : wordsB moveW l ≠ cycleW := by
  intro h
  have := congrArg (fun x => x.head?) h
  simp [wordsB, moveW, cycleW] at this
theorem mvOf_mvL (m : MV) : mvOf (mvL m) = m := rfl

theorem body_read (f : FD) (hin : FIn f) (hc0 : -1 ≤ f.cyc) (hc1 : f.cyc < f.trail.length) : ∀ (rest done : List MV) (at_ : Nat), f.trail = done ++ rest →
    parseL at_ ⟨false, { f with trail := done, cyc := if f.cyc < done.length then f.cyc else -1 }, false⟩ (parts 10 (bodyB f.cyc done.length rest)) = .ok f
  | [], done, at_, h => by
    simp only [List.append_nil] at h
    simp only [bodyB, parts, parseL]
    rw [if_pos (by simp)]
    rw [if_pos (by rw [← h]; exact hc1), ← h]
  | m :: r, done, at_, h => by
    have hm : ∀ n ∈ mvL m, inI n := hin.2 m (by rw [h]; simp)
    have ih := fun a => body_read f hin hc0 hc1 r (done ++ [m]) a (by rw [h]; simp)
    simp only [List.length_append, List.length_cons, List.length_nil] at ih
    have hline : ∀ (a : Nat) (cy : Int) (du : Bool) (b : List UInt8), parseL a ⟨false, { f with trail := done, cyc := cy }, du⟩ (parts 10 (lineB moveW (mvL m) ++ b)) = parseL (a + (wordsB moveW (mvL m)).length + 1) ⟨false, { f with trail := done ++ [m], cyc := cy }, false⟩ (parts 10 b) := by
      intro a cy du b
      unfold lineB
      rw [parts_line (wordsB_no _ _ (word_no (.inr (.inl rfl))).1 hm), parseL_cons _ _ _ _ (parts_ne _ _)]
      have hn := nums_words moveW (word_no (.inr (.inl rfl))).2 (mvL m) hm
      have hs : stepP ⟨false, { f with trail := done, cyc := cy }, du⟩ (wordsB moveW (mvL m)) = some ⟨false, { f with trail := done ++ [m], cyc := cy }, false⟩ := by
        unfold stepP
        rw [if_neg (by simp), if_neg (move_ne _)]
        have hn7 : numsOf (wordsB moveW (mvL m)) moveW 7 = some (mvL m) := hn
        rw [hn7]
        rfl
      rw [hs]
    simp only [bodyB, mvB]
    by_cases hcy : (done.length : Int) = f.cyc
    · rw [if_pos hcy]
      rw [if_neg (by omega)]
      have e1 : lineB cycleW [] ++ lineB moveW (mvL m) ++ bodyB f.cyc (done.length + 1) r = cycleW ++ [10] ++ (lineB moveW (mvL m) ++ bodyB f.cyc (done.length + 1) r) := by simp [lineB, wordsB]
      rw [e1, parts_line (word_no (.inr (.inr rfl))).1, parseL_cons _ _ _ _ (parts_ne _ _)]
      have hs : stepP ⟨false, { f with trail := done, cyc := -1 }, false⟩ cycleW = some ⟨false, { f with trail := done, cyc := done.length }, true⟩ := by
        unfold stepP
        rw [if_neg (by simp), if_pos rfl, if_neg (by simp)]
      rw [hs]
      simp only
      rw [hline]
      have := ih (at_ + cycleW.length + 1 + (wordsB moveW (mvL m)).length + 1)
      rw [if_pos (by omega)] at this
      rw [← this, hcy]
    · rw [if_neg hcy, List.nil_append, hline]
      have := ih (at_ + (wordsB moveW (mvL m)).length + 1)
      rw [← this]
      congr 3
      by_cases h2 : f.cyc < done.length
      · rw [if_pos h2, if_pos (by omega)]
      · rw [if_neg h2, if_neg (by omega)]
theorem parse_print (f : FD) (hin : FIn f) (hb : badF f = false) : parseF (printB f) = .ok f := by
  unfold badF at hb
  simp at hb
  obtain ⟨⟨⟨h1, h2⟩, h3⟩, h4⟩ := hb
  unfold parseF printB lineB
  have hn : numsOf (wordsB foundW (fdL f)) foundW 6 = some (fdL f) := nums_words foundW (word_no (.inl rfl)).2 (fdL f) hin.1
  rw [parts_line (wordsB_no _ _ (word_no (.inl rfl)).1 hin.1), parseL_cons _ _ _ _ (parts_ne _ _)]
  have hs : stepP ps0 (wordsB foundW (fdL f)) = some ⟨false, { f with trail := [], cyc := -1 }, false⟩ := by
    unfold stepP
    rw [if_pos (show ps0.first = true from rfl), hn]
    simp only
    rw [if_neg (by simp [fdL]; omega)]
    rfl
  rw [hs]
  have := body_read f hin h3 h4 f.trail [] (0 + (wordsB foundW (fdL f)).length + 1) rfl
  simp only [List.length_nil] at this
  have hc : (if f.cyc < ((0 : Nat) : Int) then f.cyc else -1) = -1 := by split <;> omega
  rw [hc] at this
  exact this

/-! ### Back and there -/
def joinL : List (List UInt8) → List UInt8
  | [] => []
  | [w] => w
  | w :: x :: r => w ++ 10 :: joinL (x :: r)
theorem joinL_parts : ∀ s : List UInt8, joinL (parts 10 s) = s
  | [] => rfl
  | x :: r => by
    have ih := joinL_parts r
    by_cases hx : x = 10
    · subst hx
      simp only [parts, if_pos]
      cases hp : parts 10 r with
      | nil => exact absurd hp (parts_ne 10 r)
      | cons q qs =>
        rw [hp] at ih
        simp [joinL, ih]
    · obtain ⟨q, qs, h1, h2⟩ := parts_cons 10 (r := r) hx
      rw [h1] at ih
      rw [h2]
      cases qs with
      | nil => simp [joinL] at ih ⊢; exact ih
      | cons y t => simp [joinL] at ih ⊢; exact ih
theorem bodyB_cyc : ∀ (l : List MV) (i : Nat) (c1 c2 : Int), (c1 < i ∨ (i : Int) + l.length ≤ c1) → (c2 < i ∨ (i : Int) + l.length ≤ c2) → bodyB c1 i l = bodyB c2 i l
  | [], _, _, _, _, _ => rfl
  | m :: r, i, c1, c2, h1, h2 => by
    simp only [List.length_cons] at h1 h2
    have e1 : ¬ (i : Int) = c1 := by omega
    have e2 : ¬ (i : Int) = c2 := by omega
    simp only [bodyB, mvB, if_neg e1, if_neg e2]
    rw [bodyB_cyc r (i + 1) c1 c2 (by omega) (by omega)]
/-- What has been read so far. -/
def txt (st : PS) : List UInt8 := if st.first = true then [] else lineB foundW (fdL st.f) ++ bodyB st.f.cyc 0 st.f.trail ++ (if st.due = true then lineB cycleW [] else [])
structure Inv (st : PS) : Prop where
  start : st.first = true → st = ps0
  kind : st.first = false → 1 ≤ st.f.kind ∧ st.f.kind ≤ 4
  due : st.due = true → st.f.cyc = st.f.trail.length
  free : st.due = false → st.f.cyc = -1 ∨ (0 ≤ st.f.cyc ∧ st.f.cyc < st.f.trail.length)
  fin : FIn st.f
theorem inv0 : Inv ps0 := ⟨fun _ => rfl, fun h => (by cases h), fun h => (by cases h), fun _ => .inl rfl, ⟨fun n hn => by simp [ps0, fdL, fd0] at hn; subst hn; unfold inI; omega, fun m hm => by cases hm⟩⟩
theorem list6 {l : List Int} (h : l.length = 6) : ∃ a b c d e f, l = [a, b, c, d, e, f] := by
  match l, h with
  | [a, b, c, d, e, f], _ => exact ⟨a, b, c, d, e, f, rfl⟩
theorem list7 {l : List Int} (h : l.length = 7) : ∃ a b c d e f g, l = [a, b, c, d, e, f, g] := by
  match l, h with
  | [a, b, c, d, e, f, g], _ => exact ⟨a, b, c, d, e, f, g, rfl⟩
theorem step_inv {st st' : PS} {w : List UInt8} (h : stepP st w = some st') (hi : Inv st) : Inv st' ∧ txt st' = txt st ++ (w ++ [10]) ∧ st'.first = false := by
  unfold stepP at h
  by_cases hf : st.first = true
  · rw [if_pos hf] at h
    have he := hi.start hf
    subst he
    split at h
    · rename_i l hl
      obtain ⟨a, b, c, d, e, f, rfl⟩ := list6 (numsOf_length hl)
      obtain ⟨h1, h2⟩ := words_nums hl
      split at h
      · cases h
      · rename_i hk
        have hd : ([a, b, c, d, e, f] : List Int).headD 0 = a := rfl
        rw [hd] at hk
        injection h with h
        subst h
        refine ⟨⟨fun h => (by cases h), fun _ => ⟨by show 1 ≤ a; omega, by show a ≤ 4; omega⟩, fun h => (by cases h), fun _ => .inl rfl, ⟨h2, fun m hm => by cases hm⟩⟩, ?_, rfl⟩
        rw [h1]
        simp [txt, ps0, headF, fdL, fd0, bodyB, lineB]
    · cases h
  · rw [if_neg hf] at h
    have hf' : st.first = false := by simpa using hf
    split at h
    · rename_i hw
      split at h
      · cases h
      · rename_i hcy
        injection h with h
        subst h
        have hc : st.f.cyc = -1 ∧ st.due = false := by
          cases hd : st.due with
          | true => have := hi.due hd; omega
          | false => exact ⟨by have := hi.free hd; omega, rfl⟩
        refine ⟨⟨fun h => (by cases h), fun _ => hi.kind hf', fun _ => rfl, fun h => (by cases h), hi.fin⟩, ?_, rfl⟩
        have hc1 := hc.1
        have e := bodyB_cyc st.f.trail 0 st.f.cyc st.f.trail.length (by omega) (by right; omega)
        simp only [txt, hf', hc.2]
        simp [← e, hw, lineB, wordsB, fdL]
    · rename_i hw
      split at h
      · rename_i l hl
        obtain ⟨a, b, c, d, e, f, g, rfl⟩ := list7 (numsOf_length hl)
        obtain ⟨h1, h2⟩ := words_nums hl
        injection h with h
        subst h
        have hmv : mvOf [a, b, c, d, e, f, g] = ⟨a, b, c, d, e, f, g⟩ := rfl
        refine ⟨⟨fun h => (by cases h), fun _ => hi.kind hf', fun h => (by cases h), fun _ => ?_, ⟨hi.fin.1, fun m hm => ?_⟩⟩, ?_, rfl⟩
        · simp only [List.length_append, List.length_cons, List.length_nil]
          cases hd : st.due with
          | true => have := hi.due hd; omega
          | false => have := hi.free hd; omega
        · simp only [List.mem_append, List.mem_singleton] at hm
          rcases hm with hm | rfl
          · exact hi.fin.2 m hm
          · exact h2
        · rw [h1]
          simp only [txt, hf']
          rw [bodyB_snoc, hmv]
          cases hd : st.due with
          | true =>
            have := hi.due hd
            simp [mvB, this, lineB, mvL, fdL]
          | false =>
            have := hi.free hd
            have hne : ¬ (st.f.trail.length : Int) = st.f.cyc := by omega
            simp [mvB, hne, lineB, mvL, fdL]
      · cases h
theorem read_back : ∀ (ws : List (List UInt8)) (at_ : Nat) (st : PS) (f : FD), parseL at_ st ws = .ok f → Inv st → printB f = txt st ++ joinL ws ∧ badF f = false ∧ FIn f
  | [], at_, st, f, h, _ => by cases h
  | [w], at_, st, f, h, hi => by
    unfold parseL at h
    split at h
    · rename_i hc
      obtain ⟨rfl, h1, h2⟩ := hc
      injection h with h
      subst h
      have h3 := hi.free h2
      have h4 := hi.kind h1
      refine ⟨?_, ?_, hi.fin⟩
      · simp [txt, h1, h2, joinL, printB]
      · unfold badF
        simp
        omega
    · cases h
  | w :: x :: r, at_, st, f, h, hi => by
    rw [parseL_cons _ _ _ _ (by simp)] at h
    split at h
    · cases h
    · rename_i st' hs
      obtain ⟨h1, h2, _⟩ := step_inv hs hi
      obtain ⟨h3, h4, h5⟩ := read_back (x :: r) _ st' f h h1
      refine ⟨?_, h4, h5⟩
      rw [h3, h2]
      simp [joinL]
theorem print_parse {s : List UInt8} {f : FD} (h : parseF s = .ok f) : printB f = s ∧ badF f = false ∧ FIn f := by
  have := read_back _ 0 ps0 f h inv0
  rw [joinL_parts] at this
  simpa [txt, ps0] using this
end Go.Proofs.YtifofhjfepkglaaDoor
