/- The contract of read: the token with which a text begins. -/
import Derived.Test.YtojneaffoekpnaaLOne
import Derived.Tactics
namespace Go.Proofs.Ytojneaffoekpnaa.lx
set_option linter.unusedVariables false
set_option linter.unusedSimpArgs false
open Go.ChangeShapes Go.WideShapes Go.ChangeAt Go.RowKit

/-- The token with which a text begins, or what is wrong. -/
def readR (u : ByteArray) : Value :=
  if isL (byt u 0) then (if run isLD u.data.toList ≤ 32 then .tuple #[Tok 1 0 0 (u.extract 0 (run isLD u.data.toList)) 0, .int .i64 (run isLD u.data.toList : Nat), .int .i64 0] else .tuple #[zeroTok, .int .i64 0, .int .i64 5])
  else if isD (byt u 0) then
    (if cap 2147483648 (u.data.toList.take (run isD u.data.toList)) 0 ≤ 2147483647 then .tuple #[Tok 2 0 0 (u.extract 0 (run isD u.data.toList)) (cap 2147483648 (u.data.toList.take (run isD u.data.toList)) 0 : Nat), .int .i64 (run isD u.data.toList : Nat), .int .i64 0] else .tuple #[zeroTok, .int .i64 0, .int .i64 4])
  else if byt u 0 = 39 then byteR u (byteB u)
  else if byt u 0 = 34 then textR u (quotAt u 1)
  else if 1 < u.size ∧ long2 (byt u 0) (byt u 1) = true then .tuple #[Tok 4 0 0 (u.extract 0 2) 0, .int .i64 2, .int .i64 0]
  else if short1 (byt u 0) = true then .tuple #[Tok 4 0 0 (u.extract 0 1) 0, .int .i64 1, .int .i64 0]
  else .tuple #[zeroTok, .int .i64 0, .int .i64 2]

theorem bcell {W w1 : World} (hb : Below W.heap.size W w1) : (∀ b o, b < W.heap.size → w1.cell? ⟨b, o, none⟩ = W.cell? ⟨b, o, none⟩) ∧ (∀ b o, b < W.heap.size → w1.frozen? ⟨b, o, none⟩ = W.frozen? ⟨b, o, none⟩) :=
  ⟨fun b o h => hb.cell (p := ⟨b, o, none⟩) h, fun b o h => hb.frozen (p := ⟨b, o, none⟩) h⟩

/-- What each reader hands back: a token's five parts, a size, an error's number. -/
def Six (k a l : Int) (t : ByteArray) (n sz er : Int) : Value := .tuple #[.agg #[.int .i64 k, .int .i64 a, .int .i64 l, .string t, .int .i64 n], .int .i64 sz, .int .i64 er]

end Go.Proofs.Ytojneaffoekpnaa.lx
namespace Go.Proofs.Ytojneaffoekpnaa.lx
set_option linter.unusedVariables false
set_option linter.unusedSimpArgs false
open Go.ChangeShapes Go.WideShapes Go.ChangeAt Go.RowKit

theorem ext2 (u : ByteArray) (h : 1 < u.size) : ∃ a b : UInt8, (u.extract 0 2).data.toList = [a, b] ∧ a.toNat = byt u 0 ∧ b.toNat = byt u 1 := by
  have h0 : 0 < u.data.toList.length := by simp; omega
  have h1 : 1 < u.data.toList.length := by simpa using h
  refine ⟨u.data.toList[0], u.data.toList[1], ?_, byt_get u 0 h0, byt_get u 1 h1⟩
  rw [ByteArray.data_extract, Array.toList_extract]
  generalize u.data.toList = l at *
  match l, h1 with
  | a :: b :: l, _ => simp

theorem indexByte_nonneg (c : UInt8) : ∀ l : List UInt8, decide (0 ≤ Lib.indexByte l c) = l.contains c := by
  intro l
  induction l with
  | nil => rfl
  | cons b l ih =>
    rw [Lib.indexByte, List.contains_cons]
    by_cases h : b = c
    · subst h; simp
    · have h1 : (b == c) = false := by simpa using h
      have h2 : (c == b) = false := by simpa using Ne.symm h
      rw [h1, h2, Bool.false_or, ← ih]
      by_cases hm : Lib.indexByte l c = -1
      · simp [hm]
      · have : (Lib.indexByte l c == -1) = false := by simpa using hm
        rw [this]
        have hge : -1 ≤ Lib.indexByte l c := by
          clear ih hm this h h1 h2
          induction l with
          | nil => simp [Lib.indexByte]
          | cons x l ih2 => rw [Lib.indexByte]; split <;> (try split) <;> omega
        rw [Bool.eq_iff_iff]
        simp
        omega

def shorts : List UInt8 := [33, 63, 60, 62, 61, 43, 45, 42, 47, 37, 38, 124, 94, 126, 40, 41, 91, 93, 123, 125, 44, 59, 58, 46, 64, 35]
theorem shorts_is : ∀ c : Nat, c < 256 → shorts.contains c.toUInt8 = short1 c := by decide +kernel
end Go.Proofs.Ytojneaffoekpnaa.lx
namespace Go.Proofs.Ytojneaffoekpnaa.lx
set_option linter.unusedVariables false
set_option linter.unusedSimpArgs false
open Go.ChangeShapes Go.WideShapes Go.ChangeAt Go.RowKit

structure TR where
  er : Nat
  kind : Nat
  text : ByteArray
  num : Nat
  size : Nat
def badT (e : Nat) : TR := ⟨e, 0, ⟨#[]⟩, 0, 0⟩
def byteT (v : ByteArray) (x : Option (Nat × Nat)) : TR := match x with
  | none => badT 3
  | some (x, n) => ⟨0, 2, v.extract 0 n, x, n⟩
def textT (v : ByteArray) (x : Option Nat) : TR := match x with
  | none => badT 3
  | some k => if 201 < k then badT 5 else ⟨0, 3, v.extract 1 k, 0, k + 1⟩
def nameT (v : ByteArray) (n : Nat) : TR := if n ≤ 32 then ⟨0, 1, v.extract 0 n, 0, n⟩ else badT 5
def numT (v : ByteArray) (n c : Nat) : TR := if c ≤ 2147483647 then ⟨0, 2, v.extract 0 n, c, n⟩ else badT 4
/-- The token with which a text begins, or what is wrong. -/
def tokR (v : ByteArray) : TR :=
  if isL (byt v 0) = true then nameT v (run isLD v.data.toList)
  else if isD (byt v 0) = true then numT v (run isD v.data.toList) (cap 2147483648 (v.data.toList.take (run isD v.data.toList)) 0)
  else if byt v 0 = 39 then byteT v (byteB v)
  else if byt v 0 = 34 then textT v (quotAt v 1)
  else if 1 < v.size ∧ long2 (byt v 0) (byt v 1) = true then ⟨0, 4, v.extract 0 2, 0, 2⟩
  else if short1 (byt v 0) = true then ⟨0, 4, v.extract 0 1, 0, 1⟩ else badT 2
def sixT (r : TR) (a l : Int) : Value := Six r.kind a l r.text r.num r.size r.er

end Go.Proofs.Ytojneaffoekpnaa.lx
namespace Go.Proofs.Ytojneaffoekpnaa.lx
set_option linter.unusedVariables false
set_option linter.unusedSimpArgs false

/-- The blank at place k: how many bytes, how many lines; none: a comment without an end. -/
def blankAt (u : ByteArray) (k : Nat) : Option (Nat × Nat) :=
  if byt u k = 10 then some (1, 1) else if byt u k = 32 ∨ byt u k = 9 ∨ byt u k = 12 ∨ byt u k = 13 then some (1, 0)
  else if byt u k = 92 ∧ k + 1 < u.size ∧ byt u (k + 1) = 10 then some (2, 0)
  else if byt u k = 47 ∧ k + 1 < u.size ∧ byt u (k + 1) = 42 then (find2 42 47 (u.data.toList.drop (k + 2))).map fun j => (j + 4, 0)
  else if byt u k = 47 ∧ k + 1 < u.size ∧ byt u (k + 1) = 47 then some (run (fun c => c != 10) (u.data.toList.drop k), 0) else some (0, 0)

/-- From place k and line l on, all blanks passed: the place, the line, and whether each comment is closed. -/
inductive Skip (u : ByteArray) : Nat → Nat → Nat → Nat → Bool → Prop
  | fin (k l : Nat) : u.size ≤ k → Skip u k l k l true
  | stop (k l : Nat) : k < u.size → blankAt u k = some (0, 0) → Skip u k l k l true
  | bad (k l : Nat) : k < u.size → blankAt u k = none → Skip u k l k l false
  | go (k l n j k' l' : Nat) (b : Bool) : k < u.size → blankAt u k = some (n, j) → 0 < n → Skip u (k + n) (l + j) k' l' b → Skip u k l k' l' b

/-- What lies behind all blanks is one. -/
theorem Skip.one {u : ByteArray} {k l k1 l1 k2 l2 : Nat} {b1 b2 : Bool} (h : Skip u k l k1 l1 b1) (h' : Skip u k l k2 l2 b2) : k1 = k2 ∧ l1 = l2 ∧ b1 = b2 := by
  induction h with
  | fin k l hk =>
    cases h' with
    | fin _ _ _ => exact ⟨rfl, rfl, rfl⟩
    | stop _ _ h _ => omega
    | bad _ _ h _ => omega
    | go _ _ _ _ _ _ _ h _ _ _ => omega
  | stop k l hk hb =>
    cases h' with
    | fin _ _ _ => omega
    | stop _ _ _ _ => exact ⟨rfl, rfl, rfl⟩
    | bad _ _ _ hb' => rw [hb] at hb'; cases hb'
    | go _ _ _ _ _ _ _ _ hb' hn _ => rw [hb] at hb'; cases hb'; omega
  | bad k l hk hb =>
    cases h' with
    | fin _ _ _ => omega
    | stop _ _ _ hb' => rw [hb] at hb'; cases hb'
    | bad _ _ _ _ => exact ⟨rfl, rfl, rfl⟩
    | go _ _ _ _ _ _ _ _ hb' hn _ => rw [hb] at hb'; cases hb'
  | go k l n j k' l' b hk hb hn hs ih =>
    cases h' with
    | fin _ _ _ => omega
    | stop _ _ _ hb' => rw [hb] at hb'; cases hb'; omega
    | bad _ _ _ hb' => rw [hb] at hb'; cases hb'
    | go _ _ n' j' _ _ _ _ hb' _ hs' => rw [hb] at hb'; cases hb'; exact ih hs'

theorem find2_le (a b : Nat) : ∀ (l : List UInt8) (j : Nat), find2 a b l = some j → j + 2 ≤ l.length := by
  intro l
  induction l with
  | nil => intro j h; cases h
  | cons c l ih =>
    intro j h
    rw [find2] at h
    by_cases hh : heads a b (c :: l) = true
    · rw [if_pos hh] at h
      cases h
      cases l with
      | nil => simp [heads] at hh
      | cons d l => simp
    · rw [if_neg hh] at h
      cases hf : find2 a b l with
      | none => rw [hf] at h; cases h
      | some i =>
        rw [hf] at h
        cases h
        have := ih i hf
        simp
        omega

/-- A blank ends within its text. -/
theorem blankAt_le (u : ByteArray) (k n j : Nat) (hk : k < u.size) (h : blankAt u k = some (n, j)) : k + n ≤ u.size := by
  unfold blankAt at h
  split at h
  · cases h; omega
  split at h
  · cases h; omega
  split at h
  · cases h; omega
  split at h
  · rename_i hh
    cases hf : find2 42 47 (u.data.toList.drop (k + 2)) with
    | none => rw [hf] at h; cases h
    | some i =>
      rw [hf] at h
      cases h
      have := find2_le 42 47 _ i hf
      simp at this
      omega
  split at h
  · cases h
    have := run_le (fun c => c != 10) (u.data.toList.drop k)
    simp at this
    omega
  · cases h; omega

/-- There is always an end of blanks. -/
theorem Skip.all (u : ByteArray) : ∀ (m k l : Nat), u.size - k ≤ m → ∃ k' l' b, Skip u k l k' l' b := by
  intro m
  induction m with
  | zero => intro k l h; exact ⟨k, l, true, .fin k l (by omega)⟩
  | succ m ih =>
    intro k l h
    by_cases hk : u.size ≤ k
    · exact ⟨k, l, true, .fin k l hk⟩
    · cases hb : blankAt u k with
      | none => exact ⟨k, l, false, .bad k l (by omega) hb⟩
      | some p =>
        obtain ⟨n, j⟩ := p
        by_cases hn : n = 0
        · subst hn
          have hj : j = 0 := by
            unfold blankAt at hb
            split at hb
            · cases hb
            split at hb
            · cases hb
            split at hb
            · cases hb
            split at hb
            · cases hf : find2 42 47 (u.data.toList.drop (k + 2)) with
              | none => rw [hf] at hb; cases hb
              | some i => rw [hf] at hb; cases hb
            split at hb
            · simp only [Option.some.injEq, Prod.mk.injEq] at hb
              exact hb.2.symm
            · cases hb; rfl
          subst hj
          exact ⟨k, l, true, .stop k l (by omega) hb⟩
        · obtain ⟨k', l', b, hs⟩ := ih (k + n) (l + j) (by omega)
          exact ⟨k', l', b, .go k l n j k' l' b (by omega) hb (by omega) hs⟩
end Go.Proofs.Ytojneaffoekpnaa.lx
namespace Go.Proofs.Ytojneaffoekpnaa.lx
set_option linter.unusedVariables false
set_option linter.unusedSimpArgs false
open Go.ChangeShapes Go.WideShapes Go.ChangeAt Go.RowKit

/-- Two bytes stand at place k. -/
def two (u : ByteArray) (k a b : Nat) : Bool := decide (k + 1 < u.size) && byt u k == a && byt u (k + 1) == b

theorem ext_two (u : ByteArray) (k : Nat) (h : k + 1 < u.size) : ∃ a b : UInt8, (u.extract k (k + 2)).data.toList = [a, b] ∧ a.toNat = byt u k ∧ b.toNat = byt u (k + 1) := by
  have h0 : k < u.data.toList.length := by simp; omega
  have h1 : k + 1 < u.data.toList.length := by simpa using h
  refine ⟨u.data.toList[k], u.data.toList[k + 1], ?_, byt_get u k h0, byt_get u (k + 1) h1⟩
  rw [ByteArray.data_extract, Array.toList_extract]
  generalize u.data.toList = l at *
  rw [List.extract_eq_take_drop, show k + 2 - k = 2 by omega]
  have e : l.drop k = l[k] :: l[k + 1] :: l.drop (k + 2) := by
    rw [List.drop_eq_getElem_cons h0, List.drop_eq_getElem_cons h1]
  rw [e]
  rfl

theorem slice_two (u : ByteArray) (k : Nat) (h : k + 1 < u.size) (w : World) : (Instr.slice 9 (.string u) (some (.int .i64 (k : Int))) (some (.int .i64 ((k : Int) + 2))) none).run Try.prog w = .ok (.string (u.extract k (k + 2))) w := by
  have := run_slice_string (P := Try.prog) (w := w) 9 u .i64 .i64 (k : Int) ((k : Int) + 2) Try.underlying9 (by omega) (by omega) (by omega)
  rw [this]
  congr 3

theorem begins_two (u : ByteArray) (k : Nat) (a b : UInt8) (w : World) (hs : u.size ≤ 65535) (hk : k ≤ u.size) :
    Calls Try.prog 35 #[.string u, .int .i64 k, .string ⟨#[a, b]⟩] w fun e w' => e = .returned (.bool (two u k a.toNat b.toNat)) ∧ w' = w := by
  by_cases h : k + 1 < u.size
  · have hsl := slice_two u k h
    obtain ⟨x, y, hv, hx, hy⟩ := ext_two u k h
    obtain ⟨v, hvv⟩ : ∃ v, u.extract k (k + 2) = v := ⟨_, rfl⟩
    rw [hvv] at hsl hv
    have hd : (k : Int) + 2 ≤ u.size := by omega
    have hR : Hid ((v.toList == [a, b]) = two u k a.toNat b.toNat) := Lib.hid (by
      unfold two
      rw [ByteArray.toList_eq, hv, ← hx, ← hy]
      rw [Bool.eq_iff_iff]
      simp [h, UInt8.toNat_inj])
    clear hv hx hy hvv
    go_enter Try.func35, Try.ntmps35
    go_wp2
    go_ret
    exact ⟨ret_bool hR.out, rfl⟩
  · have hR : Hid (false = two u k a.toNat b.toNat) := Lib.hid (by unfold two; simp [h])
    have hd : decide ((k : Int) + 2 ≤ (u.size : Int)) = false := by simp; omega
    go_enter Try.func35, Try.ntmps35
    go_wp2
    go_ret
    exact ⟨ret_bool hR.out, rfl⟩
end Go.Proofs.Ytojneaffoekpnaa.lx
namespace Go.Proofs.Ytojneaffoekpnaa.lx
set_option linter.unusedVariables false
set_option linter.unusedSimpArgs false
open Go

/-- As Q; by a goto to label l0: J0; to label l1: J1; by any other goto: no way out. -/
def jump2 (l0 l1 : Nat) (J0 J1 : Act → World → Prop) (Q : Exit → Act → World → Prop) : Exit → Act → World → Prop
  | .goto l, a, w => (l = l0 ∧ J0 a w) ∨ (l = l1 ∧ J1 a w)
  | e, a, w => Q e a w

section
variable {P : Program} {a : Act} {w : World} {Q : Exit → Act → World → Prop}

/-- A scope in which the run jumps to two labels, with a count that stands in no slot. -/
theorem wp_scope_ghost2 {c r0 r1 : Code} (l0 l1 : Nat) (J0 J1 : Nat → Act → World → Prop) (hf0 : findLabel c l0 = some r0) (hf1 : findLabel c l1 = some r1)
    (first : c.wp P (jump2 l0 l1 (fun a w => ∃ m, J0 m a w) (fun a w => ∃ m, J1 m a w) Q) a w)
    (pass0 : ∀ m a w, J0 m a w → r0.wp P (jump2 l0 l1 (fun a' w' => ∃ m', m' < m ∧ J0 m' a' w') (fun a' w' => ∃ m', m' < m ∧ J1 m' a' w') Q) a w)
    (pass1 : ∀ m a w, J1 m a w → r1.wp P (jump2 l0 l1 (fun a' w' => ∃ m', m' < m ∧ J0 m' a' w') (fun a' w' => ∃ m', m' < m ∧ J1 m' a' w') Q) a w) : (Code.scope c).wp P Q a w := by
  intro b k cs
  have hg0 : gotoIn l0 (.inScope c :: k) = some (.code r0 :: .inScope c :: k) := by simp [gotoIn, hf0]
  have hg1 : gotoIn l1 (.inScope c :: k) = some (.code r1 :: .inScope c :: k) := by simp [gotoIn, hf1]
  have key : ∀ m a w, (J0 m a w → ∃ e a' w', Q e a' w' ∧ Arrives P (lone (b.at a (.code r0 :: .inScope c :: k)) cs w) b k cs e a' w') ∧ (J1 m a w → ∃ e a' w', Q e a' w' ∧ Arrives P (lone (b.at a (.code r1 :: .inScope c :: k)) cs w) b k cs e a' w') := by
    intro m
    induction m using Nat.strongRecOn with
    | _ m ih =>
      intro a w
      constructor
      · intro hJ
        obtain ⟨e, a₁, w₁, hq, harr⟩ := pass0 m a w hJ b (.inScope c :: k) cs
        cases e with
        | normal => exact ⟨.normal, a₁, w₁, hq, Steps.trans harr (.one step_inScope)⟩
        | exit id => exact ⟨.exit id, a₁, w₁, hq, fun k' hk => harr k' (by simp [exitTo, hk])⟩
        | goto l' =>
          rcases hq with ⟨rfl, m', hlt, hJ'⟩ | ⟨rfl, m', hlt, hJ'⟩
          · obtain ⟨e₂, a₂, w₂, hq₂, harr₂⟩ := (ih m' hlt a₁ w₁).1 hJ'
            exact ⟨e₂, a₂, w₂, hq₂, .of_steps (harr _ hg0) harr₂⟩
          · obtain ⟨e₂, a₂, w₂, hq₂, harr₂⟩ := (ih m' hlt a₁ w₁).2 hJ'
            exact ⟨e₂, a₂, w₂, hq₂, .of_steps (harr _ hg1) harr₂⟩
        | ret => exact ⟨_, a₁, w₁, hq, harr⟩
        | panic ch => exact ⟨_, a₁, w₁, hq, harr⟩
        | outgrown => exact ⟨_, a₁, w₁, hq, harr⟩
      · intro hJ
        obtain ⟨e, a₁, w₁, hq, harr⟩ := pass1 m a w hJ b (.inScope c :: k) cs
        cases e with
        | normal => exact ⟨.normal, a₁, w₁, hq, Steps.trans harr (.one step_inScope)⟩
        | exit id => exact ⟨.exit id, a₁, w₁, hq, fun k' hk => harr k' (by simp [exitTo, hk])⟩
        | goto l' =>
          rcases hq with ⟨rfl, m', hlt, hJ'⟩ | ⟨rfl, m', hlt, hJ'⟩
          · obtain ⟨e₂, a₂, w₂, hq₂, harr₂⟩ := (ih m' hlt a₁ w₁).1 hJ'
            exact ⟨e₂, a₂, w₂, hq₂, .of_steps (harr _ hg0) harr₂⟩
          · obtain ⟨e₂, a₂, w₂, hq₂, harr₂⟩ := (ih m' hlt a₁ w₁).2 hJ'
            exact ⟨e₂, a₂, w₂, hq₂, .of_steps (harr _ hg1) harr₂⟩
        | ret => exact ⟨_, a₁, w₁, hq, harr⟩
        | panic ch => exact ⟨_, a₁, w₁, hq, harr⟩
        | outgrown => exact ⟨_, a₁, w₁, hq, harr⟩
  obtain ⟨e, a₁, w₁, hq, harr⟩ := first b (.inScope c :: k) cs
  cases e with
  | normal => exact ⟨.normal, a₁, w₁, hq, .head step_scope (Steps.trans harr (.one step_inScope))⟩
  | exit id => exact ⟨.exit id, a₁, w₁, hq, fun k' hk => .head step_scope (harr k' (by simp [exitTo, hk]))⟩
  | goto l' =>
    rcases hq with ⟨rfl, m, hJ'⟩ | ⟨rfl, m, hJ'⟩
    · obtain ⟨e₂, a₂, w₂, hq₂, harr₂⟩ := (key m a₁ w₁).1 hJ'
      exact ⟨e₂, a₂, w₂, hq₂, .of_steps (.head step_scope (harr _ hg0)) harr₂⟩
    · obtain ⟨e₂, a₂, w₂, hq₂, harr₂⟩ := (key m a₁ w₁).2 hJ'
      exact ⟨e₂, a₂, w₂, hq₂, .of_steps (.head step_scope (harr _ hg1)) harr₂⟩
  | ret => exact ⟨_, a₁, w₁, hq, .of_steps (.one step_scope) harr⟩
  | panic ch => exact ⟨_, a₁, w₁, hq, .of_steps (.one step_scope) harr⟩
  | outgrown => exact ⟨_, a₁, w₁, hq, .of_steps (.one step_scope) harr⟩
end
end Go.Proofs.Ytojneaffoekpnaa.lx
namespace Go.Proofs.Ytojneaffoekpnaa.lx
set_option linter.unusedVariables false
set_option linter.unusedSimpArgs false
open Go
section
variable {P : Program} {a : Act} {w : World} {Q : Exit → Act → World → Prop}

/-- One label: what stands behind the label is walked once, from every frame that J tells. -/
theorem wp_scope_once {c rest : Code} (l : Nat) (J : Nat → Act → World → Prop) (hf : findLabel c l = some rest)
    (pass : ∀ m a w, J m a w → rest.wp P (Exit.jump l (fun a' w' => ∃ m', m' < m ∧ J m' a' w') Q) a w)
    (first : (∀ m a w, J m a w → rest.wp P (Exit.jump l (fun a w => ∃ m, J m a w) Q) a w) → c.wp P (Exit.jump l (fun a w => ∃ m, J m a w) Q) a w) : (Code.scope c).wp P Q a w := by
  refine wp_scope_ghost l J hf (first fun m a w h => ?_) pass
  refine Code.wp_mono ?_ (pass m a w h)
  intro e a w hq
  cases e with
  | goto l' => exact ⟨hq.1, hq.2.elim fun m' h => ⟨m', h.2⟩⟩
  | normal => exact hq
  | exit _ => exact hq
  | ret => exact hq
  | panic _ => exact hq
  | outgrown => exact hq

/-- Two labels, likewise. -/
theorem wp_scope_once2 {c r0 r1 : Code} (l0 l1 : Nat) (J0 J1 : Nat → Act → World → Prop) (hf0 : findLabel c l0 = some r0) (hf1 : findLabel c l1 = some r1)
    (pass0 : ∀ m a w, J0 m a w → r0.wp P (jump2 l0 l1 (fun a' w' => ∃ m', m' < m ∧ J0 m' a' w') (fun a' w' => ∃ m', m' < m ∧ J1 m' a' w') Q) a w)
    (pass1 : ∀ m a w, J1 m a w → r1.wp P (jump2 l0 l1 (fun a' w' => ∃ m', m' < m ∧ J0 m' a' w') (fun a' w' => ∃ m', m' < m ∧ J1 m' a' w') Q) a w)
    (first : (∀ m a w, J0 m a w → r0.wp P (jump2 l0 l1 (fun a w => ∃ m, J0 m a w) (fun a w => ∃ m, J1 m a w) Q) a w) → c.wp P (jump2 l0 l1 (fun a w => ∃ m, J0 m a w) (fun a w => ∃ m, J1 m a w) Q) a w) : (Code.scope c).wp P Q a w := by
  refine wp_scope_ghost2 l0 l1 J0 J1 hf0 hf1 (first fun m a w h => ?_) pass0 pass1
  refine Code.wp_mono ?_ (pass0 m a w h)
  intro e a w hq
  cases e with
  | goto l' =>
    rcases hq with ⟨h, m', _, hj⟩ | ⟨h, m', _, hj⟩
    · exact .inl ⟨h, m', hj⟩
    · exact .inr ⟨h, m', hj⟩
  | normal => exact hq
  | exit _ => exact hq
  | ret => exact hq
  | panic _ => exact hq
  | outgrown => exact hq
end
end Go.Proofs.Ytojneaffoekpnaa.lx
