/- A row of tokens that a call owns. -/
import Derived.Test.YtojneaffoekpnaaUse
import Derived.Deep.Onto
namespace Go.Proofs.Ytojneaffoekpnaa
open Go.ChangeShapes Go.WideShapes Go.ChangeAt Go.RowKit
set_option linter.unusedVariables false
set_option linter.unusedSimpArgs false

def cellsOf (ts : List TK) : List Value := ts.flatMap tkCells
theorem cellsOf_snoc (ts : List TK) (t : TK) : cellsOf (ts ++ [t]) = cellsOf ts ++ tkCells t := by simp [cellsOf]
theorem cellsOf_append (ts us : List TK) : cellsOf (ts ++ us) = cellsOf ts ++ cellsOf us := by simp [cellsOf]
def zeroTok : Value := .agg #[.int .i64 0, .int .i64 0, .int .i64 0, .string ⟨#[]⟩, .int .i64 0]
theorem info25 : (Try.prog.info? 25).map (fun i => (i.zero, i.size, i.bytes)) = some (some zeroTok, 5, 48) := by kernel_rfl
/-- A row of tokens that the call owns; all that was there when it began has stayed. -/
structure Row (w0 w : World) (v : Value) (acc : List TK) : Prop where
  own : w.ownsRow w0.heap.size 25 5 v acc.length (cellsOf acc)
  bel : Below w0.heap.size w0 w
section
variable {w0 w w1 w2 : World} {v v' : Value} {acc : List TK}
theorem Row.nil_ (w0 : World) : Row w0 w0 (.slice none 0 0) [] := ⟨World.ownsRow_nil _ _ _ _, Below.refl _ _⟩
theorem Row.below (h : Row w0 w v acc) (hb : Below w.heap.size w w1) : Row w0 w1 v acc := by
  refine ⟨?_, h.bel.trans (hb.mono h.bel.size)⟩
  refine h.own.kept (row := none) ⟨hb.os, hb.tape, hb.output, hb.size, fun i hi _ => hb.block i hi⟩ ?_
  cases hv : v.ownBlock with
  | none => exact .inl rfl
  | some g => exact .inr (by simp)
theorem Row.drew (h : Row w0 w v acc) : Row w0 w.drew v acc := h.below (Below.refl _ _).drew
theorem Row.alloc (h : Row w0 w v acc) (o : Obj) : Row w0 (w.alloc o) v acc := h.below ((Below.refl _ _).alloc (Nat.le_refl _) o)
theorem Row.push (h : Row w0 w v acc) (t : TK) (hg : w.grownBy w2 v.ownBlock) (hown : w2.ownsRow w0.heap.size 25 5 v' (acc.length + 1) (cellsOf acc ++ tkCells t)) : Row w0 w2 v' (acc ++ [t]) := by
  refine ⟨?_, h.bel.grown hg h.bel.size fun k hk => (h.own.lt k hk).1⟩
  rw [cellsOf_snoc, List.length_append]
  exact hown
theorem Row.base {w w0 w' : World} {v : Value} {ts : List TK} (h : Row w0 w' v ts) (hb : Below w.heap.size w w0) : Row w w' v ts :=
  ⟨h.own.mono hb.size, hb.trans (h.bel.mono hb.size)⟩
end
theorem form_of {w : World} {base : Nat} {v : Value} {ts : List TK} (h : w.ownsRow base 25 5 v ts.length (cellsOf ts)) (hz : 0 < ts.length) : ∃ g cap, v = .slice (some ⟨g, 0, none⟩) ts.length cap ∧ base ≤ g ∧ g < w.heap.size ∧ ts.length ≤ cap := by
  rcases h.2 with ⟨_, h0⟩ | ⟨g, cap, cur, hv, hg, hh, hc, _⟩
  · omega
  · exact ⟨g, cap, hv, hg, lt_of_block hh, hc⟩
theorem any_form {w : World} {base n : Nat} {v : Value} {xs : List Value} (h : w.ownsRow base 25 5 v n xs) : ∃ o c, v = .slice o n c := by
  rcases h.2 with ⟨h1, h2⟩ | ⟨g, cap, cur, hv, _⟩
  · subst h2; exact ⟨_, _, h1⟩
  · exact ⟨_, _, hv⟩
theorem cells_tk (t : TK) : ∀ u ∈ tkCells t, u.oneCell' = true := by
  intro u hu; simp [tkCells] at hu; rcases hu with rfl | rfl | rfl | rfl | rfl <;> rfl
theorem cells_one (ts : List TK) : ∀ u ∈ cellsOf ts, u.oneCell' = true := by
  intro u hu
  simp only [cellsOf, List.mem_flatMap] at hu
  obtain ⟨t, _, ht⟩ := hu
  exact cells_tk t u ht
theorem new_cells (W : World) (t : TK) (j : Nat) (u : Value) (hu : (tkCells t)[j]? = some u) : (W.alloc (.cells #[.int .i64 t.kind, .int .i64 t.pos, .int .i64 t.line, .string t.text, .int .i64 t.num] 25)).cell? ((⟨W.heap.size, 0, none⟩ : Addr).add j) = some u := by
  have h1 := cell_of_row _ _ j _ _ _ (heap_alloc_new W (.cells #[.int .i64 t.kind, .int .i64 t.pos, .int .i64 t.line, .string t.text, .int .i64 t.num] 25))
  have : (⟨W.heap.size, 0, none⟩ : Addr).add j = ⟨W.heap.size, j, none⟩ := by
    unfold Addr.add
    split
    · rename_i h; subst h; rfl
    · rename_i h; rw [Nat.zero_add]
  rw [this, h1]
  simpa [tkCells] using hu
theorem cellsOf_get (ts : List TK) : ∀ (i : Nat) (h : i < ts.length) (c : Nat), c < 5 → (cellsOf ts)[i * 5 + c]? = (tkCells ts[i])[c]? := by
  induction ts with
  | nil => intro i h; cases h
  | cons x r ih =>
    intro i h c hc
    have hl : (tkCells x).length = 5 := rfl
    cases i with
    | zero =>
      simp only [cellsOf, List.flatMap_cons, Nat.zero_mul, Nat.zero_add, List.getElem_cons_zero]
      rw [List.getElem?_append_left (by omega)]
    | succ i =>
      simp only [cellsOf, List.flatMap_cons, List.getElem_cons_succ]
      rw [List.getElem?_append_right (by omega)]
      have := ih i (by simpa using h) c hc
      rw [show (i + 1) * 5 + c - (tkCells x).length = i * 5 + c by omega]
      exact this
theorem cellsOf_length (ts : List TK) : (cellsOf ts).length = ts.length * 5 := by
  induction ts with
  | nil => rfl
  | cons x r ih =>
    simp only [cellsOf, List.flatMap_cons, List.length_append, List.length_cons] at ih ⊢
    rw [show (tkCells x).length = 5 from rfl]
    omega
theorem toks_of_own {w : World} {base g cap : Nat} {ts : List TK} (h : w.ownsRow base 25 5 (.slice (some ⟨g, 0, none⟩) ts.length cap) ts.length (cellsOf ts)) : Toks w g 0 ts := by
  have hlt := (h.lt g rfl).2
  refine ⟨hlt, fun i hi => ?_⟩
  have hc : ∀ c, c < 5 → w.cell? ⟨g, 0 + i * 5 + c, none⟩ = (tkCells ts[i])[c]? := by
    intro c hc
    rw [← cellsOf_get ts i hi c hc, Nat.zero_add]
    exact h.cellAt (i * 5 + c) (by omega)
  exact ⟨hc 0 (by decide), hc 1 (by decide), hc 2 (by decide), hc 3 (by decide), hc 4 (by decide)⟩
/-- A row in memory gives its cells one by one. -/
theorem toks_cells {w : World} {g off : Nat} {ts : List TK} (h : Toks w g off ts) (j : Nat) (u : Value) (hu : (cellsOf ts)[j]? = some u) : w.cell? ((⟨g, off, none⟩ : Addr).add j) = some u := by
  have hj : j < ts.length * 5 := by
    rw [← cellsOf_length]
    rcases Nat.lt_or_ge j (cellsOf ts).length with h1 | h1
    · exact h1
    · rw [List.getElem?_eq_none h1] at hu; cases hu
  have hi : j / 5 < ts.length := by omega
  have e : j = j / 5 * 5 + j % 5 := by omega
  have hadd : (⟨g, off, none⟩ : Addr).add j = ⟨g, off + (j / 5 * 5 + j % 5), none⟩ := by
    rw [← e]
    simp [Addr.add]
  rw [hadd]
  have ht := h.2 (j / 5) hi
  have hm : j % 5 < 5 := Nat.mod_lt _ (by decide)
  rw [e, cellsOf_get ts _ hi _ hm] at hu
  obtain ⟨a0, a1, a2, a3, a4⟩ := ht
  generalize j % 5 = c at hu hm ⊢
  match c, hm with
  | 0, _ => simp [tkCells] at hu; subst hu; simpa [Nat.add_assoc] using a0
  | 1, _ => simp [tkCells] at hu; subst hu; simpa [Nat.add_assoc] using a1
  | 2, _ => simp [tkCells] at hu; subst hu; simpa [Nat.add_assoc] using a2
  | 3, _ => simp [tkCells] at hu; subst hu; simpa [Nat.add_assoc] using a3
  | 4, _ => simp [tkCells] at hu; subst hu; simpa [Nat.add_assoc] using a4
end Go.Proofs.Ytojneaffoekpnaa
