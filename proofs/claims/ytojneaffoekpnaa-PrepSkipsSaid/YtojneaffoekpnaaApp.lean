/- append, onto a row of the call's own, of one token, or of a row that came in: where the new row lies. -/
import Derived.Test.YtojneaffoekpnaaSame
namespace Go.Proofs.Ytojneaffoekpnaa
open Go.ChangeShapes Go.WideShapes Go.ChangeAt Go.RowKit
set_option linter.unusedVariables false
set_option linter.unusedSimpArgs false

theorem wpList_append_tok {ops : Array Oper} {rest : List Oper} {o : Oper} {a : Act} {Q : Exit → Act → World → Prop} {w : World} (hgd : o.guard = none) (s x : Operand)
    (ho : o.op = .call { callee := .builtin .append, args := #[s, x], argTypes := #[22, 22] })
    (base : Nat) (v : Value) (n : Nat) (xs : List Value) (hs : a.eval s = v) (hown : w.ownsRow base 25 5 v n xs) (sb : Nat) (t : TK) (c : Nat) (hx : a.eval x = .slice (some ⟨sb, 0, none⟩) 1 c) (hnews : ∀ j u, (tkCells t)[j]? = some u → w.cell? ((⟨sb, 0, none⟩ : Addr).add j) = some u)
    (hn : n ≤ 20000) (hbase : base ≤ w.heap.size)
    (h : ∀ o' c' w', w'.ownsRow base 25 5 (.slice o' (n + 1) c') (n + 1) (xs ++ tkCells t) → w.grownBy w' v.ownBlock → ((Value.slice o' (n + 1) c').ownBlock = v.ownBlock ∨ (Value.slice o' (n + 1) c').ownBlock = some w.heap.size) → wpList Try.prog ops Q rest (a.put o.dst (.slice o' (n + 1) c')) w') : wpList Try.prog ops Q (o :: rest) a w := by
  obtain ⟨i25, hi, hz, hsz, hby⟩ := info_parts info25
  refine wpList_append_lies w hgd s x 22 ho base 25 i25 zeroTok 5 48 Try.underlying22 hi hz hsz hby rfl (by decide) v n xs hs hown ⟨sb, 0, none⟩ 1 c (tkCells t) hx rfl hnews (cells_tk t) (by decide) (by unfold maxLen; omega) (by omega) hbase w.heap.size rfl fun g cap w' h1 h2 h3 h4 => h _ _ w' h1 h2 ?_
  rcases h3 with h3 | h3
  · left; rw [h3]; rfl
  · right; rw [h3]; rfl

theorem run_append_empty {w : World} (ty : TypeId) (i : TypeInfo) (hi : Try.prog.info? 25 = some i) (base : Nat) (v : Value) (n : Nat) (xs : List Value) (hown : w.ownsRow base 25 5 v n xs) (ad : Addr) (bc : Nat) :
    (Builtin.append_ #[22, 22] ty #[v, .slice (some ad) 0 bc]).run Try.prog w = .ok v w := by
  have hlc : (loadCells ad 0).run Try.prog w = .ok #[] w := by simp [loadCells, loadCellsFrom]
  rcases hown.2 with ⟨rfl, rfl⟩ | ⟨g, cap, cur, rfl, _, _, hnc, _⟩
  · simp [Builtin.append_, run_underlying Try.underlying22, sizeOf, typeInfo, hi, Builtin.lenOf, Builtin.firstCells, hlc]
  · simp [Builtin.append_, run_underlying Try.underlying22, sizeOf, typeInfo, hi, Builtin.lenOf, Builtin.firstCells, hnc, storeCells, hlc]
theorem wpList_append_body {ops : Array Oper} {rest : List Oper} {o : Oper} {a : Act} {Q : Exit → Act → World → Prop} {w : World} (hgd : o.guard = none) (s x : Operand)
    (ho : o.op = .call { callee := .builtin .append, args := #[s, x], argTypes := #[22, 22] })
    (base : Nat) (v : Value) (n : Nat) (xs : List Value) (hs : a.eval s = v) (hown : w.ownsRow base 25 5 v n xs) (bo : Option Addr) (bc : Nat) (body : List TK) (hx : a.eval x = .slice bo body.length bc) (hb : BodyAt w bo body) (hbo : bo = none → body.length = 0 ∧ bc = 0)
    (hn : n + body.length ≤ 20000) (hbase : base ≤ w.heap.size)
    (h : ∀ o' c' w', w'.ownsRow base 25 5 (.slice o' (n + body.length) c') (n + body.length) (xs ++ cellsOf body) → w.grownBy w' v.ownBlock → ((Value.slice o' (n + body.length) c').ownBlock = v.ownBlock ∨ (Value.slice o' (n + body.length) c').ownBlock = some w.heap.size) → wpList Try.prog ops Q rest (a.put o.dst (.slice o' (n + body.length) c')) w') : wpList Try.prog ops Q (o :: rest) a w := by
  obtain ⟨i25, hi, hz, hsz, hby⟩ := info_parts info25
  rcases Nat.eq_zero_or_pos body.length with hm | hm
  · have hnil : body = [] := List.eq_nil_of_length_eq_zero hm
    subst hnil
    obtain ⟨o', c', rfl⟩ := any_form hown
    cases bo with
    | none =>
      obtain ⟨_, rfl⟩ := hbo rfl
      exact wpList_append_own_none hgd s x 22 ho base 25 i25 5 Try.underlying22 hi _ n xs hs hown hx (h o' c' w (by simpa [cellsOf] using hown) (World.grownBy.refl _ _) (.inl rfl))
    | some ad =>
      refine wpList_plain hgd fun K hK => ?_
      have hrun := run_append_empty (w := w) o.type i25 hi base _ n xs hown ad bc
      have hx0 : a.eval x = .slice (some ad) 0 bc := hx
      unfold Oper.wp
      simp [execOp, ho, resolve, invoke, builtin, hs, hx0, hrun, Result.andThen]
      exact hK _ _ (h o' c' w (by simpa [cellsOf] using hown) (World.grownBy.refl _ _) (.inl rfl))
  · obtain ⟨g, off, rfl, hT⟩ : ∃ g off, bo = some ⟨g, off, none⟩ ∧ Toks w g off body := by
      rcases hb with h1 | h1
      · omega
      · exact h1
    refine wpList_append_lies w hgd s x 22 ho base 25 i25 zeroTok 5 48 Try.underlying22 hi hz hsz hby rfl (by decide) v n xs hs hown ⟨g, off, none⟩ body.length bc (cellsOf body) hx (cellsOf_length body) (fun j u hu => toks_cells hT j u hu) (cells_one body) hm (by unfold maxLen; omega) (by omega) hbase w.heap.size rfl fun g cap w' h1 h2 h3 h4 => h _ _ w' h1 h2 ?_
    rcases h3 with h3 | h3
    · left; rw [h3]; rfl
    · right; rw [h3]; rfl
end Go.Proofs.Ytojneaffoekpnaa
