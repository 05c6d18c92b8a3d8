/- While a row with uses is done: what has come, the user, and what stays. -/
import Derived.Test.YtojneaffoekpnaaDone
import Derived.Deep.AppendLies
import Derived.Laws.AppendOwnNone
import Derived.Maps.AppendAt
namespace Go.Proofs.Ytojneaffoekpnaa
open Go.ChangeShapes Go.WideShapes Go.ChangeAt Go.RowKit
set_option linter.unusedVariables false
set_option linter.unusedSimpArgs false

theorem tk_below {w W : World} {g j : Nat} {t : TK} (h : TkAt w g j t) (hb : Below (g + 1) w W) : TkAt W g j t :=
  ⟨(hb.cell (Nat.lt_succ_self g)).trans h.1, (hb.cell (Nat.lt_succ_self g)).trans h.2.1, (hb.cell (Nat.lt_succ_self g)).trans h.2.2.1, (hb.cell (Nat.lt_succ_self g)).trans h.2.2.2.1, (hb.cell (Nat.lt_succ_self g)).trans h.2.2.2.2⟩
def expand (mo : Dic) (body : List TK) (ts : List TK) : List TK := ts.flatMap fun t => if isUse mo t = true then body.map (moved t) else [t]
theorem expand_take {mo : Dic} {body ts : List TK} {t : TK} {k : Nat} (hk : k < ts.length) (ht : ts[k] = t) : expand mo body (ts.take (k + 1)) = expand mo body (ts.take k) ++ (if isUse mo t = true then body.map (moved t) else [t]) := by
  rw [List.take_succ_eq_append_getElem hk, ht]
  simp [expand]
theorem expand_le {mo : Dic} {body : List TK} (hb : body.length ≤ 15) (ts : List TK) : (expand mo body ts).length ≤ ts.length * 15 := by
  induction ts with
  | nil => simp [expand]
  | cons t r ih =>
    have : (expand mo body (t :: r)).length = (if isUse mo t = true then body.map (moved t) else [t]).length + (expand mo body r).length := by simp [expand]
    rw [this, List.length_cons]
    split
    · simp; omega
    · simp; omega
theorem isUse_moved (mo : Dic) (n k : TK) : isUse mo (moved n k) = isUse mo k := rfl

/-- While a row is done. -/
structure StU (w wr : World) (b r : Nat) (fl : Bool) (mo : Dic) (tv : Value) (m : Int) (v : Value) (acc : List TK) : Prop where
  own : wr.ownsRow w.heap.size 25 5 v acc.length (cellsOf acc)
  off : w.grownBy wr (some b)
  usr : Usr wr b r fl m tv mo
section
variable {w wr w1 : World} {b r g off : Nat} {fl : Bool} {mo : Dic} {tv v : Value} {m : Int} {acc ts : List TK} {o : Option Addr}
theorem StU.below (h : StU w wr b r fl mo tv m v acc) (hb : Below wr.heap.size wr w1) : StU w w1 b r fl mo tv m v acc := by
  refine ⟨?_, h.off.trans ⟨hb.os, hb.tape, hb.output, hb.size, fun i hi _ => hb.block i hi⟩, h.usr.below hb⟩
  refine h.own.kept (row := none) ⟨hb.os, hb.tape, hb.output, hb.size, fun i hi _ => hb.block i hi⟩ ?_
  cases hv : v.ownBlock with
  | none => exact .inl rfl
  | some g => exact .inr (by simp)
theorem Toks.grown (h : Toks w g off ts) (hg : w.grownBy wr (some b)) (hne : g ≠ b) : Toks wr g off ts := by
  have hb : wr.heap[g]? = w.heap[g]? := hg.block g h.1 (by intro e; cases e; exact hne rfl)
  have hc : ∀ i, wr.cell? ⟨g, i, none⟩ = w.cell? ⟨g, i, none⟩ := fun i => World.cell?_of_block hb
  refine ⟨Nat.lt_of_lt_of_le h.1 hg.size, fun i hi => ?_⟩
  obtain ⟨a, b, c, d, e⟩ := h.2 i hi
  exact ⟨(hc _).trans a, (hc _).trans b, (hc _).trans c, (hc _).trans d, (hc _).trans e⟩
theorem BodyAt.grown (h : BodyAt w o ts) (hg : w.grownBy wr (some b)) (hne : ∀ g off, o = some ⟨g, off, none⟩ → g ≠ b) : BodyAt wr o ts := by
  rcases h with h | ⟨g, off, h1, h2⟩
  · exact .inl h
  · exact .inr ⟨g, off, h1, h2.grown hg (hne g off h1)⟩
theorem StU.push (h : StU w wr b r fl mo tv m v acc) (hb : b < w.heap.size) (hr : r < w.heap.size) {v' : Value} {new : List TK} (hg : wr.grownBy w1 v.ownBlock) (hown : w1.ownsRow w.heap.size 25 5 v' (acc.length + new.length) (cellsOf acc ++ cellsOf new)) : StU w w1 b r fl mo tv m v' (acc ++ new) := by
  have hs := h.off.size
  have hbel : Below w.heap.size wr w1 := (Below.refl _ _).grown hg hs fun k hk => (h.own.lt k hk).1
  refine ⟨?_, ⟨hbel.os.trans h.off.os, hbel.tape.trans h.off.tape, hbel.output.trans h.off.output, Nat.le_trans hs hbel.size, fun i hi hne => (hbel.block i hi).trans (h.off.block i hi hne)⟩, ⟨(hbel.block _ hb).trans h.usr.obj, (hbel.block _ hr).trans h.usr.mp⟩⟩
  rw [cellsOf_append, List.length_append]; exact hown
theorem StU.count (h : StU w wr b r fl mo tv m v acc) (hb : b < w.heap.size) (hr : r ≠ b) : StU w (wr.setCell ⟨b, 2, none⟩ (.int .i64 (m + 1))) b r fl mo tv (m + 1) v acc := by
  have hs : (wr.setCell ⟨b, 2, none⟩ (.int .i64 (m + 1))).heap.size = wr.heap.size := by simp [World.setCell]
  have hbw : b < wr.heap.size := lt_of_block h.usr.obj
  refine ⟨?_, ⟨h.off.os, h.off.tape, h.off.output, by rw [hs]; exact h.off.size, fun i hi hne => ?_⟩, ⟨?_, ?_⟩⟩
  · refine h.own.kept (row := some b) ⟨rfl, rfl, rfl, by rw [hs]; exact Nat.le_refl _, fun k hk hkb => heap_setCell_other _ _ _ _ fun e => hkb (by rw [e])⟩ ?_
    cases hv : v.ownBlock with
    | none => exact .inl rfl
    | some g =>
      right
      have := (h.own.lt g hv).1
      intro e
      cases e
      omega
  · rw [heap_setCell_other _ _ _ _ (by intro e; exact hne (by rw [e]))]
    exact h.off.block i hi hne
  · rw [heap_setCell_same _ _ _ _ _ _ h.usr.obj]
    rfl
  · rw [heap_setCell_other _ _ _ _ (by show r ≠ b; exact hr)]
    exact h.usr.mp
theorem StU.drewN (h : StU w wr b r fl mo tv m v acc) (n : Nat) : StU w (wr.drewN n) b r fl mo tv m v acc := h.below (bdrew (Below.refl _ _) n)
theorem StU.start (hu : Usr w b r fl m tv mo) : StU w w b r fl mo tv m (.slice none 0 0) [] := ⟨World.ownsRow_nil _ _ _ _, World.grownBy.refl _ _, hu⟩
end

/-- What the use of a macro lays in memory for its value. -/
def dCells (o : Option Addr) (k c : Nat) : Array Value := #[.bool true, .slice none 0 0, .slice o k c]
theorem again_free2 (wr w1 : World) (hb1 : Below (wr.alloc (.cells #[.bool false, .slice none 0 0, .slice none 0 0] 63)).drew.heap.size (wr.alloc (.cells #[.bool false, .slice none 0 0, .slice none 0 0] 63)).drew w1) (v0 v1 v2 : Value) :
    (((w1.setCell ⟨wr.heap.size, 0, none⟩ v0).setCell ⟨wr.heap.size, 1, none⟩ v1).setCell ⟨wr.heap.size, 2, none⟩ v2).heap[wr.heap.size]? = some (.cells #[v0, v1, v2] 63 (0, 0)) := by
  have hz0 : (wr.alloc (.cells #[.bool false, .slice none 0 0, .slice none 0 0] 63)).heap[wr.heap.size]? = some (.cells #[.bool false, .slice none 0 0, .slice none 0 0] 63 (0, 0)) := heap_alloc_new _ _
  have hz1 : w1.heap[wr.heap.size]? = some (.cells #[.bool false, .slice none 0 0, .slice none 0 0] 63 (0, 0)) := (hb1.block wr.heap.size (by show wr.heap.size < (wr.alloc _).heap.size; rw [World.size_alloc]; omega)).trans hz0
  have e1 := heap_setCell_same _ wr.heap.size 0 _ _ v0 hz1
  have e2 := heap_setCell_same _ wr.heap.size 1 _ _ v1 e1
  have e3 := heap_setCell_same _ wr.heap.size 2 _ _ v2 e2
  exact e3

theorem step_append_none {P : Program} {ops : Array Oper} {o : Oper} {a : Act} {w : World} {K : Act → World → Prop} {Q : Exit → Act → World → Prop} {E : Prop} (hgd : o.guard = none) (s x : Operand) (t : TypeId)
    (ho : o.op = .call { callee := .builtin .append, args := #[s, x], argTypes := #[t, t] })
    (base : Nat) (e : TypeId) (i : TypeInfo) (size : Nat) (ht : P.underlying t = some (.slice e)) (hi : P.info? e = some i)
    (v : Value) (n : Nat) (xs : List Value) (hs : a.eval s = v) (hown : w.ownsRow base e size v n xs) (hx : a.eval x = .slice none 0 0)
    (h : K (a.put o.dst v) w) : if Region.wanted o (yielded ops a.tmps) = true then Oper.wp P o a w K Q else E := by
  have hw : Region.wanted o (yielded ops a.tmps) = true := by simp [Region.wanted, hgd]
  rw [if_pos hw]
  have hrun := run_append_owned_none (P := P) (w := w) base t o.type e i size ht hi v n xs hown
  unfold Oper.wp
  simp [execOp, ho, resolve, invoke, builtin, hs, hx, hrun, Result.andThen]
  exact h

/-- append of a row that a callee has handed back, empty or not. -/
theorem step_append_row {ops : Array Oper} {o : Oper} {a : Act} {w : World} {K : Act → World → Prop} {Q : Exit → Act → World → Prop} {E : Prop} (hgd : o.guard = none) (s x : Operand)
    (ho : o.op = .call { callee := .builtin .append, args := #[s, x], argTypes := #[22, 22] })
    (base base2 : Nat) (v v2 : Value) (n : Nat) (xs : List Value) (hs : a.eval s = v) (hown : w.ownsRow base 25 5 v n xs) (us : List TK) (hx : a.eval x = v2) (hown2 : w.ownsRow base2 25 5 v2 us.length (cellsOf us)) (h0 : us.length = 0 → v2 = .slice none 0 0)
    (hn : n + us.length ≤ 20000) (hbase : base ≤ w.heap.size)
    (hK : ∀ v' w', w'.ownsRow base 25 5 v' (n + us.length) (xs ++ cellsOf us) → w.grownBy w' v.ownBlock → (v' = .slice none 0 0 ↔ v = .slice none 0 0 ∧ us.length = 0) → K (a.put o.dst v') w') : if Region.wanted o (yielded ops a.tmps) = true then Oper.wp Try.prog o a w K Q else E := by
  obtain ⟨i25, hi, hz, hsz, hby⟩ := info_parts info25
  rcases Nat.eq_zero_or_pos us.length with hm | hm
  · have e := h0 hm
    subst e
    have hnil : us = [] := List.eq_nil_of_length_eq_zero hm
    subst hnil
    refine step_append_none hgd s x 22 ho base 25 i25 5 Try.underlying22 hi v n xs hs hown hx (hK v w ?_ (World.grownBy.refl _ _) ?_)
    · simpa [cellsOf] using hown
    · simp
  · obtain ⟨g, cap, hv, _⟩ := form_of hown2 hm
    subst hv
    have hw : Region.wanted o (yielded ops a.tmps) = true := by simp [Region.wanted, hgd]
    rw [if_pos hw]
    obtain ⟨v', w', hrun, r1, r2, r3⟩ := run_append_own (P := Try.prog) w base 22 o.type 25 i25 zeroTok 5 48 Try.underlying22 hi hz hsz hby rfl (by decide) v n xs hown ⟨g, 0, none⟩ us.length cap (cellsOf us) (cellsOf_length us) (hown2.cells rfl) (cells_one us) (by unfold maxLen; omega) (by omega) hbase
    unfold Oper.wp
    simp [execOp, ho, resolve, invoke, builtin, hs, hx, hrun, Result.andThen]
    exact hK v' w' r1 r2 r3

/-- The same of a row that is put into a row's place: the closure on what has just been made. -/
theorem done_row (b r : Nat) (fl : Bool) (n : Int) (tv : Value) (mo : Dic) (pb q base : Nat) (v : Value) (ts : List TK) (dp : Int) (w : World) (hu : Usr w b r fl n tv mo) (hno : ∀ i (h : i < ts.length), isUse mo ts[i] = false) (hp : w.cell? ⟨pb, 0, none⟩ = some (.pointer (some ⟨b, 0, none⟩))) (hown : w.ownsRow base 25 5 v ts.length (cellsOf ts)) (h0 : ts.length = 0 → v = .slice none 0 0) (hn : ts.length ≤ 8192) :
    Calls Try.prog 30 #[v, .int .i64 dp, .pointer (some ⟨pb, 0, none⟩), .pointer (some ⟨q, 0, none⟩)] w fun e w' => ∃ v, e = .returned v ∧ Row w w' v ts ∧ (ts.length = 0 → v = .slice none 0 0) := by
  rcases Nat.eq_zero_or_pos ts.length with hm | hm
  · have e := h0 hm
    subst e
    have hnil : ts = [] := List.eq_nil_of_length_eq_zero hm
    subst hnil
    clear hu hno hp hown h0 hn hm
    go_enter Try.func30, Try.ntmps30
    go_wp2_with fail
    refine wp_loop_rounds 1 ?_
    rw [rounds_succ]
    go_wp2_with fail
    go_ret
    exact ⟨_, rfl, Row.nil_ _, fun _ => rfl⟩
  · obtain ⟨g, cap, hv, _, _, hc⟩ := form_of hown hm
    subst hv
    exact done_any b r fl n tv mo pb q g 0 cap ts dp w hu hno hp (toks_of_own hown) hn hc

theorem loads_kept {W W2 : World} {pb b q x g j bl cb : Nat} {o : Option Addr} {t : TK} (hx : x < W.heap.size) (h : (W.cell? ⟨pb, 0, none⟩ = some (.pointer (some ⟨b, 0, none⟩)) ∧ W.cell? ⟨q, 0, none⟩ = some (.func (.func 30) #[] #[.pointer (some ⟨pb, 0, none⟩), .pointer (some ⟨q, 0, none⟩)]) ∧ W.cell? ⟨x, 0, none⟩ = some (.bool true) ∧ W.cell? ⟨x, 1, none⟩ = some (.slice none 0 0) ∧ W.cell? ⟨x, 2, none⟩ = some (.slice o bl cb) ∧ W.cell? ⟨g, j, none⟩ = some (.int .i64 t.kind) ∧ W.cell? ⟨g, j + 1, none⟩ = some (.int .i64 t.pos) ∧ W.cell? ⟨g, j + 2, none⟩ = some (.int .i64 t.line) ∧ W.cell? ⟨g, j + 3, none⟩ = some (.string t.text) ∧ W.cell? ⟨g, j + 4, none⟩ = some (.int .i64 t.num))) (hb : Below W.heap.size W W2) (h1 : pb < W.heap.size) (h2 : q < W.heap.size) (h3 : g < W.heap.size) :
    (W2.cell? ⟨pb, 0, none⟩ = some (.pointer (some ⟨b, 0, none⟩)) ∧ W2.cell? ⟨q, 0, none⟩ = some (.func (.func 30) #[] #[.pointer (some ⟨pb, 0, none⟩), .pointer (some ⟨q, 0, none⟩)]) ∧ W2.cell? ⟨x, 0, none⟩ = some (.bool true) ∧ W2.cell? ⟨x, 1, none⟩ = some (.slice none 0 0) ∧ W2.cell? ⟨x, 2, none⟩ = some (.slice o bl cb) ∧ W2.cell? ⟨g, j, none⟩ = some (.int .i64 t.kind) ∧ W2.cell? ⟨g, j + 1, none⟩ = some (.int .i64 t.pos) ∧ W2.cell? ⟨g, j + 2, none⟩ = some (.int .i64 t.line) ∧ W2.cell? ⟨g, j + 3, none⟩ = some (.string t.text) ∧ W2.cell? ⟨g, j + 4, none⟩ = some (.int .i64 t.num)) :=
  ⟨(hb.cell h1).trans h.1, (hb.cell h2).trans h.2.1, (hb.cell hx).trans h.2.2.1, (hb.cell hx).trans h.2.2.2.1, (hb.cell hx).trans h.2.2.2.2.1, (hb.cell h3).trans h.2.2.2.2.2.1, (hb.cell h3).trans h.2.2.2.2.2.2.1, (hb.cell h3).trans h.2.2.2.2.2.2.2.1, (hb.cell h3).trans h.2.2.2.2.2.2.2.2.1, (hb.cell h3).trans h.2.2.2.2.2.2.2.2.2⟩

theorem loads_grown {W W2 : World} {pb b q x g j bl cb base n : Nat} {o : Option Addr} {t : TK} {v : Value} {xs : List Value} {cs : Array Value} (h : (W.cell? ⟨pb, 0, none⟩ = some (.pointer (some ⟨b, 0, none⟩)) ∧ W.cell? ⟨q, 0, none⟩ = some (.func (.func 30) #[] #[.pointer (some ⟨pb, 0, none⟩), .pointer (some ⟨q, 0, none⟩)]) ∧ W.cell? ⟨x, 0, none⟩ = some (.bool true) ∧ W.cell? ⟨x, 1, none⟩ = some (.slice none 0 0) ∧ W.cell? ⟨x, 2, none⟩ = some (.slice o bl cb) ∧ W.cell? ⟨g, j, none⟩ = some (.int .i64 t.kind) ∧ W.cell? ⟨g, j + 1, none⟩ = some (.int .i64 t.pos) ∧ W.cell? ⟨g, j + 2, none⟩ = some (.int .i64 t.line) ∧ W.cell? ⟨g, j + 3, none⟩ = some (.string t.text) ∧ W.cell? ⟨g, j + 4, none⟩ = some (.int .i64 t.num))) (hg : W.grownBy W2 v.ownBlock) (hown : W.ownsRow base 25 5 v n xs) (hd : W.heap[x]? = some (.cells cs 63 (0, 0))) (h1 : pb < base) (h2 : q < base) (h3 : g < base) (hb : base ≤ W.heap.size) :
    (W2.cell? ⟨pb, 0, none⟩ = some (.pointer (some ⟨b, 0, none⟩)) ∧ W2.cell? ⟨q, 0, none⟩ = some (.func (.func 30) #[] #[.pointer (some ⟨pb, 0, none⟩), .pointer (some ⟨q, 0, none⟩)]) ∧ W2.cell? ⟨x, 0, none⟩ = some (.bool true) ∧ W2.cell? ⟨x, 1, none⟩ = some (.slice none 0 0) ∧ W2.cell? ⟨x, 2, none⟩ = some (.slice o bl cb) ∧ W2.cell? ⟨g, j, none⟩ = some (.int .i64 t.kind) ∧ W2.cell? ⟨g, j + 1, none⟩ = some (.int .i64 t.pos) ∧ W2.cell? ⟨g, j + 2, none⟩ = some (.int .i64 t.line) ∧ W2.cell? ⟨g, j + 3, none⟩ = some (.string t.text) ∧ W2.cell? ⟨g, j + 4, none⟩ = some (.int .i64 t.num)) := by
  have hlow : ∀ a : Addr, a.block < base → W2.cell? a = W.cell? a := fun a ha => hg.cell_far a (Nat.lt_of_lt_of_le ha hb) (by intro e; have := (hown.lt _ e.symm).1; omega)
  have hx : ∀ i, W2.cell? ⟨x, i, none⟩ = W.cell? ⟨x, i, none⟩ := fun i => hg.cell_far ⟨x, i, none⟩ (lt_of_block hd) (by
    intro e
    rcases hown.2 with ⟨hv, _⟩ | ⟨gg, cap, cur, hv, _, hrow, _⟩
    · rw [hv] at e; cases e
    · rw [hv] at e
      have e2 : x = gg := by simpa [Value.ownBlock] using e
      rw [e2, hrow] at hd
      cases hd)
  exact ⟨(hlow _ h1).trans h.1, (hlow _ h2).trans h.2.1, (hx _).trans h.2.2.1, (hx _).trans h.2.2.2.1, (hx _).trans h.2.2.2.2.1, (hlow _ h3).trans h.2.2.2.2.2.1, (hlow _ h3).trans h.2.2.2.2.2.2.1, (hlow _ h3).trans h.2.2.2.2.2.2.2.1, (hlow _ h3).trans h.2.2.2.2.2.2.2.2.1, (hlow _ h3).trans h.2.2.2.2.2.2.2.2.2⟩
end Go.Proofs.Ytojneaffoekpnaa
