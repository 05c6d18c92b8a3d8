/- ExprPrints: whatever the text and the numbers. Conditions: the arguments hold together at most 1048576 values and letters; the library's listed tables hold what the program's text lays in them. -/
import Derived.Test.YtbeikhgjkbnldaaDoorM47
import Derived.Test.YtbeikhgjkbnldaaDoorM42
import Derived.Test.YtbeikhgjkbnldaaDoorM44
import Derived.Test.YtbeikhgjkbnldaaDoorM45
import Derived.SevenTiedAt
import Derived.ShutString
import Derived.ChangeOld
namespace Go.Proofs.YtbeikhgjkbnldaaDoor.exprPrints
open Go.ChangeShapes Go.WideShapes Go.ChangeAt Go.RowKit
open Go.ChangeMaps (open_string shut_string)
set_option linter.unusedVariables false
set_option linter.unusedSimpArgs false

set_option maxRecDepth 100000 in
theorem walk (s : ByteArray) (args : List Int) (o : Option Addr) (c : Nat) (w : World) (hr : Row w.heap.size o 1 (intAt w) args) (hin : ∀ x ∈ args, inI x) (hc : args.length ≤ c) (hs : s.size ≤ 1048576) (ht : TabW w) :
    Calls Tryd.prog 3 #[.string s, .slice o args.length c] w fun e w' => e = .returned (.bool true) ∧ Below w.heap.size w w' := by
  have HP1 : Hid (∀ W, Below w.heap.size w W → Calls Tryd.prog 6 #[.string s, .slice o args.length c] W fun e W' => e = .returned (.string ⟨(printF s.data.toList args).toArray⟩) ∧ Below W.heap.size W W') :=
    Lib.hid fun W hb => printC (B := w.heap.size) s args o c W hb.size (hr.mono fun g a x hg h => intAt.below hb hg h) hc hin (by omega) (ht.below hb)
  have HP2 : Hid (∀ W, Below w.heap.size w W → Calls Tryd.prog 7 #[.string s, .slice o args.length c] W fun e W' => e = .returned (.string ⟨(printF s.data.toList args).toArray⟩) ∧ Below W.heap.size W W') :=
    Lib.hid fun W hb => doc.printR (B := w.heap.size) s args o c W hb.size (hr.mono fun g a x hg h => intAt.below hb hg h) hin (by omega)
  have HS := Lib.hid (shownC w ht)
  generalize (⟨(printF s.data.toList args).toArray⟩ : ByteArray) = T at HP1 HP2
  clear hr hin hc hs ht
  go_enter Tryd.func3, Tryd.ntmps3
  go_wp2_with fail
  refine HS.out.mono ?_
  rintro e w1 ⟨rfl, hb1⟩
  have HB1 := Lib.hid hb1
  clear hb1
  go_wp2_with fail
  refine (HP1.out w1 HB1.out).mono ?_
  rintro e w2 ⟨rfl, hb2⟩
  have HB2 := Lib.hid (HB1.out.trans (hb2.mono HB1.out.size))
  clear hb2
  go_wp2_with fail
  refine (HP2.out w2 HB2.out).mono ?_
  rintro e w3 ⟨rfl, hb3⟩
  have HB3 := Lib.hid (HB2.out.trans (hb3.mono HB2.out.size))
  clear hb3
  go_wp2_with fail
  go_ret
  exact ⟨by simp, HB3.out⟩

section
variable {H : Type} {enc : TypeId × Value → H} {W : World} {base : Nat} {sp : Nat → Bool} {hd : Bool}
def numAt (W : World) (g a : Nat) (x : Int) : Prop := intAt W g a x ∧ inI x
theorem opens_num {t : TypeId} (ht : Tryd.prog.underlying t = some (.int .i64)) : Opens enc W base sp hd t (numAt W) := by
  rintro g off ⟨m, ds, y, hl, h, _⟩
  obtain ⟨v, rfl, _, hwf⟩ := DataW.trod_int ht h
  have h0 : (decide (IntKind.i64.min ≤ v) && decide (v ≤ IntKind.i64.max)) = true := hwf
  have e1 : IntKind.i64.min = -9223372036854775808 := by decide +kernel
  have e2 : IntKind.i64.max = 9223372036854775807 := by decide +kernel
  rw [e1, e2, Bool.and_eq_true, decide_eq_true_eq, decide_eq_true_eq] at h0
  have h1 := h0
  exact ⟨v, hl 0 (by simp), h1⟩
set_option maxRecDepth 100000 in
theorem open_nums {v : Value} {r : Reach} {b0 : Nat} {d : DataW H} {p : List MemPlace} (hv : Value.okWide Tryd.prog W r b0 22 v) (h : DataW.Trod enc Tryd.prog W base sp hd 22 v d p) (hw : Fits 22 d) :
    ∃ (o : Option Addr) (l : List Int) (c : Nat), v = .slice o l.length c ∧ Row W.heap.size o 1 (intAt W) l ∧ (∀ x ∈ l, inI x) ∧ l.length ≤ c := by
  obtain ⟨a, len, cap, rfl⟩ := okWide_slice Tryd.underlying22 hv
  obtain ⟨fu, hf⟩ := h
  obtain ⟨o, l, c, e, hrow⟩ := open_sli Tryd.underlying22 c_int64.1 (by decide) c_int64.2 (by decide) (opens_num Tryd.underlying2) hf hw
  have e2 : (.slice a len cap : Value) = .slice o l.length c := by
    have h3 : [(.slice a len cap : Value)] = [.slice o l.length c] := e
    injection h3
  have hc : l.length ≤ c := by
    rcases DataW.trod_slice Tryd.underlying22 hf with ⟨hcs, _⟩ | ⟨a', l', c', elems, rest, n', _, hcs, hy, hb, hl, _⟩
    · have h3 : (.slice a len cap : Value) = .slice none 0 0 := by
        have h4 : [(.slice a len cap : Value)] = [.slice none 0 0] := hcs
        injection h4
      rw [e2] at h3
      injection h3 with _ h4 h5
      omega
    · have h3 : (.slice a len cap : Value) = .slice (some a') l' c' := by
        have h4 : [(.slice a len cap : Value)] = [.slice (some a') l' c'] := hcs
        injection h4
      rw [e2] at h3
      injection h3 with _ h4 h5
      omega
  refine ⟨o, l, c, e2, hrow.mono fun _ _ _ _ h => h.1, fun x hx => ?_, hc⟩
  obtain ⟨i, hi, rfl⟩ := List.mem_iff_getElem.1 hx
  obtain ⟨g, off, _, _, h2⟩ := hrow.cell hi
  exact h2.2
end

theorem part_le {H : Type} {d : DataW H} {l : List (DataW H)} (h : d ∈ l) : Rows.uptoBulk d ≤ Rows.uptoBulkAll l := by
  induction l with
  | nil => cases h
  | cons x r ih =>
    simp only [Rows.uptoBulkAll]
    cases List.mem_cons.1 h with
    | inl e => subst e; omega
    | inr e => have := ih e; omega
theorem string_le {H : Type} (bytes : List UInt8) : bytes.length ≤ Rows.uptoBulk (DataW.lit (H := H) (.string bytes)) := by
  simp [Rows.uptoBulk]
theorem bound {H : Type} {l : List (DataW H)} (hk : Rows.uptoSmall H l = true) : Rows.uptoBulkAll l ≤ 1048576 := of_decide_eq_true hk

set_option maxRecDepth 100000 in
theorem contract (H : Type) (enc : TypeId × Value → H) (W : World) (base : Nat) (args : Array Value) (ds gs : List (DataW H)) (before : List MemPlace)
    (hval0 : ∀ (j : Nat) t v, Tryd.f3.params[j]? = some t → args[j]? = some v → Value.okWide Tryd.prog W .any base t v)
    (hW : DataW.Whole enc Tryd.prog Tryd.f3.params.toList Rows.exprPrintsSpec.vars false W args.toList ds gs before) (hk : Rows.uptoSmall H (ds ++ gs) = true)
    (hsz0 : (DataW.weightsEach Tryd.prog (Tryd.f3.params.toList ++ Rows.exprPrintsSpec.plain.varTypes Tryd.prog) (ds ++ gs)).all (· ≤ reachBytes) = true) (hL : laidMet Tryd.prog laidL W) :
    Calls Tryd.prog 3 args W fun e W' => ∃ v, e = .returned v ∧ Rows.exprPrintsSpec.post enc Tryd.prog Tryd.f3 false true false false W args v W' := by
  have hsz := hsz0
  clear hsz0
  have hval : ∀ (j : Nat) t v, Tryd.f3.params[j]? = some t → args[j]? = some v → Value.okWide Tryd.prog W .any base t v := hval0
  have hW' := hW
  obtain ⟨p, q, hA0, hV, rfl, hfz, hnd⟩ := hW
  have hA : DataW.TrodAll enc Tryd.prog W 0 (fun _ => true) true Tryd.f3.params.toList args.toList ds p := hA0
  rw [Tryd.params3] at hA hval hsz
  obtain ⟨v0, vs0, d0, ds0, p0, q0, hargs, rfl, rfl, h0, r0⟩ := trodAll_cons hA
  obtain ⟨v1, vs1, d1, ds1, p1, q1, rfl, rfl, rfl, h1, r1⟩ := trodAll_cons r0
  obtain ⟨rfl, rfl, rfl⟩ := trodAll_nil r1
  obtain rfl : args = #[v0, v1] := by cases args; simp_all
  obtain ⟨rfl, rfl⟩ := trodVars_none hV
  have k0 := h0
  have lt0 : ∀ x ∈ p0, x.block < W.heap.size := by obtain ⟨m, hm⟩ := k0; exact DataW.trod_lt m _ _ _ hm
  have k1 := h1
  have lt1 : ∀ x ∈ p1, x.block < W.heap.size := by obtain ⟨m, hm⟩ := k1; exact DataW.trod_lt m _ _ _ hm
  have hbk := bound hk
  have w1 : Fits 22 d1 := fun k hk => by
    have := List.all_eq_true.1 hsz k (DataW.weights_mem_each (j := 1) rfl rfl k hk)
    simpa using this
  obtain ⟨s0, rfl, rfl, rfl, hs0⟩ := open_string Tryd.underlying9 (hval 0 9 v0 rfl rfl) h0
  obtain ⟨o, l, c, rfl, hrow, hin, hlc⟩ := open_nums (hval 1 22 v1 rfl rfl) h1 w1
  have hb0 := Nat.le_trans (string_le (H := H) s0.data.toList) (Nat.le_trans (part_le (by simp)) hbk)
  have hss : s0.size ≤ 1048576 := by simpa using hb0
  clear hA0 hval0 hsz
  refine (walk s0 l o c W hrow hin hlc hss (env_of W hL)).mono fun e W' ⟨he, bel⟩ => ?_
  subst he
  exact ⟨_, rfl, _, _, _, [], _, [], hW', trodAll_mk1 (shut_bool Tryd.underlying4 _), (trodAll_cons_mk (Below.trod laidOut (by kernel_rfl) (of_decide_eq_true (by kernel_rfl)) k0 bel lt0) (trodAll_cons_mk (Below.trod laidOut (by kernel_rfl) (of_decide_eq_true (by kernel_rfl)) k1 bel lt1) trodAll_mk0)), rfl, bel.frame _, fun h => by cases h⟩

def args0 : Array Value := #[.string ⟨#[]⟩, .slice none 0 0]
theorem laid_in (os : Os) : LaidIn Tryd.prog ((laidWorld os).forCall (fun _ _ => 0) ⟨#[], args0, []⟩).memory laidL [1, 2, 0] :=
  LaidIn.of_run [1, 2, 0] 8 (by kernel_rfl) (by kernel_rfl) (by kernel_rfl) (by kernel_rfl)
theorem laid_met (os : Os) : laidMet Tryd.prog laidL ((laidWorld os).forCall (fun _ _ => 0) ⟨#[], args0, []⟩).memory := (laid_in os).met
theorem reads (os : Os) {H : Type} (enc : TypeId × Value → H) : ∃ places, DataW.whole enc Tryd.prog ((laidWorld os).forCall (fun _ _ => 0) ⟨#[], args0, []⟩).memory Tryd.f3.params.toList Rows.exprPrintsSpec.vars false args0.toList 8 = some ([.lit (.string []), .nil], [], places) :=
  ⟨[], by kernel_rfl⟩

set_option maxRecDepth 100000 in
theorem lifted (os : Os) (started : os.Started) (H : Type) (enc : TypeId × Value → H) (F : Stop.Interp) :
    ReturnsInHanded {} Tryd.checked os 3 .any ((Rows.OpenSpec.upto Rows.exprPrintsSpec).preRow enc Tryd.prog Tryd.f3 Rows.exprPrintsUptoRow.domain false Rows.exprPrintsUptoRow.laid) (((Rows.OpenSpec.upto Rows.exprPrintsSpec).at F).post enc Tryd.prog Tryd.f3 false true false false) := by
  obtain ⟨places, hx⟩ := reads os enc
  refine returnsInHanded_of_row (C := Tryd.checked) (s := Rows.OpenSpec.upto Rows.exprPrintsSpec) own started (by kernel_rfl) Tryd.func3
    (witness_row_atRef (enc := enc) (C := Tryd.checked) false (laidWorld os) args0 rfl (by kernel_rfl) (by kernel_rfl) (by kernel_rfl)
      (OpenSpec.preRow_of_cond 8 hx (by kernel_rfl) (fun k hk => by cases hk; kernel_rfl) (by kernel_rfl) (laid_met os))) ?_
  intro W base args ds gs before hval hW _ hcond hsz hL _ _
  exact contract H enc W base args ds gs before hval hW (hcond _ rfl) hsz hL

theorem said : Rows.ExprPrintsUptoSaid :=
  OpenClaim.holds_of_cond 3 Tryd.f3 rfl rfl rfl rfl rfl rfl rfl ⟨rfl, rfl, rfl, rfl, rfl⟩ rfl rfl rfl rfl rfl (by kernel_rfl) Tryd.func3 (by kernel_rfl)
    (of_decide_eq_true (by kernel_rfl)) (by unfold Func.isWrapper; first | (rw [if_pos (by decide +kernel)]; kernel_rfl) | (rw [if_neg (by decide +kernel)]; exact ⟨rfl, rfl⟩))
    (fun os started H enc _ F => by rw [OpenClaim.pre_eq_preRow]; exact lifted os started H enc F)

theorem plain (f : FuncId) (fn : Func) (hf : Tryd.pinned.checked.prog.funcNamed "spinneret/spinneretlaw14.ExprPrints" = some f) (hfn : Tryd.pinned.checked.prog.funcs[f]? = some fn) :
    false = Tryd.pinned.checked.prog.looks [] ∧ ∀ (j : Nat) t, fn.params[j]? = some t → Tryd.pinned.checked.prog.wantsStandIn t = false := by
  obtain rfl : f = 3 := Option.some.inj ((show Tryd.prog.funcNamed "spinneret/spinneretlaw14.ExprPrints" = some 3 by kernel_rfl).symm.trans hf) |>.symm
  obtain rfl : fn = Tryd.f3 := (Option.some.inj (Tryd.func3.symm.trans hfn)).symm
  refine ⟨by kernel_rfl, fun j t ht => ?_⟩
  rw [Tryd.params3] at ht
  have h2 := Array.mem_of_getElem? ht
  simp at h2
  rcases h2 with rfl | rfl
  · exact (show Tryd.prog.wantsStandIn 9 = false by kernel_rfl)
  · exact (show Tryd.prog.wantsStandIn 22 = false by kernel_rfl)

theorem card : Rows.ExprPrintsUptoCardSaid :=
  Claim7.holds_tied_plain_at .later [] _ _ _ _ said (fun _ h => by cases h) (by kernel_rfl) (fun _ h => by cases h) exprPrintsUpto_row_tie rfl ⟨rfl, rfl⟩ (by kernel_rfl) rfl plain (by kernel_rfl)
end Go.Proofs.YtbeikhgjkbnldaaDoor.exprPrints
namespace Go.Proofs.YtbeikhgjkbnldaaDoor
theorem exprPrints_holds : Rows.ExprPrintsUptoCardSaid := exprPrints.card
#print axioms exprPrints_holds
end Go.Proofs.YtbeikhgjkbnldaaDoor
