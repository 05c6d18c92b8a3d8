/- PrepSkips: what stands behind an if that is 0, and no directive, goes away; what stands behind its else is done as if it stood alone: for every two rows of tokens. Conditions: none. -/
import Derived.Test.YtojneaffoekpnaaRows
import Derived.WalkKit
import Derived.ProofKit
import Derived.OpenShut
import Derived.ChangeOld
import Derived.Below
import Derived.Lib.SmallJoins
import Derived.ChangeArms
import Derived.Test.YtojneaffoekpnaaSkWalk
namespace Go.Proofs.Ytojneaffoekpnaa.prepSkips
open Go.ChangeShapes Go.WideShapes Go.ChangeAt Go.RowKit
set_option linter.unusedVariables false

theorem own : ownKnob Try.prog.godebug = none := by kernel_rfl
theorem laidOut : laidOutB Try.prog = true := by kernel_rfl

theorem trod5 {H : Type} {enc : TypeId × Value → H} {P : Program} {w : World} {base : Nat} {spare : Nat → Bool} {held : Bool} {t : TypeId} {f0 f1 f2 f3 f4 : Field} {fuel : Nat} {cs : List Value} {x : DataW H × List MemPlace} (ht : P.underlying t = some (.struct #[f0, f1, f2, f3, f4])) (h : DataW.trod enc P w base spare held fuel t cs = some x) :
    ∃ y0 y1 y2 y3 y4 n, cs.length = P.cellsOf t ∧ DataW.trod enc P w base spare held n f0.type ((cs.drop f0.offset).take (P.cellsOf f0.type)) = some y0 ∧
      DataW.trod enc P w base spare held n f1.type ((cs.drop f1.offset).take (P.cellsOf f1.type)) = some y1 ∧ DataW.trod enc P w base spare held n f2.type ((cs.drop f2.offset).take (P.cellsOf f2.type)) = some y2 ∧
      DataW.trod enc P w base spare held n f3.type ((cs.drop f3.offset).take (P.cellsOf f3.type)) = some y3 ∧ DataW.trod enc P w base spare held n f4.type ((cs.drop f4.offset).take (P.cellsOf f4.type)) = some y4 := by
  obtain ⟨xs, n, _, rfl, hl, hlen, hf⟩ := DataW.trod_struct ht h
  match xs, hlen with
  | [y0, y1, y2, y3, y4], _ => exact ⟨y0, y1, y2, y3, y4, n, hl, by simpa using hf 0 f0 rfl, by simpa using hf 1 f1 rfl, by simpa using hf 2 f2 rfl, by simpa using hf 3 f3 rfl, by simpa using hf 4 f4 rfl⟩

theorem add_at (b o k : Nat) : Addr.add ⟨b, o, none⟩ k = ⟨b, o + k, none⟩ := by simp [Addr.add]

theorem pick_all {P : Nat → TK → Prop} : ∀ n, (∀ i, i < n → ∃ t, P i t) → ∃ ts : List TK, ts.length = n ∧ ∀ i (h : i < ts.length), P i ts[i]
  | 0, _ => ⟨[], rfl, fun i h => by cases h⟩
  | n + 1, h => by
    obtain ⟨ts, hl, hp⟩ := pick_all n fun i hi => h i (by omega)
    obtain ⟨t, ht⟩ := h n (by omega)
    refine ⟨ts ++ [t], by simp [hl], fun i hi => ?_⟩
    by_cases e : i < ts.length
    · rw [List.getElem_append_left e]
      exact hp i e
    · have : i = n := by simp at hi; omega
      subst this
      have : (ts ++ [t])[i] = t := by rw [List.getElem_append_right (by omega)]; simp
      rw [this]
      exact ht

theorem open_toks {H : Type} {enc : TypeId × Value → H} {W : World} {spare : Nat → Bool} {fuel : Nat} {o : Option Addr} {n cap : Nat} {y : DataW H × List MemPlace} (hf : DataW.trod enc Try.prog W 0 spare true fuel 22 [.slice o n cap] = some y) :
    n ≤ maxLen ∧ (o = none → n = 0 ∧ cap = 0) ∧ (n = 0 ∨ n ≤ cap ∧ ∃ g off ts, o = some ⟨g, off, none⟩ ∧ ts.length = n ∧ Toks W g off ts) := by
  rcases DataW.trod_slice Try.underlying22 hf with ⟨hcs, _⟩ | ⟨x, l, c, elems, rest, k, _, hcs, _, hb, hl, hm, hel, hcell, _⟩
  · simp at hcs
    obtain ⟨rfl, rfl, rfl⟩ := hcs
    exact ⟨Nat.zero_le _, fun _ => ⟨rfl, rfl⟩, .inl rfl⟩
  · simp at hcs
    obtain ⟨rfl, rfl, rfl⟩ := hcs
    refine ⟨Nat.le_trans hl hm, (fun h => by simp at h), ?_⟩
    rcases Nat.eq_zero_or_pos n with h0 | hpos
    · exact .inl h0
    · have h5 : Try.prog.cellsOf 25 = 5 := by kernel_rfl
      rw [h5] at hcell
      obtain ⟨ab, off, spot⟩ := x
      have hspot : spot = none := by
        have hc := hcell 0 (by omega)
        rw [List.getElem?_eq_getElem (by omega)] at hc
        obtain ⟨cs, hcs, _⟩ := Option.bind_eq_some_iff.1 hc
        obtain ⟨_, hl4, h0⟩ := World.cells?_some hcs
        have h0 := h0 0 (by decide)
        rw [List.getElem?_eq_getElem (by omega)] at h0
        have h1 := World.cell?_spot h0
        simpa [Addr.add] using h1
      subst hspot
      have hone : ∀ i, i < n → ∃ t, TkAt W ab (off + i * 5) t := by
        intro i hi
        have hc := hcell i (by omega)
        rw [List.getElem?_eq_getElem (by omega)] at hc
        obtain ⟨cs, hcs, htr⟩ := Option.bind_eq_some_iff.1 hc
        obtain ⟨_, hl4, hcc⟩ := World.cells?_some hcs
        obtain ⟨y0, y1, y2, y3, y4, m, _, t0, t1, t2, t3, t4⟩ := trod5 Try.underlying25 htr
        have k3 : Try.prog.cellsOf 3 = 1 := by kernel_rfl
        have k9 : Try.prog.cellsOf 9 = 1 := by kernel_rfl
        have k2 : Try.prog.cellsOf 2 = 1 := by kernel_rfl
        simp only [k3, k9, k2] at t0 t1 t2 t3 t4
        match cs, hl4 with
        | [c0, c1, c2, c3, c4], _ =>
          obtain ⟨n0, e0, _, _⟩ := DataW.trod_int Try.underlying3 t0
          obtain ⟨n1, e1, _, _⟩ := DataW.trod_int Try.underlying3 t1
          obtain ⟨n2, e2, _, _⟩ := DataW.trod_int Try.underlying3 t2
          obtain ⟨n3, e3, _⟩ := DataW.trod_string Try.underlying9 t3
          obtain ⟨n4, e4, _, _⟩ := DataW.trod_int Try.underlying2 t4
          simp at e0 e1 e2 e3 e4
          subst e0 e1 e2 e3 e4
          have q0 := hcc 0 (by decide)
          have q1 := hcc 1 (by decide)
          have q2 := hcc 2 (by decide)
          have q3 := hcc 3 (by decide)
          have q4 := hcc 4 (by decide)
          simp only [add_at] at q0 q1 q2 q3 q4
          exact ⟨⟨n0, n1, n2, n3, n4⟩, q0, q1, q2, q3, q4⟩
      obtain ⟨ts, hts, hall⟩ := pick_all n hone
      obtain ⟨t, ht⟩ := hone 0 hpos
      exact .inr ⟨hl, ab, off, ts, rfl, hts, World.block_lt_of_cell? W _ ht.1, hall⟩

theorem walk (bo : Option Addr) (bn bc : Nat) (o : Option Addr) (n cap : Nat) (w : World) (hbn : bn ≤ maxLen) (hb0 : bo = none → bn = 0 ∧ bc = 0) (hb : bn = 0 ∨ bn ≤ bc ∧ ∃ g off ts, bo = some ⟨g, off, none⟩ ∧ ts.length = bn ∧ Toks w g off ts)
    (hn : n ≤ maxLen) (h : n = 0 ∨ n ≤ cap ∧ ∃ g off ts, o = some ⟨g, off, none⟩ ∧ ts.length = n ∧ Toks w g off ts) :
    Calls Try.prog 4 #[.slice bo bn bc, .slice o n cap] w fun e w' => e = .returned (.bool true) ∧ Below w.heap.size w w' := by
  obtain ⟨body, hbl, hby⟩ : ∃ body : List TK, body.length = bn ∧ BodyAt w bo body := by
    rcases hb with rfl | ⟨_, g, off, ts, rfl, hl, ht⟩
    · exact ⟨[], rfl, .inl rfl⟩
    · exact ⟨ts, hl, .inr ⟨g, off, rfl, ht⟩⟩
  subst hbl
  rcases h with rfl | ⟨hc, g, off, ts, rfl, rfl, ht⟩
  · exact sk_nil bo _ bc o cap w
  · rcases Nat.eq_zero_or_pos ts.length with h0 | hpos
    · rw [h0]
      exact sk_nil bo _ bc _ cap w
    · exact sk_some bo bc body g off cap ts w hby ht hn hbn hpos hc

set_option maxRecDepth 100000 in
theorem lifted (os : Os) (started : os.Started) (H : Type) (enc : TypeId × Value → H) :
    ReturnsInHanded {} Try.checked os 4 .any (Rows.prepSkipsSpec.pre6 enc Try.prog Try.f4 Rows.prepSkipsRow.domain false) (Rows.prepSkipsSpec.post enc Try.prog Try.f4 false true false false) := by
  refine returnsInHanded_of_change (C := Try.checked) own started (by kernel_rfl) Try.func4
    (ChangeSpec.witness6 (enc := enc) (C := Try.checked) false ⟨#[], #[.slice none 0 0, .slice none 0 0], []⟩ 8 (by kernel_rfl) (by kernel_rfl) (by kernel_rfl) (by kernel_rfl)) ?_
  intro W base args ds gs before hval0 hW hcnd _
  have hval : ∀ (j : Nat) t v, Try.f4.params[j]? = some t → args[j]? = some v → Value.okWide Try.prog W .any base t v := hval0
  have hW' := hW
  obtain ⟨p, q, hA0, hV, rfl, hfz, hnd⟩ := hW
  have hA : DataW.TrodAll enc Try.prog W 0 (fun _ => true) true Try.f4.params.toList args.toList ds p := hA0
  rw [Try.params4] at hA hval
  obtain ⟨v0, vs0, d0, ds0, p0, q0, hargs, rfl, rfl, h0, r0⟩ := trodAll_cons hA
  obtain ⟨v1, vs1, d1, ds1, p1, q1, rfl, rfl, rfl, h1, r1⟩ := trodAll_cons r0
  obtain ⟨rfl, rfl, rfl⟩ := trodAll_nil r1
  obtain rfl : args = #[v0, v1] := by cases args; simp_all
  obtain ⟨rfl, rfl⟩ := trodVars_none hV
  have k0 := h0
  have lt0 : ∀ x ∈ p0, x.block < W.heap.size := by obtain ⟨m, hm⟩ := k0; exact DataW.trod_lt m _ _ _ hm
  have k1 := h1
  have lt1 : ∀ x ∈ p1, x.block < W.heap.size := by obtain ⟨m, hm⟩ := k1; exact DataW.trod_lt m _ _ _ hm
  obtain ⟨bo, bn, bc, rfl⟩ := okWide_slice Try.underlying22 (hval 0 22 v0 rfl rfl)
  obtain ⟨o, n, cap, rfl⟩ := okWide_slice Try.underlying22 (hval 1 22 v1 rfl rfl)
  obtain ⟨fuel0, hf0⟩ := h0
  have hg0 : DataW.trod enc Try.prog W 0 (fun _ => true) true fuel0 22 [.slice bo bn bc] = some (d0, p0) := hf0
  obtain ⟨hbn, hbo, hbin⟩ := open_toks hg0
  obtain ⟨fuel, hf⟩ := h1
  have hf2 : DataW.trod enc Try.prog W 0 (fun _ => true) true fuel 22 [.slice o n cap] = some (d1, p1) := hf
  obtain ⟨hn, _, hin⟩ := open_toks hf2
  clear hA0 hval0
  refine (walk bo bn bc o n cap W hbn hbo hbin hn hin).mono fun e W' ⟨he, bel⟩ => ?_
  subst he
  exact ⟨_, rfl, _, _, _, [], _, [], hW', trodAll_mk1 (shut_bool Try.underlying4 _), (trodAll_cons_mk (Below.trod laidOut (by kernel_rfl) (of_decide_eq_true (by kernel_rfl)) k0 bel lt0) (trodAll_cons_mk (Below.trod laidOut (by kernel_rfl) (of_decide_eq_true (by kernel_rfl)) k1 bel lt1) trodAll_mk0)), rfl, bel.frame _, fun h => by cases h⟩

theorem over : Rows.prepSkipsRow.holds Try.pinned (OpenSpec.ofChange Rows.prepSkipsSpec) :=
  OpenClaim.holds_of_wide 4 Try.f4 rfl rfl rfl rfl rfl rfl rfl ⟨rfl, rfl, rfl, rfl, rfl⟩ rfl rfl rfl rfl rfl (by kernel_rfl) Try.func4 (by kernel_rfl)
    (of_decide_eq_true (by kernel_rfl)) (by unfold Func.isWrapper; first | (rw [if_pos (by decide +kernel)]; kernel_rfl) | (rw [if_neg (by decide +kernel)]; exact ⟨rfl, rfl⟩))
    (fun os started H enc _ => lifted os started H enc)

theorem proved : Rows.PrepSkipsSaid := over
#print axioms proved
end Go.Proofs.Ytojneaffoekpnaa.prepSkips
namespace Go.Proofs.Ytojneaffoekpnaa
theorem prepSkips_holds : Rows.PrepSkipsSaid := prepSkips.proved
end Go.Proofs.Ytojneaffoekpnaa
