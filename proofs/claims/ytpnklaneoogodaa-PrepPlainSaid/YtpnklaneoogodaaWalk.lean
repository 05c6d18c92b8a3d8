/- The law, walked: true, whatever the tokens. -/
import Derived.Test.YtpnklaneoogodaaSame
namespace Go.Proofs.Ytpnklaneoogodaa
open Go.ChangeShapes Go.WideShapes Go.ChangeAt Go.RowKit

theorem walk_nil (o : Option Addr) (cap : Nat) (w : World) : Calls Try.prog 3 #[.slice o 0 cap] w fun e w' => e = .returned (.bool true) ∧ Below w.heap.size w w' := by
  go_enter Try.func3, Try.ntmps3
  go_wp2_with ((go_at_call 4; refine (right_nil _ _ _).mono ?_; rintro e w1 ⟨rfl, rfl⟩))
  go_ret
  exact ⟨rfl, Below.refl _ _⟩

theorem step_all {ts : List TK} {t : TK} {k : Nat} (h : ∀ j (h : j < ts.length), j < k → isMk ts[j] ⟨#[35]⟩ = false ∧ isNm ts[j] inlineB = false) {hk : k < ts.length} (ht : ts[k] = t) (h1 : isMk t ⟨#[35]⟩ = false) (h2 : isNm t inlineB = false) :
    ∀ j (h : j < ts.length), j < k + 1 → isMk ts[j] ⟨#[35]⟩ = false ∧ isNm ts[j] inlineB = false := by
  intro j hj hjk
  by_cases e : j = k
  · subst e
    rw [ht]
    exact ⟨h1, h2⟩
  · exact h j hj (by omega)
theorem cellsOf_get (ts : List TK) : ∀ (i : Nat) (h : i < ts.length) (c : Nat), c < 5 → (cellsOf ts)[i * 5 + c]? = (tkCells ts[i])[c]? := by
  induction ts with
  | nil => intro i h; cases h
  | cons x r ih =>
    intro i h c hc
    have hl : (tkCells x).length = 5 := rfl
    cases i with
    | zero =>
      simp only [cellsOf, List.flatMap_cons, Nat.zero_mul, Nat.zero_add, List.getElem_cons_zero]
      rw [List.getElem?_append_left (by omega)]
    | succ i =>
      simp only [cellsOf, List.flatMap_cons, List.getElem_cons_succ]
      rw [List.getElem?_append_right (by omega)]
      have := ih i (by simpa using h) c hc
      rw [show (i + 1) * 5 + c - (tkCells x).length = i * 5 + c by omega]
      exact this
theorem toks_of_row {w w' : World} {g cap : Nat} {ts : List TK} (h : Row w w' (.slice (some ⟨g, 0, none⟩) ts.length cap) ts) : Toks w' g 0 ts := by
  have hlt := (h.own.lt g rfl).2
  refine ⟨hlt, fun i hi => ?_⟩
  have hc : ∀ c, c < 5 → w'.cell? ⟨g, 0 + i * 5 + c, none⟩ = (tkCells ts[i])[c]? := by
    intro c hc
    rw [← cellsOf_get ts i hi c hc, Nat.zero_add]
    exact h.own.cellAt (i * 5 + c) (by omega)
  exact ⟨hc 0 (by decide), hc 1 (by decide), hc 2 (by decide), hc 3 (by decide), hc 4 (by decide)⟩

set_option maxRecDepth 100000 in
set_option maxHeartbeats 1600000 in
theorem walk_some (g off cap : Nat) (ts : List TK) (w : World) (ht : Toks w g off ts) (hm : ts.length ≤ maxLen) (hz : 0 < ts.length) (hcap : ts.length ≤ cap) :
    Calls Try.prog 3 #[.slice (some ⟨g, off, none⟩) ts.length cap] w fun e w' => e = .returned (.bool true) ∧ Below w.heap.size w w' := by
  have HT := Lib.hid ht
  have HM := Lib.hid hm
  have hm2 : (ts.length : Int) ≤ 9223372036854775807 := by unfold maxLen at hm; omega
  have HR := Lib.hid (right_any g off cap ts w hm hz ht)
  clear ht hm
  go_enter Try.func3, Try.ntmps3
  go_wp2_with fail
  refine HR.out.mono ?_
  rintro e w1 ⟨⟨b, rfl, hb⟩, rfl⟩
  cases b with
  | false =>
    go_wp2_with fail
    go_ret
    exact ⟨rfl, Below.refl _ _⟩
  | true =>
    have HG := Lib.hid (hb rfl)
    clear hb HR
    go_wp2_with fail
    go_loopw [4] (fun i wr => ∃ k : Nat, i = .int .i64 k ∧ k ≤ ts.length ∧ Hid (Below w1.heap.size w1 wr) ∧ Hid (∀ j (h : j < ts.length), j < k → isMk ts[j] ⟨#[35]⟩ = false ∧ isNm ts[j] inlineB = false)) (fun i _ => ts.length - (intOf i).toNat)
    case atStart => exact ⟨0, rfl, by omega, Lib.hid (Below.refl _ _), Lib.hid fun j h hj => by omega⟩
    case round =>
      obtain ⟨k, rfl, hk, HB, HA⟩ := hrel
      by_cases hlt : k < ts.length
      · obtain ⟨t, htk⟩ : ∃ t, ts[k] = t := ⟨_, rfl⟩
        obtain ⟨c0, c1, c2, c3, c4⟩ := (HT.out.below HB.out).2 k hlt
        rw [htk] at c0 c1 c2 c3 c4
        have HIS := Lib.hid fun w' => is_any t ⟨#[35]⟩ w'
        have hlti : (k : Int) < ts.length := by omega
        have hk0 : (0 : Int) ≤ k := by omega
        have hgw := HT.out.1
        have hsz := HB.out.size
        have HTK := Lib.hid htk
        clear htk
        go_wp2_with fail
        refine (HIS.out _).mono ?_
        rintro e w2 ⟨rfl, hb2⟩
        have d0 : w2.cell? ⟨g, off + k * 5, none⟩ = some (.int .i64 t.kind) := (hb2.cell (by show g < _; omega)).trans c0
        have d3 : w2.cell? ⟨g, off + k * 5 + 3, none⟩ = some (.string t.text) := (hb2.cell (by show g < _; omega)).trans c3
        have HB2 := Lib.hid (HB.out.trans (hb2.mono HB.out.size))
        clear hb2 c0 c1 c2 c3 c4
        cases hmk : isMk t ⟨#[35]⟩ with
        | true =>
          go_wp2_with fail
          go_ret
          exact ⟨rfl, HB2.out⟩
        | false =>
          have HMK := Lib.hid hmk
          cases hk1 : (t.kind == 1) with
          | false =>
            have HNM : Hid (isNm t inlineB = false) := Lib.hid (by have : ¬ t.kind = 1 := by rw [beq_eq_false_iff_ne] at hk1; exact hk1
                                                                   simp [isNm, this])
            go_wp2_with fail
            go_roundw
            case rel => exact ⟨k + 1, by go_num, by omega, HB2, Lib.hid (step_all HA.out HTK.out HMK.out HNM.out)⟩
            case measure => simp [intOf]; omega
          | true =>
            cases htx : (t.text.toList == [105, 110, 108, 105, 110, 101]) with
            | true =>
              go_wp2_with fail
              go_ret
              exact ⟨rfl, HB2.out⟩
            | false =>
              have HNM : Hid (isNm t inlineB = false) := Lib.hid (by
                have h1 : (t.text.toList == inlineB.toList) = false := by rw [show inlineB.toList = [105, 110, 108, 105, 110, 101] by simp [inlineB, ByteArray.toList_eq]]; exact htx
                rw [beq_text] at h1
                simp [isNm, h1])
              go_wp2_with fail
              go_roundw
              case rel => exact ⟨k + 1, by go_num, by omega, HB2, Lib.hid (step_all HA.out HTK.out HMK.out HNM.out)⟩
              case measure => simp [intOf]; omega
      · obtain rfl : k = ts.length := by omega
        by_cases hbig : (8192 : Int) < (ts.length : Int)
        · go_wp2_with fail
          go_ret
          exact ⟨rfl, HB.out⟩
        · have hn : ts.length ≤ 8192 := by omega
          have hT1 := HT.out.below HB.out
          have HMC := Lib.hid (macros_any g off cap ts wr hT1 HG.out hn hcap fun i h => (HA.out i h h).1)
          have HIN := Lib.hid fun w' (h : Below w1.heap.size w1 w') => inlines_any g off cap ts w' (HT.out.below h) HG.out hn hcap fun i h => (HA.out i h h).2
          clear hT1
          go_wp2_with fail
          refine HMC.out.mono ?_
          rintro e wa ⟨va, rfl, ha⟩
          obtain ⟨ga, ca, rfl, hga, hga2, hca⟩ := form_of ha.own hz
          have HBa := Lib.hid (HB.out.trans (ha.bel.mono HB.out.size))
          have HTa := Lib.hid (toks_of_row ha)
          clear ha HMC
          go_wp2_with fail
          refine (HIN.out wa HBa.out).mono ?_
          rintro e wb ⟨vb, rfl, hb⟩
          obtain ⟨gb, cb, rfl, hgb, hgb2, hcb⟩ := form_of hb.own hz
          have HBb := Lib.hid (HBa.out.trans (hb.bel.mono HBa.out.size))
          have HTb := Lib.hid (toks_of_row hb)
          have HTab := Lib.hid (HTa.out.below hb.bel)
          clear hb HIN
          go_wp2_with fail
          refine (same_any ga 0 ca g off cap ts wb HTab.out (HT.out.below HBb.out) HM.out).mono ?_
          rintro e wc ⟨rfl, hc⟩
          have HBc := Lib.hid (HBb.out.trans (hc.mono HBb.out.size))
          have HTc := Lib.hid (HTb.out.below hc)
          clear hc
          go_wp2_with fail
          refine (same_any gb 0 cb g off cap ts wc HTc.out (HT.out.below HBc.out) HM.out).mono ?_
          rintro e wd ⟨rfl, hd⟩
          have HBd := Lib.hid (HBc.out.trans (hd.mono HBc.out.size))
          clear hd
          go_wp2_with fail
          go_ret
          exact ⟨rfl, HBd.out⟩
end Go.Proofs.Ytpnklaneoogodaa
