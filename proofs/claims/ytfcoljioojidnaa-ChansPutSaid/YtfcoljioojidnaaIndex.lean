/- The first message that a message stands ahead of. -/
import Derived.Test.YtfcoljioojidnaaClone
namespace Go.Proofs.Ytfcoljioojidnaa
open Go.ChangeShapes Go.WideShapes Go.ChangeAt Go.RowKit
set_option linter.unusedVariables false
set_option linter.unusedSimpArgs false

set_option maxHeartbeats 1000000 in
set_option maxRecDepth 100000 in
theorem ahead22 (p : Nat) (s t : SL) (a b : List Int) (w : World) (hp : w.cell? ⟨p, 0, none⟩ = some (slV s)) (h1 : MsgAt w s a) (h2 : MsgAt w t b) (hl : a.length ≤ 9223372036854775806) (hl2 : b.length ≤ 9223372036854775806) :
    Calls Try.prog 22 #[slV t, .pointer (some ⟨p, 0, none⟩)] w fun e w' => e = .returned (.bool (lessB a b)) ∧ ∃ n, w' = w.drewN n := by
  have HL := Lib.hid (less12 s t a b w h1 h2 hl hl2)
  clear h1 h2
  unfold slV at hp ⊢
  go_enter Try.func22, Try.ntmps22
  go_wp2_with fail
  refine HL.out.mono ?_
  rintro e w' ⟨rfl, q', rfl⟩
  go_wp2_with fail
  go_ret
  exact ⟨rfl, q', rfl⟩

/-- The first place, or -1. -/
def firstI (x : List Int) (Q : List (List Int)) : Int := match Q.findIdx? (lessB x) with | some j => j | none => -1
theorem firstI_hit {x : List Int} {Q : List (List Int)} {i : Nat} (hi : i < Q.length) (h : lessB x Q[i] = true) (hb : ∀ j (h : j < Q.length), j < i → lessB x Q[j] = false) : firstI x Q = i := by
  unfold firstI
  have : Q.findIdx? (lessB x) = some i := by
    rw [List.findIdx?_eq_some_iff_getElem]
    exact ⟨hi, h, fun j hj => by simpa using hb j (by omega) hj⟩
  rw [this]
theorem firstI_miss {x : List Int} {Q : List (List Int)} (hb : ∀ j (h : j < Q.length), lessB x Q[j] = false) : firstI x Q = -1 := by
  unfold firstI
  have : Q.findIdx? (lessB x) = none := by
    rw [List.findIdx?_eq_none_iff]
    intro y hy
    obtain ⟨j, hj, rfl⟩ := List.mem_iff_getElem.1 hy
    exact hb j hj
  rw [this]

set_option maxHeartbeats 2000000 in
set_option maxRecDepth 100000 in
theorem index21 (p : Nat) (s : SL) (x : List Int) (o : Option Addr) (c : Nat) (L : List SL) (Q : List (List Int)) (w : World) (hp : w.cell? ⟨p, 0, none⟩ = some (slV s)) (h1 : MsgAt w s x) (hr : QRow w o L) (hm : Msgs w L Q) (hn : L.length ≤ 9223372036854775806) (hl : x.length ≤ 9223372036854775806) (hl2 : ∀ q ∈ Q, q.length ≤ 9223372036854775806) :
    Calls Try.prog 21 #[.slice o L.length c, .func (.func 22) #[] #[.pointer (some ⟨p, 0, none⟩)]] w fun e w' => e = .returned (.int .i64 (firstI x Q)) ∧ ∃ n, w' = w.drewN n := by
  have HR := Lib.hid hr
  have HM := Lib.hid hm
  have HL2 := Lib.hid hl2
  have H22 := Lib.hid (fun (m : Nat) (t : SL) (b : List Int) (h2 : MsgAt (w.drewN m) t b) (hb : b.length ≤ 9223372036854775806) => ahead22 p s t x b (w.drewN m) hp (h1.below (bdrew (Below.refl _ _) m)) h2 hl hb)
  clear hp h1 hr hm hl2
  go_enter Try.func21, Try.ntmps21
  go_wp2_with fail
  go_loopw [5, 8] (fun _ iv wr => ∃ (i m : Nat), iv = .int .i64 i ∧ i ≤ L.length ∧ wr = w.drewN m ∧ Hid (∀ j (h : j < Q.length), j < i → lessB x Q[j] = false)) (fun _ i _ => L.length - (intOf i).toNat)
  case atStart => exact ⟨0, 0, rfl, by omega, rfl, Lib.hid fun j _ h => by omega⟩
  case round =>
    obtain ⟨i, m, rfl, hi, rfl, HB⟩ := hrel
    have hi0 : (0 : Int) ≤ i := by omega
    by_cases hlt : i < L.length
    · have hlti : (i : Int) < L.length := by omega
      obtain ⟨g, off, rfl, hg, hc⟩ : ∃ g off, o = some ⟨g, off, none⟩ ∧ g < w.heap.size ∧ ∀ i (h : i < L.length), w.cell? ⟨g, off + i, none⟩ = some (slV L[i]) := by
        rcases HR.out with h | h
        · omega
        · exact h
      obtain ⟨⟨mo, mn, mc⟩, hml⟩ : ∃ s, L[i] = s := ⟨_, rfl⟩
      have hq : i < Q.length := by have := HM.out.1; omega
      have HQ := Lib.hid hq
      have l2 : w.cell? ⟨g, off + i, none⟩ = some (.slice mo mn mc) := (hc i hlt).trans (by rw [hml]; rfl)
      have hmsg : MsgAt (w.drewN m) ⟨mo, mn, mc⟩ Q[i] := hml ▸ (HM.out.2 i hlt hq).below (bdrew (Below.refl _ _) m)
      obtain ⟨r, hr⟩ : ∃ r, r = lessB x (Q[i]'HQ.out) := ⟨_, rfl⟩
      have HRR := Lib.hid hr
      have HC : Hid (Calls Try.prog 22 #[.slice mo mn mc, .pointer (some ⟨p, 0, none⟩)] (w.drewN m) fun e w' => e = .returned (.bool r) ∧ ∃ n, w' = (w.drewN m).drewN n) := Lib.hid (by
        subst hr
        exact H22.out m ⟨mo, mn, mc⟩ _ hmsg (HL2.out _ (List.getElem_mem hq)))
      clear hmsg hc hml hq hr
      cases r
      · go_wp2_with fail
        refine HC.out.mono ?_
        rintro e w' ⟨rfl, q', rfl⟩
        go_wp2_with fail
        go_roundw
        case rel => exact ⟨i + 1, m + q', by go_num, by omega, by rw [drewN_add], Lib.hid fun j hj hji => by
          by_cases e : j = i
          · subst e
            exact HRR.out.symm
          · exact HB.out j hj (by omega)⟩
        case measure => simp [intOf]; omega
      · go_wp2_with fail
        refine HC.out.mono ?_
        rintro e w' ⟨rfl, q', rfl⟩
        go_wp2_with fail
        go_ret
        refine ⟨?_, m + q', by rw [drewN_add]⟩
        rw [firstI_hit HQ.out HRR.out.symm HB.out]
        rfl
    · have hlti : ¬ (i : Int) < L.length := by omega
      go_wp2_with fail
      go_ret
      refine ⟨?_, m, rfl⟩
      rw [firstI_miss (fun j hj => HB.out j hj (by have := HM.out.1; omega))]
      rfl
end Go.Proofs.Ytfcoljioojidnaa
