/- Macros over tokens behind an if that is 0, its else and its end: what stands behind the else. -/
import Derived.Test.YtojneaffoekpnaaOpn
namespace Go.Proofs.Ytojneaffoekpnaa
open Go.ChangeShapes Go.WideShapes Go.ChangeAt Go.RowKit
set_option linter.unusedVariables false
set_option linter.unusedSimpArgs false

/-- What a token of the whole is. -/
structure Parts (ts : List TK) (hs q : Nat) (s0 d0 n0 s1 d1 s2 d2 t : TK) (sk rest : List TK) : Prop where
  len : ts.length = q + 3
  h0 : ts[0]? = some s0
  h1 : ts[1]? = some d0
  h2 : ts[2]? = some n0
  sk : ∀ k, 3 ≤ k → k < hs → ∃ x ∈ sk, ts[k]? = some x
  h3 : ts[hs]? = some s1
  h4 : ts[hs + 1]? = some d1
  rest : ∀ i (h : i < rest.length), ts[hs + 2 + i]? = some rest[i]
  h5 : ts[q]? = some s2
  h6 : ts[q + 1]? = some d2
  h7 : ts[q + 2]? = some t
theorem parts_of (s0 d0 n0 s1 d1 s2 d2 t : TK) (sk rest : List TK) (hs q : Nat) (h1 : hs = 3 + sk.length) (h2 : q = hs + 2 + rest.length) :
    Parts ((s0 :: d0 :: n0 :: sk) ++ (s1 :: d1 :: (rest ++ [s2, d2, t]))) hs q s0 d0 n0 s1 d1 s2 d2 t sk rest := by
  have hl : (s0 :: d0 :: n0 :: sk).length = hs := by simp; omega
  have hR : ∀ i, ((s0 :: d0 :: n0 :: sk) ++ (s1 :: d1 :: (rest ++ [s2, d2, t])))[hs + i]? = (s1 :: d1 :: (rest ++ [s2, d2, t]))[i]? := by
    intro i
    rw [List.getElem?_append_right (by omega), hl]
    congr 1
    omega
  have hE : ∀ i, (rest ++ [s2, d2, t])[rest.length + i]? = [s2, d2, t][i]? := by
    intro i
    rw [List.getElem?_append_right (by omega)]
    congr 1
    omega
  refine ⟨by simp; omega, rfl, rfl, rfl, fun k hk1 hk2 => ?_, hR 0, hR 1, fun i hi => ?_, ?_, ?_, ?_⟩
  · obtain ⟨j, rfl⟩ : ∃ j, k = j + 3 := ⟨k - 3, by omega⟩
    have hj : j < sk.length := by omega
    refine ⟨sk[j], List.getElem_mem hj, ?_⟩
    rw [List.getElem?_append_left (by simp; omega)]
    simp [hj]
  · rw [show hs + 2 + i = hs + (2 + i) by omega, hR, show 2 + i = i + 1 + 1 by omega, List.getElem?_cons_succ, List.getElem?_cons_succ, List.getElem?_append_left hi]
    simp [hi]
  · rw [show q = hs + (rest.length + 0 + 1 + 1) by omega, hR, List.getElem?_cons_succ, List.getElem?_cons_succ]
    exact hE 0
  · rw [show q + 1 = hs + (rest.length + 1 + 1 + 1) by omega, hR, List.getElem?_cons_succ, List.getElem?_cons_succ, hE]
    rfl
  · rw [show q + 2 = hs + (rest.length + 2 + 1 + 1) by omega, hR, List.getElem?_cons_succ, List.getElem?_cons_succ, hE]
    rfl
theorem of_get {ts : List TK} {i : Nat} {x : TK} (h : ts[i]? = some x) : ∃ hi : i < ts.length, ts[i] = x := List.getElem?_eq_some_iff.1 h
theorem tk_get {w : World} {g off : Nat} {ts : List TK} {i : Nat} {x : TK} (ht : Toks w g off ts) (h : ts[i]? = some x) : TkAt w g (off + i * 5) x := by
  obtain ⟨hi, h1⟩ := of_get h
  have := ht.2 i hi
  rwa [h1] at this

set_option maxRecDepth 100000 in
set_option maxHeartbeats 4000000 in
theorem skips_any (g off cap : Nat) (s0 d0 n0 s1 d1 s2 d2 t : TK) (sk rest : List TK) (hs q : Nat) (ts : List TK) (hP : Parts ts hs q s0 d0 n0 s1 d1 s2 d2 t sk rest) (hhs : hs = 3 + sk.length) (hqq : q = hs + 2 + rest.length) (w : World) (ht : Toks w g off ts) (hr : Right ts) (hcap : ts.length ≤ cap) (hmax : ts.length ≤ 8000)
    (hs0 : isMk s0 ⟨#[35]⟩ = true) (hd01 : d0.kind = 1) (hd02 : d0.text = ifB) (hn01 : n0.kind = 2) (hn02 : n0.num = 0)
    (hs1 : isMk s1 ⟨#[35]⟩ = true) (hd11 : d1.kind = 1) (hd12 : d1.text = elseB) (hs2 : isMk s2 ⟨#[35]⟩ = true) (hd21 : d2.kind = 1) (hd22 : d2.text = endifB)
    (hsk : ∀ k ∈ sk, isMk k ⟨#[35]⟩ = false) (hrn : ∀ k ∈ rest, isMk k ⟨#[35]⟩ = false)
    (hl0 : s0.line = 1 ∧ d0.line = 1 ∧ n0.line = 1) (hlk : ∀ k ∈ sk, k.line = 2) (hl1 : s1.line = 3 ∧ d1.line = 3) (hlr : ∀ k ∈ rest, k.line = 4) (hl2 : s2.line = 5 ∧ d2.line = 5) :
    Calls Try.prog 7 #[.slice (some ⟨g, off, none⟩) ts.length cap] w fun e w' => ∃ v, e = .returned (.tuple #[v, .int .i64 0, .int .i64 0]) ∧ Row w w' v (rest ++ [t]) := by
  have hmf : ∀ (fn : Fn) (first cap : Array Value) (w : World), (Instr.makeFunc fn first cap).run Try.prog w = .ok (.func fn first cap) w := fun _ _ _ _ => rfl
  have hlen := hP.len
  have hz : 0 < ts.length := by omega
  obtain ⟨m, hm⟩ : ∃ m, m = q + 2 := ⟨_, rfl⟩
  obtain ⟨h2, hh2⟩ : ∃ h2, h2 = hs + 2 := ⟨_, rfl⟩
  obtain ⟨hs1', hhs1⟩ : ∃ a, a = hs + 1 := ⟨_, rfl⟩
  obtain ⟨q1, hq1⟩ : ∃ a, a = q + 1 := ⟨_, rfl⟩
  have HT := Lib.hid ht
  have HE := Lib.hid fun w' (h : Below w.heap.size w w') => ends_any g off cap ts w' (by unfold maxLen; omega) (ht.below h) hr
  -- the tokens, one by one
  obtain ⟨i0, g0⟩ := of_get hP.h0
  obtain ⟨i1, g1⟩ := of_get hP.h1
  obtain ⟨i2, g2⟩ := of_get hP.h2
  obtain ⟨i3, g3⟩ := of_get hP.h3
  obtain ⟨i4, g4⟩ := of_get hP.h4
  obtain ⟨i5, g5⟩ := of_get hP.h5
  obtain ⟨i6, g6⟩ := of_get hP.h6
  have hgk : ∀ k (hk : k < ts.length), 3 ≤ k → k < hs → isMk ts[k] ⟨#[35]⟩ = false ∧ ts[k].line = 2 := by
    intro k hk a1 a2
    obtain ⟨x, hx, h⟩ := hP.sk k a1 a2
    obtain ⟨_, h⟩ := of_get h
    rw [h]
    exact ⟨hsk x hx, hlk x hx⟩
  have hgr : ∀ k (hk : k < ts.length), hs + 2 ≤ k → k < q → isMk ts[k] ⟨#[35]⟩ = false ∧ ts[k].line = 4 := by
    intro k hk a1 a2
    have h := hP.rest (k - (hs + 2)) (by omega)
    rw [show hs + 2 + (k - (hs + 2)) = k by omega] at h
    obtain ⟨_, h⟩ := of_get h
    rw [h]
    exact ⟨hrn _ (List.getElem_mem _), hlr _ (List.getElem_mem _)⟩
  have HAZ := Lib.hid fun (mp : Value) w' (hb : Below w.heap.size w w') => at_zero mp g off cap ts w' (ht.below hb) hz (by rw [g0]; exact hs0)
  have HLE0 := Lib.hid fun w' (hb : Below w.heap.size w w') => line_from g off cap ts 0 3 w' (ht.below hb) (by unfold maxLen; omega) (by omega) (by omega) (fun i hi a1 a2 => by
    have : i = 1 ∨ i = 2 := by omega
    rcases this with rfl | rfl
    · rw [g1, g0, hl0.1, hl0.2.1]
    · rw [g2, g0, hl0.1, hl0.2.2]) (by
    right
    rw [g0, hl0.1]
    by_cases h3 : 3 = hs
    · subst h3
      rw [g3, hl1.1]
      decide
    · rw [(hgk 3 (by omega) (by omega) (by omega)).2]
      decide)
  have HAL1 := Lib.hid fun (mp : Value) w' (hb : Below w.heap.size w w') => at_line mp g off cap ts (hs - 1) hs w' (ht.below hb) (by omega) (by omega) (by rw [g3]; exact hs1) (by
    rw [g3, hl1.1]
    by_cases h3 : hs = 3
    · subst h3
      rw [g2, hl0.2.2]
      decide
    · rw [(hgk (hs - 1) (by omega) (by omega) (by omega)).2]
      decide) (by omega)
  have HLE1 := Lib.hid fun w' (hb : Below w.heap.size w w') => line_from g off cap ts hs h2 w' (ht.below hb) (by unfold maxLen; omega) (by omega) (by omega) (fun i hi a1 a2 => by
    obtain rfl : i = hs + 1 := by omega
    rw [g4, g3, hl1.1, hl1.2]) (by
    right
    rw [g3, hl1.1]
    by_cases h3 : h2 = q
    · subst h3
      rw [g5, hl2.1]
      decide
    · rw [(hgr h2 (by omega) (by omega) (by omega)).2]
      decide)
  have HAL2 := Lib.hid fun (mp : Value) w' (hb : Below w.heap.size w w') => at_line mp g off cap ts (q - 1) q w' (ht.below hb) (by omega) (by omega) (by rw [g5]; exact hs2) (by
    rw [g5, hl2.1]
    by_cases h3 : h2 = q
    · rw [show ts[q - 1]'(by omega) = d1 by rw [← g4]; congr 1; omega, hl1.2]
      decide
    · rw [(hgr (q - 1) (by omega) (by omega) (by omega)).2]
      decide) (by omega)
  have HLE2 := Lib.hid fun w' (hb : Below w.heap.size w w') => line_from g off cap ts q m w' (ht.below hb) (by unfold maxLen; omega) (by omega) (by omega) (fun i hi a1 a2 => by
    obtain rfl : i = q + 1 := by omega
    rw [g6, g5, hl2.1, hl2.2]) (by left; omega)
  have HNK := Lib.hid fun (mp : Value) w' (hb : Below w.heap.size w w') k (hk : k < ts.length) (a1 : 3 ≤ k) (a2 : k < hs) => at_no mp g off cap ts k w' (ht.below hb) hk (hgk k hk a1 a2).1
  have HNR := Lib.hid fun (mp : Value) w' (hb : Below w.heap.size w w') k (hk : k < ts.length) (a1 : h2 ≤ k) (a2 : k < q) => at_no mp g off cap ts k w' (ht.below hb) hk (hgr k hk (by omega) a2).1
  have HTK : Hid (∀ W, Below w.heap.size w W → TkAt W g (off + m * 5) t) := Lib.hid fun W hb => by
    have := tk_get (ht.below hb) hP.h7
    rwa [← hm] at this
  have HP0 : Hid (∀ W, Below w.heap.size w W → W.cell? ⟨g, off + 1, none⟩ = some (.int .i64 s0.pos)) := Lib.hid fun W hb => by
    have := (tk_get (ht.below hb) hP.h0).2.1
    simpa using this
  have HP1 : Hid (∀ W, Below w.heap.size w W → W.cell? ⟨g, off + hs * 5 + 1, none⟩ = some (.int .i64 s1.pos)) := Lib.hid fun W hb => (tk_get (ht.below hb) hP.h3).2.1
  have HP2 : Hid (∀ W, Below w.heap.size w W → W.cell? ⟨g, off + q * 5 + 1, none⟩ = some (.int .i64 s2.pos)) := Lib.hid fun W hb => (tk_get (ht.below hb) hP.h5).2.1
  have HDI := Lib.hid fun (mq b r : Nat) (w' : World) (hb : Below w.heap.size w w') (hm : w'.heap[mq]? = some (.cells #[.pointer (some ⟨b, 0, none⟩), .slice none 0 0] 41 (0, 0))) (hu : Usr w' b r false 0 (.slice none 0 0) none) (p : Int) =>
    direct_if mq b r 0 (.slice none 0 0) p g (off + 5) (cap - 1) d0 n0 w' hm hu ⟨(ht.below hb).1, fun i hi => by
      have : i = 0 ∨ i = 1 := by simp at hi; omega
      rcases this with rfl | rfl
      · have := tk_get (ht.below hb) hP.h1
        simpa using this
      · have := tk_get (ht.below hb) hP.h2
        simpa using this⟩ (by omega) hd01 hd02 hn01 hn02
  have HDE := Lib.hid fun (mq b og oc : Nat) (w' : World) (hb : Below w.heap.size w w') (hC : Cond w' mq b og oc false false) (p : Int) =>
    direct_else mq b og oc p g (off + hs1' * 5) (cap - hs1') d1 w' hC (by have := tk_get (ht.below hb) hP.h4; rwa [← hhs1] at this) (by omega) hd11 hd12
  have HDF := Lib.hid fun (mq b og oc : Nat) (w' : World) (hb : Below w.heap.size w w') (hC : Cond w' mq b og oc true true) (p : Int) =>
    direct_endif mq b og oc true true p g (off + q1 * 5) (cap - q1) d2 w' hC (by have := tk_get (ht.below hb) hP.h6; rwa [← hq1] at this) (by omega) hd21 hd22
  have HRT : Hid (Toks w g (off + h2 * 5) rest) := Lib.hid ⟨ht.1, fun i hi => by
    have := tk_get ht (hP.rest i hi)
    rwa [show off + (hs + 2 + i) * 5 = off + h2 * 5 + i * 5 by omega] at this⟩
  have HLEN := Lib.hid hlen
  have HMX := Lib.hid hmax
  have HHS := Lib.hid hhs
  have HQQ := Lib.hid hqq
  have HMM := Lib.hid hm
  have HH2 := Lib.hid hh2
  have HS1 := Lib.hid hhs1
  have HQ1 := Lib.hid hq1
  have hgw : g < w.heap.size := ht.1
  have hsub : IntKind.i64.wrap ((ts.length : Int) - 1) = (m : Int) := by rw [IntWalk.i64_in _ (by omega)]; omega
  have hpos : (0 : Int) < (ts.length : Int) := by omega
  have hm8 : m ≤ 8192 := by omega
  have hcn : ts.length ≤ cap := hcap
  clear hP ht hr hs0 hd01 hd02 hn01 hn02 hs1 hd11 hd12 hs2 hd21 hd22 hsk hrn hl0 hlk hl1 hlr hl2 hgk hgr g0 g1 g2 g3 g4 g5 g6 i0 i1 i2 i3 i4 i5 i6 hlen hhs hqq hm hh2 hhs1 hq1 hmax
  go_enter_defers Try.func7, Try.ntmps7
  go_wp2_with (first
    | (go_at_call 10; refine (HE.out _ (((( Below.refl _ _).alloc (Nat.le_refl _) _).alloc (by simp) _).alloc (by simp; omega) _)).mono ?_; rintro e w1 ⟨rfl, hb1⟩; have HB1 := Lib.hid hb1; clear hb1)
    | (go_at_call 12; refine (new_any _ _).mono ?_; rintro e w2 ⟨rfl, hb2⟩; have HB2 := Lib.hid hb2; clear hb2))
  obtain ⟨hmad, hsz2⟩ := mad_of HB1.out HB2.out
  have HM := Lib.hid hmad
  clear hmad HE
  rw [hsz2] at *
  clear hsz2 HB1 HB2
  generalize w1.heap.size = r at HM ⊢
  generalize w2.alloc _ = W0 at HM ⊢
  go_loopw [7] (fun i wr => ∃ k : Nat, i = .int .i64 k ∧ ((k = 0 ∧ Hid (Mad w wr (r + 1) r none)) ∨ (3 ≤ k ∧ (k = 3 ∨ k = hs) ∧ ∃ og oc, Hid (Opn w wr (r + 1) r og oc false false)) ∨ (k = h2 ∧ h2 < q ∧ ∃ og oc, Hid (Opn w wr (r + 1) r og oc true true)) ∨ (k = q ∧ ∃ base o n c og oc, Hid (NeaO w wr (r + 1) base g (off + m * 5) (.slice o n c) rest t og oc)) ∨ (k = m ∧ ∃ base o n c og oc, Hid (NeaS w wr (r + 1) base g (off + m * 5) (.slice o n c) rest t og oc)))) (fun i _ => m - (intOf i).toNat)
  case atStart => exact ⟨0, rfl, .inl ⟨rfl, HM⟩⟩
  case round =>
    obtain ⟨k, rfl, ⟨rfl, HW⟩ | ⟨hk3, hkk, og, oc, HW⟩ | ⟨rfl, hkq, og, oc, HW⟩ | ⟨rfl, base, o, n, c, og, oc, HN⟩ | ⟨rfl, base, o, n, c, og, oc, HN⟩⟩ := hrel
    · have hm0i : (0 : Int) < (m : Int) := by have := HMM.out; omega
      have HAZ0 := Lib.hid (HAZ.out (.pointer (some ⟨r + 1 + 1, 0, none⟩)) wr HW.out.made.bel)
      go_wp2_with fail
      refine HAZ0.out.mono ?_
      rintro e w4 ⟨rfl, hb4⟩
      have HW4 := Lib.hid (HW.out.below hb4)
      clear hb4 HAZ0 HW
      have HLE := Lib.hid (HLE0.out w4 HW4.out.made.bel)
      go_wp2_with fail
      refine HLE.out.mono ?_
      rintro e w5 ⟨rfl, hb5⟩
      have HW5 := Lib.hid (HW4.out.below hb5)
      clear hb5 HLE HW4
      have HP5 := Lib.hid (HP0.out w5 HW5.out.made.bel)
      have HDD5 := Lib.hid (HDI.out (r + 1 + 1) (r + 1) r w5.drew HW5.out.made.bel.drew HW5.out.m ⟨HW5.out.made.usr.obj, HW5.out.made.usr.mp⟩ s0.pos)
      have hck : ¬ cap = 1 := by have := HLEN.out; omega
      have hck3 : (3 : Int) ≤ (cap : Int) := by have := HLEN.out; omega
      have hw1 : IntKind.i64.wrap 1 = 1 := by decide
      go_wp2_with fail
      go_region_held3 (fun w' => w'.cell? ⟨g, off + 1, none⟩ = some (.int .i64 s0.pos))
        (first | exact HP5.out | assumption)
        (first
          | (go_simp
             go_at_call 15
             refine HDD5.out.mono ?_
             rintro e w6 ⟨rfl, hg6, og, oc, hl6, hc6⟩
             have HW6 := Lib.hid (opn_if (W := w5.drew) (HW5.out.below (Below.refl _ _).drew) rfl hg6 hl6 hc6)
             have hs6 := HP0.out w6 HW6.out.made.bel
             clear hg6 hl6 hc6))
      rename_i hh
      clear hh hs6
      go_wp2_with fail
      go_roundw
      case rel => exact ⟨3, rfl, .inr (.inl ⟨Nat.le_refl _, .inl rfl, og, oc, HW6⟩)⟩
      case measure => simp [intOf]; have := HMM.out; have := HQQ.out; omega
    · have hkm : k < m := by have := HMM.out; have := HQQ.out; omega
      have hkmi : (k : Int) < (m : Int) := by omega
      by_cases hlt0 : k < hs
      · have HAT0 := Lib.hid (HNK.out (.pointer (some ⟨r + 1 + 1, 0, none⟩)) wr HW.out.made.bel k (by have := HLEN.out; have := HMM.out; omega) hk3 hlt0)
        clear hkk
        go_wp2_with fail
        refine HAT0.out.mono ?_
        rintro e w5 ⟨rfl, hb5⟩
        have HB5 := Lib.hid hb5
        clear hb5 HAT0
        go_wp2_with fail
        go_loopw [9] (fun i wi => ∃ j : Nat, i = .int .i64 j ∧ k + 1 ≤ j ∧ j ≤ hs ∧ Hid (Opn w wi (r + 1) r og oc false false)) (fun i _ => hs - (intOf i).toNat)
        case atStart => exact ⟨k + 1, by go_num, by omega, by omega, Lib.hid (HW.out.below HB5.out)⟩
        case round =>
          obtain ⟨j, rfl, hj1, hj2, HX⟩ := hrel
          have hlti : (j : Int) < (m : Int) := by have := HMM.out; have := HQQ.out; omega
          by_cases hlt : j < hs
          · have HATk := Lib.hid (HNK.out (.pointer (some ⟨r + 1 + 1, 0, none⟩)) _ HX.out.made.bel j (by have := HLEN.out; have := HMM.out; have := HQQ.out; omega) (by omega) hlt)
            go_wp2_with fail
            refine HATk.out.mono ?_
            rintro e w6 ⟨rfl, hb6⟩
            have HB6 := Lib.hid hb6
            clear hb6 HATk
            go_wp2_with fail
            go_roundw
            case rel => exact ⟨j + 1, by go_num, by omega, by omega, Lib.hid (HX.out.below HB6.out)⟩
            case measure => simp [intOf]; omega
          · obtain rfl : hs = j := by omega
            have HATk := Lib.hid (HAL1.out (.pointer (some ⟨r + 1 + 1, 0, none⟩)) _ HX.out.made.bel)
            go_wp2_with fail
            refine HATk.out.mono ?_
            rintro e w6 ⟨rfl, hb6⟩
            have HX6 := Lib.hid (HX.out.below hb6)
            clear hb6 HATk
            have HKP := Lib.hid (keeps_one (r + 1 + 1) og oc false w6 HX6.out.cond.cells.2.1 HX6.out.cond.cells.2.2.1)
            go_wp2_with fail
            refine HKP.out.mono ?_
            rintro e w7 ⟨rfl, n7, rfl⟩
            have HX7 := Lib.hid (HX6.out.below (bdrew (Below.refl _ _) n7))
            go_wp2_with fail
            go_roundw
            case rel => exact ⟨hs, rfl, .inr (.inl ⟨by omega, .inr rfl, og, oc, HX7⟩)⟩
            case measure => simp [intOf]; omega
      · obtain rfl : hs = k := by have := HHS.out; omega
        clear hkk hlt0
        have HAZ0 := Lib.hid (HAL1.out (.pointer (some ⟨r + 1 + 1, 0, none⟩)) wr HW.out.made.bel)
        go_wp2_with fail
        refine HAZ0.out.mono ?_
        rintro e w4 ⟨rfl, hb4⟩
        have HW4 := Lib.hid (HW.out.below hb4)
        clear hb4 HAZ0 HW
        have HLE := Lib.hid (HLE1.out w4 HW4.out.made.bel)
        go_wp2_with fail
        refine HLE.out.mono ?_
        rintro e w5 ⟨rfl, hb5⟩
        have HW5 := Lib.hid (HW4.out.below hb5)
        clear hb5 HLE HW4
        have HP5 := Lib.hid (HP1.out w5 HW5.out.made.bel)
        have HDD5 := Lib.hid (HDE.out (r + 1 + 1) (r + 1) og oc w5.drew HW5.out.made.bel.drew (HW5.out.below (Below.refl _ _).drew).cond s1.pos)
        have hck : ¬ cap = hs1' := by have := HLEN.out; have := HS1.out; have := HQQ.out; omega
        have hck3 : (h2 : Int) ≤ (cap : Int) := by have := HLEN.out; have := HH2.out; have := HQQ.out; omega
        have hck4 : (hs1' : Int) ≤ (h2 : Int) := by have := HS1.out; have := HH2.out; omega
        have hck5 : h2 - hs1' = 1 := by have := HS1.out; have := HH2.out; omega
        have hk0 : (0 : Int) ≤ (hs : Int) := by omega
        have hk01 : (0 : Int) ≤ (hs1' : Int) := by omega
        have hkl : (hs : Int) < (ts.length : Int) := by have := HLEN.out; have := HQQ.out; omega
        have hw1 : IntKind.i64.wrap ((hs : Int) + 1) = (hs1' : Int) := by have := HS1.out; rw [IntWalk.i64_in _ (by omega)]; omega
        go_wp2_with fail
        go_region_held3 (fun w' => w'.cell? ⟨g, off + hs * 5 + 1, none⟩ = some (.int .i64 s1.pos))
          (first | exact HP5.out | assumption)
          (first
            | (go_simp
               go_at_call 15
               refine HDD5.out.mono ?_
               rintro e w6 ⟨rfl, hg6, hc6⟩
               have HW6 := Lib.hid (Opn.turn (W := w5.drew) (HW5.out.below (Below.refl _ _).drew) rfl hg6 hc6)
               have hs6 := HP1.out w6 HW6.out.made.bel
               clear hg6 hc6))
        rename_i hh
        clear hh hs6
        go_wp2_with fail
        go_roundw
        case rel =>
          by_cases h2q : h2 < q
          · exact ⟨h2, rfl, .inr (.inr (.inl ⟨rfl, h2q, og, oc, HW6⟩))⟩
          · obtain rfl : h2 = q := by have := HQQ.out; have := HH2.out; omega
            have hrz : rest = [] := List.eq_nil_of_length_eq_zero (by have := HQQ.out; have := HH2.out; omega)
            refine ⟨h2, rfl, .inr (.inr (.inr (.inl ⟨rfl, w6.heap.size, none, 0, 0, og, oc, Lib.hid ?_⟩)))⟩
            rw [hrz]
            exact neao_zero HW6.out hgw (HTK.out _ HW6.out.made.bel)
        case measure => simp [intOf]; have := HH2.out; omega
    · have hqm := HMM.out
      have HAT0 := Lib.hid (HNR.out (.pointer (some ⟨r + 1 + 1, 0, none⟩)) wr HW.out.made.bel k (by have := HLEN.out; omega) (Nat.le_refl _) hkq)
      have hkmi : (k : Int) < (m : Int) := by omega
      clear hqm
      go_wp2_with fail
      refine HAT0.out.mono ?_
      rintro e w5 ⟨rfl, hb5⟩
      have HB5 := Lib.hid hb5
      clear hb5 HAT0
      go_wp2_with fail
      go_loopw [9] (fun i wi => ∃ j : Nat, i = .int .i64 j ∧ k + 1 ≤ j ∧ j ≤ q ∧ Hid (Opn w wi (r + 1) r og oc true true)) (fun i _ => q - (intOf i).toNat)
      case atStart => exact ⟨k + 1, by go_num, by omega, by omega, Lib.hid (HW.out.below HB5.out)⟩
      case round =>
        obtain ⟨j, rfl, hj1, hj2, HX⟩ := hrel
        have hlti : (j : Int) < (m : Int) := by have := HMM.out; omega
        by_cases hlt : j < q
        · have HATk := Lib.hid (HNR.out (.pointer (some ⟨r + 1 + 1, 0, none⟩)) _ HX.out.made.bel j (by have := HLEN.out; omega) (by omega) hlt)
          go_wp2_with fail
          refine HATk.out.mono ?_
          rintro e w6 ⟨rfl, hb6⟩
          have HB6 := Lib.hid hb6
          clear hb6 HATk
          go_wp2_with fail
          go_roundw
          case rel => exact ⟨j + 1, by go_num, by omega, by omega, Lib.hid (HX.out.below HB6.out)⟩
          case measure => simp [intOf]; omega
        · obtain rfl : q = j := by omega
          have HATk := Lib.hid (HAL2.out (.pointer (some ⟨r + 1 + 1, 0, none⟩)) _ HX.out.made.bel)
          go_wp2_with fail
          refine HATk.out.mono ?_
          rintro e w6 ⟨rfl, hb6⟩
          have HX6 := Lib.hid (HX.out.below hb6)
          clear hb6 HATk
          have HKP := Lib.hid (keeps_one (r + 1 + 1) og oc true w6 HX6.out.cond.cells.2.1 HX6.out.cond.cells.2.2.1)
          go_wp2_with fail
          refine HKP.out.mono ?_
          rintro e w7 ⟨rfl, n7, rfl⟩
          have HX7 := Lib.hid (HX6.out.below (bdrew (Below.refl _ _) n7).drew)
          have hrl : rest.length = q - k := by have := HQQ.out; have := HH2.out; omega
          have HRL := Lib.hid hrl
          have HTT := Lib.hid (tell_of (r + 1) r false 0 none g (off + k * 5) rest.length (cap - k) rest _ HX7.out.made.usr HX7.out.made.hrb (by have := HLEN.out; omega) (by
            have hu := HX7.out.made.usr
            exact whole_plain (r + 1) r false 0 (.slice none 0 0) none g (off + k * 5) (cap - k) rest _ ⟨hu.obj, hu.mp⟩ (fun i hi => by simp [isUse]) ((HRT.out.below HX7.out.made.bel).below (Below.refl _ _).drew) (by have := HLEN.out; omega) (by have := HLEN.out; omega)))
          rw [HRL.out] at HTT
          clear hrl
          have hkj : (k : Int) ≤ (q : Int) := by omega
          have hqc : (q : Int) ≤ (cap : Int) := by have := HLEN.out; omega
          have hk0 : (0 : Int) ≤ (k : Int) := by omega
          have hck2 : ¬ cap = k := by have := HLEN.out; omega
          have hl6 : (w6.drewN n7).drew.cell? ⟨r + 1 + 1, 0, none⟩ = some (.pointer (some ⟨r + 1, 0, none⟩)) := HX7.out.cond.cells.1
          have HL6 := Lib.hid hl6
          clear hl6
          go_wp2_with fail
          go_region_held3 (fun w' => w'.cell? ⟨r + 1 + 1, 0, none⟩ = some (.pointer (some ⟨r + 1, 0, none⟩)))
            (first | exact HL6.out | assumption)
            (first
              | (go_simp
                 go_at_call 17
                 refine HTT.out.mono ?_
                 rintro e W7 ⟨rfl, hT⟩
                 obtain ⟨v, hN⟩ := neao_of HX7.out hgw (HTK.out _ HX7.out.made.bel) hT
                 have hl7 : W7.cell? ⟨r + 1 + 1, 0, none⟩ = some (.pointer (some ⟨r + 1, 0, none⟩)) := hN.2.1.cells.1
                 have HN := Lib.hid hN
                 clear hT hN))
          obtain ⟨ov, cv, rfl⟩ := any_form HN.out.1.own
          clear HTT HKP hl7
          go_wp2_with fail
          go_roundw
          case rel => exact ⟨q, rfl, .inr (.inr (.inr (.inl ⟨rfl, _, _, _, _, og, oc, HN⟩)))⟩
          case measure => simp [intOf]; omega
    · have hkmi : (k : Int) < (m : Int) := by have := HMM.out; omega
      have HAZ0 := Lib.hid (HAL2.out (.pointer (some ⟨r + 1 + 1, 0, none⟩)) wr HN.out.1.bel)
      go_wp2_with fail
      refine HAZ0.out.mono ?_
      rintro e w4 ⟨rfl, hb4⟩
      have HN4 := Lib.hid (HN.out.below hb4)
      clear hb4 HAZ0 HN
      have HLE := Lib.hid (HLE2.out w4 HN4.out.1.bel)
      go_wp2_with fail
      refine HLE.out.mono ?_
      rintro e w5 ⟨rfl, hb5⟩
      have HN5 := Lib.hid (HN4.out.below hb5)
      clear hb5 HLE HN4
      have HP5 := Lib.hid (HP2.out w5 HN5.out.1.bel)
      have HDD5 := Lib.hid (HDF.out (r + 1 + 1) (r + 1) og oc w5.drew HN5.out.1.bel.drew (HN5.out.below (Below.refl _ _).drew).2.1 s2.pos)
      have hck : ¬ cap = q1 := by have := HLEN.out; have := HQ1.out; omega
      have hck3 : (m : Int) ≤ (cap : Int) := by have := HLEN.out; have := HMM.out; omega
      have hck4 : (q1 : Int) ≤ (m : Int) := by have := HQ1.out; have := HMM.out; omega
      have hck5 : m - q1 = 1 := by have := HQ1.out; have := HMM.out; omega
      have hk0 : (0 : Int) ≤ (k : Int) := by omega
      have hk01 : (0 : Int) ≤ (q1 : Int) := by omega
      have hkl : (k : Int) < (ts.length : Int) := by have := HLEN.out; omega
      have hw1 : IntKind.i64.wrap ((k : Int) + 1) = (q1 : Int) := by have := HQ1.out; rw [IntWalk.i64_in _ (by have := HMM.out; omega)]; omega
      go_wp2_with fail
      go_region_held3 (fun w' => w'.cell? ⟨g, off + k * 5 + 1, none⟩ = some (.int .i64 s2.pos))
        (first | exact HP5.out | assumption)
        (first
          | (go_simp
             go_at_call 15
             refine HDD5.out.mono ?_
             rintro e w6 ⟨rfl, hg6, hc6⟩
             have HN6 := Lib.hid (NeaO.shut (W := w5.drew) (HN5.out.below (Below.refl _ _).drew) hg6 hc6)
             have hs6 := HP2.out w6 HN6.out.1.bel
             clear hg6 hc6))
      rename_i hh
      clear hh hs6
      go_wp2_with fail
      go_roundw
      case rel => exact ⟨m, rfl, .inr (.inr (.inr (.inr ⟨rfl, base, o, n, c, og, oc, HN6⟩)))⟩
      case measure => simp [intOf]; have := HMM.out; omega
    · have hop : wr.cell? ⟨r + 1 + 1, 1, none⟩ = some (.slice (some ⟨og, 0, none⟩) 0 oc) := (cell_of_row _ _ _ _ _ _ HN.out.2.1).trans rfl
      have hl8 : wr.cell? ⟨r + 1 + 1, 0, none⟩ = some (.pointer (some ⟨r + 1, 0, none⟩)) := (cell_of_row _ _ _ _ _ _ HN.out.2.1).trans rfl
      have HL8 := Lib.hid hl8
      have HLR := Lib.hid (show r + 1 + 1 < wr.heap.size from lt_of_block HN.out.2.1)
      clear hl8
      obtain ⟨L, hL⟩ : ∃ L, rest.length = L := ⟨_, rfl⟩
      have hLb : L ≤ 8000 := by have := HMX.out; have := HLEN.out; have := HMM.out; have := HQQ.out; omega
      have HLK := Lib.hid hL
      clear hL
      obtain ⟨i26, hi26, ha26, hb26, hc26⟩ := info_parts info25
      have HI26 := Lib.hid (And.intro hi26 (And.intro ha26 (And.intro hb26 hc26)))
      clear hi26 ha26 hb26 hc26
      have HNA := Lib.hid (HN.out.1.alloc (.cells #[.int .i64 t.kind, .int .i64 t.pos, .int .i64 t.line, .string t.text, .int .i64 t.num] 25)).drew
      have hS0 := Lib.hid (And.intro HL8.out HN.out.1.loads)
      have hL9 : (wr.alloc (.cells #[.int .i64 t.kind, .int .i64 t.pos, .int .i64 t.line, .string t.text, .int .i64 t.num] 25)).drew.cell? ⟨r + 1 + 1, 0, none⟩ = some (.pointer (some ⟨r + 1, 0, none⟩)) := (Below.cell (p := ⟨r + 1 + 1, 0, none⟩) ((Below.refl _ _).alloc (Nat.le_refl _) _) HLR.out).trans HL8.out
      have hS1 := Lib.hid (And.intro hL9 HNA.out.loads)
      have hnc : ∀ (j : Nat) (u : Value), (tkCells t)[j]? = some u → (wr.alloc (.cells #[.int .i64 t.kind, .int .i64 t.pos, .int .i64 t.line, .string t.text, .int .i64 t.num] 25)).drew.cell? ((⟨wr.heap.size, 0, none⟩ : Addr).add j) = some u := fun j u hu => new_cells wr t j u hu
      have HNC := Lib.hid hnc
      have hbs := HNA.out.hbase
      have HBS := Lib.hid hbs
      have hkk : (k : Int) < (ts.length : Int) := by have := HLEN.out; have := HMM.out; omega
      have hk0 : (0 : Int) ≤ (k : Int) := by omega
      clear hnc hbs hL9
      go_wp2_with fail
      go_region_held3 (fun w' => w'.cell? ⟨r + 1 + 1, 0, none⟩ = some (.pointer (some ⟨r + 1, 0, none⟩)) ∧ w'.cell? ⟨r + 1, 3, none⟩ = some (.slice o n c) ∧ w'.cell? ⟨g, off + k * 5, none⟩ = some (.int .i64 t.kind) ∧ w'.cell? ⟨g, off + k * 5 + 1, none⟩ = some (.int .i64 t.pos) ∧ w'.cell? ⟨g, off + k * 5 + 2, none⟩ = some (.int .i64 t.line) ∧ w'.cell? ⟨g, off + k * 5 + 3, none⟩ = some (.string t.text) ∧ w'.cell? ⟨g, off + k * 5 + 4, none⟩ = some (.int .i64 t.num))
        (first | exact hS0.out | exact hS1.out | assumption | exact ⟨by assumption, by assumption⟩)
        (first
          | (refine step_append_lies _ rfl (.tmp 87) (.tmp 92) 22 rfl base 25 i26 zeroTok 5 48 Try.underlying22 HI26.out.1 HI26.out.2.1 HI26.out.2.2.1 HI26.out.2.2.2 rfl (by decide) (.slice o n c) L (cellsOf rest) (by simp [Act.eval, Act.put]) (by have h := HNA.out.own; rw [HLK.out] at h; exact h) ⟨wr.heap.size, 0, none⟩ 1 1 (tkCells t) (by simp [Act.eval, Act.put]) rfl HNC.out (cells_tk t) (by decide) (by unfold maxLen; omega) (by omega) HBS.out _ rfl ?_
             intro g2 cap2 w2 hown2 hgr2 _ hg2
             have HO2 := Lib.hid hown2
             have HG2 := Lib.hid hgr2
             clear hown2 hgr2
             have hpush := HNA.out.push (g2 := g2) (cap2 := cap2) HG2.out (by rw [HLK.out]; exact HO2.out)
             rw [HLK.out] at hpush
             obtain ⟨⟨p0, p1, p2⟩, ⟨f0, f1, f2⟩, l0, l1, l2, l3⟩ := hpush
             obtain ⟨m0, m1, m2, m3⟩ := s_kept (x0 := .slice (some ⟨g2, 0, none⟩) (L + 1) cap2) (x1 := .int .i64 0) (x2 := .int .i64 0) HN.out _ HG2.out
             have M0 := And.intro m0 l0
             have M1 := And.intro m1 l1
             have M2 := And.intro m2 l2
             have M3 := And.intro m3 l3
             clear m0 m1 m2 m3 l0 l1 l2 l3
             unfold Loads at M0 M1 M2 M3
             simp only [Act.put, List.setIfInBounds_toArray, List.set_cons_zero, List.set_cons_succ]))
      rename_i hh
      clear hh M0 M1 M2 M3 p0 p1 p2 f0 f1 f2 hS0 hS1 hmf
      obtain ⟨W3, hW3⟩ : ∃ W3, ((w2.setCell ⟨w.heap.size, 0, none⟩ (.slice (some ⟨g2, 0, none⟩) (L + 1) cap2)).setCell ⟨w.heap.size + 1, 0, none⟩ (.int .i64 0)).setCell ⟨w.heap.size + 1 + 1, 0, none⟩ (.int .i64 0) = W3 := ⟨_, rfl⟩
      rw [hW3]
      have HW3 := Lib.hid hW3
      clear hW3
      go_wp2_with fail
      refine leaves_cons (f := 11) (args := #[.pointer (some ⟨w.heap.size, 0, none⟩), .pointer (some ⟨w.heap.size + 1, 0, none⟩), .pointer (some ⟨w.heap.size + 1 + 1, 0, none⟩)]) (by simp) (by simp [go_sem]) ?_
      refine (idle10 _ _ _ W3).mono ?_
      rintro e u' W4 ⟨rfl, rfl, hb4⟩
      have hend := HNA.out.ends (g2 := g2) (cap2 := cap2) HG2.out (by rw [HLK.out]; exact HO2.out) W3 W4 (by rw [HLK.out]; exact HW3.out.symm) hb4
      rw [HLK.out] at hend
      obtain ⟨q0, q1, q2, hrow⟩ := hend
      have HROW := Lib.hid hrow
      clear hrow hb4
      simp [Leaves, settle, results, Try.results7, go_sem, q0, q1, q2]
      exact HROW.out
end Go.Proofs.Ytojneaffoekpnaa
