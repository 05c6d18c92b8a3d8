/- The document's reading of one number: the decimal, in plain words and as the call walks it. -/
import Derived.Test.YtifofhjfepkglaaDoorNumP
namespace Go.Proofs.YtifofhjfepkglaaDoor
open Go.ChangeShapes Go.WideShapes Go.ChangeAt Go.RowKit
set_option linter.unusedVariables false
set_option linter.unusedSimpArgs false

def isDig (c : UInt8) : Bool := decide (48 ≤ c.toNat) && decide (c.toNat ≤ 57)
def valD (l : List UInt8) : Int := l.foldl (fun a c => a * 10 + ((c.toNat : Int) - 48)) 0
theorem valD_snoc (l : List UInt8) (c : UInt8) : valD (l ++ [c]) = valD l * 10 + ((c.toNat : Int) - 48) := by simp [valD]
theorem valD_dec (u : Nat) : valD (Lib.decDigits u) = u := by
  induction u using Nat.strongRecOn with
  | _ u ih =>
    by_cases h : u < 10
    · rw [dec_last h]
      have := byte_digit (d := u % 10) (by omega)
      simp only [valD, List.foldl_cons, List.foldl_nil, this]
      omega
    · rw [dec_step h, valD_snoc, ih (u / 10) (by omega), byte_digit (d := u % 10) (by omega)]
      omega
def sgn (b : Bool) : Int := if b = true then -1 else 1
theorem wrap_step (a d : Int) : wrap64 (wrap64 (wrap64 a * 10) + d) = wrap64 (a * 10 + d) := by
  unfold wrap64
  omega
theorem wrap_in (a : Int) : inI (wrap64 a) := by
  unfold wrap64 inI
  omega
theorem wrap_of {a : Int} (h : inI a) : wrap64 a = a := by
  unfold inI at h
  unfold wrap64
  omega
theorem dig_dec (u : Nat) : ∀ c ∈ Lib.decDigits u, isDig c = true := fun c hc => by
  have := dec_all u c hc
  simp [isDig, this]
/-- A text that opens with a minus, or doesn't: what stands behind it. -/
structure Split1 (t : List UInt8) (neg : Bool) (D : List UInt8) : Prop where
  eq : t = (if neg = true then 45 :: D else D)
  free : neg = false → ∀ r, t ≠ 45 :: r
theorem itoa_split {t : List UInt8} {neg : Bool} {D : List UInt8} (h : Split1 t neg D) {n : Int} (e : Lib.itoa n = t) : (neg = true ↔ n < 0) ∧ D = Lib.decDigits n.natAbs := by
  unfold Lib.itoa at e
  by_cases hn : n < 0
  · rw [if_pos hn] at e
    cases neg with
    | true =>
      have h1 := h.eq
      rw [if_pos rfl, ← e] at h1
      injection h1 with _ h2
      exact ⟨by simp [hn], h2.symm⟩
    | false => exact absurd e.symm (h.free rfl _)
  · rw [if_neg hn] at e
    have e2 : n.toNat = n.natAbs := by omega
    rw [e2] at e
    cases neg with
    | true =>
      have h1 := h.eq
      rw [if_pos rfl, ← e] at h1
      have := dec_all n.natAbs 45 (by rw [h1]; simp)
      exact absurd this.1 (by decide)
    | false =>
      have h1 := h.eq
      rw [if_neg (by simp), ← e] at h1
      exact ⟨by simp [hn], h1.symm⟩
theorem num_bad {t : List UInt8} {neg : Bool} {D : List UInt8} (h : Split1 t neg D) {c : UInt8} (hc : c ∈ D) (hd : isDig c = false) : num t = none := by
  cases hn : num t with
  | none => rfl
  | some n =>
    obtain ⟨_, h2⟩ := num_some.1 hn
    obtain ⟨_, h4⟩ := itoa_split h h2
    rw [h4] at hc
    rw [dig_dec _ c hc] at hd
    cases hd
theorem dec_len (k : Nat) : ∀ u, u < 10 ^ (k + 1) → (Lib.decDigits u).length ≤ k + 1 := by
  induction k with
  | zero =>
    intro u h
    rw [dec_last (by simpa using h)]
    simp
  | succ k ih =>
    intro u h
    by_cases h10 : u < 10
    · rw [dec_last h10]
      simp
    · rw [dec_step h10, List.length_append]
      have := ih (u / 10) (by rw [Nat.pow_succ] at h; omega)
      simp
      omega
theorem itoa_len {n : Int} (h : inI n) : (Lib.itoa n).length ≤ 20 := by
  have h1 := dec_len 18 n.natAbs (by unfold inI at h; omega)
  unfold Lib.itoa
  split
  · simp
    omega
  · rw [show n.toNat = n.natAbs by omega]
    omega
theorem num_long {t : List UInt8} (h : t.length < 1 ∨ 20 < t.length) : num t = none := by
  cases hn : num t with
  | none => rfl
  | some n =>
    obtain ⟨h1, h2⟩ := num_some.1 hn
    have h3 := itoa_len h1
    rw [h2] at h3
    rcases h with h | h
    · have : Lib.itoa n = [] := by rw [h2]; exact List.length_eq_zero_iff.1 (by omega)
      unfold Lib.itoa at this
      split at this
      · cases this
      · exact absurd this (dec_ne _)
    · omega
theorem num_is {t : List UInt8} {neg : Bool} {D : List UInt8} (h : Split1 t neg D) {n : Int} (hn : n = wrap64 (sgn neg * valD D)) : num t = if Lib.itoa n = t then some n else none := by
  have hin : inI n := by rw [hn]; exact wrap_in _
  by_cases he : Lib.itoa n = t
  · rw [if_pos he]
    exact num_some.2 ⟨hin, he⟩
  · rw [if_neg he]
    cases hm : num t with
    | none => rfl
    | some m =>
      obtain ⟨h1, h2⟩ := num_some.1 hm
      obtain ⟨h3, h4⟩ := itoa_split h h2
      exfalso
      apply he
      have : n = m := by
        rw [hn, h4, valD_dec]
        rw [show sgn neg * (m.natAbs : Int) = m by
          cases neg with
          | true => have := h3.1 rfl; simp [sgn]; omega
          | false => have : ¬ m < 0 := fun hlt => by have := h3.2 hlt; cases this
                     simp [sgn]; omega]
        exact wrap_of h1
      rw [this]
      exact h2
theorem sg_step (neg : Bool) (v d : Int) : sgn neg * v * 10 + sgn neg * d = sgn neg * (v * 10 + d) := by
  cases neg
  · simp [sgn]
  · simp [sgn]
    omega
theorem bt_at (t : List UInt8) (k : Nat) (h : k < t.length) : (⟨t.toArray⟩ : ByteArray)[k]'(by simpa [ByteArray.size] using h) = t[k] := rfl
def NumP (R : Option Int) (n : Int) (ok : Bool) : Prop :=
  match R with
  | some v => ok = true ∧ n = v
  | none => ok = false

theorem b_ne {b : UInt8} (h : b ≠ 45) : ((b.toNat : Int) == 45) = false := by
  refine beq_eq_false_iff_ne.2 fun e => h (UInt8.toNat_inj.1 ?_)
  have h2 : b.toNat = 45 := by omega
  rw [h2]
  rfl
def RNumP (w : World) (R : Option Int) (e : Ending) (w' : World) : Prop := ∃ n ok, e = .returned (.tuple #[.int .i64 n, .bool ok]) ∧ NumP R n ok ∧ Below w.heap.size w w'

set_option maxHeartbeats 4000000 in
set_option maxRecDepth 100000 in
theorem rnum_any (t : List UInt8) (w : World) (ht : t.length ≤ 400000000) : Calls Tryd.prog 26 #[.string ⟨t.toArray⟩] w (RNumP w (num t)) := by
  obtain ⟨R, hR⟩ : ∃ R, num t = R := ⟨_, rfl⟩
  rw [hR]
  have HR := Lib.hid hR
  clear hR
  by_cases h1 : t.length < 1
  · rw [num_long (.inl h1)] at HR
    have h1i : (t.length : Int) < 1 := by omega
    go_enter Tryd.func26, Tryd.ntmps26
    go_wp2_with fail
    go_ret2
    exact ⟨_, _, rfl, by rw [← HR.out]; rfl, Below.refl _ _⟩
  by_cases h2 : 20 < t.length
  · rw [num_long (.inr h2)] at HR
    have h1i : ¬ (t.length : Int) < 1 := by omega
    have h2i : 20 < (t.length : Int) := by omega
    go_enter Tryd.func26, Tryd.ntmps26
    go_wp2_with fail
    go_ret2
    exact ⟨_, _, rfl, by rw [← HR.out]; rfl, Below.refl _ _⟩
  have h1i : ¬ (t.length : Int) < 1 := by omega
  have h2i : ¬ 20 < (t.length : Int) := by omega
  have h0 : 0 < t.length := by omega
  have b0 := bt_at t 0 h0
  obtain ⟨b, hb⟩ : ∃ b, t[0] = b := ⟨_, rfl⟩
  rw [hb] at b0
  have htb : t = b :: t.drop 1 := by
    rw [← hb]
    cases t with
    | nil => simp at h0
    | cons x r => rfl
  obtain ⟨neg, k0, hcase, HS⟩ : ∃ (neg : Bool) (k0 : Nat), ((b = 45 ∧ neg = true ∧ k0 = 1) ∨ (b ≠ 45 ∧ neg = false ∧ k0 = 0)) ∧ Hid (Split1 t neg (t.drop k0)) := by
    by_cases h45 : b = 45
    · refine ⟨true, 1, .inl ⟨h45, rfl, rfl⟩, Lib.hid ⟨?_, fun h => (by cases h)⟩⟩
      rw [if_pos rfl, ← h45]
      exact htb
    · refine ⟨false, 0, .inr ⟨h45, rfl, rfl⟩, Lib.hid ⟨rfl, fun _ r e => h45 ?_⟩⟩
      rw [htb] at e
      injection e
  clear hb htb
  go_enter Tryd.func26, Tryd.ntmps26
  rcases hcase with ⟨h45, rfl, rfl⟩ | ⟨h45, rfl, rfl⟩
  · have hb45 : ((b.toNat : Int) == 45) = true := by rw [h45]; rfl
    clear h45
    go_wp2_with fail
    go_loopw [4, 6] (fun nv i wr => ∃ (k : Nat) (V : Int), i = .int .i64 (1 + k : Nat) ∧ nv = .int .i64 V ∧ 1 + k ≤ t.length ∧ Hid (V = wrap64 (sgn true * valD ((t.drop 1).take k))) ∧ Hid (Below w.heap.size w wr)) (fun _ i _ => t.length - (intOf i).toNat)
    case atStart => exact ⟨0, 0, rfl, rfl, by omega, Lib.hid (by simp [valD, sgn, wrap64]), Lib.hid (Below.refl _ _)⟩
    case round =>
      obtain ⟨k, V, rfl, rfl, hk, HV, HW⟩ := hrel
      by_cases hlt : 1 + k < t.length
      · obtain ⟨c, hc⟩ : ∃ c, t[1 + k] = c := ⟨_, rfl⟩
        have hcu := bt_at t (1 + k) hlt
        rw [hc] at hcu
        have hlti : ((1 + k : Nat) : Int) < t.length := by omega
        have hki : (0 : Int) ≤ (1 + k : Nat) := by omega
        obtain ⟨N, hN⟩ : ∃ N, c.toNat = N := ⟨_, rfl⟩
        have hcN : (⟨t.toArray⟩ : ByteArray)[1 + k].toNat = N := by rw [hcu, hN]
        have HN := Lib.hid hN
        have hkd : k < (t.drop 1).length := by simp; omega
        have HC : Hid ((t.drop 1)[k] = c) := Lib.hid (by rw [← hc, List.getElem_drop])
        clear hc hcu hN
        by_cases hlo : N < 48
        · have hbad := num_bad HS.out (c := c) (by rw [← HC.out]; exact List.getElem_mem _) (by simp [isDig, HN.out]; omega)
          rw [HR.out] at hbad
          have HBAD := Lib.hid hbad
          have hloi : (N : Int) < 48 := by omega
          clear hbad
          go_wp2_with fail
          go_ret2
          exact ⟨_, _, rfl, by rw [HBAD.out]; rfl, HW.out⟩
        by_cases hhi : 57 < N
        · have hbad := num_bad HS.out (c := c) (by rw [← HC.out]; exact List.getElem_mem _) (by simp [isDig, HN.out]; omega)
          rw [HR.out] at hbad
          have HBAD := Lib.hid hbad
          have hloi : ¬ (N : Int) < 48 := by omega
          have hhii : 57 < (N : Int) := by omega
          clear hbad
          go_wp2_with fail
          go_ret2
          exact ⟨_, _, rfl, by rw [HBAD.out]; rfl, HW.out⟩
        · have hloi : ¬ (N : Int) < 48 := by omega
          have hhii : ¬ 57 < (N : Int) := by omega
          have hwr : ((N : Int) - 48) % 256 = (N : Int) - 48 := by omega
          have hng : wrap64 (-((N : Int) - 48)) = -((N : Int) - 48) := by unfold wrap64; omega
          go_wp2_with fail
          go_roundw
          case rel =>
            refine ⟨k + 1, _, by go_num, rfl, by omega, Lib.hid ?_, HW⟩
            rw [List.take_succ_eq_append_getElem hkd, HC.out, valD_snoc, HN.out, HV.out, show (-((N : Int) - 48)) = sgn true * ((N : Int) - 48) by simp [sgn], wrap_step, sg_step]
          case measure => simp [intOf]; omega
      · obtain ⟨n0, hn0⟩ : ∃ n0, t.length = n0 := ⟨_, rfl⟩
        have hfull : (t.drop 1).take k = (t.drop 1) := List.take_of_length_le (by simp; omega)
        have hV := HV.out
        rw [hfull] at hV
        have hnum := num_is HS.out hV
        rw [HR.out] at hnum
        have HNUM := Lib.hid hnum
        have HD := Lib.hid (dec_any V wr (by rw [hV]; exact wrap_in _))
        have hlti : ¬ ((1 + k : Nat) : Int) < t.length := by omega
        obtain ⟨it, hit⟩ : ∃ it, Lib.itoa V = it := ⟨_, rfl⟩
        unfold strV at HD
        rw [hit] at HD HNUM
        clear hfull hV hnum hit hn0
        go_wp2_with fail
        refine HD.out.mono ?_
        rintro e w5 ⟨rfl, hb5⟩
        have HB5 := Lib.hid (HW.out.trans (hb5.mono HW.out.size))
        clear hb5 HD
        by_cases he : it = t
        · have hnm := HNUM.out
          rw [if_pos he] at hnm
          have HNM := Lib.hid hnm
          have hee : (it == t) = true := by simpa using he
          clear hnm HNUM he
          go_wp2_with fail
          go_ret2
          exact ⟨_, _, rfl, by rw [HNM.out]; exact ⟨rfl, rfl⟩, HB5.out⟩
        · have hnm := HNUM.out
          rw [if_neg he] at hnm
          have HNM := Lib.hid hnm
          have hee : (it == t) = false := by simpa using he
          clear hnm HNUM he
          go_wp2_with fail
          go_ret2
          exact ⟨_, _, rfl, by rw [HNM.out]; rfl, HB5.out⟩
  · have hb45 : ((b.toNat : Int) == 45) = false := b_ne h45
    clear h45
    go_wp2_with fail
    go_loopw [4, 6] (fun nv i wr => ∃ (k : Nat) (V : Int), i = .int .i64 (k : Nat) ∧ nv = .int .i64 V ∧ k ≤ t.length ∧ Hid (V = wrap64 (sgn false * valD ((t.drop 0).take k))) ∧ Hid (Below w.heap.size w wr)) (fun _ i _ => t.length - (intOf i).toNat)
    case atStart => exact ⟨0, 0, rfl, rfl, by omega, Lib.hid (by simp [valD, sgn, wrap64]), Lib.hid (Below.refl _ _)⟩
    case round =>
      obtain ⟨k, V, rfl, rfl, hk, HV, HW⟩ := hrel
      by_cases hlt : k < t.length
      · obtain ⟨c, hc⟩ : ∃ c, t[k] = c := ⟨_, rfl⟩
        have hcu := bt_at t (k) hlt
        rw [hc] at hcu
        have hlti : ((k : Nat) : Int) < t.length := by omega
        have hki : (0 : Int) ≤ (k : Nat) := by omega
        obtain ⟨N, hN⟩ : ∃ N, c.toNat = N := ⟨_, rfl⟩
        have hcN : (⟨t.toArray⟩ : ByteArray)[k].toNat = N := by rw [hcu, hN]
        have HN := Lib.hid hN
        have hkd : k < (t.drop 0).length := by simp; omega
        have HC : Hid ((t.drop 0)[k] = c) := Lib.hid (by rw [← hc, List.getElem_drop]; congr 1; omega)
        clear hc hcu hN
        by_cases hlo : N < 48
        · have hbad := num_bad HS.out (c := c) (by rw [← HC.out]; exact List.getElem_mem _) (by simp [isDig, HN.out]; omega)
          rw [HR.out] at hbad
          have HBAD := Lib.hid hbad
          have hloi : (N : Int) < 48 := by omega
          clear hbad
          go_wp2_with fail
          go_ret2
          exact ⟨_, _, rfl, by rw [HBAD.out]; rfl, HW.out⟩
        by_cases hhi : 57 < N
        · have hbad := num_bad HS.out (c := c) (by rw [← HC.out]; exact List.getElem_mem _) (by simp [isDig, HN.out]; omega)
          rw [HR.out] at hbad
          have HBAD := Lib.hid hbad
          have hloi : ¬ (N : Int) < 48 := by omega
          have hhii : 57 < (N : Int) := by omega
          clear hbad
          go_wp2_with fail
          go_ret2
          exact ⟨_, _, rfl, by rw [HBAD.out]; rfl, HW.out⟩
        · have hloi : ¬ (N : Int) < 48 := by omega
          have hhii : ¬ 57 < (N : Int) := by omega
          have hwr : ((N : Int) - 48) % 256 = (N : Int) - 48 := by omega
          have hng : wrap64 (-((N : Int) - 48)) = -((N : Int) - 48) := by unfold wrap64; omega
          go_wp2_with fail
          go_roundw
          case rel =>
            refine ⟨k + 1, _, by go_num, rfl, by omega, Lib.hid ?_, HW⟩
            rw [List.take_succ_eq_append_getElem hkd, HC.out, valD_snoc, HN.out, HV.out, wrap_step, ← sg_step]
            simp [sgn]
          case measure => simp [intOf]; omega
      · obtain ⟨n0, hn0⟩ : ∃ n0, t.length = n0 := ⟨_, rfl⟩
        have hfull : (t.drop 0).take k = (t.drop 0) := List.take_of_length_le (by simp; omega)
        have hV := HV.out
        rw [hfull] at hV
        have hnum := num_is HS.out hV
        rw [HR.out] at hnum
        have HNUM := Lib.hid hnum
        have HD := Lib.hid (dec_any V wr (by rw [hV]; exact wrap_in _))
        have hlti : ¬ ((k : Nat) : Int) < t.length := by omega
        obtain ⟨it, hit⟩ : ∃ it, Lib.itoa V = it := ⟨_, rfl⟩
        unfold strV at HD
        rw [hit] at HD HNUM
        clear hfull hV hnum hit hn0
        go_wp2_with fail
        refine HD.out.mono ?_
        rintro e w5 ⟨rfl, hb5⟩
        have HB5 := Lib.hid (HW.out.trans (hb5.mono HW.out.size))
        clear hb5 HD
        by_cases he : it = t
        · have hnm := HNUM.out
          rw [if_pos he] at hnm
          have HNM := Lib.hid hnm
          have hee : (it == t) = true := by simpa using he
          clear hnm HNUM he
          go_wp2_with fail
          go_ret2
          exact ⟨_, _, rfl, by rw [HNM.out]; exact ⟨rfl, rfl⟩, HB5.out⟩
        · have hnm := HNUM.out
          rw [if_neg he] at hnm
          have HNM := Lib.hid hnm
          have hee : (it == t) = false := by simpa using he
          clear hnm HNUM he
          go_wp2_with fail
          go_ret2
          exact ⟨_, _, rfl, by rw [HNM.out]; rfl, HB5.out⟩
end Go.Proofs.YtifofhjfepkglaaDoor
