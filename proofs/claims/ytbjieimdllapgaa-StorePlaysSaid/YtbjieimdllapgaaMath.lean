/- Plain mathematics of a table of slots that is probed from a place on, one slot behind the other. No program is spoken of here. -/
import Derived.Laws.BitsLemmas
import Derived.RowKit
import Derived.WalkKit
namespace Go.Proofs.Ytbjieimdllapgaa
open Go.RowKit

/-- 'v & (2^n - 1)' on an int64 is v modulo 2^n, of whatever sign v is. -/
theorem bits_low (n : Nat) (hn : n ≤ 32) (v : Int) : bits .and .i64 v (2 ^ n - 1) = v % 2 ^ n := by
  have hpos : 0 < 2 ^ n := Nat.two_pow_pos n
  have hle : 2 ^ n ≤ 2 ^ 32 := Nat.pow_le_pow_right (by decide) hn
  have hc : ((2 : Int) ^ n - 1) = ((2 ^ n - 1 : Nat) : Int) := by
    rw [Int.natCast_sub hpos]; simp
  have hd : ((2 ^ n : Nat) : Int) ∣ ((18446744073709551616 : Nat) : Int) := by
    refine Int.natCast_dvd_natCast.2 ?_
    exact ⟨2 ^ (64 - n), by rw [← Nat.pow_add]; rw [show n + (64 - n) = 64 from by omega]⟩
  have e1 : (BitVec.ofInt 64 v).toNat = (v % 18446744073709551616).toNat := BitVec.toNat_ofInt v
  have e2 : (2 ^ n - 1) % 18446744073709551616 = 2 ^ n - 1 := Nat.mod_eq_of_lt (by omega)
  have e3 : (((v % 18446744073709551616).toNat % 2 ^ n : Nat) : Int) = v % 2 ^ n := by
    rw [Int.natCast_emod, Int.toNat_of_nonneg (Int.emod_nonneg _ (by decide))]
    have := Int.emod_emod_of_dvd v hd
    simpa using this
  have hb : (0 : Int) ≤ v % 2 ^ n := Int.emod_nonneg _ (by have : (0 : Int) < 2 ^ n := by exact_mod_cast hpos
                                                           omega)
  have hb2 : v % 2 ^ n < 4294967296 := by
    have h3 : (0 : Int) < 2 ^ n := by exact_mod_cast hpos
    have h4 := Int.emod_lt_of_pos v h3
    have h5 : (2 : Int) ^ n ≤ 4294967296 := by (have h := Int.ofNat_le.2 hle; rw [Int.natCast_pow] at h; exact h)
    omega
  have e4 : (BitVec.ofInt 64 ((2 ^ n - 1 : Nat) : Int)).toNat = 2 ^ n - 1 := by rw [BitVec.ofInt_natCast, BitVec.toNat_ofNat]; exact e2
  rw [hc]
  show IntKind.i64.wrap ((BitVec.ofInt 64 v &&& BitVec.ofInt 64 ((2 ^ n - 1 : Nat) : Int)).toNat : Int) = _
  rw [BitVec.toNat_and, e1, e4, Nat.and_two_pow_sub_one_eq_mod, e3, IntKind.wrap_i64]
  omega


/-- The hash of a text's first bytes. -/
def fnv : List UInt8 → Int → Int
  | [], h => h
  | c :: l, h => fnv l (IntKind.u64.wrap (bits .xor .u64 h (IntKind.u64.wrap (c.toNat : Int)) * 1099511628211))
theorem fnv_snoc (l : List UInt8) (c : UInt8) : ∀ h, fnv (l ++ [c]) h = IntKind.u64.wrap (bits .xor .u64 (fnv l h) (IntKind.u64.wrap (c.toNat : Int)) * 1099511628211) := by
  induction l with
  | nil => intro h; rfl
  | cons x l ih => intro h; exact ih _

/-- Where a text lies first, in a table of L slots. -/
def place (key : ByteArray) (L : Nat) : Int :=
  bits .and .u32 (bits .xor .u64 (fnv key.data.toList 14695981039346656037) (fnv key.data.toList 14695981039346656037 / 4294967296) % 4294967296) ((L : Int) - 1)

theorem and_u32 (x y : Int) : 0 ≤ bits .and .u32 x y ∧ bits .and .u32 x y ≤ IntKind.u32.wrap y := by
  have h : bits .and .u32 x y = ((BitVec.ofInt 32 x &&& BitVec.ofInt 32 y).toNat : Int) := by
    show IntKind.u32.wrap ((BitVec.ofInt 32 x &&& BitVec.ofInt 32 y).toNat : Int) = _
    have := (BitVec.ofInt 32 x &&& BitVec.ofInt 32 y).isLt
    rw [IntKind.wrap_u32]
    omega
  have h2 : (BitVec.ofInt 32 x &&& BitVec.ofInt 32 y).toNat ≤ (BitVec.ofInt 32 y).toNat := by
    rw [BitVec.toNat_and]; exact Nat.and_le_right
  have h3 : ((BitVec.ofInt 32 y).toNat : Int) = y % 4294967296 := by
    have e : (BitVec.ofInt 32 y).toNat = (y % 4294967296).toNat := BitVec.toNat_ofInt y
    rw [e]; omega
  rw [h, IntKind.wrap_u32]
  omega

theorem place_range (key : ByteArray) (L : Nat) (h0 : 1 ≤ L) (h1 : L ≤ 65536) : 0 ≤ place key L ∧ place key L < L := by
  unfold place
  have h := and_u32 (bits .xor .u64 (fnv key.data.toList 14695981039346656037) (fnv key.data.toList 14695981039346656037 / 4294967296) % 4294967296) ((L : Int) - 1)
  have e : IntKind.u32.wrap ((L : Int) - 1) = (L : Int) - 1 := by rw [IntKind.wrap_u32]; omega
  rw [e] at h
  omega

def pl (key : ByteArray) (n : Nat) : Nat := (place key (2 ^ n)).toNat

theorem two_pow_le (n : Nat) (h : n ≤ 16) : 1 ≤ 2 ^ n ∧ 2 ^ n ≤ 65536 :=
  ⟨Nat.two_pow_pos n, Nat.le_trans (Nat.pow_le_pow_right (by decide) h) (by decide)⟩

theorem pl_lt (key : ByteArray) (n : Nat) (h : n ≤ 16) : pl key n < 2 ^ n := by
  have h1 := two_pow_le n h
  have h2 := place_range key (2 ^ n) h1.1 h1.2
  unfold pl; omega
theorem place_pl (key : ByteArray) (n : Nat) (h : n ≤ 16) : place key (2 ^ n) = (pl key n : Int) := by
  have h1 := two_pow_le n h
  have h2 := place_range key (2 ^ n) h1.1 h1.2
  unfold pl; omega

/-- The key of the slot's text. -/
def keyAt (keys : List ByteArray) (v : Int) : ByteArray := keys.getD (v - 1).toNat ByteArray.empty

def Stop (keys : List ByteArray) (slots : List Int) (key : ByteArray) (i : Nat) : Prop := slots.getD i 0 = 0 ∨ keyAt keys (slots.getD i 0) = key

/-- The table holds the first j texts. -/
structure Tab (keys : List ByteArray) (j : Nat) (slots : List Int) (n : Nat) : Prop where
  len : slots.length = 2 ^ n
  lo : 6 ≤ n
  hi : n ≤ 16
  free : slots.count 0 + j = 2 ^ n
  range : ∀ i, 0 ≤ slots.getD i 0 ∧ slots.getD i 0 ≤ j
  met : ∀ i, i < j → ∃ d, slots.getD ((pl (keys.getD i ByteArray.empty) n + d) % 2 ^ n) 0 = i + 1 ∧ ∀ d', d' < d → slots.getD ((pl (keys.getD i ByteArray.empty) n + d') % 2 ^ n) 0 ≠ 0

/-- Where the search for a text ends. -/
def Looked (keys : List ByteArray) (slots : List Int) (n : Nat) (key : ByteArray) (at' : Nat) : Prop :=
  ∃ d, at' = (pl key n + d) % 2 ^ n ∧ Stop keys slots key at' ∧ ∀ d', d' < d → ¬ Stop keys slots key ((pl key n + d') % 2 ^ n)

theorem exists_zero (l : List Int) (h : 0 < l.count 0) : ∃ i, i < l.length ∧ l.getD i 0 = 0 := by
  have hm : (0 : Int) ∈ l := List.count_pos_iff.1 h
  obtain ⟨i, hi, he⟩ := List.getElem_of_mem hm
  exact ⟨i, hi, by simp [List.getD, hi, he]⟩

theorem reach (p z L : Nat) (hp : p < L) (hz : z < L) : ∃ d, d < L ∧ (p + d) % L = z := by
  by_cases h : p ≤ z
  · exact ⟨z - p, by omega, by rw [show p + (z - p) = z by omega]; exact Nat.mod_eq_of_lt hz⟩
  · exact ⟨z + L - p, by omega, by rw [show p + (z + L - p) = z + L by omega, Nat.add_mod_right]; exact Nat.mod_eq_of_lt hz⟩

theorem Tab.stops {keys : List ByteArray} {j n : Nat} {slots : List Int} (h : Tab keys j slots n) (hj : j < 2 ^ n) (key : ByteArray) :
    ∃ d, d < 2 ^ n ∧ Stop keys slots key ((pl key n + d) % 2 ^ n) := by
  obtain ⟨z, hz, he⟩ := exists_zero slots (by have := h.free; omega)
  obtain ⟨d, hd, e⟩ := reach (pl key n) z (2 ^ n) (pl_lt key n h.hi) (by rw [← h.len]; exact hz)
  exact ⟨d, hd, .inl (by rw [e, he])⟩

/-- The first stop. -/
theorem first_stop (S : Nat → Prop) (d : Nat) (h : S d) : ∃ m, m ≤ d ∧ S m ∧ ∀ k, k < m → ¬ S k := by
  induction d using Nat.strongRecOn with
  | _ d ih =>
    by_cases hk : ∃ k, k < d ∧ S k
    · obtain ⟨k, hk, hs⟩ := hk
      obtain ⟨m, hm, h1, h2⟩ := ih k hk hs
      exact ⟨m, by omega, h1, h2⟩
    · exact ⟨d, Nat.le_refl _, h, fun k hk' hs => hk ⟨k, hk', hs⟩⟩

theorem find_no {keys : List ByteArray} {j n at' : Nat} {slots : List Int} {key : ByteArray} (h : Tab keys j slots n)
    (hno : ∀ i, i < j → keys.getD i ByteArray.empty ≠ key) (hl : Looked keys slots n key at') : slots.getD at' 0 = 0 := by
  obtain ⟨d, rfl, hs, _⟩ := hl
  rcases hs with hs | hs
  · exact hs
  · have hr := h.range ((pl key n + d) % 2 ^ n)
    by_cases hz : slots.getD ((pl key n + d) % 2 ^ n) 0 = 0
    · exact hz
    · exact absurd hs (hno _ (by omega))

theorem find_yes {keys : List ByteArray} {j n at' i : Nat} {slots : List Int} {key : ByteArray} (h : Tab keys j slots n)
    (hnd : ∀ i i', i < j → i' < j → keys.getD i ByteArray.empty = keys.getD i' ByteArray.empty → i = i')
    (hi : i < j) (hk : keys.getD i ByteArray.empty = key) (hl : Looked keys slots n key at') : slots.getD at' 0 = i + 1 := by
  obtain ⟨d, rfl, hs, hn⟩ := hl
  obtain ⟨di, h1, h2⟩ := h.met i hi
  rw [hk] at h1 h2
  have hst : Stop keys slots key ((pl key n + di) % 2 ^ n) := .inr (by rw [h1]; unfold keyAt; rw [← hk]; congr 1; omega)
  have hle : d ≤ di := by
    rcases Nat.lt_or_ge di d with hlt | hge
    · exact absurd hst (hn di hlt)
    · exact hge
  by_cases he : d = di
  · rw [he]; exact h1
  · have hnz := h2 d (by omega)
    rcases hs with hs | hs
    · exact absurd hs hnz
    · have hr := h.range ((pl key n + d) % 2 ^ n)
      have := hnd (slots.getD ((pl key n + d) % 2 ^ n) 0 - 1).toNat i (by omega) hi (by unfold keyAt at hs; exact hs.trans hk.symm)
      omega

theorem getD_set (l : List Int) (a i : Nat) (v : Int) (ha : a < l.length) : (l.set a v).getD i 0 = if i = a then v else l.getD i 0 := by
  simp only [List.getD_eq_getElem?_getD, List.getElem?_set]
  by_cases h : i = a
  · subst h; simp [ha]
  · rw [if_neg (by omega), if_neg h]

theorem count_set_zero (l : List Int) (a : Nat) (v : Int) (ha : a < l.length) (h0 : l.getD a 0 = 0) (hv : v ≠ 0) : (l.set a v).count 0 + 1 = l.count 0 := by
  induction l generalizing a with
  | nil => simp at ha
  | cons x l ih =>
    cases a with
    | zero =>
      simp at h0
      subst h0
      simp [hv]
    | succ a =>
      simp at ha
      have := ih a ha (by simpa using h0)
      simp only [List.set_cons_succ, List.count_cons]
      omega

theorem Tab.insert {keys : List ByteArray} {j n at' : Nat} {slots : List Int} (h : Tab keys j slots n)
    (hl : Looked keys slots n (keys.getD j ByteArray.empty) at') (h0 : slots.getD at' 0 = 0) : Tab keys (j + 1) (slots.set at' (j + 1)) n := by
  obtain ⟨d, ha, hs, hn⟩ := hl
  have hlt : at' < slots.length := by rw [ha, h.len]; exact Nat.mod_lt _ (Nat.two_pow_pos n)
  have hg := fun i => getD_set slots at' i ((j : Int) + 1) hlt
  refine ⟨by rw [List.length_set]; exact h.len, h.lo, h.hi, ?_, ?_, ?_⟩
  · have := count_set_zero slots at' ((j : Int) + 1) hlt h0 (by omega)
    have := h.free
    omega
  · intro i
    have := h.range i
    rw [hg]
    split <;> omega
  · intro i hi
    by_cases hij : i = j
    · subst hij
      refine ⟨d, by rw [← ha, hg, if_pos rfl], fun d' hd' => ?_⟩
      have hne := hn d' hd'
      rw [hg]
      split
      · omega
      · exact fun he => hne (.inl he)
    · obtain ⟨di, h1, h2⟩ := h.met i (by omega)
      refine ⟨di, ?_, fun d' hd' => ?_⟩
      · rw [hg, if_neg (by intro he; rw [he, h0] at h1; omega)]
        exact h1
      · have := h2 d' hd'
        rw [hg]
        split
        · omega
        · exact this

/-- A fresh table. -/
theorem Tab.fresh (keys : List ByteArray) (n : Nat) (h1 : 6 ≤ n) (h2 : n ≤ 16) : Tab keys 0 (List.replicate (2 ^ n) 0) n := by
  have hg : ∀ i, (List.replicate (2 ^ n) (0 : Int)).getD i 0 = 0 := fun i => by
    simp only [List.getD_eq_getElem?_getD, List.getElem?_replicate]; split <;> rfl
  exact ⟨by simp, h1, h2, by simp, fun i => by rw [hg]; omega, fun i hi => by omega⟩

theorem getD_append (l : List ByteArray) (k : ByteArray) (i : Nat) (h : i < l.length) : (l ++ [k]).getD i ByteArray.empty = l.getD i ByteArray.empty := by
  simp [List.getD_eq_getElem?_getD, List.getElem?_append_left h]
theorem getD_last (l : List ByteArray) (k : ByteArray) : (l ++ [k]).getD l.length ByteArray.empty = k := by
  simp [List.getD_eq_getElem?_getD]

theorem Tab.more {keys : List ByteArray} {j n : Nat} {slots : List Int} (h : Tab keys j slots n) (hj : j ≤ keys.length) (k : ByteArray) : Tab (keys ++ [k]) j slots n :=
  ⟨h.len, h.lo, h.hi, h.free, h.range, fun i hi => by rw [getD_append _ _ _ (by omega)]; exact h.met i hi⟩

end Go.Proofs.Ytbjieimdllapgaa
