/- A line's numbers: as the program reads them. -/
import Derived.Test.YtifofhjfepkglaaDoorLine
import Derived.Lib.OthersKept
import Derived.Laws.AppendOwn
namespace Go.Proofs.YtifofhjfepkglaaDoor
open Go.ChangeShapes Go.WideShapes Go.ChangeAt Go.RowKit
set_option linter.unusedVariables false
set_option linter.unusedSimpArgs false

/-- What the library's variables hold. -/
structure Vars (w : World) : Prop where
  tab : Tab w
  max : ∃ m, w.cell? ⟨0, 0, none⟩ = some (.int .i64 m)
  syn : ∃ te pe, w.cell? ⟨1, 0, none⟩ = some (.iface te pe)
  ran : ∃ te pe, w.cell? ⟨2, 0, none⟩ = some (.iface te pe)
def Env (w : World) : Prop := ∀ w', Below w.heap.size w w' → Vars w'
theorem Env.now {w : World} (h : Env w) : Vars w := h w (Below.refl _ _)
theorem Env.below {w w' : World} (h : Env w) (hb : Below w.heap.size w w') : Env w' := fun w2 h2 => h w2 (hb.trans (h2.mono hb.size))

/-- A row of texts in memory. -/
def Strs (w : World) (g : Nat) (l : List (List UInt8)) : Prop := g < w.heap.size ∧ ∀ i (h : i < l.length), w.cell? ⟨g, i, none⟩ = some (strV l[i])
theorem Strs.below {w w' : World} {g : Nat} {l : List (List UInt8)} (h : Strs w g l) (hb : Below w.heap.size w w') : Strs w' g l :=
  ⟨Nat.lt_of_lt_of_le h.1 hb.size, fun i hi => (hb.cell h.1).trans (h.2 i hi)⟩

theorem splitB_parts (s : List UInt8) : (Lib.splitB ⟨#[32]⟩ 0 (Lib.countB ⟨s.toArray⟩ ⟨#[32]⟩) ⟨s.toArray⟩).map Value.string = (parts 32 s).map strV := by
  have h := Lib.splitB_data ⟨#[32]⟩ 0 (Lib.countB ⟨s.toArray⟩ ⟨#[32]⟩) ⟨s.toArray⟩
  have h2 : Lib.splitK [32] 0 (Lib.countB ⟨s.toArray⟩ ⟨#[32]⟩) s = parts 32 s := split_parts 32 s
  have h3 : (Lib.splitB ⟨#[32]⟩ 0 (Lib.countB ⟨s.toArray⟩ ⟨#[32]⟩) ⟨s.toArray⟩).map (·.data.toList) = parts 32 s := h.trans h2
  rw [← h3, List.map_map]
  apply List.map_congr_left
  intro b hb
  simp [strV]
theorem countB_parts (s : List UInt8) : Lib.countB ⟨s.toArray⟩ ⟨#[32]⟩ + 1 = (parts 32 s).length := by
  have h := congrArg List.length (splitB_parts s)
  rw [List.length_map, List.length_map, Lib.splitB_all ⟨#[32]⟩ (by decide) 0 _ _ rfl] at h
  exact h

theorem split_any (s : List UInt8) (w : World) (hs : s.length < 4294967281) (hv : Vars w) :
    Calls Tryd.prog 23 #[.string ⟨s.toArray⟩, .string ⟨#[32]⟩] w fun e w' => ∃ g, e = .returned (.slice (some ⟨g, 0, none⟩) (parts 32 s).length (parts 32 s).length) ∧ Strs w' g (parts 32 s) ∧ Below w.heap.size w w' := by
  obtain ⟨m, hm⟩ := hv.max
  refine (Tryd.strings_Split ⟨s.toArray⟩ ⟨#[32]⟩ m w (by simpa [ByteArray.size] using hs) hm (by decide)).mono ?_
  rintro e w' ⟨rfl, rfl⟩
  rw [countB_parts, splitB_parts]
  refine ⟨_, rfl, ⟨lt_of_block (heap_alloc_new w _), fun i hi => ?_⟩, (Below.refl _ _).alloc (Nat.le_refl _) _⟩
  refine (cell_of_row _ _ _ _ _ _ (heap_alloc_new w _)).trans ?_
  simp [hi]

theorem below_bytes (w : World) (e : TypeId) (s : ByteArray) : Below w.heap.size w (Lib.bytesWorld w e s) :=
  ⟨rfl, rfl, rfl, by rw [Lib.bytesWorld_size]; omega, fun k hk => Lib.bytesWorld_at_old w e s k hk⟩

theorem parseInt_any (s : List UInt8) (w : World) (hs : s.length ≤ 4294967281) (hv : Vars w) :
    Calls Tryd.prog 24 #[.string ⟨s.toArray⟩, .int .i64 10, .int .i64 64] w fun e w' => ∃ v ev, e = .returned (.tuple #[.int .i64 v, ev]) ∧ ((ev = .nilIface ∧ Lib.parseIntB 64 s = .ok v) ∨ ((∃ p, ev = .iface 79 p) ∧ num s = none)) ∧ Below w.heap.size w w' := by
  obtain ⟨te, pe, h1⟩ := hv.syn
  obtain ⟨te2, pe2, h2⟩ := hv.ran
  have hsz : (⟨s.toArray⟩ : ByteArray).size = s.length := by simp [ByteArray.size]
  rcases hp : Lib.parseIntB 64 s with v | _ | _
  · refine (Tryd.strconv_ParseInt_10_at64_ok ⟨s.toArray⟩ (by omega) v (by simpa using hp) w).mono ?_
    rintro e w' ⟨rfl, hw⟩
    refine ⟨_, _, rfl, .inl ⟨rfl, rfl⟩, ?_⟩
    rcases hw with rfl | ⟨t, rfl⟩
    · exact Below.refl _ _
    · exact below_bytes w _ _
  all_goals first
    | (refine (Tryd.strconv_ParseInt_10_at64_syntax ⟨s.toArray⟩ (by omega) (by simpa using hp) _ w h1 (.inr ⟨_, _, rfl⟩)).mono ?_
       rintro e w' ⟨N, rfl, _, _, hb⟩
       exact ⟨_, _, rfl, .inr ⟨⟨_, rfl⟩, by simp [num, hp]⟩, hb⟩)
    | (refine (Tryd.strconv_ParseInt_10_at64_range ⟨s.toArray⟩ (by omega) (by simpa using hp) _ w h2 (.inr ⟨_, _, rfl⟩)).mono ?_
       rintro e w' ⟨N, rfl, _, _, hb⟩
       exact ⟨_, _, rfl, .inr ⟨⟨_, rfl⟩, by simp [num, hp]⟩, hb⟩)

theorem formatInt_any (n : Int) (h : inI n) (w : World) (ht : Tab w) : Calls Tryd.prog 25 #[.int .i64 n, .int .i64 10] w fun e w' => e = .returned (.string ⟨(Lib.itoa n).toArray⟩) ∧ Below w.heap.size w w' := by
  refine (Tryd.strconv_FormatInt_10 n h.1 h.2 w ht).mono ?_
  rintro e w' ⟨rfl, k, os, rfl⟩
  exact ⟨rfl, Lib.below_grow _ w (Nat.le_refl _) k os⟩

theorem str_eq (a b : List UInt8) : ((⟨a.toArray⟩ : ByteArray) = ⟨b.toArray⟩) ↔ a = b := by
  constructor
  · intro h
    have := congrArg (fun x => x.data.toList) h
    simpa using this
  · rintro rfl
    rfl
def intsV (l : List Int) : List Value := l.map (Value.int .i64)
theorem infoInt : (Tryd.prog.info? 3).map (fun i => (i.zero, i.size, i.bytes)) = some (some (.int .i64 0), 1, 8) := by kernel_rfl
theorem mapM_snoc {ps : List (List UInt8)} {k : Nat} {l : List Int} {v : Int} (hk : k < ps.length) (h : (ps.take k).mapM num = some l) (hv : num ps[k] = some v) : (ps.take (k + 1)).mapM num = some (l ++ [v]) := by
  rw [List.take_succ_eq_append_getElem hk, List.mapM_append, h]
  simp [hv]
theorem mapM_none {ps : List (List UInt8)} {k : Nat} (hk : k < ps.length) (hv : num ps[k] = none) : ps.mapM num = none := by
  induction ps generalizing k with
  | nil => simp at hk
  | cons p r ih =>
    simp only [List.mapM_cons]
    cases hp : num p with
    | none => rfl
    | some a =>
      cases k with
      | zero => simp [hp] at hv
      | succ k =>
        have := ih (k := k) (by simpa using hk) (by simpa using hv)
        simp [this]
theorem num_ok {s : List UInt8} {v : Int} (h : Lib.parseIntB 64 s = .ok v) : num s = if Lib.itoa v = s then some v else none := by
  unfold num
  rw [h]
theorem intsV_one (l : List Int) : ∀ u ∈ intsV l, u.oneCell' = true := by
  intro u hu
  simp only [intsV, List.mem_map] at hu
  obtain ⟨n, _, rfl⟩ := hu
  rfl
/-- What numbers comes to: a row of its own, or none. -/
def NumsR (B : Nat) (w' : World) (r : Option (List Int)) (v : Value) (ok : Bool) : Prop :=
  match r with
  | some l => ok = true ∧ w'.ownsRow B 3 1 v l.length (intsV l)
  | none => ok = false ∧ v = .slice none 0 0
theorem parts_head (s : List UInt8) : ∃ p ps, parts 32 s = p :: ps := by
  cases h : parts 32 s with
  | nil => exact absurd h (parts_ne _ _)
  | cons p ps => exact ⟨p, ps, rfl⟩
theorem parts_len (c : UInt8) : ∀ s : List UInt8, (parts c s).length ≤ s.length + 1 ∧ ∀ p ∈ parts c s, p.length ≤ s.length
  | [] => by simp [parts]
  | x :: r => by
    have ih := parts_len c r
    unfold parts
    split
    · simp
      refine ⟨by omega, fun p hp => ?_⟩
      have := ih.2 p hp
      omega
    · split
      · rename_i p ps hp
        rw [hp] at ih
        simp at ih ⊢
        refine ⟨by omega, by omega, fun q hq => ?_⟩
        have := ih.2.2 q hq
        omega
      · simp
end Go.Proofs.YtifofhjfepkglaaDoor
