/- GoodTypes: for each type, number and variable, whether the type may be, whether the number is one of it, and how far the variable reaches, is as the document says, and the document's examples hold. Conditions: none. -/
import Derived.Test.YtpbhplooikammaaRows
import Derived.WalkKit
import Derived.ProofKit
import Derived.OpenShut
import Derived.ChangeOld
import Derived.Below
import Derived.Lib.SmallJoins
import Derived.ChangeArms
import Derived.Test.YtpbhplooikammaaShown
namespace Go.Proofs.Ytpbhplooikammaa.goodTypes
open Go.ChangeShapes Go.WideShapes Go.ChangeAt Go.RowKit

theorem own : ownKnob Try.prog.godebug = none := by kernel_rfl
theorem laidOut : laidOutB Try.prog = true := by kernel_rfl

/-- A world in which both boxes lie. -/
structure Boxes (w : World) (b c : Nat) (bits : Int) (sg : Bool) (sc sl wh ty : Int) (dv : Value) : Prop where
  t0 : w.cell? ⟨b, 0, none⟩ = some (.int .i64 bits)
  t1 : w.cell? ⟨b, 1, none⟩ = some (.bool sg)
  x0 : w.cell? ⟨c, 0, none⟩ = some (.int .i64 sc)
  x1 : w.cell? ⟨c, 1, none⟩ = some (.int .i64 sl)
  x2 : w.cell? ⟨c, 2, none⟩ = some (.int .i64 wh)
  x3 : w.cell? ⟨c, 3, none⟩ = some (.int .i64 ty)
  x4 : w.cell? ⟨c, 4, none⟩ = some dv
  bs : b < w.heap.size
  cs : c < w.heap.size
theorem Boxes.below {w w' : World} {b c : Nat} {bits : Int} {sg : Bool} {sc sl wh ty : Int} {dv : Value} (h : Boxes w b c bits sg sc sl wh ty dv) (hb : Below w.heap.size w w') : Boxes w' b c bits sg sc sl wh ty dv := by
  have hq : ∀ i, w'.cell? ⟨b, i, none⟩ = w.cell? ⟨b, i, none⟩ := fun i => hb.cell h.bs
  have hr : ∀ i, w'.cell? ⟨c, i, none⟩ = w.cell? ⟨c, i, none⟩ := fun i => hb.cell h.cs
  have hs := hb.size
  have h1 := h.bs
  have h2 := h.cs
  obtain ⟨t0, t1, x0, x1, x2, x3, x4, bs, cs⟩ := h
  constructor
  all_goals (try rw [hq])
  all_goals (try rw [hr])
  all_goals (try assumption)
  all_goals omega
theorem dims_below {w w' : World} {o : Option Addr} {n : Nat} (h : IsDims w o n) (hb : Below w.heap.size w w') : IsDims w' o n := by
  intro i hi
  obtain ⟨g, off, rfl, hg, e0, e1, e2, hm⟩ := h i hi
  have hr : ∀ j, rd w' (some ⟨g, off, none⟩) j = rd w (some ⟨g, off, none⟩) j := fun j => by
    show intOf ((w'.cell? ⟨g, off + j, none⟩).getD undef) = intOf ((w.cell? ⟨g, off + j, none⟩).getD undef)
    rw [hb.cell (p := ⟨g, off + j, none⟩) hg]
  have hs := hb.size
  refine ⟨g, off, rfl, by omega, ?_, ?_, ?_, ?_⟩
  · rw [hb.cell (p := ⟨_, _, none⟩) hg, hr]; exact e0
  · rw [hb.cell (p := ⟨_, _, none⟩) hg, hr]; exact e1
  · rw [hb.cell (p := ⟨_, _, none⟩) hg, hr]; exact e2
  · rw [hr]; exact hm
theorem rd_below {w w' : World} {o : Option Addr} {n : Nat} (h : IsDims w o n) (hb : Below w.heap.size w w') (i : Nat) (hi : i < n) (j : Nat) : rd w' o j = rd w o j := by
  obtain ⟨g, off, rfl, hg, _⟩ := h i hi
  show intOf ((w'.cell? ⟨g, off + j, none⟩).getD undef) = intOf ((w.cell? ⟨g, off + j, none⟩).getD undef)
  rw [hb.cell (p := ⟨g, off + j, none⟩) hg]
theorem reach_below {w w' : World} {o : Option Addr} {n : Nat} (h : IsDims w o n) (hb : Below w.heap.size w w') (sl : Int) : reachV w' sl o n = reachV w sl o n := by
  unfold reachV
  by_cases hz : n = 0
  · subst hz; rfl
  · rw [show rd w' o = rd w o from funext fun j => rd_below h hb 0 (by omega) j]

theorem boxes_new (w : World) (bits : Int) (sg : Bool) (sc sl wh ty : Int) (dv : Value) : Boxes ((w.alloc (.cells #[.int .i64 bits, .bool sg] 23)).alloc (.cells #[.int .i64 sc, .int .i64 sl, .int .i64 wh, .int .i64 ty, dv] 26)) w.heap.size (w.heap.size + 1) bits sg sc sl wh ty dv := by
  have h1 := heap_alloc_new w (.cells #[.int .i64 bits, .bool sg] 23)
  have h2 := heap_alloc_new (w.alloc (.cells #[.int .i64 bits, .bool sg] 23)) (.cells #[.int .i64 sc, .int .i64 sl, .int .i64 wh, .int .i64 ty, dv] 26)
  rw [World.size_alloc] at h2
  have h3 := (Below.heap_alloc (w.alloc (.cells #[.int .i64 bits, .bool sg] 23)) (.cells #[.int .i64 sc, .int .i64 sl, .int .i64 wh, .int .i64 ty, dv] 26) w.heap.size (by simp)).trans h1
  constructor
  all_goals first | (rw [cell_of_row _ _ _ _ _ _ h2]; rfl) | (rw [cell_of_row _ _ _ _ _ _ h3]; rfl) | exact lt_of_block h2 | exact lt_of_block h3

set_option maxRecDepth 100000 in
theorem walk (bits : Int) (sg : Bool) (v sc sl wh ty : Int) (o : Option Addr) (n cap : Nat) (w : World) (hn : n ≤ maxLen) (hin : IsDims w o n) :
    Calls Try.prog 3 #[.agg #[.int .i64 bits, .bool sg], .int .i64 v, .agg #[.int .i64 sc, .int .i64 sl, .int .i64 wh, .int .i64 ty, .slice o n cap]] w fun e w' => e = .returned (.bool true) ∧ Below w.heap.size w w' := by
  have HX0 := Lib.hid (boxes_new w bits sg sc sl wh ty (.slice o n cap))
  have HB0 : Hid (Below w.heap.size w ((w.alloc (.cells #[.int .i64 bits, .bool sg] 23)).alloc (.cells #[.int .i64 sc, .int .i64 sl, .int .i64 wh, .int .i64 ty, .slice o n cap] 26))) := Lib.hid (((Below.refl _ _).alloc (Nat.le_refl _) _).alloc (by simp) _)
  have HI := Lib.hid hin
  clear hin
  go_enter Try.func3, Try.ntmps3
  go_wp2_with fail
  refine (shown_yes _).mono ?_
  rintro e w1 ⟨rfl, hb⟩
  have HX := Lib.hid (HX0.out.below hb)
  have HB := Lib.hid (HB0.out.trans (hb.mono HB0.out.size))
  clear hb HX0 HB0
  have t0 := HX.out.t0
  have t1 := HX.out.t1
  go_wp2_with fail
  refine (type5 _ _ _).mono ?_
  rintro e w2 ⟨rfl, hb⟩
  have HX2 := Lib.hid (HX.out.below hb)
  have HB2 := Lib.hid (HB.out.trans (hb.mono HB.out.size))
  clear hb HX HB t0 t1
  have t0 := HX2.out.t0
  have t1 := HX2.out.t1
  go_wp2_with fail
  refine (type6 _ _ _).mono ?_
  rintro e w3 ⟨rfl, hb⟩
  have HX3 := Lib.hid (HX2.out.below hb)
  have HB3 := Lib.hid (HB2.out.trans (hb.mono HB2.out.size))
  clear hb HX2 HB2 t0 t1
  have t0 := HX3.out.t0
  have t1 := HX3.out.t1
  go_wp2_with fail
  refine (fits7 _ _ _ _).mono ?_
  rintro e w4 ⟨rfl, hb⟩
  have HX4 := Lib.hid (HX3.out.below hb)
  have HB4 := Lib.hid (HB3.out.trans (hb.mono HB3.out.size))
  clear hb HX3 HB3 t0 t1
  have t0 := HX4.out.t0
  have t1 := HX4.out.t1
  go_wp2_with fail
  refine (fits8 _ _ _ _).mono ?_
  rintro e w5 ⟨rfl, hb⟩
  have HX5 := Lib.hid (HX4.out.below hb)
  have HB5 := Lib.hid (HB4.out.trans (hb.mono HB4.out.size))
  clear hb HX4 HB4 t0 t1
  have x0 := HX5.out.x0
  have x1 := HX5.out.x1
  have x2 := HX5.out.x2
  have x3 := HX5.out.x3
  have x4 := HX5.out.x4
  have HI5 := Lib.hid (dims_below HI.out HB5.out)
  go_wp2_with fail
  refine (reach9 _ _ _ _ _ _ _ _ hn HI5.out).mono ?_
  rintro e w6 ⟨rfl, hb⟩
  have HR := Lib.hid (reach_below HI5.out hb sl)
  have HI6 := Lib.hid (dims_below HI5.out hb)
  have HX6 := Lib.hid (HX5.out.below hb)
  have HB6 := Lib.hid (HB5.out.trans (hb.mono HB5.out.size))
  clear hb HX5 HB5 HI5 x0 x1 x2 x3 x4
  have x0 := HX6.out.x0
  have x1 := HX6.out.x1
  have x2 := HX6.out.x2
  have x3 := HX6.out.x3
  have x4 := HX6.out.x4
  go_wp2_with fail
  refine (reach10 _ _ _ _ _ _ _ _ hn HI6.out).mono ?_
  rintro e w7 ⟨rfl, hb⟩
  have HB7 := Lib.hid (HB6.out.trans (hb.mono HB6.out.size))
  clear hb HX6 HB6 HI6 x0 x1 x2 x3 x4
  rw [HR.out]
  go_wp2
  go_ret
  exact ⟨rfl, HB7.out⟩

theorem trod5 {H : Type} {enc : TypeId × Value → H} {P : Program} {w : World} {base : Nat} {spare : Nat → Bool} {held : Bool} {t : TypeId} {f0 f1 f2 f3 f4 : Field} {fuel : Nat} {cs : List Value} {x : DataW H × List MemPlace} (ht : P.underlying t = some (.struct #[f0, f1, f2, f3, f4])) (h : DataW.trod enc P w base spare held fuel t cs = some x) :
    ∃ y0 y1 y2 y3 y4 n, cs.length = P.cellsOf t ∧ DataW.trod enc P w base spare held n f0.type ((cs.drop f0.offset).take (P.cellsOf f0.type)) = some y0 ∧
      DataW.trod enc P w base spare held n f1.type ((cs.drop f1.offset).take (P.cellsOf f1.type)) = some y1 ∧ DataW.trod enc P w base spare held n f2.type ((cs.drop f2.offset).take (P.cellsOf f2.type)) = some y2 ∧
      DataW.trod enc P w base spare held n f3.type ((cs.drop f3.offset).take (P.cellsOf f3.type)) = some y3 ∧ DataW.trod enc P w base spare held n f4.type ((cs.drop f4.offset).take (P.cellsOf f4.type)) = some y4 := by
  obtain ⟨xs, n, _, rfl, hl, hlen, hf⟩ := DataW.trod_struct ht h
  match xs, hlen with
  | [y0, y1, y2, y3, y4], _ => exact ⟨y0, y1, y2, y3, y4, n, hl, by simpa using hf 0 f0 rfl, by simpa using hf 1 f1 rfl, by simpa using hf 2 f2 rfl, by simpa using hf 3 f3 rfl, by simpa using hf 4 f4 rfl⟩

theorem array5 {α : Type} {cs : Array α} (h : cs.size = 5) : ∃ c0 c1 c2 c3 c4, cs = #[c0, c1, c2, c3, c4] := by
  obtain ⟨l⟩ := cs
  match l, h with
  | [c0, c1, c2, c3, c4], _ => exact ⟨c0, c1, c2, c3, c4, rfl⟩

theorem add_at (b o k : Nat) : Addr.add ⟨b, o, none⟩ k = ⟨b, o + k, none⟩ := by simp [Addr.add]

theorem open_dims {H : Type} {enc : TypeId × Value → H} {W : World} {spare : Nat → Bool} {fuel : Nat} {o : Option Addr} {n cap : Nat} {y : DataW H × List MemPlace} (hf : DataW.trod enc Try.prog W 0 spare true fuel 24 [.slice o n cap] = some y) : n ≤ maxLen ∧ IsDims W o n := by
  rcases DataW.trod_slice Try.underlying24 hf with ⟨hcs, _⟩ | ⟨x, l, c, elems, rest, k, _, hcs, _, hb, hl, hm, hel, hcell, _⟩
  · simp at hcs
    obtain ⟨rfl, rfl, rfl⟩ := hcs
    exact ⟨Nat.zero_le _, fun i hi => by omega⟩
  · simp at hcs
    obtain ⟨rfl, rfl, rfl⟩ := hcs
    refine ⟨Nat.le_trans hl hm, fun i hi => ?_⟩
    have h3 : Try.prog.cellsOf 48 = 3 := by kernel_rfl
    rw [h3] at hcell
    obtain ⟨ab, off, spot⟩ := x
    have hspot : spot = none := by
      have hc := hcell 0 (by omega)
      rw [List.getElem?_eq_getElem (by omega)] at hc
      obtain ⟨cs, hcs, _⟩ := Option.bind_eq_some_iff.1 hc
      obtain ⟨_, hl4, h0⟩ := World.cells?_some hcs
      have h0 := h0 0 (by decide)
      rw [List.getElem?_eq_getElem (by omega)] at h0
      have h1 := World.cell?_spot h0
      simpa [Addr.add] using h1
    subst hspot
    have hc := hcell i hi
    rw [List.getElem?_eq_getElem (by omega)] at hc
    obtain ⟨cs, hcs, htr⟩ := Option.bind_eq_some_iff.1 hc
    obtain ⟨_, hl4, hcc⟩ := World.cells?_some hcs
    obtain ⟨y0, y1, y2, m, _, _, t0, t1, t2⟩ := Deep.trod_struct3 Try.underlying48 htr
    have k3 : Try.prog.cellsOf 3 = 1 := by kernel_rfl
    simp only [k3] at t0 t1 t2
    match cs, hl4 with
    | [c0, c1, c2], _ =>
      obtain ⟨n0, e0, _, _⟩ := DataW.trod_int Try.underlying3 t0
      obtain ⟨n1, e1, _, hw1⟩ := DataW.trod_int Try.underlying3 t1
      obtain ⟨n2, e2, _, _⟩ := DataW.trod_int Try.underlying3 t2
      simp at e0 e1 e2
      subst e0 e1 e2
      have q0 := hcc 0 (by decide)
      have q1 := hcc 1 (by decide)
      have q2 := hcc 2 (by decide)
      simp only [add_at] at q0 q1 q2
      have hr : ∀ j m, W.cell? ⟨ab, off + i * 3 + j, none⟩ = some (.int .i64 m) → rd W (some ⟨ab, off, none⟩) (i * 3 + j) = m := fun j m hj => by
        show intOf ((W.cell? ⟨ab, off + (i * 3 + j), none⟩).getD undef) = m
        rw [← Nat.add_assoc, hj]
        rfl
      have e0 : rd W (some ⟨ab, off, none⟩) (i * 3) = n0 := hr 0 n0 q0
      have e1 := hr 1 n1 q1
      have e2 := hr 2 n2 q2
      refine ⟨ab, off, rfl, World.block_lt_of_cell? W _ q0, ?_, ?_, ?_, ?_⟩
      · rw [e0]; exact q0
      · rw [e1]; exact q1
      · rw [e2]; exact q2
      · rw [e1]
        have := bounds_i64 hw1
        omega

theorem open_var {H : Type} {enc : TypeId × Value → H} {W : World} {spare : Nat → Bool} {base : Nat} {v : Value} {d : DataW H} {p : List MemPlace} (hv : Value.okWide Try.prog W .any base 26 v) (h : DataW.Trod enc Try.prog W 0 spare true 26 v d p) :
    ∃ sc sl wh ty o n cap, v = .agg #[.int .i64 sc, .int .i64 sl, .int .i64 wh, .int .i64 ty, .slice o n cap] ∧ n ≤ maxLen ∧ IsDims W o n := by
  obtain ⟨cs, rfl, hsz⟩ := okWide_struct Try.underlying26 hv
  have h5 : Try.prog.cellsOf 26 = 5 := by kernel_rfl
  have k3 : Try.prog.cellsOf 3 = 1 := by kernel_rfl
  have k24 : Try.prog.cellsOf 24 = 1 := by kernel_rfl
  obtain ⟨c0, c1, c2, c3, c4, rfl⟩ := array5 (hsz.trans h5)
  obtain ⟨fuel, hf⟩ := h
  obtain ⟨y0, y1, y2, y3, y4, n, _, t0, t1, t2, t3, t4⟩ := trod5 Try.underlying26 hf
  simp only [k3, k24] at t0 t1 t2 t3 t4
  simp [Value.cells] at t0 t1 t2 t3 t4
  obtain ⟨n0, e0, _, _⟩ := DataW.trod_int Try.underlying3 t0
  obtain ⟨n1, e1, _, _⟩ := DataW.trod_int Try.underlying3 t1
  obtain ⟨n2, e2, _, _⟩ := DataW.trod_int Try.underlying3 t2
  obtain ⟨n3, e3, _, _⟩ := DataW.trod_int Try.underlying3 t3
  obtain ⟨o, l, c, e4⟩ := Joins.slice_form Try.underlying24 t4
  simp at e0 e1 e2 e3 e4
  subst e0 e1 e2 e3 e4
  obtain ⟨hn, hd⟩ := open_dims t4
  exact ⟨n0, n1, n2, n3, o, l, c, rfl, hn, hd⟩

set_option maxRecDepth 100000 in
theorem lifted (os : Os) (started : os.Started) (H : Type) (enc : TypeId × Value → H) :
    ReturnsInHanded {} Try.checked os 3 .any (Rows.goodTypesSpec.pre6 enc Try.prog Try.f3 Rows.goodTypesRow.domain false) (Rows.goodTypesSpec.post enc Try.prog Try.f3 false true false false) := by
  refine returnsInHanded_of_change (C := Try.checked) own started (by kernel_rfl) Try.func3
    (ChangeSpec.witness6 (enc := enc) (C := Try.checked) false ⟨#[], #[.agg #[.int .i64 0, .bool false], .int .i64 0, .agg #[.int .i64 0, .int .i64 0, .int .i64 0, .int .i64 0, .slice none 0 0]], []⟩ 8 (by kernel_rfl) (by kernel_rfl) (by kernel_rfl) (by kernel_rfl)) ?_
  intro W base args ds gs before hval0 hW hcnd _
  have hval : ∀ (j : Nat) t v, Try.f3.params[j]? = some t → args[j]? = some v → Value.okWide Try.prog W .any base t v := hval0
  have hW' := hW
  obtain ⟨p, q, hA0, hV, rfl, hfz, hnd⟩ := hW
  have hA : DataW.TrodAll enc Try.prog W 0 (fun _ => true) true Try.f3.params.toList args.toList ds p := hA0
  rw [Try.params3] at hA hval
  obtain ⟨v0, vs0, d0, ds0, p0, q0, hargs, rfl, rfl, h0, r0⟩ := trodAll_cons hA
  obtain ⟨v1, vs1, d1, ds1, p1, q1, rfl, rfl, rfl, h1, r1⟩ := trodAll_cons r0
  obtain ⟨v2, vs2, d2, ds2, p2, q2, rfl, rfl, rfl, h2, r2⟩ := trodAll_cons r1
  obtain ⟨rfl, rfl, rfl⟩ := trodAll_nil r2
  obtain rfl : args = #[v0, v1, v2] := by cases args; simp_all
  obtain ⟨rfl, rfl⟩ := trodVars_none hV
  have k0 := h0
  have lt0 : ∀ x ∈ p0, x.block < W.heap.size := by obtain ⟨m, hm⟩ := k0; exact DataW.trod_lt m _ _ _ hm
  have k1 := h1
  have lt1 : ∀ x ∈ p1, x.block < W.heap.size := by obtain ⟨m, hm⟩ := k1; exact DataW.trod_lt m _ _ _ hm
  have k2 := h2
  have lt2 : ∀ x ∈ p2, x.block < W.heap.size := by obtain ⟨m, hm⟩ := k2; exact DataW.trod_lt m _ _ _ hm
  obtain ⟨c0, c1, y0, y1, m, rfl, rfl, rfl, hy0, hy1⟩ := Joins.open_agg2 Try.underlying23 (by kernel_rfl) (show Try.prog.cellsOf 23 = 2 by kernel_rfl) (hval 0 23 v0 rfl rfl) h0
  obtain ⟨b0, e0, rfl, wb0⟩ := DataW.trod_int Try.underlying3 hy0
  obtain ⟨s0, e1, rfl⟩ := DataW.trod_bool Try.underlying4 hy1
  simp at e0 e1
  subst e0 e1
  obtain ⟨a1, rfl, rfl, rfl, w1⟩ := open_int Try.underlying2 (hval 1 2 v1 rfl rfl) h1
  obtain ⟨sc, sl, wh, ty, o, n, cap, rfl, hn, hin⟩ := open_var (hval 2 26 v2 rfl rfl) h2
  clear hA0 hval0
  refine (walk b0 s0 a1 sc sl wh ty o n cap W hn hin).mono fun e W' ⟨he, bel⟩ => ?_
  subst he
  exact ⟨_, rfl, _, _, _, [], _, [], hW', trodAll_mk1 (shut_bool Try.underlying4 _), (trodAll_cons_mk (Below.trod laidOut (by kernel_rfl) (of_decide_eq_true (by kernel_rfl)) k0 bel lt0) (trodAll_cons_mk (Below.trod laidOut (by kernel_rfl) (of_decide_eq_true (by kernel_rfl)) k1 bel lt1) (trodAll_cons_mk (Below.trod laidOut (by kernel_rfl) (of_decide_eq_true (by kernel_rfl)) k2 bel lt2) trodAll_mk0))), rfl, bel.frame _, fun h => by cases h⟩

theorem over : Rows.goodTypesRow.holds Try.pinned (OpenSpec.ofChange Rows.goodTypesSpec) :=
  OpenClaim.holds_of_wide 3 Try.f3 rfl rfl rfl rfl rfl rfl rfl ⟨rfl, rfl, rfl, rfl, rfl⟩ rfl rfl rfl rfl rfl (by kernel_rfl) Try.func3 (by kernel_rfl)
    (of_decide_eq_true (by kernel_rfl)) (by unfold Func.isWrapper; first | (rw [if_pos (by decide +kernel)]; kernel_rfl) | (rw [if_neg (by decide +kernel)]; exact ⟨rfl, rfl⟩))
    (fun os started H enc _ => lifted os started H enc)

theorem proved : Rows.GoodTypesSaid := over
#print axioms proved
end Go.Proofs.Ytpbhplooikammaa.goodTypes
namespace Go.Proofs.Ytpbhplooikammaa
theorem goodTypes_holds : Rows.GoodTypesSaid := goodTypes.proved
end Go.Proofs.Ytpbhplooikammaa
