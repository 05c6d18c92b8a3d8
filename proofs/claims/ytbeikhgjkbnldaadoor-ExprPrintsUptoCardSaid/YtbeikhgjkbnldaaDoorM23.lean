/- The numbers that have to match. -/
import Derived.Test.YtbeikhgjkbnldaaDoorM22
namespace Go.Proofs.YtbeikhgjkbnldaaDoor
open Go.ChangeShapes Go.WideShapes Go.ChangeAt Go.RowKit
set_option linter.unusedVariables false
set_option linter.unusedSimpArgs false

theorem info_int64 : (Tryd.prog.info? 2).map (fun i => (i.zero, i.size, i.bytes)) = some (some (.int .i64 0), 1, 8) := by kernel_rfl
def wantG (ev : Int → Int × Int) (z : Int × Int) : Int := if z.2 = 1 then (ev z.1).1 else 0
/-- What stands in the numbers when i of them are done. -/
def wantI (ev : Int → Int × Int) (l : List (Int × Int)) (i : Nat) : List Int := (l.take i).map (wantG ev) ++ List.replicate (l.length - i) 0
theorem wantI_zero (ev : Int → Int × Int) (l : List (Int × Int)) : wantI ev l 0 = List.replicate l.length 0 := by unfold wantI; simp
theorem wantI_len {ev : Int → Int × Int} {l : List (Int × Int)} {i : Nat} (h : i ≤ l.length) : (wantI ev l i).length = l.length := by
  unfold wantI
  rw [List.length_append, List.length_map, List.length_take, List.length_replicate]
  omega
theorem wantI_full (ev : Int → Int × Int) (l : List (Int × Int)) : wantI ev l l.length = l.map (wantG ev) := by unfold wantI; simp
theorem wantI_at {ev : Int → Int × Int} {l : List (Int × Int)} {i : Nat} (h : i < l.length) : wantI ev l i = (l.take i).map (wantG ev) ++ 0 :: List.replicate (l.length - (i + 1)) 0 := by
  unfold wantI
  rw [show l.length - i = (l.length - (i + 1)) + 1 by omega, List.replicate_succ]
theorem wantI_succ {ev : Int → Int × Int} {l : List (Int × Int)} {i : Nat} (h : i < l.length) : wantI ev l (i + 1) = (l.take i).map (wantG ev) ++ wantG ev l[i] :: List.replicate (l.length - (i + 1)) 0 := by
  unfold wantI
  rw [List.take_succ_eq_append_getElem h, List.map_append, List.append_assoc]
  rfl
theorem wantI_skip {ev : Int → Int × Int} {l : List (Int × Int)} {i : Nat} (h : i < l.length) (h2 : l[i].2 ≠ 1) : wantI ev l (i + 1) = wantI ev l i := by
  rw [wantI_at h, wantI_succ h, show wantG ev l[i] = 0 from if_neg h2]
theorem wantI_set {ev : Int → Int × Int} {l : List (Int × Int)} {i : Nat} (h : i < l.length) {v : Int} (h2 : wantG ev l[i] = v) : (wantI ev l i).set i v = wantI ev l (i + 1) := by
  rw [wantI_at h, wantI_succ h, h2, List.set_append]
  rw [if_neg (by rw [List.length_map, List.length_take]; omega)]
  rw [show i - (List.map (wantG ev) (l.take i)).length = 0 by rw [List.length_map, List.length_take]; omega]
  rfl
theorem wanted_ok {ev : Int → Int × Int} : ∀ {l : List (Int × Int)}, (∀ j (hj : j < l.length), l[j].2 = 1 → (ev l[j].1).2 = 0) → wantedF ev l = (l.map (wantG ev), 0)
  | [], _ => rfl
  | z :: r, h => by
    have hr := wanted_ok (l := r) fun j hj h1 => h (j + 1) (by simp; omega) h1
    unfold wantedF
    rw [hr]
    by_cases hz : z.2 = 1
    · have h0 := h 0 (by simp) hz
      simp only [List.getElem_cons_zero] at h0
      rw [if_pos hz, if_neg (by simp [h0]), if_neg (by simp)]
      simp [wantG, hz]
    · rw [if_neg hz, if_neg (by simp)]
      simp [wantG, hz]
theorem wanted_bad {ev : Int → Int × Int} : ∀ {l : List (Int × Int)} {i : Nat} (hi : i < l.length), (∀ j (hj : j < l.length), j < i → l[j].2 = 1 → (ev l[j].1).2 = 0) → l[i].2 = 1 → (ev l[i].1).2 ≠ 0 → wantedF ev l = ([], (ev l[i].1).2)
  | [], i, hi, _, _, _ => by simp at hi
  | z :: r, 0, hi, h, h1, h2 => by
    simp only [List.getElem_cons_zero] at h1 h2 ⊢
    unfold wantedF
    rw [if_pos h1, if_pos h2]
  | z :: r, i + 1, hi, h, h1, h2 => by
    simp only [List.getElem_cons_succ] at h1 h2 ⊢
    have hr := wanted_bad (l := r) (i := i) (by simpa using hi) (fun j hj hji => h (j + 1) (by simp; omega) (by omega)) h1 h2
    unfold wantedF
    rw [hr]
    by_cases hz : z.2 = 1
    · have h0 := h 0 (by simp) (by omega) hz
      simp only [List.getElem_cons_zero] at h0
      rw [if_pos hz, if_neg (by simp [h0]), if_pos h2]
    · rw [if_neg hz, if_pos h2]
theorem own_row {W : World} {B B' g n : Nat} {l : List Int} (h : W.ownsRow B 2 1 (.slice (some ⟨g, 0, none⟩) n n) n (leftV l)) (hn : n ≤ 8) (hg : g < B') : Row B' (some ⟨g, 0, none⟩) 1 (intAt W) l := by
  have hl : l.length = n := by have := h.1; unfold leftV at this; rw [List.length_map] at this; omega
  refine ⟨by omega, .inr ⟨g, 0, rfl, hg, fun i hi => ?_⟩⟩
  unfold intAt
  rw [show 0 + i * 1 = i by omega]
  refine (World.ownsRow.cellAt h i (by omega)).trans ?_
  unfold leftV
  rw [List.getElem?_map, List.getElem?_eq_getElem hi]
  rfl

/-- How it ends. -/
structure WantP (r : List Int × Int) (n : Nat) (w : World) (e : Ending) (w' : World) : Prop where
  bel : Below w.heap.size w w'
  no : r.2 ≠ 0 → e = .returned (.tuple #[.slice none 0 0, .int .i64 r.2])
  yes : r.2 = 0 → e = .returned (.tuple #[.slice (some ⟨w.heap.size, 0, none⟩) r.1.length n, .int .i64 0]) ∧ r.1.length = n ∧ Row (w.heap.size + 1) (some ⟨w.heap.size, 0, none⟩) 1 (intAt w') r.1 ∧ w.heap.size < w'.heap.size
/-- How it stands. -/
structure WJ (w0 : World) (ev : Int → Int × Int) (l : List (Int × Int)) (n i : Nat) (W : World) : Prop where
  bel : Below w0.heap.size w0 W
  row : W.ownsRow w0.heap.size 2 1 (.slice (some ⟨w0.heap.size, 0, none⟩) n n) n (leftV (wantI ev l i))
  ok : ∀ j (hj : j < l.length), j < i → l[j].2 = 1 → (ev l[j].1).2 = 0
theorem WJ.start {w w2 : World} {ev : Int → Int × Int} {l : List (Int × Int)} {n : Nat} (hl : l.length = n) (hown : w2.ownsRow w.heap.size 2 1 (.slice (some ⟨w.heap.size, 0, none⟩) n n) n (madeCells #[Value.int .i64 0] n).toList) (hg : w.grownBy w2 none) : WJ w ev l n 0 w2 := by
  refine ⟨(Below.refl _ _).grown hg (Nat.le_refl _) (fun k hk => by cases hk), ?_, fun j _ h => by omega⟩
  have e : (madeCells #[Value.int .i64 0] n).toList = leftV (wantI ev l 0) := by
    unfold leftV
    rw [wantI_zero, hl, List.map_replicate]
    exact toList_madeCells_one _ _
  rw [← e]
  exact hown
theorem WJ.below {w0 W W' : World} {ev : Int → Int × Int} {l : List (Int × Int)} {n i : Nat} (k : WJ w0 ev l n i W) (hb : Below W.heap.size W W') : WJ w0 ev l n i W' :=
  ⟨k.bel.trans (hb.mono k.bel.size), owns_below k.row hb, k.ok⟩
theorem WJ.skip {w0 W : World} {ev : Int → Int × Int} {l : List (Int × Int)} {n i : Nat} (k : WJ w0 ev l n i W) (hi : i < l.length) (h : l[i].2 ≠ 1) : WJ w0 ev l n (i + 1) W := by
  refine ⟨k.bel, ?_, fun j hj hjk h1 => ?_⟩
  · rw [wantI_skip hi h]
    exact k.row
  · by_cases e : j = i
    · subst e; exact absurd h1 h
    · exact k.ok j hj (by omega) h1
theorem WJ.set {w0 W : World} {ev : Int → Int × Int} {l : List (Int × Int)} {n i : Nat} {v : Int} (k : WJ w0 ev l n i W) (hi : i < l.length) (h : l[i].2 = 1) (hv : ev l[i].1 = (v, 0)) : WJ w0 ev l n (i + 1) (W.setCell ⟨w0.heap.size, i, none⟩ (.int .i64 v)) := by
  refine ⟨k.bel.setCell (Nat.le_refl _) _, ?_, fun j hj hjk h1 => ?_⟩
  · have := (k.row.stored i (.int .i64 v)).1
    rw [← wantI_set hi (v := v) (by unfold wantG; rw [if_pos h, hv])]
    unfold leftV at this ⊢
    rw [List.map_set]
    exact this
  · by_cases e : j = i
    · subst e; rw [hv]
    · exact k.ok j hj (by omega) h1
theorem WJ.cell {w0 W : World} {ev : Int → Int × Int} {l : List (Int × Int)} {n i : Nat} (k : WJ w0 ev l n i W) (hl : l.length = n) (hi : i < l.length) : (∃ v, W.cell? ⟨w0.heap.size, i, none⟩ = some v) ∧ W.frozen? ⟨w0.heap.size, i, none⟩ = false := by
  refine ⟨?_, k.row.frozenAt i⟩
  have h1 := wantI_len (ev := ev) (l := l) (i := i) (by omega)
  refine ⟨_, (World.ownsRow.cellAt k.row i (by omega)).trans (List.getElem?_eq_getElem (by unfold leftV; rw [List.length_map]; omega))⟩

set_option maxHeartbeats 4000000 in
set_option maxRecDepth 100000 in
theorem wantedC {B pe : Nat} {h : MH} {hs : SH} {ao : Option Addr} {ac : Nat} {E : EnvD} {ev : Int → Int × Int} {N : Nat} (args mat : List Int) (o1 o2 : Option Addr) (p1 p2 : Nat) (w : World) (hk : Ek B w pe h hs ao ac E) (he : EvC B pe h hs ao ac E ev N) (h1 : Row B o1 1 (intAt w) args) (h2 : Row B o2 1 (intAt w) mat) (hn : args.length ≤ 8) (hm : mat.length = args.length) (hin : ∀ x ∈ args, 0 ≤ x ∧ x < N) :
    Calls Tryd.prog 50 #[.pointer (some ⟨pe, 0, none⟩), .slice o1 args.length p1, .slice o2 mat.length p2] w fun e w' => WantP (wantedF ev (args.zip mat)) args.length w e w' := by
  have HK := Lib.hid hk
  have HE := Lib.hid he
  have HR := Lib.hid (And.intro h1 h2)
  have HIN := Lib.hid hin
  have hB : B ≤ w.heap.size := hk.leW
  have l1 := h1.1
  have l2 := h2.1
  have HZL : Hid ((args.zip mat).length = args.length) := Lib.hid (by rw [List.length_zip]; omega)
  obtain ⟨i3, hi3, hz0, hz1, hz2⟩ := info_parts info_int64
  have HI := Lib.hid (And.intro hi3 (And.intro hz0 (And.intro hz1 hz2)))
  have HL1 : Hid (args.length ≤ maxLen) := Lib.hid (by unfold maxLen; omega)
  have HL2 : Hid (i3.bytes * args.length ≤ 281474976710656) := Lib.hid (by rw [HI.out.2.2.2]; omega)
  have HN := Lib.hid (And.intro hn hm)
  clear hi3 hz0 hz1 hz2 hk he h1 h2 hin
  go_enter Tryd.func50, Tryd.ntmps50
  go_wp2_with (refine wpList_make_full _ rfl _ _ 22 rfl w.heap.size 2 i3 (.int .i64 0) 1 Tryd.underlying22 HI.out.1 HI.out.2.1 HI.out.2.2.1 .i64 .i64 _ _ args.length rfl rfl rfl rfl HL2.out HL1.out (Nat.le_refl _) ?_)
  intro w2 hown hgrow
  have HWJ := Lib.hid (WJ.start (ev := ev) HZL.out hown hgrow)
  clear hown hgrow
  go_wp2_with fail
  go_loopw [18] (fun iv W => ∃ i : Nat, iv = .int .i64 i ∧ i ≤ args.length ∧ Hid (WJ w ev (args.zip mat) args.length i W)) (fun iv _ => args.length - (intOf iv).toNat)
  case atStart => exact ⟨0, rfl, by omega, HWJ⟩
  case round =>
    clear HWJ
    obtain ⟨i, rfl, hi, HJ⟩ := hrel
    have hi0 : (0 : Int) ≤ i := by omega
    by_cases hlt : i < args.length
    · have hlti : (i : Int) < args.length := by omega
      have hlt2 : i < mat.length := by omega
      have hlti2 : (i : Int) < mat.length := by omega
      obtain ⟨g1, off1, ho1, hg1, e1⟩ := (HR.out.1.mono fun _ _ _ hg => intAt.below (HJ.out.bel.mono hB) hg).cell hlt
      obtain ⟨g2, off2, ho2, hg2, e2⟩ := (HR.out.2.mono fun _ _ _ hg => intAt.below (HJ.out.bel.mono hB) hg).cell hlt2
      subst ho1 ho2
      obtain ⟨x, hx⟩ : ∃ q, args[i] = q := ⟨_, rfl⟩
      obtain ⟨m, hm⟩ : ∃ q, mat[i] = q := ⟨_, rfl⟩
      have hzl : i < (args.zip mat).length := by rw [HZL.out]; exact hlt
      have HZ : Hid ((args.zip mat)[i] = (x, m)) := Lib.hid (by rw [← hx, ← hm]; simp)
      have hxr := HIN.out x (hx ▸ List.getElem_mem hlt)
      rw [hx] at e1
      rw [hm] at e2
      unfold intAt at e1 e2
      rw [Nat.mul_one] at e1 e2
      clear hx hm
      by_cases hm1 : m = 1
      · have hq : (m != 1) = false := by rw [bne_eq_false_iff_eq]; exact hm1
        have HEC := Lib.hid (HE.out x wr hxr.1 hxr.2 (HK.out.below HJ.out.bel))
        obtain ⟨⟨v, er⟩, hev⟩ : ∃ q, ev x = q := ⟨_, rfl⟩
        rw [hev] at HEC
        simp only at HEC
        go_wp2_with fail
        refine HEC.out.mono ?_
        rintro e W1 ⟨rfl, hb1⟩
        have HJ1 := Lib.hid (HJ.out.below hb1)
        clear hb1 e1 e2 HEC
        by_cases h0 : er = 0
        · have hd0 : (er != 0) = false := by rw [bne_eq_false_iff_eq]; exact h0
          subst h0
          obtain ⟨⟨cv, hcv⟩, hfz⟩ := HJ1.out.cell HZL.out hzl
          have HS : Hid (WJ w ev (args.zip mat) args.length (i + 1) (W1.setCell ⟨w.heap.size, i, none⟩ (.int .i64 v))) := Lib.hid (HJ1.out.set hzl (by rw [HZ.out]; exact hm1) (by rw [HZ.out]; exact hev))
          go_wp2_with fail
          go_roundw
          case rel => exact ⟨i + 1, by go_num, by omega, HS⟩
          case measure => simp [intOf]; omega
        · have hd0 : (er != 0) = true := by rw [bne_iff_ne]; exact h0
          have HV : Hid (wantedF ev (args.zip mat) = ([], er)) := Lib.hid (by
            have := wanted_bad hzl HJ1.out.ok (by rw [HZ.out]; exact hm1) (by rw [HZ.out, hev]; exact h0)
            rw [this, HZ.out, hev])
          go_wp2_with fail
          go_ret2
          exact ⟨HJ1.out.bel, fun _ => by rw [HV.out]; rfl, fun h => by rw [HV.out] at h; exact absurd h h0⟩
      · have hq : (m != 1) = true := by rw [bne_iff_ne]; exact hm1
        have HS := Lib.hid (HJ.out.skip hzl (by rw [HZ.out]; exact hm1))
        go_wp2_with fail
        go_roundw
        case rel => exact ⟨i + 1, by go_num, by omega, HS⟩
        case measure => simp [intOf]; omega
    · have hlti : ¬ (i : Int) < args.length := by omega
      have hie : i = args.length := by omega
      subst hie
      have HV : Hid (wantedF ev (args.zip mat) = ((args.zip mat).map (wantG ev), 0)) := Lib.hid (wanted_ok fun j hj h => HJ.out.ok j hj (by have := HZL.out; omega) h)
      have HL : Hid ((wantedF ev (args.zip mat)).1.length = args.length) := Lib.hid (by rw [HV.out, List.length_map]; exact HZL.out)
      go_wp2_with fail
      go_ret2
      refine ⟨HJ.out.bel, fun h => absurd (by rw [HV.out]) h, fun _ => ⟨by rw [HL.out]; rfl, HL.out, ?_, ?_⟩⟩
      · have hr := HJ.out.row
        have e : wantI ev (args.zip mat) args.length = (wantedF ev (args.zip mat)).1 := by
          rw [HV.out, ← HZL.out]
          exact wantI_full _ _
        rw [e] at hr
        exact own_row hr HN.out.1 (Nat.lt_succ_self _)
      · exact (HJ.out.row.lt _ rfl).2
end Go.Proofs.YtbeikhgjkbnldaaDoor
