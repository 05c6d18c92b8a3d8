/- por.Safe, every model. -/
import Derived.Test.YtofdfaopabmfoaaM31
import Derived.Test.YtofdfaopabmfoaaM01
import Derived.Deep.CutBlock
namespace Go.Proofs.Ytofdfaopabmfoaa
open Go.ChangeShapes Go.WideShapes Go.ChangeAt Go.RowKit
set_option linter.unusedVariables false
set_option linter.unusedSimpArgs false

theorem adm_kind (m : ModelD) : admE m = 0 ∨ admE m = 40 ∨ admE m = 44 := by
  unfold admE
  repeat' split
  all_goals simp
theorem adm_good {m : ModelD} (h : admE m = 0) : goodB m = true := by
  unfold admE at h
  split at h
  · assumption
  · cases h
theorem good_many {m : ModelD} (h : goodB m = true) : m.procs.length ≤ 16 := by
  have h1 := GM.of h
  unfold goodB checkL at h
  rw [decide_eq_true_eq] at h
  by_cases h3 : (expressionsL m).2 = true
  · unfold expressionsL at h3
    split at h3
    · cases h3
    · rename_i hh
      unfold exprsHead at hh
      rw [decide_eq_true_eq] at hh
      omega
  · have h4 : (expressionsL m).2 = false := by simpa using h3
    rw [if_pos h4] at h
    repeat' (split at h)
    all_goals (simp at h)
theorem safes_at {m : ModelD} {p : ProcD} {j : Nat} {n : Nat} (hn : p.locs.length = n) (hj : j < n) : (((safesL m p).take j ++ List.replicate (n - j) false).set j (safeLB m p p.locs[j])) = (safesL m p).take (j + 1) ++ List.replicate (n - (j + 1)) false := by
  have hl : (safesL m p).length = n := by unfold safesL; rw [List.length_map, hn]
  have h1 : ((safesL m p).take j).length = j := by rw [List.length_take]; omega
  rw [List.set_append_right _ _ (by omega), h1, Nat.sub_self]
  rw [show n - j = (n - (j + 1)) + 1 by omega, List.replicate_succ, List.set_cons_zero]
  rw [List.take_succ_eq_append_getElem (by omega), List.append_assoc]
  simp [safesL]
theorem bools_made (n : Nat) : (madeCells #[Value.bool false] n).toList = boolV ([] ++ List.replicate n false) := by
  unfold boolV
  rw [List.nil_append, List.map_replicate]
  exact toList_madeCells_one _ _

set_option maxRecDepth 100000 in
set_option maxHeartbeats 8000000 in
theorem safesC {h : MH} {m : ModelD} (w : World) (hd : MD w.heap.size w h m) : Calls Try.prog 7 #[mV h m] w (SafesP w m) := by
  obtain ⟨CS, hCS⟩ : ∃ c, c = mCells h m := ⟨_, rfl⟩
  have HCS := Lib.hid hCS
  have HX := Lib.hid (Mx.new hd hCS)
  have HAD := Lib.hid (fun (W : World) (hd : MD W.heap.size W h m) => admitsC W hd)
  have HNEW := Lib.hid (fun (W : World) (hd : MD W.heap.size W h m) => newLookerC W hd hCS)
  have l4 := hd.procs.1
  unfold mV at HAD ⊢
  rw [← hCS] at HAD ⊢
  clear hd hCS
  go_enter Try.func7, Try.ntmps7
  go_upto_region 1 with fail
  generalize w.alloc (.cells CS 29) = W1 at HX ⊢
  go_wp2_with (refine wpList_load_row rfl _ _ rfl _ rfl _ CS _ _ HX.out.bx.box Try.underlying29 rfl HX.out.info ?_)
  refine (HAD.out W1 HX.out.here).mono ?_
  rintro e W2 ⟨rfl, hb2⟩
  have HX2 := Lib.hid (HX.out.below hb2)
  clear hb2 HX HAD
  by_cases ha : admE m = 0
  rotate_left
  · obtain ⟨a, hA⟩ : ∃ a, admE m = a := ⟨_, rfl⟩
    rw [hA] at ha ⊢
    have HA := Lib.hid hA
    have hb : (a != 0) = true := by rw [bne_iff_ne]; exact ha
    have HA0 := Lib.hid ha
    clear hA ha
    go_wp2_with fail
    go_ret2
    exact ⟨HX2.out.bx.bel, fun _ => by rw [HA.out]; rfl, fun h => absurd (HA.out.symm.trans h) HA0.out⟩
  have HA := Lib.hid ha
  have HGM := Lib.hid (GM.of (adm_good ha))
  have hm16 := good_many (adm_good ha)
  have hm1 := (GM.of (adm_good ha)).least
  rw [ha]
  clear ha
  go_wp2_with (refine wpList_load_row rfl _ _ rfl _ rfl _ CS _ _ HX2.out.bx.box Try.underlying29 rfl HX2.out.info ?_)
  refine (HNEW.out W2 HX2.out.here).mono ?_
  rintro e W3 ⟨pl, pm, pp, rfl, hlk, hb3⟩
  have HX3 := Lib.hid (HX2.out.below hb3)
  have HJ0 : Hid (PRJ w CS h m pl pm pp W3.heap.size (.slice none 0 0) [] [] W3) := Lib.hid
    ⟨⟨HCS.out, hlk.bl, hlk.bm, hlk.bp, HX3.out.bx.bel.size, HX3.out.md⟩, HX3.out.bx.box, HX3.out.bx.bel, World.ownsRow_nil _ _ _ _, rfl, fun i hi _ => by simp at hi, Nat.le_refl _⟩
  have c4 := HX3.out.c4
  clear hlk hb3 HX2 HX3 HNEW
  obtain ⟨i4, hi4, hz0, hz1, hz2⟩ := held.info_parts info_bool
  have HI := Lib.hid (And.intro hi4 (And.intro hz0 (And.intro hz1 hz2)))
  obtain ⟨i5, hi5, hy0, hy1, hy2⟩ := held.info_parts info_bools
  have HI5 := Lib.hid (And.intro hi5 (And.intro hy0 (And.intro hy1 hy2)))
  clear hi4 hz0 hz1 hz2 hi5 hy0 hy1 hy2
  go_wp2_with fail
  clear c4
  go_loopw [6, 20] (fun ov iv W => ∃ (k : Nat) (xs : List Value) (G : Nat) (v : Value), iv = .int .i64 k ∧ v = ov ∧ k ≤ m.procs.length ∧ Hid (PRJ w CS h m pl pm pp G v xs ((m.procs.take k).map (safesL m)) W)) (fun ov iv _ => m.procs.length - (intOf iv).toNat)
  case atStart => exact ⟨0, [], _, _, rfl, rfl, by omega, HJ0⟩
  case round =>
    clear HJ0
    obtain ⟨k, xs, G, v, rfl, rfl, hk, HJ⟩ := hrel
    have hk0 : (0 : Int) ≤ k := by omega
    by_cases hlt : k < m.procs.length
    · have hlti : (k : Int) < m.procs.length := by omega
      obtain ⟨p, hp⟩ : ∃ p, m.procs[k]? = some p := ⟨_, List.getElem?_eq_getElem hlt⟩
      have HPK := Lib.hid hp
      obtain ⟨g, off, ho, hg, hat⟩ := HJ.out.lk.md.procs.get hp
      have HG : Hid (g < w.heap.size) := Lib.hid hg
      have HPA : Hid (∀ W, Below w.heap.size w W → MD w.heap.size W h m → procAt w.heap.size W g (off + k * 10) p) := Lib.hid fun W hb hmd => by
        obtain ⟨g', off', ho', hg', hat'⟩ := hmd.procs.get hp
        rw [ho] at ho'
        injection ho' with ho'
        injection ho' with e1 e2
        subst e1 e2
        exact hat'
      have hmn := HGM.out.many hp
      have c4 : wr.cell? ⟨w.heap.size, 4, none⟩ = some (.slice (some ⟨g, off, none⟩) m.procs.length h.pc) := by rw [← ho]; exact (cell_of_row _ _ _ _ _ _ HJ.out.bm).trans (by rw [HCS.out]; rfl)
      have HC4 : Hid (∀ W : World, W.heap[w.heap.size]? = some (.cells CS 29 (0, 0)) → W.cell? ⟨w.heap.size, 4, none⟩ = some (.slice (some ⟨g, off, none⟩) m.procs.length h.pc)) := Lib.hid fun W hW => by rw [← ho]; exact (cell_of_row _ _ _ _ _ _ hW).trans (by rw [HCS.out]; rfl)
      obtain ⟨lo, lc, d4, hrl⟩ := hat.locs
      have HL1 : Hid (p.locs.length ≤ maxLen) := Lib.hid (by unfold maxLen; omega)
      have HL2 : Hid (i4.bytes * p.locs.length ≤ 281474976710656) := Lib.hid (by rw [HI.out.2.2.2]; omega)
      have HW1 : Hid (w.heap.size + 1 ≤ wr.heap.size) := Lib.hid (lt_of_block HJ.out.bm)
      clear ho hg hat hrl hp
      go_wp2_with (refine wpList_make_full _ rfl _ _ 37 rfl (w.heap.size + 1) 4 i4 (.bool false) 1 Try.underlying37 HI.out.1 HI.out.2.1 HI.out.2.2.1 .i64 .i64 _ _ p.locs.length rfl rfl rfl rfl HL2.out HL1.out HW1.out ?_)
      intro w2 hown hgrow
      have hb : Below wr.heap.size wr w2 := (Below.refl _ _).grown hgrow (Nat.le_refl _) (fun k hk => by cases hk)
      have HJ2 := Lib.hid ((HJ.out.up HJ.out.le (Nat.le_refl _)).below hb)
      have HOW : Hid (w2.ownsRow (w.heap.size + 1) 4 1 (.slice (some ⟨wr.heap.size, 0, none⟩) p.locs.length p.locs.length) p.locs.length (boolV ((safesL m p).take 0 ++ List.replicate (p.locs.length - 0) false))) := Lib.hid (by
        have e : (madeCells #[Value.bool false] p.locs.length).toList = boolV ((safesL m p).take 0 ++ List.replicate (p.locs.length - 0) false) := by
          rw [bools_made]; simp
        rw [← e]
        exact hown)
      have HGS : Hid (w.heap.size + 1 ≤ wr.heap.size) := HW1
      generalize wr.heap.size = gS at HJ2 HOW HGS ⊢
      have HSL : Hid (∀ j, j < p.locs.length → ∃ hj : j < p.locs.length, True) := Lib.hid fun j hj => ⟨hj, trivial⟩
      clear hown hgrow hb c4 d4 HW1 HJ
      go_wp2_with fail
      go_loopw [33] (fun iv W => ∃ j : Nat, iv = .int .i64 j ∧ j ≤ p.locs.length ∧ Hid (PRJ w CS h m pl pm pp gS v xs ((m.procs.take k).map (safesL m)) W) ∧ Hid (W.ownsRow (w.heap.size + 1) 4 1 (.slice (some ⟨gS, 0, none⟩) p.locs.length p.locs.length) p.locs.length (boolV ((safesL m p).take j ++ List.replicate (p.locs.length - j) false)))) (fun iv _ => p.locs.length - (intOf iv).toNat)
      case atStart => exact ⟨0, rfl, by omega, HJ2, HOW⟩
      case round =>
        clear HJ2 HOW
        obtain ⟨j, rfl, hj, HJ, HOW⟩ := hrel
        have hj0 : (0 : Int) ≤ j := by omega
        by_cases hlj : j < p.locs.length
        · have hlji : (j : Int) < p.locs.length := by omega
          have c4 := HC4.out wr HJ.out.bm
          have HPW := Lib.hid (HPA.out wr HJ.out.bel HJ.out.lk.md)
          have HSA := Lib.hid (safes_at (m := m) (p := p) rfl hlj)
          obtain ⟨l, hl⟩ : ∃ l, p.locs[j]? = some l := ⟨_, List.getElem?_eq_getElem hlj⟩
          have HLE : Hid (safeLB m p p.locs[j] = safeLB m p l) := Lib.hid (by rw [List.getElem?_eq_getElem hlj] at hl; injection hl with hl; rw [hl])
          have HLL := Lib.hid hl
          clear hl
          go_wp2_with fail
          refine (lkSafeC HGM.out p HPK.out l HLL.out wr HJ.out.lk HPW.out HG.out).mono ?_
          rintro e W5 ⟨rfl, hb5⟩
          have HJ5 := Lib.hid (HJ.out.below hb5)
          have HO5 := Lib.hid (owns_below HOW.out hb5)
          have hcell : ∃ u, W5.cell? ⟨gS, j, none⟩ = some u := ⟨_, (HO5.out.cellAt j (by omega)).trans (List.getElem?_eq_getElem (by rw [HO5.out.1]; omega))⟩
          obtain ⟨u, hcell⟩ := hcell
          have hfz := HO5.out.frozenAt j
          clear hb5 c4 HJ HOW
          go_wp2_with fail
          have HN := Lib.hid (HJ5.out.set (Nat.le_refl _) HO5.out j (safeLB m p l))
          generalize W5.setCell ⟨gS, j, none⟩ (.bool (safeLB m p l)) = W6 at HN ⊢
          rw [← HLE.out, HSA.out] at HN
          have HN1 := Lib.hid HN.out.1
          have HN2 := Lib.hid HN.out.2
          clear hcell hfz HN
          go_roundw
          case rel => exact ⟨j + 1, by go_num, by omega, HN1, HN2⟩
          case measure => simp [intOf]; omega
        · have hlji : ¬ (j : Int) < p.locs.length := by omega
          have hjn : j = p.locs.length := by omega
          have HOF : Hid (wr.ownsRow (w.heap.size + 1) 4 1 (.slice (some ⟨gS, 0, none⟩) p.locs.length p.locs.length) p.locs.length (boolV (safesL m p))) := Lib.hid (by
            have h1 := HOW.out
            rw [hjn, Nat.sub_self, List.take_of_length_le (by unfold safesL; rw [List.length_map]; exact Nat.le_refl _)] at h1
            simpa using h1)
          have hxl : xs.length ≤ 16 := by
            have h1 := HJ.out.len
            rw [List.length_map, List.length_take] at h1
            omega
          have HMAP : Hid ((m.procs.take k).map (safesL m) ++ [safesL m p] = (m.procs.take (k + 1)).map (safesL m)) := Lib.hid (by
            obtain ⟨hk', e⟩ := List.getElem?_eq_some_iff.1 HPK.out
            rw [List.take_succ_eq_append_getElem hk', List.map_append, ← e]
            rfl)
          have HGW : Hid (w.heap.size + 1 ≤ wr.heap.size) := Lib.hid (lt_of_block HJ.out.bm)
          clear hjn HOW
          go_wp2_with (at_builtin; refine wpList_append_own _ rfl _ _ 33 rfl (w.heap.size + 1) 37 i5 (.slice none 0 0) 1 24 Try.underlying33 HI5.out.1 HI5.out.2.1 HI5.out.2.2.1 HI5.out.2.2.2 rfl (by decide) v xs.length xs rfl (HJ.out.own.alloc _) ⟨wr.heap.size, 0, none⟩ 1 1 [.slice (some ⟨gS, 0, none⟩) p.locs.length p.locs.length] rfl rfl (one_val _ _ _) (by intro u hu; simp at hu; subst hu; rfl) (by unfold maxLen; (try simp); omega) (by (try simp); omega) (by simp; have := HGW.out; omega) ?_)
          intro v1 w1 hown hgrow _
          have HJN := Lib.hid (HJ.out.put _ hgrow hown HOF.out (by unfold safesL; rw [List.length_map]))
          rw [HMAP.out] at HJN
          clear hown hgrow hxl HOF HJ
          go_wp2_with fail
          go_roundw
          case rel => exact ⟨k + 1, _, _, _, by go_num, rfl, by omega, HJN⟩
          case measure => simp [intOf]; omega
    · have hlti : ¬ (k : Int) < m.procs.length := by omega
      have hkn : k = m.procs.length := by omega
      have HJF : Hid (PRJ w CS h m pl pm pp G v xs (m.procs.map (safesL m)) wr) := Lib.hid (by have h1 := HJ.out; rw [hkn, List.take_length] at h1; exact h1)
      clear hkn HJ
      go_wp2_with fail
      go_ret2
      exact HJF.out.done (by omega) (by omega) (fun p hp => by
        obtain ⟨i, hi⟩ := List.mem_iff_getElem?.1 hp
        exact HGM.out.many hi) HA.out
end Go.Proofs.Ytofdfaopabmfoaa
/- Many allocations, one behind the other. -/
namespace Go.Proofs.Ytofdfaopabmfoaa
open Go.ChangeShapes Go.WideShapes Go.ChangeAt Go.RowKit

def allocs : World → List Obj → World
  | w, [] => w
  | w, o :: r => allocs (w.alloc o) r
theorem allocs_below : ∀ (l : List Obj) (w : World) (B : Nat), B ≤ w.heap.size → Below B w (allocs w l)
  | [], w, B, h => Below.refl _ _
  | o :: r, w, B, h => ((Below.refl B w).alloc h o).trans (allocs_below r (w.alloc o) B (by simp; omega))
theorem allocs_size : ∀ (l : List Obj) (w : World), (allocs w l).heap.size = w.heap.size + l.length
  | [], w => by simp [allocs]
  | o :: r, w => by rw [allocs, allocs_size r (w.alloc o)]; simp; omega
theorem allocs_at : ∀ {l : List Obj} {w : World} {k : Nat} {o : Obj}, l[k]? = some o → (allocs w l).heap[w.heap.size + k]? = some o
  | [], w, k, o, h => by simp at h
  | x :: r, w, 0, o, h => by
    simp only [List.getElem?_cons_zero, Option.some.injEq] at h
    subst h
    refine ((allocs_below r (w.alloc x) (w.alloc x).heap.size (Nat.le_refl _)).block _ (by simp)).trans ?_
    exact heap_alloc_new w x
  | x :: r, w, k + 1, o, h => by
    simp only [List.getElem?_cons_succ] at h
    have h2 := allocs_at (w := w.alloc x) h
    rw [World.size_alloc] at h2
    rw [show w.heap.size + (k + 1) = w.heap.size + 1 + k from by omega]
    exact h2
theorem allocs_lt {l : List Obj} {w : World} {k : Nat} {o : Obj} (h : l[k]? = some o) : w.heap.size + k < (allocs w l).heap.size := by
  rw [allocs_size]
  have := (List.getElem?_eq_some_iff.1 h).1
  omega
theorem row_one1 {α : Type} {B : Nat} {g : Nat} {k : Nat} {R : Nat → Nat → α → Prop} {x : α} (hg : g < B) (h : R g 0 x) : Row B (some ⟨g, 0, none⟩) k R [x] :=
  ⟨by simp, .inr ⟨g, 0, rfl, hg, fun i hi => by
    obtain rfl : i = 0 := by simp at hi; omega
    simpa using h⟩⟩
end Go.Proofs.Ytofdfaopabmfoaa
/- Layer 19's example holds. -/
namespace Go.Proofs.Ytofdfaopabmfoaa
open Go.ChangeShapes Go.WideShapes Go.ChangeAt Go.RowKit
set_option linter.unusedVariables false
set_option linter.unusedSimpArgs false

/-! ### The example, as data -/
def xsD : List ExprD := [⟨1, 1, -1, -1, -1, ⟨0, 0, 0, 0, []⟩, [], []⟩, ⟨2, 0, -1, -1, -1, ⟨1, 0, -1, -1, []⟩, [], []⟩, ⟨2, 0, -1, -1, -1, ⟨0, 0, -1, -1, []⟩, [], []⟩]
def lastD : ExprD := ⟨32, 0, -1, -1, -1, ⟨0, 0, 0, 0, []⟩, [], []⟩
def trD (a q : Int) : TransD := ⟨⟨2, a, 0, 0, [], [], ByteArray.empty⟩, q, 0⟩
def plD : List LocD := [⟨[trD 1 1], [], false, false, false, false, false⟩, ⟨[trD 2 2], [], false, false, false, false, false⟩, ⟨[], [], false, false, false, false, false⟩]
def ppD : ProcD := ⟨ByteArray.empty, 0, [(8, false)], [0], plD, 0, 2, 0, 1, -1⟩
def pmD (xs : List ExprD) : ModelD := ⟨[(8, false)], [0], [], [], [ppD], -1, xs⟩
theorem pm_adm : admE (pmD xsD) = 0 := by decide +kernel
theorem pm_adm2 : admE (pmD (xsD ++ [lastD])) = 44 := by decide +kernel
theorem pm_safe : (pmD xsD).procs.map (safesL (pmD xsD)) = [[true, false, false]] := by decide +kernel

/-! ### The example, in memory -/
def oG : Array Value := #[.int .i64 8, .bool false]
def oI : Array Value := #[.int .i64 0]
def oX : List Value := [.int .i64 1, .int .i64 1, .int .i64 (-1), .int .i64 (-1), .int .i64 (-1), .int .i64 0, .int .i64 0, .int .i64 0, .int .i64 0, .slice none 0 0, .slice none 0 0, .slice none 0 0, .int .i64 2, .int .i64 0, .int .i64 (-1), .int .i64 (-1), .int .i64 (-1), .int .i64 1, .int .i64 0, .int .i64 (-1), .int .i64 (-1), .slice none 0 0, .slice none 0 0, .slice none 0 0, .int .i64 2, .int .i64 0, .int .i64 (-1), .int .i64 (-1), .int .i64 (-1), .int .i64 0, .int .i64 0, .int .i64 (-1), .int .i64 (-1), .slice none 0 0, .slice none 0 0, .slice none 0 0]
def oL : List Value := [.int .i64 32, .int .i64 0, .int .i64 (-1), .int .i64 (-1), .int .i64 (-1), .int .i64 0, .int .i64 0, .int .i64 0, .int .i64 0, .slice none 0 0, .slice none 0 0, .slice none 0 0]
def oT1 : Array Value := #[.int .i64 2, .int .i64 1, .int .i64 0, .int .i64 0, .slice none 0 0, .slice none 0 0, .string ⟨#[]⟩, .int .i64 1, .int .i64 0]
def oT2 : Array Value := #[.int .i64 2, .int .i64 2, .int .i64 0, .int .i64 0, .slice none 0 0, .slice none 0 0, .string ⟨#[]⟩, .int .i64 2, .int .i64 0]
def oLs (t1 t2 : Nat) : Array Value := #[.slice (some ⟨t1, 0, none⟩) 1 1, .slice none 0 0, .bool false, .bool false, .bool false, .bool false, .bool false, .slice (some ⟨t2, 0, none⟩) 1 1, .slice none 0 0, .bool false, .bool false, .bool false, .bool false, .bool false, .slice none 0 0, .slice none 0 0, .bool false, .bool false, .bool false, .bool false, .bool false]
def oP (f i l : Nat) : Array Value := #[.string ⟨#[]⟩, .int .i64 0, .slice (some ⟨f, 0, none⟩) 1 1, .slice (some ⟨i, 0, none⟩) 1 1, .slice (some ⟨l, 0, none⟩) 3 3, .int .i64 0, .int .i64 2, .int .i64 0, .int .i64 1, .int .i64 (-1)]
def oM (g i p : Nat) (xv : Value) : Array Value := #[.slice (some ⟨g, 0, none⟩) 1 1, .slice (some ⟨i, 0, none⟩) 1 1, .slice none 0 0, .slice none 0 0, .slice (some ⟨p, 0, none⟩) 1 1, .int .i64 (-1), xv]
structure Pm (W : World) (g i f fi t1 t2 l p : Nat) : Prop where
  bg : W.heap[g]? = some (.cells oG 59 (0, 0))
  bi : W.heap[i]? = some (.cells oI 2 (0, 0))
  bf : W.heap[f]? = some (.cells oG 59 (0, 0))
  bfi : W.heap[fi]? = some (.cells oI 2 (0, 0))
  b1 : W.heap[t1]? = some (.cells oT1 63 (0, 0))
  b2 : W.heap[t2]? = some (.cells oT2 63 (0, 0))
  bl : W.heap[l]? = some (.cells (oLs t1 t2) 67 (0, 0))
  bp : W.heap[p]? = some (.cells (oP f fi l) 40 (0, 0))
def pmH (g i p : Nat) (xo : Option Addr) (xc : Nat) : MH := ⟨some ⟨g, 0, none⟩, 1, some ⟨i, 0, none⟩, 1, none, 0, none, 0, some ⟨p, 0, none⟩, 1, xo, xc⟩
section
variable {W W' : World} {g i f fi t1 t2 l p : Nat}
theorem Pm.below (k : Pm W g i f fi t1 t2 l p) (hb : Below W.heap.size W W') : Pm W' g i f fi t1 t2 l p :=
  ⟨(hb.block _ (lt_of_block k.bg)).trans k.bg, (hb.block _ (lt_of_block k.bi)).trans k.bi, (hb.block _ (lt_of_block k.bf)).trans k.bf, (hb.block _ (lt_of_block k.bfi)).trans k.bfi, (hb.block _ (lt_of_block k.b1)).trans k.b1, (hb.block _ (lt_of_block k.b2)).trans k.b2, (hb.block _ (lt_of_block k.bl)).trans k.bl, (hb.block _ (lt_of_block k.bp)).trans k.bp⟩
/-- Blocks of other types turn. -/
theorem Pm.kept (k : Pm W g i f fi t1 t2 l p) {row : Option Nat} (hg : W.grownBy W' row) (hr : ∀ b cs T fr, W.heap[b]? = some (.cells cs T fr) → T ≠ 57 → T ≠ 29 → row ≠ some b) : Pm W' g i f fi t1 t2 l p :=
  ⟨(hg.block _ (lt_of_block k.bg) (fun e => hr _ _ _ _ k.bg (by decide) (by decide) e.symm)).trans k.bg, (hg.block _ (lt_of_block k.bi) (fun e => hr _ _ _ _ k.bi (by decide) (by decide) e.symm)).trans k.bi, (hg.block _ (lt_of_block k.bf) (fun e => hr _ _ _ _ k.bf (by decide) (by decide) e.symm)).trans k.bf, (hg.block _ (lt_of_block k.bfi) (fun e => hr _ _ _ _ k.bfi (by decide) (by decide) e.symm)).trans k.bfi, (hg.block _ (lt_of_block k.b1) (fun e => hr _ _ _ _ k.b1 (by decide) (by decide) e.symm)).trans k.b1, (hg.block _ (lt_of_block k.b2) (fun e => hr _ _ _ _ k.b2 (by decide) (by decide) e.symm)).trans k.b2, (hg.block _ (lt_of_block k.bl) (fun e => hr _ _ _ _ k.bl (by decide) (by decide) e.symm)).trans k.bl, (hg.block _ (lt_of_block k.bp) (fun e => hr _ _ _ _ k.bp (by decide) (by decide) e.symm)).trans k.bp⟩
theorem row_list {α : Type} {B : Nat} {g : Nat} {k : Nat} {R : Nat → Nat → α → Prop} {l : List α} (hg : g < B) (hl : l.length ≤ 100) (h : ∀ i (hi : i < l.length), R g (i * k) l[i]) : Row B (some ⟨g, 0, none⟩) k R l :=
  ⟨by omega, .inr ⟨g, 0, rfl, hg, fun i hi => by rw [Nat.zero_add]; exact h i hi⟩⟩
theorem x_at {B a : Nat} {xg : Nat} {cs : List Value} (x : ExprD) (h0 : x.v.dims = []) (h1 : x.args = []) (h2 : x.mat = []) (hc : ∀ i, i < cs.length → W.cell? ⟨xg, i, none⟩ = cs[i]?)
    (hx : (cs.drop a).take 12 = [.int .i64 x.op, .int .i64 x.n, .int .i64 x.a, .int .i64 x.b, .int .i64 x.c, .int .i64 x.v.scope, .int .i64 x.v.slot, .int .i64 x.v.who, .int .i64 x.v.type, .slice none 0 0, .slice none 0 0, .slice none 0 0]) : exprAt B W xg a x := by
  have key : ∀ j v, j < 12 → ([.int .i64 x.op, .int .i64 x.n, .int .i64 x.a, .int .i64 x.b, .int .i64 x.c, .int .i64 x.v.scope, .int .i64 x.v.slot, .int .i64 x.v.who, .int .i64 x.v.type, .slice none 0 0, .slice none 0 0, .slice none 0 0] : List Value)[j]? = some v → W.cell? ⟨xg, a + j, none⟩ = some v := fun j v hj hv => by
    rw [← hx, List.getElem?_take_of_lt hj, List.getElem?_drop] at hv
    rw [hc _ (List.getElem?_eq_some_iff.1 hv).1, hv]
  have nilS : ∀ {α : Type} (g a k : Nat) (R : Nat → Nat → α → Prop), W.cell? ⟨g, a, none⟩ = some (.slice none 0 0) → Sli B W g a k R [] := fun g a k R hc => ⟨none, 0, hc, Row.nil _ _ _ _⟩
  exact ⟨key 0 _ (by decide) rfl, key 1 _ (by decide) rfl, key 2 _ (by decide) rfl, key 3 _ (by decide) rfl, key 4 _ (by decide) rfl, ⟨key 5 _ (by decide) rfl, key 6 _ (by decide) rfl, key 7 _ (by decide) rfl, key 8 _ (by decide) rfl, by rw [h0]; exact nilS _ _ _ _ (key 9 _ (by decide) rfl)⟩, by rw [h1]; exact nilS _ _ _ _ (key 10 _ (by decide) rfl), by rw [h2]; exact nilS _ _ _ _ (key 11 _ (by decide) rfl)⟩
set_option maxRecDepth 100000 in
theorem Pm.md (k : Pm W g i f fi t1 t2 l p) {xo : Option Addr} {xc : Nat} {xs : List ExprD} (hx : Row W.heap.size xo 12 (exprAt W.heap.size W) xs) : MD W.heap.size W (pmH g i p xo xc) (pmD xs) := by
  have cg : ∀ (j : Nat) (v : Value), oG[j]? = some v → W.cell? ⟨g, j, none⟩ = some v := fun j v hv => (cell_of_row _ _ j _ _ _ k.bg).trans hv
  have ci : ∀ (j : Nat) (v : Value), oI[j]? = some v → W.cell? ⟨i, j, none⟩ = some v := fun j v hv => (cell_of_row _ _ j _ _ _ k.bi).trans hv
  have cf : ∀ (j : Nat) (v : Value), oG[j]? = some v → W.cell? ⟨f, j, none⟩ = some v := fun j v hv => (cell_of_row _ _ j _ _ _ k.bf).trans hv
  have cfi : ∀ (j : Nat) (v : Value), oI[j]? = some v → W.cell? ⟨fi, j, none⟩ = some v := fun j v hv => (cell_of_row _ _ j _ _ _ k.bfi).trans hv
  have c1 : ∀ (j : Nat) (v : Value), oT1[j]? = some v → W.cell? ⟨t1, j, none⟩ = some v := fun j v hv => (cell_of_row _ _ j _ _ _ k.b1).trans hv
  have c2 : ∀ (j : Nat) (v : Value), oT2[j]? = some v → W.cell? ⟨t2, j, none⟩ = some v := fun j v hv => (cell_of_row _ _ j _ _ _ k.b2).trans hv
  have cl : ∀ (j : Nat) (v : Value), (oLs t1 t2)[j]? = some v → W.cell? ⟨l, j, none⟩ = some v := fun j v hv => (cell_of_row _ _ j _ _ _ k.bl).trans hv
  have cp : ∀ (j : Nat) (v : Value), (oP f fi l)[j]? = some v → W.cell? ⟨p, j, none⟩ = some v := fun j v hv => (cell_of_row _ _ j _ _ _ k.bp).trans hv
  have nilS : ∀ {α : Type} (g a k : Nat) (R : Nat → Nat → α → Prop), W.cell? ⟨g, a, none⟩ = some (.slice none 0 0) → Sli W.heap.size W g a k R [] := fun g a k R hc => ⟨none, 0, hc, Row.nil _ _ _ _⟩
  have T1 : Row W.heap.size (some ⟨t1, 0, none⟩) 9 (transAt W.heap.size W) [trD 1 1] := row_one1 (lt_of_block k.b1) ⟨⟨c1 _ _ rfl, c1 _ _ rfl, c1 _ _ rfl, c1 _ _ rfl, nilS _ _ _ _ (c1 _ _ rfl), nilS _ _ _ _ (c1 _ _ rfl), c1 _ _ rfl⟩, c1 _ _ rfl, c1 _ _ rfl⟩
  have T2 : Row W.heap.size (some ⟨t2, 0, none⟩) 9 (transAt W.heap.size W) [trD 2 2] := row_one1 (lt_of_block k.b2) ⟨⟨c2 _ _ rfl, c2 _ _ rfl, c2 _ _ rfl, c2 _ _ rfl, nilS _ _ _ _ (c2 _ _ rfl), nilS _ _ _ _ (c2 _ _ rfl), c2 _ _ rfl⟩, c2 _ _ rfl, c2 _ _ rfl⟩
  have LS : Row W.heap.size (some ⟨l, 0, none⟩) 7 (locAt W.heap.size W) plD := row_list (lt_of_block k.bl) (by decide) (fun j hj => by
    have hj' : j = 0 ∨ j = 1 ∨ j = 2 := by have : j < 3 := hj; omega
    rcases hj' with rfl | rfl | rfl
    · exact ⟨⟨_, _, cl 0 _ rfl, T1⟩, nilS _ _ _ _ (cl 1 _ rfl), cl 2 _ rfl, cl 3 _ rfl, cl 4 _ rfl, cl 5 _ rfl, cl 6 _ rfl⟩
    · exact ⟨⟨_, _, cl 7 _ rfl, T2⟩, nilS _ _ _ _ (cl 8 _ rfl), cl 9 _ rfl, cl 10 _ rfl, cl 11 _ rfl, cl 12 _ rfl, cl 13 _ rfl⟩
    · exact ⟨nilS _ _ _ _ (cl 14 _ rfl), nilS _ _ _ _ (cl 15 _ rfl), cl 16 _ rfl, cl 17 _ rfl, cl 18 _ rfl, cl 19 _ rfl, cl 20 _ rfl⟩)
  have P : procAt W.heap.size W p 0 ppD := ⟨cp _ _ rfl, cp _ _ rfl, ⟨_, _, cp 2 _ rfl, row_one1 (lt_of_block k.bf) ⟨cf _ _ rfl, cf _ _ rfl⟩⟩, ⟨_, _, cp 3 _ rfl, row_one1 (lt_of_block k.bfi) (cfi 0 _ rfl)⟩, ⟨_, _, cp 4 _ rfl, LS⟩, cp _ _ rfl, cp _ _ rfl, cp _ _ rfl, cp _ _ rfl, cp _ _ rfl⟩
  exact ⟨row_one1 (lt_of_block k.bg) ⟨cg _ _ rfl, cg _ _ rfl⟩, row_one1 (lt_of_block k.bi) (ci 0 _ rfl), Row.nil _ _ _ _, Row.nil _ _ _ _, row_one1 (lt_of_block k.bp) P, hx⟩
theorem info_expr : (Try.prog.info? 57).map (fun i => (i.zero, i.size, i.bytes)) = some (some (.agg #[.int .i64 0, .int .i64 0, .int .i64 0, .int .i64 0, .int .i64 0, .int .i64 0, .int .i64 0, .int .i64 0, .int .i64 0, .slice none 0 0, .slice none 0 0, .slice none 0 0]), 12, 144) := by kernel_rfl
theorem pm_mV3 (g i p xg xc : Nat) : mV (pmH g i p (some ⟨xg, 0, none⟩) xc) (pmD xsD) = .agg (oM g i p (.slice (some ⟨xg, 0, none⟩) 3 xc)) := rfl
theorem pm_mV4 (g i p xg xc : Nat) : mV (pmH g i p (some ⟨xg, 0, none⟩) xc) (pmD (xsD ++ [lastD])) = .agg (oM g i p (.slice (some ⟨xg, 0, none⟩) 4 xc)) := rfl
theorem xs_row {xg : Nat} {B : Nat} (hg : xg < B) (hc : ∀ i, i < oX.length → W.cell? ⟨xg, i, none⟩ = oX[i]?) : Row B (some ⟨xg, 0, none⟩) 12 (exprAt B W) xsD := row_list hg (by decide) (fun j hj => by
  have hj' : j = 0 ∨ j = 1 ∨ j = 2 := by have : j < 3 := hj; omega
  rcases hj' with rfl | rfl | rfl
  all_goals exact x_at _ rfl rfl rfl hc rfl)
theorem xs_row2 {xg : Nat} {B : Nat} (hg : xg < B) (hc : ∀ i, i < (oX ++ oL).length → W.cell? ⟨xg, i, none⟩ = (oX ++ oL)[i]?) : Row B (some ⟨xg, 0, none⟩) 12 (exprAt B W) (xsD ++ [lastD]) := row_list hg (by decide) (fun j hj => by
  have hj' : j = 0 ∨ j = 1 ∨ j = 2 ∨ j = 3 := by have : j < 4 := hj; omega
  rcases hj' with rfl | rfl | rfl | rfl
  all_goals exact x_at _ rfl rfl rfl hc rfl)
theorem pm_safes (W : World) {p0 p1 p2 p3 p4 p5 p6 p7 p8 : Nat} (k : Pm W p0 p1 p3 p4 p5 p6 p7 p8) (hx : W.heap[p2]? = some (.cells oX.toArray 57 (0, 0))) : Calls Try.prog 7 #[.agg (oM p0 p1 p8 (.slice (some ⟨p2, 0, none⟩) 3 3))] W (SafesP W (pmD xsD)) := by
  have hr := xs_row (W := W) (lt_of_block hx) (fun i hi => (cell_of_row _ _ _ _ _ _ hx).trans (by rw [List.getElem?_toArray]))
  have h1 := safesC W (k.md (xo := some ⟨p2, 0, none⟩) (xc := 3) hr)
  rw [pm_mV3] at h1
  exact h1
theorem pm_admits (W : World) {p0 p1 p3 p4 p5 p6 p7 p8 : Nat} (xg xc : Nat) (k : Pm W p0 p1 p3 p4 p5 p6 p7 p8) (hl : xg < W.heap.size) (hx : ∀ i, i < (oX ++ oL).length → W.cell? ⟨xg, i, none⟩ = (oX ++ oL)[i]?) : Calls Try.prog 6 #[.agg (oM p0 p1 p8 (.slice (some ⟨xg, 0, none⟩) 4 xc))] W fun e w' => e = .returned (.int .i64 44) ∧ Below W.heap.size W w' := by
  have h1 := admitsC W (k.md (xo := some ⟨xg, 0, none⟩) (xc := xc) (xs_row2 hl hx))
  rw [pm_adm2, pm_mV4] at h1
  exact h1
end
end Go.Proofs.Ytofdfaopabmfoaa
