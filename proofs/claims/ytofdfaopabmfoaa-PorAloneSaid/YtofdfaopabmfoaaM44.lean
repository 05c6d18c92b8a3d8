/- The document's first answer: may a model be, and a state. -/
import Derived.Test.YtofdfaopabmfoaaM43
import Derived.Test.YtofdfaopabmfoaaM20
import Derived.Test.YtofdfaopabmfoaaM32
import Derived.Test.YtofdfaopabmfoaaM24
import Derived.Test.YtofdfaopabmfoaaM04
namespace Go.Proofs.Ytofdfaopabmfoaa
open Go.ChangeShapes Go.WideShapes Go.ChangeAt Go.RowKit
set_option linter.unusedVariables false
set_option linter.unusedSimpArgs false

theorem Ys.sinfo {w W : World} {CS SS : Array Value} {h : MH} {m : ModelD} {hs : SH} {s : StateD} (k : Ys w CS SS h m hs s W) : (Try.prog.info? 46).map (·.size) = some SS.size := by
  rw [k.es]
  show _ = some 6
  kernel_rfl
set_option maxRecDepth 100000 in
set_option maxHeartbeats 2000000 in
theorem check12H {B : Nat} {h : MH} {m : ModelD} {hs : SH} {s : StateD} (hab : ArgsB m) (w : World) (hB : B ≤ w.heap.size) (hmd : MD B w h m) (hsd : SD B w hs s) : Calls Try.prog 11 #[mV h m, sV hs s] w fun e w' => e = .returned (.int .i64 (stateE m s)) ∧ Below w.heap.size w w' := by
  have HMAY := Lib.hid (fun (hg : goodB m = true) (W : World) (hd : MD W.heap.size W h m) (hsd : SD W.heap.size W hs s) => may12H (good_head hg).1 W hd hsd)
  have HGOOD := Lib.hid (fun (W : World) (hd : MD W.heap.size W h m) => mayH W hd hab)
  obtain ⟨CS, hCS⟩ : ∃ c, c = mCells h m := ⟨_, rfl⟩
  obtain ⟨SS, hSS⟩ : ∃ c, c = sCells hs s := ⟨_, rfl⟩
  have HX := Lib.hid (Ys.new (hmd.lift hB) hCS (hsd.lift hB) hSS)
  have HV : Hid (stateE m s = if goodB m = true then (if mayB m s = true then 0 else 41) else 40) := Lib.hid rfl
  have HG : Hid (goodB m = ((checkL m).1 == 0)) := Lib.hid (by unfold goodB; rw [Bool.eq_iff_iff, decide_eq_true_eq, beq_iff_eq])
  unfold mV at HMAY HGOOD ⊢
  unfold sV at HMAY ⊢
  rw [← hCS] at HMAY HGOOD ⊢
  rw [← hSS] at HMAY ⊢
  clear hmd hsd hCS hSS hab
  go_enter Try.func11, Try.ntmps11
  go_upto_region 1 with fail
  generalize (w.alloc (.cells CS 29)).alloc (.cells SS 46) = W1 at HX ⊢
  go_wp2_with (refine wpList_load_row rfl _ _ rfl _ rfl _ CS _ _ HX.out.mx.bx.box Try.underlying29 rfl HX.out.mx.info ?_)
  refine (HGOOD.out W1 HX.out.mx.here).mono ?_
  rintro e W2 ⟨rfl, hb2⟩
  have HX2 := Lib.hid (HX.out.below hb2)
  clear hb2 HX
  obtain ⟨u, hu⟩ : ∃ u, ((checkL m).1 == 0) = u := ⟨_, rfl⟩
  rw [hu] at HG
  rw [hu]
  clear hu HGOOD
  cases u
  · have HZ : Hid (stateE m s = 40) := Lib.hid (by rw [HV.out, HG.out]; rfl)
    go_wp2_with fail
    go_ret
    exact ⟨retI HZ.out.symm, HX2.out.sx.bel⟩
  go_wp2_with (first | refine wpList_load_row rfl _ _ rfl _ rfl _ CS _ _ HX2.out.mx.bx.box Try.underlying29 rfl HX2.out.mx.info ?_ | refine wpList_load_row rfl _ _ rfl _ rfl _ SS _ _ HX2.out.sx.box Try.underlying46 rfl HX2.out.sinfo ?_)
  refine (HMAY.out HG.out W2 HX2.out.mx.here (HX2.out.sd.lift HX2.out.sx.bel.size)).mono ?_
  rintro e W3 ⟨rfl, hb3⟩
  have HX3 := Lib.hid (HX2.out.below hb3)
  clear hb3 HX2 HMAY
  obtain ⟨v, hv⟩ : ∃ v, mayB m s = v := ⟨_, rfl⟩
  rw [hv] at HV
  rw [hv]
  clear hv
  cases v
  · have HZ : Hid (stateE m s = 41) := Lib.hid (by rw [HV.out, HG.out]; rfl)
    go_wp2_with fail
    go_ret
    exact ⟨retI HZ.out.symm, HX3.out.sx.bel⟩
  · have HZ : Hid (stateE m s = 0) := Lib.hid (by rw [HV.out, HG.out]; rfl)
    go_wp2_with fail
    go_ret
    exact ⟨retI HZ.out.symm, HX3.out.sx.bel⟩

end Go.Proofs.Ytofdfaopabmfoaa
/- Of which processes the steps may stand for all: as functions of data. -/
namespace Go.Proofs.Ytofdfaopabmfoaa
open Go.ChangeShapes Go.WideShapes Go.ChangeAt Go.RowKit
set_option linter.unusedVariables false
set_option linter.unusedSimpArgs false

def goesB (pids : List Int) (i : Nat) : Bool := pids.any (fun q => decide (q = (i : Int)))
def safeOf (m : ModelD) (s : StateD) (i : Nat) : Bool := match s.procs[i]? with
  | none => false
  | some q => match m.procs[q.type.toNat]? with
    | none => false
    | some p => match p.locs[q.loc.toNat]? with
      | none => false
      | some l => safeLB m p l
def aloneB (m : ModelD) (s : StateD) (pids : List Int) (i : Nat) : Bool := safeOf m s i && goesB pids i
def aloneT (m : ModelD) (s : StateD) (pids : List Int) (k : Nat) : List Int := ((List.range k).filter (aloneB m s pids)).map (fun (i : Nat) => (i : Int))
def aloneL (m : ModelD) (s : StateD) (pids : List Int) : List Int := aloneT m s pids s.procs.length
def aloneE (m : ModelD) (s : StateD) : Int := if admE m = 0 then stateE m s else admE m
theorem aloneT_zero (m : ModelD) (s : StateD) (pids : List Int) : aloneT m s pids 0 = [] := rfl
theorem aloneT_yes {m : ModelD} {s : StateD} {pids : List Int} {k : Nat} (h : aloneB m s pids k = true) : aloneT m s pids (k + 1) = aloneT m s pids k ++ [(k : Int)] := by
  unfold aloneT
  rw [List.range_succ, List.filter_append, List.map_append]
  simp [List.filter_cons, h]
theorem aloneT_no {m : ModelD} {s : StateD} {pids : List Int} {k : Nat} (h : aloneB m s pids k = false) : aloneT m s pids (k + 1) = aloneT m s pids k := by
  unfold aloneT
  rw [List.range_succ, List.filter_append, List.map_append]
  simp [List.filter_cons, h]
theorem aloneT_len (m : ModelD) (s : StateD) (pids : List Int) (k : Nat) : (aloneT m s pids k).length ≤ k := by
  unfold aloneT
  rw [List.length_map]
  exact Nat.le_trans (List.length_filter_le _ _) (by simp)
/-- Who goes, of the first k steps. -/
def goesT (pids : List Int) (n k : Nat) : List Bool := (List.range n).map (goesB (pids.take k))
theorem goesT_len (pids : List Int) (n k : Nat) : (goesT pids n k).length = n := by unfold goesT; simp
theorem goesT_zero (pids : List Int) (n : Nat) : goesT pids n 0 = List.replicate n false := by
  unfold goesT goesB
  rw [List.take_zero]
  apply List.ext_getElem
  · simp
  · intro i h1 h2
    simp
theorem goesT_at {pids : List Int} {n k j : Nat} (hj : j < n) : (goesT pids n k)[j]? = some (goesB (pids.take k) j) := by
  unfold goesT
  rw [List.getElem?_map, List.getElem?_range hj]
  rfl
theorem goesB_succ {pids : List Int} {k : Nat} (hk : k < pids.length) (j : Nat) : goesB (pids.take (k + 1)) j = (goesB (pids.take k) j || decide (pids[k] = (j : Int))) := by
  unfold goesB
  rw [List.take_succ_eq_append_getElem hk, List.any_append]
  simp
theorem goesT_set {pids : List Int} {n k j : Nat} (hk : k < pids.length) (hj : j < n) (h : pids[k] = (j : Int)) : (goesT pids n k).set j true = goesT pids n (k + 1) := by
  apply List.ext_getElem
  · rw [List.length_set, goesT_len, goesT_len]
  · intro i h1 h2
    have hi : i < n := by rw [goesT_len] at h2; exact h2
    have e1 : (goesT pids n (k + 1))[i] = goesB (pids.take (k + 1)) i := by
      have := goesT_at (pids := pids) (k := k + 1) hi
      rw [List.getElem?_eq_getElem h2] at this
      exact Option.some.inj this
    rw [e1, goesB_succ hk]
    by_cases e : i = j
    · subst e
      simp [h]
    · rw [List.getElem_set_ne (fun h => e h.symm)]
      have e2 : (goesT pids n k)[i]'(by rw [goesT_len]; exact hi) = goesB (pids.take k) i := by
        have := goesT_at (pids := pids) (k := k) hi
        rw [List.getElem?_eq_getElem (by rw [goesT_len]; exact hi)] at this
        exact Option.some.inj this
      rw [e2, h, decide_eq_false (by omega), Bool.or_false]
theorem goesT_skip {pids : List Int} {n k : Nat} (hk : k < pids.length) (h : ∀ j, j < n → pids[k] ≠ (j : Int)) : goesT pids n k = goesT pids n (k + 1) := by
  apply List.ext_getElem
  · rw [goesT_len, goesT_len]
  · intro i h1 h2
    have hi : i < n := by rw [goesT_len] at h2; exact h2
    have e1 : (goesT pids n (k + 1))[i] = goesB (pids.take (k + 1)) i := by
      have := goesT_at (pids := pids) (k := k + 1) hi
      rw [List.getElem?_eq_getElem h2] at this
      exact Option.some.inj this
    have e2 : (goesT pids n k)[i] = goesB (pids.take k) i := by
      have := goesT_at (pids := pids) (k := k) hi
      rw [List.getElem?_eq_getElem h1] at this
      exact Option.some.inj this
    rw [e1, e2, goesB_succ hk, decide_eq_false (h i hi), Bool.or_false]
/-- A process of a state that may be stands at a place of its proctype. -/
theorem may_at {m : ModelD} {s : StateD} (h : mayB m s = true) {i : Nat} {q : ProcessD} (hq : s.procs[i]? = some q) : ∃ p l, m.procs[q.type.toNat]? = some p ∧ p.locs[q.loc.toNat]? = some l ∧ 0 ≤ q.type ∧ q.type < m.procs.length ∧ 0 ≤ q.loc ∧ q.loc < p.locs.length ∧ safeOf m s i = safeLB m p l := by
  have h1 := h
  unfold mayB at h1
  simp only [Bool.and_eq_true] at h1
  have h2 := List.all_eq_true.1 h1.1.2 q (List.mem_of_getElem? hq)
  unfold procMayB procHeadB procFB at h2
  simp only [Bool.and_eq_true, decide_eq_true_eq] at h2
  obtain ⟨⟨h4, h5, _⟩, h6⟩ := h2
  split at h6
  · rename_i p hp
    simp only [Bool.and_eq_true, decide_eq_true_eq] at h6
    obtain ⟨⟨h7, h8, _⟩, _⟩ := h6
    have hll : q.loc.toNat < p.locs.length := by omega
    refine ⟨p, p.locs[q.loc.toNat], hp, List.getElem?_eq_getElem hll, h4, h5, h7, h8, ?_⟩
    unfold safeOf
    rw [hq]
    simp only
    rw [hp]
    simp only
    rw [List.getElem?_eq_getElem hll]
  · cases h6
theorem may_few {m : ModelD} {s : StateD} (h : mayB m s = true) : s.procs.length ≤ 16 := by
  unfold mayB mayHeadB at h
  simp only [Bool.and_eq_true, decide_eq_true_eq] at h
  exact h.1.1.1.2.2
theorem stateE_kind (m : ModelD) (s : StateD) : stateE m s = 0 ∨ stateE m s = 40 ∨ stateE m s = 41 := by
  unfold stateE
  repeat' split
  all_goals simp
theorem stateE_may {m : ModelD} {s : StateD} (h : stateE m s = 0) : mayB m s = true := by
  unfold stateE at h
  split at h
  · split at h
    · assumption
    · cases h
  · cases h

/-! ### In memory -/
/-- The boxes of a model and a state, a looker, who goes, and a row of numbers. -/
structure AJ (w0 : World) (CS SS : Array Value) (h : MH) (m : ModelD) (hs : SH) (s : StateD) (pl pm pp gG n : Nat) (G : List Bool) (v : Value) (l : List Int) (W : World) : Prop where
  ys : Ys w0 CS SS h m hs s W
  lk : Lk w0.heap.size pl pm pp CS h m W
  goes : W.ownsRow (w0.heap.size + 1 + 1) 4 1 (.slice (some ⟨gG, 0, none⟩) n n) n (boolV G)
  own : W.ownsRow (w0.heap.size + 1 + 1) 3 1 v l.length (iCells l)
section
variable {w0 W W1 : World} {CS SS : Array Value} {h : MH} {m : ModelD} {hs : SH} {s : StateD} {pl pm pp gG n : Nat} {G : List Bool} {v v1 : Value} {l k : List Int} {o : Obj}
theorem AJ.below (j : AJ w0 CS SS h m hs s pl pm pp gG n G v l W) (hb : Below W.heap.size W W1) : AJ w0 CS SS h m hs s pl pm pp gG n G v l W1 :=
  ⟨j.ys.below hb, j.lk.below hb, owns_below j.goes hb, owns_below j.own hb⟩
theorem AJ.base (j : AJ w0 CS SS h m hs s pl pm pp gG n G v l W) : w0.heap.size + 1 + 1 ≤ W.heap.size := lt_of_block j.ys.sx.box
theorem AJ.put0 (j : AJ w0 CS SS h m hs s pl pm pp gG n G v l W) (hg : W.grownBy W1 v.ownBlock) (ho : W1.ownsRow (w0.heap.size + 1 + 1) 3 1 v1 (l.length + k.length) (iCells l ++ iCells k)) : AJ w0 CS SS h m hs s pl pm pp gG n G v1 (l ++ k) W1 := by
  have hb := j.base
  have hr : ∀ k, v.ownBlock = some k → w0.heap.size + 1 + 1 ≤ k := fun k hk => (j.own.lt k hk).1
  have hB : Below w0.heap.size W W1 := (Below.refl _ _).grown hg (by omega) (fun k hk => by have := hr k hk; omega)
  exact ⟨⟨⟨j.ys.mx.eq, ⟨obj_grown2 j.own j.ys.mx.bx.box (by decide) hg, j.ys.mx.bx.bel.trans hB⟩, j.ys.mx.md.below hB⟩, j.ys.es, ⟨obj_grown2 j.own j.ys.sx.box (by decide) hg, j.ys.sx.bel.trans hB⟩, j.ys.sd.below hB⟩,
    ⟨j.lk.eq, obj_grown2 j.own j.lk.bl (by decide) hg, obj_grown2 j.own j.lk.bm (by decide) hg, obj_grown2 j.own j.lk.bp (by decide) hg, Nat.le_trans j.lk.le hB.size, j.lk.md.below hB⟩,
    owns_grown2 j.goes j.own (by decide) hg, by rw [List.length_append, iCells_app]; exact ho⟩
theorem AJ.put (j : AJ w0 CS SS h m hs s pl pm pp gG n G v l W) (hg : (W.alloc o).grownBy W1 v.ownBlock) (ho : W1.ownsRow (w0.heap.size + 1 + 1) 3 1 v1 (l.length + k.length) (iCells l ++ iCells k)) : AJ w0 CS SS h m hs s pl pm pp gG n G v1 (l ++ k) W1 := (j.below (ball o)).put0 hg ho
theorem ints_row (ho : W.ownsRow (w0.heap.size + 1 + 1) 3 1 v l.length (iCells l)) (hl : l.length ≤ 4096) : ∃ o c, v = .slice o l.length c ∧ Row W.heap.size o 1 (intAt W) l := by
  rcases ho.2 with ⟨rfl, h0⟩ | ⟨g, cap, cur, rfl, hb, hg, hc, hm, hs, ht⟩
  · have : l = [] := List.eq_nil_of_length_eq_zero h0
    subst this
    exact ⟨none, 0, rfl, Row.nil _ _ _ _⟩
  · refine ⟨some ⟨g, 0, none⟩, cap, rfl, ⟨by omega, .inr ⟨g, 0, rfl, lt_of_block hg, fun i hi => ?_⟩⟩⟩
    have h2 := ho.cells (g := g) rfl i (.int .i64 l[i]) (by simp [iCells, hi])
    rw [held.add_off] at h2
    unfold intAt
    rw [show 0 + i * 1 = 0 + i by omega]
    exact h2
end
/-- What it gives. -/
structure AloneP (m : ModelD) (s : StateD) (pids : List Int) (w : World) (e : Ending) (W : World) : Prop where
  bel : Below w.heap.size w W
  no : aloneE m s ≠ 0 → e = .returned (.tuple #[.slice none 0 0, .int .i64 (aloneE m s)])
  yes : aloneE m s = 0 → ∃ o c, e = .returned (.tuple #[.slice o (aloneL m s pids).length c, .int .i64 0]) ∧ Row W.heap.size o 1 (intAt W) (aloneL m s pids)
end Go.Proofs.Ytofdfaopabmfoaa
/- A state that came in, opened; the pids of a row of steps. -/
namespace Go.Proofs.Ytofdfaopabmfoaa
open Go.ChangeShapes Go.WideShapes Go.ChangeAt Go.RowKit
set_option linter.unusedVariables false
set_option linter.unusedSimpArgs false
set_option maxRecDepth 100000
variable {H : Type} {enc : TypeId × Value → H} {W : World} {base : Nat} {sp : Nat → Bool} {hd : Bool} {fuel : Nat}

theorem opens_msg : Opens enc W base sp hd 114 (fun g a l => msgAt W.heap.size W g a l) := opens_sli Try.underlying114 c_int64.1 (by decide) c_int64.2 (by decide) (opens_int Try.underlying2)
theorem opens_msgs : Opens enc W base sp hd 111 (fun g a l => Sli W.heap.size W g a 1 (msgAt W.heap.size W) l) := opens_sli Try.underlying111 (by kernel_rfl) (by decide) (bb := 24) (by kernel_rfl) (by decide) opens_msg
theorem opens_chan : Opens enc W base sp hd 113 (chanAt W.heap.size W) := by
  intro g off h
  have P := open_parts Try.underlying113 h
  obtain ⟨x0, h0⟩ := opens_int Try.underlying3 _ _ (P 0 _ rfl)
  obtain ⟨x1, h1⟩ := opens_msgs _ _ (P 1 _ rfl)
  exact ⟨⟨x0, x1⟩, h0, h1⟩
theorem opens_process : Opens enc W base sp hd 84 (processAt W.heap.size W) := by
  intro g off h
  have P := open_parts Try.underlying84 h
  obtain ⟨x0, h0⟩ := opens_int Try.underlying3 _ _ (P 0 _ rfl)
  obtain ⟨x1, h1⟩ := opens_int Try.underlying3 _ _ (P 1 _ rfl)
  obtain ⟨x2, h2⟩ := opens_int Try.underlying3 _ _ (P 2 _ rfl)
  obtain ⟨x3, h3⟩ := opens_int64s _ _ (P 3 _ rfl)
  exact ⟨⟨x0, x1, x2, x3⟩, h0, h1, h2, h3⟩
theorem six_of {α : Type} {l : List α} (h : l.length = 6) : ∃ a b c d e f, l = [a, b, c, d, e, f] := by
  match l, h with
  | [a, b, c, d, e, f], _ => exact ⟨a, b, c, d, e, f, rfl⟩
/-- A state's cells. -/
theorem open_stateL {l : List Value} {y : DataW H × List MemPlace} (hl : l.length = 6) (h : DataW.trod enc Try.prog W base sp hd fuel 46 l = some y) (hw : Fits 46 y.1) : ∃ h s, l = (sCells h s).toList ∧ SD W.heap.size W h s := by
  have P := open_fits Try.underlying46 h hw
  obtain ⟨n0, y0, p0, w0⟩ := P 0 _ rfl
  obtain ⟨n1, y1, p1, w1⟩ := P 1 _ rfl
  obtain ⟨n2, y2, p2, w2⟩ := P 2 _ rfl
  obtain ⟨n3, y3, p3, w3⟩ := P 3 _ rfl
  obtain ⟨n4, y4, p4, w4⟩ := P 4 _ rfl
  obtain ⟨n5, y5, p5, w5⟩ := P 5 _ rfl
  clear P
  obtain ⟨o0, l0, c0, e0, r0⟩ := open_sli Try.underlying23 c_int64.1 (by decide) c_int64.2 (by decide) (opens_int Try.underlying2) p0 w0
  obtain ⟨o1, l1, c1, e1, r1⟩ := open_sli Try.underlying43 (kk := 2) (by kernel_rfl) (by decide) (bb := 32) (by kernel_rfl) (by decide) opens_chan p1 w1
  obtain ⟨o2, l2, c2, e2, r2⟩ := open_sli Try.underlying44 (kk := 4) (by kernel_rfl) (by decide) (bb := 48) (by kernel_rfl) (by decide) opens_process p2 w2
  obtain ⟨v3, e3, _, _⟩ := DataW.trod_int Try.underlying3 p3
  obtain ⟨v4, e4, _, _⟩ := DataW.trod_int Try.underlying3 p4
  obtain ⟨v5, e5, _, _⟩ := DataW.trod_int Try.underlying3 p5
  have f0 := (one_cs (l := l) (o := 0) (by omega) (by kernel_rfl)).symm.trans e0
  have f1 := (one_cs (l := l) (o := 1) (by omega) (by kernel_rfl)).symm.trans e1
  have f2 := (one_cs (l := l) (o := 2) (by omega) (by kernel_rfl)).symm.trans e2
  have f3 := (one_cs (l := l) (o := 3) (by omega) (by kernel_rfl)).symm.trans e3
  have f4 := (one_cs (l := l) (o := 4) (by omega) (by kernel_rfl)).symm.trans e4
  have f5 := (one_cs (l := l) (o := 5) (by omega) (by kernel_rfl)).symm.trans e5
  clear e0 e1 e2 e3 e4 e5 p0 p1 p2 p3 p4 p5 w0 w1 w2 w3 w4 w5 h hw
  obtain ⟨a0, a1, a2, a3, a4, a5, rfl⟩ := six_of hl
  simp only [List.getElem_cons_zero, List.getElem_cons_succ, List.cons.injEq, and_true] at f0 f1 f2 f3 f4 f5
  subst f0 f1 f2 f3 f4 f5
  exact ⟨⟨o0, c0, o1, c1, o2, c2⟩, ⟨l0, l1, l2, v3, v4, v5⟩, rfl, r0, r1, r2⟩
/-- A state, by value. -/
theorem open_state {v : Value} {r : Reach} {b0 : Nat} {d : DataW H} {p : List MemPlace} (hv : Value.okWide Try.prog W r b0 46 v) (h : DataW.Trod enc Try.prog W base sp hd 46 v d p) (hw : Fits 46 d) : ∃ h s, v = sV h s ∧ SD W.heap.size W h s := by
  obtain ⟨cs, rfl, hsz⟩ := okWide_struct Try.underlying46 hv
  obtain ⟨l⟩ := cs
  have hC : Try.prog.cellsOf 46 = 6 := by kernel_rfl
  have hl : l.length = 6 := hsz.trans hC
  obtain ⟨fu, hf⟩ := h
  obtain ⟨hs, s, e, hsd⟩ := open_stateL hl hf hw
  subst e
  exact ⟨hs, s, rfl, hsd⟩
end Go.Proofs.Ytofdfaopabmfoaa
/- The pids of a row of steps that came in. -/
namespace Go.Proofs.Ytofdfaopabmfoaa
open Go.ChangeShapes Go.WideShapes Go.ChangeAt Go.RowKit
set_option linter.unusedVariables false
set_option maxRecDepth 100000
variable {H : Type} {enc : TypeId × Value → H} {W : World} {base : Nat} {sp : Nat → Bool} {hd : Bool} {fuel : Nat}

theorem opens_pid : Opens enc W base sp hd 82 (intAt W) := by
  intro g off h
  have P := open_parts Try.underlying82 h
  have Q := open_parts Try.underlying80 (P 0 _ rfl)
  obtain ⟨x0, h0⟩ := opens_int Try.underlying3 _ _ (Q 0 _ rfl)
  exact ⟨x0, h0⟩
theorem open_pids {v : Value} {r : Reach} {b0 : Nat} {d : DataW H} {p : List MemPlace} (hv : Value.okWide Try.prog W r b0 47 v) (h : DataW.Trod enc Try.prog W base sp hd 47 v d p) (hw : Fits 47 d) : ∃ o l c, v = .slice o (List.length l) c ∧ Row W.heap.size o 15 (intAt W) l := by
  obtain ⟨a, len, cap, rfl⟩ := okWide_slice Try.underlying47 hv
  obtain ⟨fu, hf⟩ := h
  obtain ⟨o, l, c, e, hrow⟩ := open_sli Try.underlying47 (kk := 15) (by kernel_rfl) (by decide) (bb := 176) (by kernel_rfl) (by decide) opens_pid hf hw
  have e2 : Value.slice a len cap = .slice o l.length c := by
    injection e
  exact ⟨o, l, c, e2, hrow⟩
end Go.Proofs.Ytofdfaopabmfoaa
