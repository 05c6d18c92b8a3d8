/- All parts of an expression, handed to a function. -/
import Derived.Test.YtbhgdlfndamklaaGreatDoorM05
import Derived.Lib.OwnKind
namespace Go.Proofs.YtbhgdlfndamklaaGreatDoor
open Go.ChangeShapes Go.WideShapes Go.ChangeAt Go.RowKit
set_option linter.unusedVariables false
set_option linter.unusedSimpArgs false

/-- Boxes of three ints stay. -/
def Box3 (W W' : World) : Prop := ∀ (b : Nat) (cs : Array Value) (fr : Nat × Nat), W.heap[b]? = some (.cells cs 107 fr) → W'.heap[b]? = some (.cells cs 107 fr)
/-- What a function does to what it keeps, part by part: its state is J's, and below B, and in blocks of other kinds than its own, nothing turns. -/
structure Doer (B F : Nat) (caps : Array Value) {σ : Type} (f : σ → Int → σ) (J : σ → World → Prop) (ok : σ → Int → Prop) : Prop where
  call : ∀ s W q, J s W → ok s q → Calls Tryz.prog F (#[.int .i64 q] ++ caps) W fun e W' => e = .returned (.tuple #[]) ∧ J (f s q) W' ∧ Below B W W' ∧ W.heap.size ≤ W'.heap.size ∧ Box3 W W'
  below : ∀ s W W', J s W → Below W.heap.size W W' → J s W'
  run : ∀ args w, (callFunc F args).run Tryz.prog w = .ok (.enter F args) w

theorem fold_take {σ α : Type} {f : σ → α → σ} {l : List α} {k : Nat} {q : α} {s : σ} (h : l[k]? = some q) : (l.take (k + 1)).foldl f s = f ((l.take k).foldl f s) q := by
  obtain ⟨hk, rfl⟩ := List.getElem?_eq_some_iff.1 h
  rw [List.take_succ_eq_append_getElem hk, List.foldl_append]
  rfl
theorem abc_cell {W : World} {x : ExprD} {b : Nat} (h : W.heap[b]? = some (.cells #[.int .i64 x.a, .int .i64 x.b, .int .i64 x.c] 107 (0, 0))) {k : Nat} (hk : k < 3) : ∃ q, W.cell? ⟨b, k, none⟩ = some (.int .i64 q) ∧ (abcL x)[k]? = some q := by
  match k, hk with
  | 0, _ => exact ⟨x.a, (cell_of_row _ _ _ _ _ _ h).trans rfl, rfl⟩
  | 1, _ => exact ⟨x.b, (cell_of_row _ _ _ _ _ _ h).trans rfl, rfl⟩
  | 2, _ => exact ⟨x.c, (cell_of_row _ _ _ _ _ _ h).trans rfl, rfl⟩
theorem split_at {l : List Int} {k : Nat} {q : Int} (h : l[k]? = some q) : l = l.take k ++ q :: l.drop (k + 1) := by
  obtain ⟨hk, rfl⟩ := List.getElem?_eq_some_iff.1 h
  rw [← List.drop_eq_getElem_cons hk, List.take_append_drop]
theorem parts_at {x : ExprD} {k : Nat} {q : Int} (hk : k < partsOf x.op) (h : (abcL x)[k]? = some q) : ∃ l2, partsL x = (abcL x).take k ++ q :: l2 := by
  have h1 : ((abcL x).take (partsOf x.op))[k]? = some q := by rw [List.getElem?_take_of_lt hk]; exact h
  have h2 := split_at h1
  rw [List.take_take, Nat.min_eq_left (by omega)] at h2
  unfold partsL
  rw [h2, List.append_assoc]
  exact ⟨_, rfl⟩
structure PJ (B : Nat) (w0 : World) {σ : Type} (J : σ → World → Prop) (x : ExprD) (s : σ) (W : World) : Prop where
  j : J s W
  bel : Below B w0 W
  box : W.heap[w0.heap.size]? = some (.cells #[.int .i64 x.a, .int .i64 x.b, .int .i64 x.c] 107 (0, 0))

set_option maxHeartbeats 2000000 in
set_option maxRecDepth 100000 in
theorem partsC {B g a F : Nat} {x : ExprD} {caps : Array Value} {σ : Type} {f : σ → Int → σ} {J : σ → World → Prop} {ok : σ → Int → Prop} (D : Doer B F caps f J ok) (pv : Value) (s0 : σ) (w : World) (hB : B ≤ w.heap.size) (hx : exprAt B w g a x) (hg : g < B) (hj : J s0 w) (hok : ∀ l1 q l2, partsL x = l1 ++ q :: l2 → ok (l1.foldl f s0) q) :
    Calls Tryz.prog 120 #[pv, .pointer (some ⟨g, a, none⟩), .func (.func F) #[] caps] w fun e w' => e = .returned (.tuple #[]) ∧ J ((partsL x).foldl f s0) w' ∧ Below B w w' := by
  have HDo := Lib.hid D
  obtain ⟨o1, p1, o2, p2, o3, p3, hxc, hd1, hd2, hd3⟩ := hx.xc
  have HXC := Lib.hid hxc
  have HD := Lib.hid (And.intro hd1 hd2)
  have hgw : g < w.heap.size := by omega
  have HJ0 := Lib.hid hj
  have HOK := Lib.hid hok
  have hdn := hd1.1
  have han := hd2.1
  have HS : Hid (∀ w', Below w.heap.size w w' → (Below w.heap.size w w' ∧ w'.cell? ⟨g, a + 2, none⟩ = some (.int .i64 x.a) ∧ w'.cell? ⟨g, a + 3, none⟩ = some (.int .i64 x.b) ∧ w'.cell? ⟨g, a + 4, none⟩ = some (.int .i64 x.c))) := Lib.hid fun w' hb =>
    have h := HXC.out.below hgw hb
    ⟨hb, h.c2, h.c3, h.c4⟩
  clear hxc hd1 hd2 hd3 hx hj hok D
  have h2 := (HS.out _ (Below.refl _ w)).2.1
  have h3 := (HS.out _ (Below.refl _ w)).2.2.1
  have h4 := (HS.out _ (Below.refl _ w)).2.2.2
  go_enter Tryz.func120, Tryz.ntmps120
  clear h2 h3 h4
  go_wp2_with fail
  go_region_held3 (fun w' => Below w.heap.size w w' ∧ w'.cell? ⟨g, a + 2, none⟩ = some (.int .i64 x.a) ∧ w'.cell? ⟨g, a + 3, none⟩ = some (.int .i64 x.b) ∧ w'.cell? ⟨g, a + 4, none⟩ = some (.int .i64 x.c))
    (first | assumption | with_reducible exact HS.out _ (Below.refl _ _).drew | with_reducible exact HS.out _ (by assumption) | with_reducible exact HS.out _ (Below.alloc (And.left (by assumption)) (Below.size (And.left (by assumption))) _) | with_reducible exact HS.out _ (Below.drew (Below.alloc (Below.refl _ _) (Nat.le_refl _) _)))
    (fail)
  have HP : Hid (PJ B w J x s0 (w.alloc (Obj.cells #[.int .i64 x.a, .int .i64 x.b, .int .i64 x.c] 107)).drew) := Lib.hid (by
    have hb : Below w.heap.size w (w.alloc (Obj.cells #[.int .i64 x.a, .int .i64 x.b, .int .i64 x.c] 107)).drew := (ball _).drew
    exact ⟨HDo.out.below _ _ _ HJ0.out hb, hb.mono hB, heap_alloc_new _ _⟩)
  generalize (w.alloc (Obj.cells #[.int .i64 x.a, .int .i64 x.b, .int .i64 x.c] 107)).drew = W at HP ⊢
  clear HS HJ0
  have d0 := (HXC.out.below hg HP.out.bel).c0
  go_wp2_with fail
  refine (partsOfC x.op W).mono ?_
  rintro e w' ⟨rfl, rfl⟩
  have hp3 := partsOf_le x.op
  clear d0
  go_wp2_with fail
  go_loopw [29] (fun iv W => ∃ k : Nat, iv = .int .i64 k ∧ k ≤ partsOf x.op ∧ Hid (PJ B w J x (((abcL x).take k).foldl f s0) W)) (fun iv _ => partsOf x.op - (intOf iv).toNat)
  case atStart => exact ⟨0, rfl, by omega, HP⟩
  case round =>
    obtain ⟨k, rfl, hk, HJ⟩ := hrel
    have hk0 : (0 : Int) ≤ k := by omega
    by_cases hlt : k < partsOf x.op
    · have hlti : (k : Int) < partsOf x.op := by omega
      have hk3 : (k : Int) < 3 := by omega
      obtain ⟨q, hq1, hq2⟩ := abc_cell HJ.out.box (k := k) (by omega)
      have HQ := Lib.hid hq2
      have HPA : Hid (ok (((abcL x).take k).foldl f s0) q) := Lib.hid (by obtain ⟨l2, h2⟩ := parts_at hlt hq2; exact HOK.out _ _ _ h2)
      have hrun := HDo.out.run
      clear hq2
      go_wp2_with fail
      clear hrun
      refine (HDo.out.call _ _ _ HJ.out.j (HPA.out)).mono ?_
      rintro e W' ⟨rfl, hj, hb, hsz, hbx⟩
      have HN : Hid (PJ B w J x (((abcL x).take (k + 1)).foldl f s0) W') := Lib.hid (by
        rw [fold_take HQ.out]
        exact ⟨hj, HJ.out.bel.trans hb, hbx _ _ _ HJ.out.box⟩)
      clear hj hb hsz hbx hq1
      go_wp2_with fail
      go_roundw
      case rel => exact ⟨k + 1, by go_num, by omega, HN⟩
      case measure => simp [intOf]; omega
    · have hlti : ¬ (k : Int) < partsOf x.op := by omega
      obtain rfl : k = partsOf x.op := by omega
      obtain ⟨s1, hs1⟩ : ∃ s1, ((abcL x).take (partsOf x.op)).foldl f s0 = s1 := ⟨_, rfl⟩
      have HPF : Hid ((partsL x).foldl f s0 = (moreL x).foldl f s1) := Lib.hid (by unfold partsL; rw [List.foldl_append, hs1])
      have HM0 : Hid (∀ l1 q l2, moreL x = l1 ++ q :: l2 → ok (l1.foldl f s1) q) := Lib.hid fun l1 q l2 hq => by
        have h5 := HOK.out ((abcL x).take (partsOf x.op) ++ l1) q l2 (by unfold partsL; rw [hq, List.append_assoc])
        rw [List.foldl_append, hs1] at h5
        exact h5
      rw [hs1] at HJ
      have HXN := Lib.hid (HXC.out.below hg HJ.out.bel)
      have d0 := HXN.out.c0
      clear hs1 hlt hk hk0 hp3
      by_cases h2 : x.op = 2
      · have b1 : (x.op == 2) = true := by simp [h2]
        have d1 := HXN.out.v0
        by_cases hr : x.v.scope = 2
        · have b2 : (x.v.scope == 2) = true := by simp [hr]
          have HPL : Hid ((partsL x).foldl f s0 = ([x.v.who] ++ x.v.dims.map (·.i)).foldl f s1) := Lib.hid (by rw [HPF.out]; unfold moreL; rw [if_pos h2, if_pos hr])
          have HM1 : Hid (ok s1 x.v.who) := Lib.hid (HM0.out [] _ (x.v.dims.map (·.i)) (by unfold moreL; rw [if_pos h2, if_pos hr]; rfl))
          have HM2 : Hid (∀ l1 q l2, x.v.dims.map (·.i) = l1 ++ q :: l2 → ok (l1.foldl f ([x.v.who].foldl f s1)) q) := Lib.hid fun l1 q l2 hq => HM0.out (x.v.who :: l1) q l2 (by unfold moreL; rw [if_pos h2, if_pos hr, hq]; rfl)
          have d2 := HXN.out.v2
          have hrun := HDo.out.run
          clear h2 hr
          go_wp2_with fail
          clear hrun
          refine (HDo.out.call _ _ _ HJ.out.j HM1.out).mono ?_
          rintro e W' ⟨rfl, hj, hb, hsz, hbx⟩
          have HS1 : Hid (PJ B w J x ([x.v.who].foldl f s1) W') := Lib.hid ⟨hj, HJ.out.bel.trans hb, hbx _ _ _ HJ.out.box⟩
          clear hj hb hsz hbx d0 d1 d2 HXN
          have HXN := Lib.hid (HXC.out.below hg HS1.out.bel)
          have e4 := HXN.out.v4
          go_wp2_with fail
          clear e4
          go_loopw [63] (fun iv W => ∃ k : Nat, iv = .int .i64 k ∧ k ≤ x.v.dims.length ∧ Hid (PJ B w J x (((x.v.dims.map (·.i)).take k).foldl f ([x.v.who].foldl f s1)) W)) (fun iv _ => x.v.dims.length - (intOf iv).toNat)
          case atStart => exact ⟨0, rfl, by omega, HS1⟩
          case round =>
            obtain ⟨k, rfl, hk, HJ⟩ := hrel
            have hk0 : (0 : Int) ≤ k := by omega
            by_cases hlt : k < x.v.dims.length
            · have hlti : (k : Int) < x.v.dims.length := by omega
              obtain ⟨gd, offd, hod, hgd, hcd, -⟩ := (HD.out.1.mono fun _ _ _ hg => dimAt.below HJ.out.bel hg).cell hlt
              obtain ⟨q, hq⟩ : ∃ q, x.v.dims[k].i = q := ⟨_, rfl⟩
              rw [hq] at hcd
              have HQ : Hid ((x.v.dims.map (·.i))[k]? = some q) := Lib.hid (by rw [List.getElem?_map, List.getElem?_eq_getElem hlt]; simp [hq])
              have e4 := (HXC.out.below hg HJ.out.bel).v4
              rw [hod] at e4
              have hrun := HDo.out.run
              clear hod hgd hq
              go_wp2_with fail
              clear hrun
              refine (HDo.out.call _ _ _ HJ.out.j (HM2.out _ _ _ (split_at HQ.out))).mono ?_
              rintro e W' ⟨rfl, hj, hb, hsz, hbx⟩
              have HN : Hid (PJ B w J x (((x.v.dims.map (·.i)).take (k + 1)).foldl f ([x.v.who].foldl f s1)) W') := Lib.hid (by
                rw [fold_take HQ.out]
                exact ⟨hj, HJ.out.bel.trans hb, hbx _ _ _ HJ.out.box⟩)
              clear hj hb hsz hbx hcd e4
              go_wp2_with fail
              go_roundw
              case rel => exact ⟨k + 1, by go_num, by omega, HN⟩
              case measure => simp [intOf]; omega
            · have hlti : ¬ (k : Int) < x.v.dims.length := by omega
              have HE : Hid (((x.v.dims.map (·.i)).take k) = x.v.dims.map (·.i)) := Lib.hid (List.take_of_length_le (by rw [List.length_map]; omega))
              have HZ := HJ.out
              rw [HE.out] at HZ
              have HY := Lib.hid HZ
              clear HZ
              go_wp2_with fail
              go_end0
              exact ⟨rfl, by rw [HPL.out, List.foldl_append]; exact HY.out.j, HY.out.bel⟩
        · have b2 : (x.v.scope == 2) = false := by simp [hr]
          have HPL : Hid ((partsL x).foldl f s0 = (([] : List Int) ++ x.v.dims.map (·.i)).foldl f s1) := Lib.hid (by rw [HPF.out]; unfold moreL; rw [if_pos h2, if_neg hr])
          have HM2 : Hid (∀ l1 q l2, x.v.dims.map (·.i) = l1 ++ q :: l2 → ok (l1.foldl f s1) q) := Lib.hid fun l1 q l2 hq => HM0.out l1 q l2 (by unfold moreL; rw [if_pos h2, if_neg hr, hq]; rfl)
          have HS1 := HJ
          clear h2 hr
          have e4 := HXN.out.v4
          go_wp2_with fail
          clear e4
          go_loopw [63] (fun iv W => ∃ k : Nat, iv = .int .i64 k ∧ k ≤ x.v.dims.length ∧ Hid (PJ B w J x (((x.v.dims.map (·.i)).take k).foldl f s1) W)) (fun iv _ => x.v.dims.length - (intOf iv).toNat)
          case atStart => exact ⟨0, rfl, by omega, HS1⟩
          case round =>
            obtain ⟨k, rfl, hk, HJ⟩ := hrel
            have hk0 : (0 : Int) ≤ k := by omega
            by_cases hlt : k < x.v.dims.length
            · have hlti : (k : Int) < x.v.dims.length := by omega
              obtain ⟨gd, offd, hod, hgd, hcd, -⟩ := (HD.out.1.mono fun _ _ _ hg => dimAt.below HJ.out.bel hg).cell hlt
              obtain ⟨q, hq⟩ : ∃ q, x.v.dims[k].i = q := ⟨_, rfl⟩
              rw [hq] at hcd
              have HQ : Hid ((x.v.dims.map (·.i))[k]? = some q) := Lib.hid (by rw [List.getElem?_map, List.getElem?_eq_getElem hlt]; simp [hq])
              have e4 := (HXC.out.below hg HJ.out.bel).v4
              rw [hod] at e4
              have hrun := HDo.out.run
              clear hod hgd hq
              go_wp2_with fail
              clear hrun
              refine (HDo.out.call _ _ _ HJ.out.j (HM2.out _ _ _ (split_at HQ.out))).mono ?_
              rintro e W' ⟨rfl, hj, hb, hsz, hbx⟩
              have HN : Hid (PJ B w J x (((x.v.dims.map (·.i)).take (k + 1)).foldl f s1) W') := Lib.hid (by
                rw [fold_take HQ.out]
                exact ⟨hj, HJ.out.bel.trans hb, hbx _ _ _ HJ.out.box⟩)
              clear hj hb hsz hbx hcd e4
              go_wp2_with fail
              go_roundw
              case rel => exact ⟨k + 1, by go_num, by omega, HN⟩
              case measure => simp [intOf]; omega
            · have hlti : ¬ (k : Int) < x.v.dims.length := by omega
              have HE : Hid (((x.v.dims.map (·.i)).take k) = x.v.dims.map (·.i)) := Lib.hid (List.take_of_length_le (by rw [List.length_map]; omega))
              have HZ := HJ.out
              rw [HE.out] at HZ
              have HY := Lib.hid HZ
              clear HZ
              go_wp2_with fail
              go_end0
              exact ⟨rfl, by rw [HPL.out, List.foldl_append]; exact HY.out.j, HY.out.bel⟩
      · have b1 : (x.op == 2) = false := by simp [h2]
        by_cases h3 : x.op = 30 ∨ x.op = 39
        · have HPL : Hid ((partsL x).foldl f s0 = x.args.foldl f s1) := Lib.hid (by rw [HPF.out]; unfold moreL; rw [if_neg h2, if_pos h3])
          have HM2 : Hid (∀ l1 q l2, x.args = l1 ++ q :: l2 → ok (l1.foldl f s1) q) := Lib.hid fun l1 q l2 hq => HM0.out l1 q l2 (by unfold moreL; rw [if_neg h2, if_pos h3, hq])
          have e6 := HXN.out.c6
          have h34 : ((x.op == 30) = true) ∨ ((x.op == 30) = false ∧ (x.op == 39) = true) := by
            rcases h3 with h | h
            · exact .inl (by simp [h])
            · exact .inr (by simp [h])
          clear h2 h3
          rcases h34 with b2 | ⟨b2, b3⟩
          all_goals (
            go_wp2_with fail
            clear e6
            go_loopw [86] (fun iv W => ∃ k : Nat, iv = .int .i64 k ∧ k ≤ x.args.length ∧ Hid (PJ B w J x ((x.args.take k).foldl f s1) W)) (fun iv _ => x.args.length - (intOf iv).toNat)
            case atStart => exact ⟨0, rfl, by omega, HJ⟩
            case round =>
              clear HJ
              obtain ⟨k, rfl, hk, HJ⟩ := hrel
              have hk0 : (0 : Int) ≤ k := by omega
              by_cases hlt : k < x.args.length
              · have hlti : (k : Int) < x.args.length := by omega
                obtain ⟨gd, offd, hod, hgd, hcd⟩ := (HD.out.2.mono fun _ _ _ hg => intAt.below HJ.out.bel hg).cell hlt
                obtain ⟨q, hq⟩ : ∃ q, x.args[k] = q := ⟨_, rfl⟩
                have HQ : Hid (x.args[k]? = some q) := Lib.hid (by rw [List.getElem?_eq_getElem hlt, hq])
                have hcd2 : wr.cell? ⟨gd, offd + k, none⟩ = some (.int .i64 q) := by unfold intAt at hcd; rw [Nat.mul_one, hq] at hcd; exact hcd
                have hrun := HDo.out.run
                subst hod
                clear hgd hq hcd
                go_wp2_with fail
                clear hrun
                refine (HDo.out.call _ _ _ HJ.out.j (HM2.out _ _ _ (split_at HQ.out))).mono ?_
                rintro e W' ⟨rfl, hj, hb, hsz, hbx⟩
                have HN : Hid (PJ B w J x ((x.args.take (k + 1)).foldl f s1) W') := Lib.hid (by
                  rw [fold_take HQ.out]
                  exact ⟨hj, HJ.out.bel.trans hb, hbx _ _ _ HJ.out.box⟩)
                clear hj hb hsz hbx hcd2
                go_wp2_with fail
                go_roundw
                case rel => exact ⟨k + 1, by go_num, by omega, HN⟩
                case measure => simp [intOf]; omega
              · have hlti : ¬ (k : Int) < x.args.length := by omega
                have HE : Hid (x.args.take k = x.args) := Lib.hid (List.take_of_length_le (by omega))
                have HZ := HJ.out
                rw [HE.out] at HZ
                have HY := Lib.hid HZ
                clear HZ
                go_wp2_with fail
                go_end0
                exact ⟨rfl, by rw [HPL.out]; exact HY.out.j, HY.out.bel⟩)
        · have HPL : Hid ((partsL x).foldl f s0 = s1) := Lib.hid (by rw [HPF.out]; unfold moreL; rw [if_neg h2, if_neg h3]; rfl)
          have b2 : (x.op == 30) = false := by simp; omega
          have b3 : (x.op == 39) = false := by simp; omega
          clear h2 h3
          go_wp2_with fail
          go_end0
          exact ⟨rfl, by rw [HPL.out]; exact HJ.out.j, HJ.out.bel⟩
end Go.Proofs.YtbhgdlfndamklaaGreatDoor
/- All expressions: each by itself, and whether each is a part of one at most. -/
namespace Go.Proofs.YtbhgdlfndamklaaGreatDoor
open Go.ChangeShapes Go.WideShapes Go.ChangeAt Go.RowKit
set_option linter.unusedVariables false
set_option linter.unusedSimpArgs false

theorem owns_below {w w' : World} {B size n : Nat} {e : TypeId} {v : Value} {xs : List Value} (h : w.ownsRow B e size v n xs) (hb : Below w.heap.size w w') : w'.ownsRow B e size v n xs :=
  h.kept (row := none) ⟨hb.os, hb.tape, hb.output, hb.size, fun k hk _ => hb.block k hk⟩ (by cases v.ownBlock <;> simp)
theorem owns_set {w : World} {B size n : Nat} {e : TypeId} {v : Value} {xs : List Value} (h : w.ownsRow B e size v n xs) (a : Addr) (u : Value) (hne : v.ownBlock ≠ some a.block) : (w.setCell a u).ownsRow B e size v n xs :=
  h.kept (row := some a.block) ⟨rfl, rfl, rfl, by simp [World.setCell], fun k hk hka => heap_setCell_other _ _ _ _ fun e => hka (by rw [e])⟩ (.inr hne)
theorem owns_neObj {w : World} {B size n : Nat} {e T : TypeId} {v : Value} {xs : List Value} (h : w.ownsRow B e size v n xs) {b : Nat} {cs : Array Value} {fr : Nat × Nat} (hb : w.heap[b]? = some (.cells cs T fr)) (hT : e ≠ T) : v.ownBlock ≠ some b := by
  intro hv
  obtain ⟨c, fz, h1⟩ := Lib.ownsRow_kind h b hv
  rw [h1] at hb
  injection hb with h2
  injection h2 with _ h2
  exact hT h2
theorem obj_ne {w : World} {a b : Nat} {c1 c2 : Array Value} {T1 T2 : TypeId} {f1 f2 : Nat × Nat} (h1 : w.heap[a]? = some (.cells c1 T1 f1)) (h2 : w.heap[b]? = some (.cells c2 T2 f2)) (hT : T1 ≠ T2) : a ≠ b := by
  rintro rfl
  rw [h1] at h2
  injection h2 with h2
  injection h2 with _ h2
  exact hT h2
theorem info_parts {t : TypeId} {z : Value} {a b : Nat} (h : (Tryz.prog.info? t).map (fun i => (i.zero, i.size, i.bytes)) = some (some z, a, b)) : ∃ i, Tryz.prog.info? t = some i ∧ i.zero = some z ∧ i.size = a ∧ i.bytes = b := by
  cases hi : Tryz.prog.info? t with
  | none => rw [hi] at h; cases h
  | some i =>
    rw [hi] at h
    simp only [Option.map_some, Option.some.injEq, Prod.mk.injEq] at h
    exact ⟨i, rfl, h.1, h.2.1, h.2.2⟩
theorem info_bool : (Tryz.prog.info? 4).map (fun i => (i.zero, i.size, i.bytes)) = some (some (.bool false), 1, 1) := by kernel_rfl
theorem info_int : (Tryz.prog.info? 3).map (fun i => (i.zero, i.size, i.bytes)) = some (some (.int .i64 0), 1, 8) := by kernel_rfl
def boolsV (l : List Bool) : List Value := l.map .bool

/-- What the third part keeps. -/
structure EK (w0 : World) (h : MH) (m : ModelD) (ms bt T n : Nat) (t : List Bool) (W : World) : Prop where
  bel : Below w0.heap.size w0 W
  cm : W.heap[ms]? = some (.cells (mCells h m) 29 (0, 0))
  ct : W.heap[bt]? = some (.cells #[.slice (some ⟨T, 0, none⟩) n n] 34 (0, 0))
  row : W.ownsRow w0.heap.size 4 1 (.slice (some ⟨T, 0, none⟩) n n) n (boolsV t)
theorem EK.below {w0 W W' : World} {h : MH} {m : ModelD} {ms bt T n : Nat} {t : List Bool} (k : EK w0 h m ms bt T n t W) (hb : Below W.heap.size W W') : EK w0 h m ms bt T n t W' :=
  ⟨k.bel.trans (hb.mono k.bel.size), (hb.block _ (lt_of_block k.cm)).trans k.cm, (hb.block _ (lt_of_block k.ct)).trans k.ct, owns_below k.row hb⟩
structure TK (w0 : World) (h : MH) (m : ModelD) (ms bi bt bo T i n : Nat) (s : List Bool × Bool) (W : World) : Prop where
  ek : EK w0 h m ms bt T n s.1 W
  ci : W.heap[bi]? = some (.cells #[.int .i64 i] 3 (0, 0))
  co : W.heap[bo]? = some (.cells #[.bool s.2] 4 (0, 0))
  ne : T ≠ bo
  lo : w0.heap.size ≤ bo
theorem TK.below {w0 W W' : World} {h : MH} {m : ModelD} {ms bi bt bo T i n : Nat} {s : List Bool × Bool} (k : TK w0 h m ms bi bt bo T i n s W) (hb : Below W.heap.size W W') : TK w0 h m ms bi bt bo T i n s W' :=
  ⟨k.ek.below hb, (hb.block _ (lt_of_block k.ci)).trans k.ci, (hb.block _ (lt_of_block k.co)).trans k.co, k.ne, k.lo⟩
theorem TK.no {w0 W : World} {h : MH} {m : ModelD} {ms bi bt bo T i n : Nat} {s : List Bool × Bool} (k : TK w0 h m ms bi bt bo T i n s W) : TK w0 h m ms bi bt bo T i n (s.1, false) (W.setCell ⟨bo, 0, none⟩ (.bool false)) := by
  have n1 := obj_ne k.ek.cm k.co (by decide)
  have n2 := obj_ne k.ek.ct k.co (by decide)
  have n3 := obj_ne k.ci k.co (by decide)
  refine ⟨⟨k.ek.bel.setCell k.lo _, ?_, ?_, owns_set k.ek.row _ _ (by intro e; injection e with e; exact k.ne e)⟩, ?_, ?_, k.ne, k.lo⟩
  · rw [heap_setCell_other _ _ _ _ (by exact n1)]; exact k.ek.cm
  · rw [heap_setCell_other _ _ _ _ (by exact n2)]; exact k.ek.ct
  · rw [heap_setCell_other _ _ _ _ (by exact n3)]; exact k.ci
  · rw [heap_setCell_same _ _ _ _ _ _ k.co]; rfl
theorem TK.yes {w0 W : World} {h : MH} {m : ModelD} {ms bi bt bo T i n q : Nat} {s : List Bool × Bool} (k : TK w0 h m ms bi bt bo T i n s W) : TK w0 h m ms bi bt bo T i n (s.1.set q true, s.2) (W.setCell ⟨T, q, none⟩ (.bool true)) := by
  have n1 : ms ≠ T := fun e => owns_neObj k.ek.row k.ek.cm (by decide) (by rw [e]; rfl)
  have n2 : bt ≠ T := fun e => owns_neObj k.ek.row k.ek.ct (by decide) (by rw [e]; rfl)
  have n3 : bi ≠ T := fun e => owns_neObj k.ek.row k.ci (by decide) (by rw [e]; rfl)
  refine ⟨⟨k.ek.bel.setCell (k.ek.row.lt T rfl).1 _, ?_, ?_, ?_⟩, ?_, ?_, k.ne, k.lo⟩
  · rw [heap_setCell_other _ _ _ _ (by exact n1)]; exact k.ek.cm
  · rw [heap_setCell_other _ _ _ _ (by exact n2)]; exact k.ek.ct
  · have := (k.ek.row.stored q (.bool true)).1
    unfold boolsV at this ⊢
    rw [List.map_set]
    exact this
  · rw [heap_setCell_other _ _ _ _ (by exact n3)]; exact k.ci
  · rw [heap_setCell_other _ _ _ _ (by exact fun e => k.ne e.symm)]; exact k.co
theorem TK.len {w0 W : World} {h : MH} {m : ModelD} {ms bi bt bo T i n : Nat} {s : List Bool × Bool} (k : TK w0 h m ms bi bt bo T i n s W) : s.1.length = n := by
  have := k.ek.row.1
  simpa [boolsV] using this
theorem TK.cell {w0 W : World} {h : MH} {m : ModelD} {ms bi bt bo T i n : Nat} {s : List Bool × Bool} (k : TK w0 h m ms bi bt bo T i n s W) {q : Nat} (hq : q < n) : W.cell? ⟨T, q, none⟩ = some (.bool (s.1.getD q false)) := by
  have hl := k.len
  refine (World.ownsRow.cellAt k.ek.row q (by omega)).trans ?_
  unfold boolsV
  rw [List.getElem?_map, List.getElem?_eq_getElem (by omega)]
  simp [List.getD, List.getElem?_eq_getElem (show q < s.1.length by omega)]

set_option maxHeartbeats 1000000 in
set_option maxRecDepth 100000 in
theorem expressions1C {w0 W : World} {h : MH} {m : ModelD} {ms bi bt bo T i n : Nat} {s : List Bool × Bool} (q : Int) (k : TK w0 h m ms bi bt bo T i n s W) (hi : i ≤ n) (hn : n ≤ 140737488355328) :
    Calls Tryz.prog 121 #[.int .i64 q, .pointer (some ⟨bi, 0, none⟩), .pointer (some ⟨bt, 0, none⟩), .pointer (some ⟨bo, 0, none⟩)] W fun e W' => e = .returned (.tuple #[]) ∧ TK w0 h m ms bi bt bo T i n (takePart i s q) W' ∧ Below w0.heap.size W W' ∧ W.heap.size ≤ W'.heap.size ∧ Box3 W W' := by
  have HK := Lib.hid k
  have c1 : W.cell? ⟨bi, 0, none⟩ = some (.int .i64 i) := (cell_of_row _ _ _ _ _ _ k.ci).trans rfl
  have c2 : W.cell? ⟨bt, 0, none⟩ = some (.slice (some ⟨T, 0, none⟩) n n) := (cell_of_row _ _ _ _ _ _ k.ek.ct).trans rfl
  have c3 : W.cell? ⟨bo, 0, none⟩ = some (.bool s.2) := (cell_of_row _ _ _ _ _ _ k.co).trans rfl
  have f3 : W.frozen? ⟨bo, 0, none⟩ = false := frozen_of_row _ _ _ _ _ k.co
  have HNO : Hid (TK w0 h m ms bi bt bo T i n (s.1, false) (W.setCell ⟨bo, 0, none⟩ (.bool false)) ∧ Below w0.heap.size W (W.setCell ⟨bo, 0, none⟩ (.bool false)) ∧ W.heap.size ≤ (W.setCell ⟨bo, 0, none⟩ (.bool false)).heap.size ∧ Box3 W (W.setCell ⟨bo, 0, none⟩ (.bool false))) :=
    Lib.hid ⟨k.no, (Below.refl _ _).setCell k.lo _, by simp [World.setCell], fun b cs fr hb => by rw [heap_setCell_other _ _ _ _ (by exact obj_ne hb k.co (by decide))]; exact hb⟩
  clear k
  by_cases hbad : q < 0 ∨ (i : Int) ≤ q
  · have HT : Hid (takePart i s q = (s.1, false)) := Lib.hid (by unfold takePart; rw [if_pos (by omega)])
    by_cases h1 : q < 0
    · clear hbad
      go_enter Tryz.func121, Tryz.ntmps121
      go_wp2_with fail
      refine bodyPost_ret (v := .tuple #[]) (by simp [results, Tryz.results121, go_sem]) rfl ?_
      exact ⟨rfl, by rw [HT.out]; exact HNO.out.1, HNO.out.2⟩
    · have h2 : (i : Int) ≤ q := by omega
      clear hbad
      go_enter Tryz.func121, Tryz.ntmps121
      go_wp2_with fail
      refine bodyPost_ret (v := .tuple #[]) (by simp [results, Tryz.results121, go_sem]) rfl ?_
      exact ⟨rfl, by rw [HT.out]; exact HNO.out.1, HNO.out.2⟩
  · obtain ⟨j, rfl⟩ : ∃ j : Nat, q = j := ⟨q.toNat, by omega⟩
    have hj : (j : Int) < i := by omega
    have hjn : (j : Int) < n := by omega
    have hj0 : ¬ (j : Int) < 0 := by omega
    have c4 := HK.out.cell (q := j) (by omega)
    have f4 : W.frozen? ⟨T, j, none⟩ = false := HK.out.ek.row.frozenAt j
    have HYES : Hid (TK w0 h m ms bi bt bo T i n (s.1.set j true, s.2) (W.setCell ⟨T, j, none⟩ (.bool true)) ∧ Below w0.heap.size W (W.setCell ⟨T, j, none⟩ (.bool true)) ∧ W.heap.size ≤ (W.setCell ⟨T, j, none⟩ (.bool true)).heap.size ∧ Box3 W (W.setCell ⟨T, j, none⟩ (.bool true))) :=
      Lib.hid ⟨HK.out.yes, (Below.refl _ _).setCell (HK.out.ek.row.lt T rfl).1 _, by simp [World.setCell], fun b cs fr hb => by
        rw [heap_setCell_other _ _ _ _ (by exact fun e => owns_neObj HK.out.ek.row hb (by decide) (by rw [e]; rfl))]
        exact hb⟩
    obtain ⟨u, hu⟩ : ∃ u, s.1.getD j false = u := ⟨_, rfl⟩
    rw [hu] at c4
    have HU := Lib.hid hu
    clear hu
    cases u
    · have HT : Hid (takePart i s j = (s.1.set j true, s.2)) := Lib.hid (by unfold takePart; rw [if_neg (by rw [Int.toNat_natCast, HU.out]; simp; omega), Int.toNat_natCast])
      clear hbad
      go_enter Tryz.func121, Tryz.ntmps121
      go_wp2_with fail
      go_end0
      exact ⟨rfl, by rw [HT.out]; exact HYES.out.1, HYES.out.2⟩
    · have HT : Hid (takePart i s j = (s.1, false)) := Lib.hid (by unfold takePart; rw [if_pos (by rw [Int.toNat_natCast]; exact .inr (.inr HU.out))])
      clear hbad
      go_enter Tryz.func121, Tryz.ntmps121
      go_wp2_with fail
      refine bodyPost_ret (v := .tuple #[]) (by simp [results, Tryz.results121, go_sem]) rfl ?_
      exact ⟨rfl, by rw [HT.out]; exact HNO.out.1, HNO.out.2⟩
theorem run_expressions1 (args : Array Value) (w : World) : (callFunc 121 args).run Tryz.prog w = .ok (.enter 121 args) w := by
  have h1 : (Tryz.f121.name == "runtime.NumGoroutine") = false := by kernel_rfl
  have h2 : Tryz.f121.body.isNone = false := by kernel_rfl
  simp only [beq_eq_false_iff_ne, ne_eq] at h1
  have h3 : ¬ Tryz.f121.body = none := by
    intro e
    rw [e] at h2
    cases h2
  simp [callFunc, go_sem, Tryz.func121, h1, h3]
theorem doer1 (w0 : World) (h : MH) (m : ModelD) (ms bi bt bo T i n B : Nat) (hi : i ≤ n) (hn : n ≤ 140737488355328) (hB : B ≤ w0.heap.size) : Doer B 121 #[.pointer (some ⟨bi, 0, none⟩), .pointer (some ⟨bt, 0, none⟩), .pointer (some ⟨bo, 0, none⟩)] (takePart i) (fun s W => TK w0 h m ms bi bt bo T i n s W) (fun _ _ => True) where
  call s W q k _ := (expressions1C q k hi hn).mono fun e W' ⟨h1, h2, h3, h4, h5⟩ => ⟨h1, h2, h3.mono hB, h4, h5⟩
  below s W W' k hb := k.below hb
  run := run_expressions1

theorem mk_drop {α : Type} {l : List α} {k : Nat} {x : α} (h : l[k]? = some x) : l.drop k = x :: l.drop (k + 1) := by
  obtain ⟨hk, rfl⟩ := List.getElem?_eq_some_iff.1 h
  exact List.drop_eq_getElem_cons hk

theorem EK.start {w w2 : World} {h : MH} {m : ModelD} {n : Nat} (hc : (w.alloc (Obj.cells (mCells h m) 29)).grownBy w2 none) (ho : w2.ownsRow w.heap.size 4 1 (.slice (some ⟨w.heap.size + 1, 0, none⟩) n n) n (madeCells #[Value.bool false] n).toList) :
    EK w h m w.heap.size w2.heap.size (w.heap.size + 1) n (List.replicate n false) (w2.alloc (.cells #[.slice (some ⟨w.heap.size + 1, 0, none⟩) n n] 34)) := by
  have hb : Below w.heap.size w w2 := (ball (w := w) (Obj.cells (mCells h m) 29)).grown hc (by simp) (fun k hk => by cases hk)
  have hb2 : Below (w.alloc (Obj.cells (mCells h m) 29)).heap.size (w.alloc (Obj.cells (mCells h m) 29)) w2 := (Below.refl _ _).grown hc (Nat.le_refl _) (fun k hk => by cases hk)
  have hms : w2.heap[w.heap.size]? = some (.cells (mCells h m) 29 (0, 0)) := (hb2.block _ (by simp)).trans (heap_alloc_new _ _)
  refine ⟨hb.trans ((ball _).mono hb.size), (Below.block (ball _) _ (lt_of_block hms)).trans hms, heap_alloc_new _ _, ?_⟩
  have e : (madeCells #[Value.bool false] n).toList = boolsV (List.replicate n false) := by
    unfold boolsV
    rw [List.map_replicate]
    exact toList_madeCells_one _ _
  rw [← e]
  exact ho.alloc _

set_option maxHeartbeats 4000000 in
set_option maxRecDepth 100000 in
theorem expressionsC {B p : Nat} {h : MH} {m : ModelD} (w : World) (hk : Ck B w p h m) :
    Calls Tryz.prog 101 #[.pointer (some ⟨p, 0, none⟩)] w fun e w' => e = .returned (.tuple #[.int .i64 (expressionsL m).1, .bool (expressionsL m).2]) ∧ Below w.heap.size w w' := by
  have HK := Lib.hid hk
  have c0 := hk.c0
  have c1 := hk.c1
  have c2 := hk.c2
  have c3 := hk.c3
  have c4 := hk.c4
  have c5 := hk.c5
  have c6 := hk.c6
  have l1 := hk.md.procs.1
  have l2 := hk.md.exprs.1
  have HMC : Hid ((w.alloc (Obj.cells (mCells h m) 29)).heap[w.heap.size]? = some (.cells (mCells h m) 29 (0, 0)) ∧ Below w.heap.size w (w.alloc (Obj.cells (mCells h m) 29))) := Lib.hid ⟨heap_alloc_new _ _, ball _⟩
  clear hk
  unfold mCells at HMC
  by_cases hbad : m.procs.length < 1 ∨ 16 < m.procs.length ∨ m.claim < -1 ∨ (m.procs.length : Int) ≤ m.claim ∨ 4096 < m.exprs.length
  · have HV : Hid (expressionsL m = (-1, false)) := Lib.hid (by unfold expressionsL exprsHead; rw [decide_eq_true (by exact hbad)]; rfl)
    go_enter Tryz.func101, Tryz.ntmps101
    go_wp2
    all_goals first | (exfalso; omega) | (go_ret2; exact ⟨retIB (by rw [HV.out]) (by rw [HV.out]), HMC.out.2⟩)
  · have HV : Hid (exprsGo m m.exprs 0 (List.replicate m.exprs.length false) = expressionsL m) := Lib.hid (by unfold expressionsL exprsHead; rw [decide_eq_false (by exact hbad)]; rfl)
    generalize expressionsL m = R at HV ⊢
    obtain ⟨r1, r2⟩ := R
    simp only
    have g1 : ¬ m.procs.length < 1 := fun h => hbad (.inl h)
    have g2 : ¬ 16 < m.procs.length := fun h => hbad (.inr (.inl h))
    have g3 : ¬ m.claim < -1 := fun h => hbad (.inr (.inr (.inl h)))
    have g4 : ¬ (m.procs.length : Int) ≤ m.claim := fun h => hbad (.inr (.inr (.inr (.inl h))))
    have g5 : ¬ 4096 < m.exprs.length := fun h => hbad (.inr (.inr (.inr (.inr h))))
    clear hbad
    obtain ⟨i4, hi4, hz0, hz1, hz2⟩ := info_parts info_bool
    have HI := Lib.hid (And.intro hi4 (And.intro hz0 (And.intro hz1 hz2)))
    clear hi4 hz0 hz1 hz2
    have HL1 : Hid (m.exprs.length ≤ maxLen) := Lib.hid (by unfold maxLen; omega)
    have HL2 : Hid (i4.bytes * m.exprs.length ≤ 281474976710656) := Lib.hid (by rw [HI.out.2.2.2]; omega)
    go_enter Tryz.func101, Tryz.ntmps101
    go_wp2_with (refine wpList_make_full _ rfl _ _ 34 rfl w.heap.size 4 i4 (.bool false) 1 Tryz.underlying34 HI.out.1 HI.out.2.1 HI.out.2.2.1 .i64 .i64 _ _ m.exprs.length rfl rfl rfl rfl HL2.out HL1.out HMC.out.2.size ?_)
    intro w2 hown hgrow
    have HEK := Lib.hid (EK.start (h := h) (m := m) hgrow hown)
    have HB : Hid (B ≤ w.heap.size) := Lib.hid (by have := HK.out.le; have := HK.out.lt; omega)
    clear hown hgrow c0 c1 c2 c3 c4 c5 c6
    have c6 : (w2.alloc (Obj.cells #[.slice (some ⟨w.heap.size + 1, 0, none⟩) m.exprs.length m.exprs.length] 34)).cell? ⟨w.heap.size, 6, none⟩ = some (.slice h.eo m.exprs.length h.ec) := (cell_of_row _ _ _ _ _ _ HEK.out.cm).trans rfl
    go_wp2_with fail
    clear c6
    generalize w2.alloc (Obj.cells #[.slice (some ⟨w.heap.size + 1, 0, none⟩) m.exprs.length m.exprs.length] 34) = W0 at HEK ⊢
    generalize w2.heap.size = bt at HEK ⊢
    generalize w.heap.size + 1 = T at HEK ⊢
    go_loopw [49] (fun iv W => ∃ (k : Nat) (t : List Bool), iv = .int .i64 k ∧ k ≤ m.exprs.length ∧ Hid (exprsGo m (m.exprs.drop k) k t = (r1, r2)) ∧ Hid (EK w h m w.heap.size bt T m.exprs.length t W)) (fun iv _ => m.exprs.length - (intOf iv).toNat)
    case atStart => exact ⟨0, _, rfl, by omega, HV, HEK⟩
    case round =>
      clear HV HEK
      obtain ⟨k, t, rfl, hk, HG, HE⟩ := hrel
      have hk0 : (0 : Int) ≤ k := by omega
      by_cases hlt : k < m.exprs.length
      · have hlti : (k : Int) < m.exprs.length := by omega
        obtain ⟨x, hx⟩ : ∃ x, m.exprs[k]? = some x := ⟨_, List.getElem?_eq_getElem hlt⟩
        have HKr := Lib.hid (HK.out.below HE.out.bel)
        obtain ⟨g, off, hoe, hg, hxa⟩ := HKr.out.md.exprs.get hx
        have HGO := Lib.hid (HG.out)
        have hd := mk_drop hx
        have HGX : Hid ((if exprB m x = true then (if (takeAll k t (partsL x)).2 = true then exprsGo m (m.exprs.drop (k + 1)) (k + 1) (takeAll k t (partsL x)).1 else ((k : Int), false)) else ((k : Int), false)) = (r1, r2)) := Lib.hid (by
          have h0 := HG.out
          rw [hd] at h0
          exact h0)
        have hne : w.heap.size < wr.heap.size := lt_of_block HE.out.cm
        have a4 : ∀ o, (wr.alloc o).cell? ⟨w.heap.size, 6, none⟩ = some (.slice (some ⟨g, off, none⟩) m.exprs.length h.ec) := fun o => Lib.cell?_alloc_some _ ((cell_of_row _ _ _ _ _ _ HE.out.cm).trans (by unfold mCells; rw [hoe]; rfl))
        have HXA : Hid (exprAt B wr g (off + k * 12) x ∧ g < B) := Lib.hid ⟨hxa, hg⟩
        clear hd hx hoe hxa hg HG HGO
        go_wp2_with fail
        clear a4
        have HE1 := Lib.hid (HE.out.below (ball (Obj.cells #[.int .i64 k] 3)))
        have HB1 := Lib.hid (Bx.new wr #[.int .i64 k] 3)
        have HX1 : Hid (exprAt B (wr.alloc (Obj.cells #[.int .i64 k] 3)) g (off + k * 12) x) := Lib.hid (HXA.out.1.below ((ball _).mono (by have := HB.out; omega)) HXA.out.2)
        have HK1 := Lib.hid (HKr.out.alloc (Obj.cells #[.int .i64 k] 3))
        generalize wr.alloc (Obj.cells #[.int .i64 k] 3) = W1 at HE1 HB1 HX1 HK1 ⊢
        refine (expressionC W1 HK1.out HX1.out HXA.out.2).mono ?_
        rintro e W2 ⟨rfl, hb2⟩
        have HE2 := Lib.hid (HE1.out.below hb2)
        have HB2 := Lib.hid (HB1.out.below hb2)
        have HX2 : Hid (exprAt B W2 g (off + k * 12) x) := Lib.hid (HX1.out.below (hb2.mono (by have := HK1.out.le; have := HK1.out.lt; omega)) HXA.out.2)
        clear hb2 HE1 HX1 HK1 HKr
        obtain ⟨b1, hb1⟩ : ∃ b, exprB m x = b := ⟨_, rfl⟩
        rw [hb1] at HGX ⊢
        clear hb1
        cases b1
        · have a1 : W2.cell? ⟨wr.heap.size, 0, none⟩ = some (.int .i64 k) := HB2.out.cell rfl
          have HR : Hid ((k : Int) = r1 ∧ false = r2) := Lib.hid (by have h0 := HGX.out; rw [if_neg (by decide)] at h0; injection h0 with h1 h2; exact ⟨h1, h2⟩)
          go_wp2_with fail
          go_ret2
          exact ⟨retIB HR.out.1 HR.out.2, HE2.out.bel⟩
        · have HG1 : Hid ((if (takeAll k t (partsL x)).2 = true then exprsGo m (m.exprs.drop (k + 1)) (k + 1) (takeAll k t (partsL x)).1 else ((k : Int), false)) = (r1, r2)) := Lib.hid (by have h0 := HGX.out; rw [if_pos rfl] at h0; exact h0)
          clear HGX
          go_wp2_with fail
          have HT : Hid (TK w h m w.heap.size wr.heap.size bt W2.heap.size T k m.exprs.length (t, true) (W2.alloc (Obj.cells #[.bool true] 4))) := Lib.hid (by
            have hbb := ball (w := W2) (Obj.cells #[.bool true] 4)
            refine ⟨HE2.out.below hbb, (hbb.block _ (lt_of_block HB2.out.box)).trans HB2.out.box, heap_alloc_new _ _, ?_, HE2.out.bel.size⟩
            have := (HE2.out.row.lt T rfl).2
            omega)
          have HX3 : Hid (exprAt B (W2.alloc (Obj.cells #[.bool true] 4)) g (off + k * 12) x) := Lib.hid (HX2.out.below ((ball _).mono (by have := HE2.out.bel.size; have := HB.out; omega)) HXA.out.2)
          generalize W2.alloc (Obj.cells #[.bool true] 4) = W3 at HT HX3 ⊢
          generalize W2.heap.size = bo at HT ⊢
          refine (partsC (doer1 w h m w.heap.size wr.heap.size bt bo T k m.exprs.length B (by omega) l2 HB.out) _ (t, true) W3 (by have := HT.out.ek.bel.size; have := HB.out; omega) HX3.out HXA.out.2 HT.out (fun _ _ _ _ => trivial)).mono ?_
          rintro e W4 ⟨rfl, ht4, -⟩
          have HT4 : Hid (TK w h m w.heap.size wr.heap.size bt bo T k m.exprs.length (takeAll k t (partsL x)) W4) := Lib.hid ht4
          clear ht4 HT HX3 HX2 HE2 HB2
          obtain ⟨⟨t5, u5⟩, h5⟩ : ∃ s, takeAll k t (partsL x) = s := ⟨_, rfl⟩
          rw [h5] at HT4 HG1
          have a1 : W4.cell? ⟨bo, 0, none⟩ = some (.bool u5) := (cell_of_row _ _ _ _ _ _ HT4.out.co).trans rfl
          have a2 : W4.cell? ⟨wr.heap.size, 0, none⟩ = some (.int .i64 k) := (cell_of_row _ _ _ _ _ _ HT4.out.ci).trans rfl
          clear h5
          cases u5
          · have HR : Hid ((k : Int) = r1 ∧ false = r2) := Lib.hid (by have h0 := HG1.out; rw [if_neg (by simp)] at h0; injection h0 with h1 h2; exact ⟨h1, h2⟩)
            go_wp2_with fail
            go_ret2
            exact ⟨retIB HR.out.1 HR.out.2, HT4.out.ek.bel⟩
          · have HN : Hid (exprsGo m (m.exprs.drop (k + 1)) (k + 1) t5 = (r1, r2)) := Lib.hid (by have h0 := HG1.out; rw [if_pos rfl] at h0; exact h0)
            have HE5 := Lib.hid HT4.out.ek
            go_wp2_with fail
            go_roundw
            case rel => exact ⟨k + 1, t5, by go_num, by omega, HN, HE5⟩
            case measure => simp [intOf]; omega
      · have hlti : ¬ (k : Int) < m.exprs.length := by omega
        have HR : Hid ((0 : Int) = r1 ∧ true = r2) := Lib.hid (by
          have h0 := HG.out
          rw [List.drop_eq_nil_of_le (by omega)] at h0
          unfold exprsGo at h0
          injection h0 with h1 h2
          exact ⟨h1, h2⟩)
        go_wp2_with fail
        go_ret2
        exact ⟨retIB HR.out.1 HR.out.2, HE.out.bel⟩
end Go.Proofs.YtbhgdlfndamklaaGreatDoor
