/- The looker: at which places a process may go alone. -/
import Derived.Test.YtofdfaopabmfoaaM30
import Derived.Test.YtofdfaopabmfoaaM09
namespace Go.Proofs.Ytofdfaopabmfoaa
open Go.ChangeShapes Go.WideShapes Go.ChangeAt Go.RowKit
set_option linter.unusedVariables false
set_option linter.unusedSimpArgs false

theorem safe_head {m : ModelD} {p : ProcD} {l : LocD} (h : headB p l = false) : safeLB m p l = false := by unfold safeLB; rw [h]; rfl
theorem safe_body {m : ModelD} {p : ProcD} {l : LocD} (h : headB p l = true) : safeLB m p l = l.out.all (outB m p) := by unfold safeLB; rw [h, Bool.true_and]
theorem head_is4 (p : ProcD) (l : LocD) : headB p l = (decide (0 < l.out.length) && decide (l.esc.length = 0) && !markB l && decide (p.provided < 0)) := rfl

set_option maxRecDepth 100000 in
set_option maxHeartbeats 8000000 in
theorem lkSafeC {B pl pm pp gp ap i k : Nat} {CS : Array Value} {h : MH} {m : ModelD} (hgm : GM m) (p : ProcD) (hp : m.procs[i]? = some p) (l : LocD) (hl : p.locs[k]? = some l) (w : World) (hL : Lk B pl pm pp CS h m w) (hat : procAt B w gp ap p) (hgp : gp < B) :
    Calls Try.prog 15 #[.pointer (some ⟨pl, 0, none⟩), .pointer (some ⟨gp, ap, none⟩), .int .i64 k] w fun e w' => e = .returned (.bool (safeLB m p l)) ∧ Below w.heap.size w w' := by
  have hk := (List.getElem?_eq_some_iff.1 hl).1
  have hki : (k : Int) < p.locs.length := by omega
  have hk0 : (0 : Int) ≤ k := by omega
  have hlm : l ∈ p.locs := List.mem_of_getElem? hl
  have HST := Lib.hid (fun (t : TransD) (ht : t ∈ l.out) => hgm.stmt hp hlm ht)
  have HTO := Lib.hid (fun (t : TransD) (ht : t ∈ l.out) => hgm.to hp hlm ht)
  have HEX := Lib.hid hgm.ex
  have HL := Lib.hid hL
  have hle := hL.le
  obtain ⟨lo, lc, c4, hrl⟩ := hat.locs
  have ll := hrl.1
  obtain ⟨gl, offl, hlo, hgl, hallL⟩ := hrl.every (by omega)
  have hatl : locAt B w gl (offl + k * 7) l := by
    have := hallL k hk
    have e : p.locs[k] = l := by rw [List.getElem?_eq_getElem hk] at hl; injection hl
    rw [e] at this; exact this
  have HLOCS : Hid (∀ W, Below w.heap.size w W → ∀ (j : Nat) (x : LocD), p.locs[j]? = some x → locAt B W gl (offl + j * 7) x) := Lib.hid fun W hb j x hx => by
    obtain ⟨hj, rfl⟩ := List.getElem?_eq_some_iff.1 hx
    exact (hallL j hj).below (hb.mono hle) hgl
  have HLAT : Hid (∀ W, Below w.heap.size w W → locAt B W gl (offl + k * 7) l) := Lib.hid fun W hb => hatl.below (hb.mono hle) hgl
  have HC4 : Hid (∀ W, Below w.heap.size w W → W.cell? ⟨gp, ap + 4, none⟩ = some (.slice (some ⟨gl, offl, none⟩) p.locs.length lc)) := Lib.hid fun W hb => by rw [← hlo]; exact (hb.cell (p := ⟨gp, ap + 4, none⟩) (by show gp < _; omega)).trans c4
  have HC9 : Hid (∀ W, Below w.heap.size w W → W.cell? ⟨gp, ap + 9, none⟩ = some (.int .i64 p.provided)) := Lib.hid fun W hb => (hb.cell (p := ⟨gp, ap + 9, none⟩) (by show gp < _; omega)).trans hat.c9
  have d4 := HC4.out _ (Below.refl _ _)
  have d9 := HC9.out _ (Below.refl _ _)
  obtain ⟨oo, oc, a0, hrO⟩ := hatl.out
  obtain ⟨eo, ec, a1, hrE⟩ := hatl.esc
  have HO := Lib.hid hrO
  have lo' := hrO.1
  have le' := hrE.1
  have HA0 : Hid (∀ W, Below w.heap.size w W → W.cell? ⟨gl, offl + k * 7, none⟩ = some (.slice oo l.out.length oc)) := Lib.hid fun W hb => (hb.cell (p := ⟨gl, offl + k * 7, none⟩) (by show gl < _; omega)).trans a0
  have HH := Lib.hid (head_is4 p l)
  have HNO := Lib.hid (safe_head (m := m) (p := p) (l := l))
  have HYES := Lib.hid (safe_body (m := m) (p := p) (l := l))
  have HGB : Hid (gl < B) := Lib.hid hgl
  clear hrl hallL hatl hL hat hlo c4 hrO hrE hgp hgl hlm hl hp hgm
  go_enter Try.func15, Try.ntmps15
  by_cases h0 : l.out.length = 0
  · have hb : ((l.out.length : Int) == 0) = true := by rw [beq_iff_eq]; omega
    have HZ := Lib.hid (HNO.out (by rw [HH.out, decide_eq_false (by omega)]; rfl))
    have HLN := Lib.hid h0
    clear h0
    go_wp2_with fail
    go_ret
    exact ⟨retB HZ.out.symm, Below.refl _ _⟩
  have hb0 : ((l.out.length : Int) == 0) = false := by rw [beq_eq_false_iff_ne]; omega
  by_cases h1 : 0 < l.esc.length
  · have h1i : (0 : Int) < l.esc.length := by omega
    have HZ := Lib.hid (HNO.out (by rw [HH.out, decide_eq_false (p := l.esc.length = 0) (by omega)]; simp))
    go_wp2_with fail
    go_ret
    exact ⟨retB HZ.out.symm, Below.refl _ _⟩
  have h1i : ¬ (0 : Int) < l.esc.length := by omega
  have HH2 : Hid (headB p l = (!markB l && decide (p.provided < 0))) := Lib.hid (by rw [HH.out, decide_eq_true (by omega), decide_eq_true (by omega)]; rfl)
  have HE0 : Hid (l.esc.length = 0) := Lib.hid (by omega)
  have h1n : ¬ 0 < l.esc.length := h1
  clear h1 HH
  go_wp2_with fail
  refine (markedC l w (HLAT.out w (Below.refl _ _))).mono ?_
  rintro e w1 ⟨rfl, rfl⟩
  obtain ⟨u, hu⟩ : ∃ u, markB l = u := ⟨_, rfl⟩
  rw [hu] at HH2 ⊢
  clear hu
  cases u
  rotate_left
  · have HZ := Lib.hid (HNO.out (by rw [HH2.out]; rfl))
    go_wp2_with fail
    go_ret
    exact ⟨retB HZ.out.symm, Below.refl _ _⟩
  by_cases hp0 : 0 ≤ p.provided
  · have HZ := Lib.hid (HNO.out (by rw [HH2.out, decide_eq_false (by omega)]; rfl))
    go_wp2_with fail
    go_ret
    exact ⟨retB HZ.out.symm, Below.refl _ _⟩
  have HZ0 := Lib.hid (HYES.out (by rw [HH2.out, decide_eq_true (by omega)]; rfl))
  have hpn : ¬ 0 ≤ p.provided := hp0
  clear hp0 HNO HYES HH2
  go_wp2_with fail
  clear d4 d9 a0 a1 hpn h1n h1i hb0 h0
  go_loopw [46] (fun iv W => ∃ j : Nat, iv = .int .i64 j ∧ j ≤ l.out.length ∧ Hid (∀ i (hi : i < l.out.length), i < j → outB m p l.out[i] = true) ∧ Hid (Below w.heap.size w W)) (fun iv _ => l.out.length - (intOf iv).toNat)
  case atStart => exact ⟨0, rfl, by omega, Lib.hid fun j _ h => by omega, Lib.hid (Below.refl _ _)⟩
  case round =>
    obtain ⟨j, rfl, hj, HJ, HB⟩ := hrel
    have hj0 : (0 : Int) ≤ j := by omega
    by_cases hlt : j < l.out.length
    · have hlti : (j : Int) < l.out.length := by omega
      obtain ⟨gt, offt, hto, hgt, htr⟩ := HO.out.cell hlt
      obtain ⟨t, ht⟩ : ∃ t, l.out[j] = t := ⟨_, rfl⟩
      rw [ht] at htr
      have htm : t ∈ l.out := by rw [← ht]; exact List.getElem_mem hlt
      have HSB := Lib.hid (HST.out t htm)
      have htb := HTO.out t htm
      obtain ⟨n, hn⟩ : ∃ n : Nat, t.to = n := ⟨t.to.toNat, by omega⟩
      have hnl : n < p.locs.length := by omega
      obtain ⟨x, hx⟩ : ∃ x, p.locs[n]? = some x := ⟨_, List.getElem?_eq_getElem hnl⟩
      have HOUT : Hid (outB m p t = (ownS m t.s && toLB m x)) := Lib.hid (by unfold outB; rw [hn, Int.toNat_natCast, hx])
      have HTL : Hid (toLB m x = (!markB x && !(meetsB m && recvLB x))) := Lib.hid rfl
      have HX := Lib.hid (fun W hb => HLOCS.out W hb n x hx)
      have HTA : Hid (∀ W, Below w.heap.size w W → stmtAt B W gt (offt + j * 9) t.s) := Lib.hid fun W hb => htr.s.below (hb.mono hle) hgt
      have HT7 : Hid (∀ W, Below w.heap.size w W → W.cell? ⟨gt, offt + j * 9 + 7, none⟩ = some (.int .i64 n)) := Lib.hid fun W hb => (hb.cell (p := ⟨gt, offt + j * 9 + 7, none⟩) (by show gt < _; omega)).trans (by rw [← hn]; exact htr.c7)
      have HGT : Hid (gt < B) := Lib.hid hgt
      have HBAD : Hid (outB m p t = false → safeLB m p l = false) := Lib.hid fun h => by rw [HZ0.out]; exact all_bad hlt (by rw [ht]; exact h)
      have HGO : Hid (outB m p t = true → ∀ i (hi : i < l.out.length), i < j + 1 → outB m p l.out[i] = true) := Lib.hid fun h i hi hij => by
        by_cases e : i = j
        · subst e; rw [ht]; exact h
        · exact HJ.out i hi (by omega)
      have hn0 : (0 : Int) ≤ n := by omega
      have hnli : (n : Int) < p.locs.length := by omega
      have HA0t : Hid (∀ W, Below w.heap.size w W → W.cell? ⟨gl, offl + k * 7, none⟩ = some (.slice (some ⟨gt, offt, none⟩) l.out.length oc)) := Lib.hid fun W hb => by rw [← hto]; exact HA0.out W hb
      have HS : Hid (∀ n : Nat, Value.slice oo n oc = Value.slice (some ⟨gt, offt, none⟩) n oc) := Lib.hid fun n => by rw [hto]
      rw [HS.out]
      have u1 := HA0t.out _ HB.out
      have u2 := HT7.out _ HB.out
      have u4 := HC4.out _ HB.out
      clear hto hgt htr ht htm htb hn hx HJ
      go_wp2_with fail
      go_quiet (fail)
      have HB1 : Hid (Below w.heap.size w (wr.drewN nq)) := Lib.hid (bdrew HB.out nq)
      generalize wr.drewN nq = W1 at HB1 ⊢
      clear u1 u2 u4
      have u1 := HA0t.out _ HB1.out
      go_wp2_with fail
      refine (ownStmtC HEX.out t.s HSB.out W1 (HL.out.below HB1.out) (HTA.out W1 HB1.out) HGT.out).mono ?_
      rintro e W2 ⟨rfl, hb2⟩
      have HB2 := Lib.hid (HB1.out.trans (hb2.mono HB1.out.size))
      clear hb2 u1
      obtain ⟨u, hu⟩ : ∃ u, ownS m t.s = u := ⟨_, rfl⟩
      rw [hu] at HOUT ⊢
      clear hu
      cases u
      · have HZ := Lib.hid (HBAD.out (by rw [HOUT.out]; rfl))
        go_wp2_with fail
        go_ret
        exact ⟨retB HZ.out.symm, HB2.out⟩
      go_wp2_with fail
      refine (markedC x W2 (HX.out W2 HB2.out)).mono ?_
      rintro e W3 ⟨rfl, rfl⟩
      obtain ⟨u, hu⟩ : ∃ u, markB x = u := ⟨_, rfl⟩
      rw [hu] at HTL ⊢
      clear hu
      cases u
      rotate_left
      · have HZ := Lib.hid (HBAD.out (by rw [HOUT.out, HTL.out]; rfl))
        go_wp2_with fail
        go_ret
        exact ⟨retB HZ.out.symm, HB2.out⟩
      have l0 := (HL.out.below HB2.out).l0
      obtain ⟨u, hu⟩ : ∃ u, meetsB m = u := ⟨_, rfl⟩
      rw [hu] at HTL l0
      clear hu
      cases u
      · have HZ := Lib.hid (HGO.out (by rw [HOUT.out, HTL.out]; rfl))
        go_wp2_with fail
        go_roundw
        case rel => exact ⟨j + 1, by go_num, by omega, HZ, HB2⟩
        case measure => simp [intOf]; omega
      go_wp2_with fail
      refine (pReceivesC x W2 (HX.out W2 HB2.out)).mono ?_
      rintro e W3 ⟨rfl, rfl⟩
      obtain ⟨u, hu⟩ : ∃ u, recvLB x = u := ⟨_, rfl⟩
      rw [hu] at HTL ⊢
      clear hu l0
      cases u
      · have HZ := Lib.hid (HGO.out (by rw [HOUT.out, HTL.out]; rfl))
        go_wp2_with fail
        go_roundw
        case rel => exact ⟨j + 1, by go_num, by omega, HZ, HB2⟩
        case measure => simp [intOf]; omega
      · have HZ := Lib.hid (HBAD.out (by rw [HOUT.out, HTL.out]; rfl))
        go_wp2_with fail
        go_ret
        exact ⟨retB HZ.out.symm, HB2.out⟩
    · have hlti : ¬ (j : Int) < l.out.length := by omega
      have HZ : Hid (safeLB m p l = true) := Lib.hid (by rw [HZ0.out]; exact all_of fun i hi => HJ.out i hi (by omega))
      go_wp2_with fail
      go_ret
      exact ⟨retB HZ.out.symm, HB.out⟩
end Go.Proofs.Ytofdfaopabmfoaa
/- Of each proctype, the places at which a process may go alone: the program's answer, every model. -/
namespace Go.Proofs.Ytofdfaopabmfoaa
open Go.ChangeShapes Go.WideShapes Go.ChangeAt Go.RowKit
set_option linter.unusedVariables false
set_option linter.unusedSimpArgs false

theorem owns_ne2 {w : World} {B size n size' n' B' : Nat} {e e' : TypeId} {v v' : Value} {xs xs' : List Value} (h : w.ownsRow B e size v n xs) (h' : w.ownsRow B' e' size' v' n' xs') (hee : e ≠ e') {g : Nat} (hg : v.ownBlock = some g) : v'.ownBlock ≠ some g := by
  intro hg'
  obtain ⟨c, fz, h1⟩ := Lib.ownsRow_kind h g hg
  exact owns_neObj h' h1 (Ne.symm hee) hg'
theorem owns_grown2 {w w' : World} {B size n size' n' B' : Nat} {e e' : TypeId} {v v' : Value} {xs xs' : List Value} (h : w.ownsRow B e size v n xs) (h' : w.ownsRow B' e' size' v' n' xs') (hee : e ≠ e') (hg : w.grownBy w' v'.ownBlock) : w'.ownsRow B e size v n xs := by
  refine h.kept hg ?_
  cases hv : v.ownBlock with
  | none => exact .inl rfl
  | some g => exact .inr fun e2 => owns_ne2 h h' hee hv e2.symm
theorem obj_grown2 {w w' : World} {B size n : Nat} {e T : TypeId} {v : Value} {xs : List Value} (h : w.ownsRow B e size v n xs) {b : Nat} {cs : Array Value} {fr : Nat × Nat} (hb : w.heap[b]? = some (.cells cs T fr)) (hT : e ≠ T) (hg : w.grownBy w' v.ownBlock) : w'.heap[b]? = some (.cells cs T fr) :=
  (hg.block b (lt_of_block hb) (fun e2 => owns_neObj h hb hT e2.symm)).trans hb
def boolV (l : List Bool) : List Value := l.map Value.bool
/-- Bools in a block from L on. -/
def boolsAt (L B : Nat) (w : World) (g a : Nat) (l : List Bool) : Prop := ∃ g' c, L ≤ g' ∧ w.cell? ⟨g, a, none⟩ = some (.slice (some ⟨g', 0, none⟩) l.length c) ∧ Row B (some ⟨g', 0, none⟩) 1 (boolAt w) l
/-- The rows that are done, and a looker. -/
structure PRJ (w0 : World) (CS : Array Value) (h : MH) (m : ModelD) (pl pm pp G : Nat) (v : Value) (xs : List Value) (done : List (List Bool)) (W : World) : Prop where
  lk : Lk w0.heap.size pl pm pp CS h m W
  bm : W.heap[w0.heap.size]? = some (.cells CS 29 (0, 0))
  bel : Below w0.heap.size w0 W
  own : W.ownsRow (w0.heap.size + 1) 37 1 v xs.length xs
  len : xs.length = done.length
  row : ∀ i (hi : i < done.length) (hx : i < xs.length), ∃ g, g < G ∧ xs[i] = .slice (some ⟨g, 0, none⟩) done[i].length done[i].length ∧ W.ownsRow (w0.heap.size + 1) 4 1 (.slice (some ⟨g, 0, none⟩) done[i].length done[i].length) done[i].length (boolV done[i])
  le : G ≤ W.heap.size
section
variable {w0 W W' : World} {CS : Array Value} {h : MH} {m : ModelD} {pl pm pp G G' g n : Nat} {v v1 : Value} {xs : List Value} {done : List (List Bool)} {cur : List Bool}
theorem PRJ.below (k : PRJ w0 CS h m pl pm pp G v xs done W) (hb : Below W.heap.size W W') : PRJ w0 CS h m pl pm pp G v xs done W' :=
  ⟨k.lk.below hb, (hb.block _ (lt_of_block k.bm)).trans k.bm, k.bel.trans (hb.mono k.bel.size), owns_below k.own hb, k.len, fun i hi hx => by
    obtain ⟨g, h1, h2, h3⟩ := k.row i hi hx
    exact ⟨g, h1, h2, owns_below h3 hb⟩, Nat.le_trans k.le hb.size⟩
theorem PRJ.up (k : PRJ w0 CS h m pl pm pp G v xs done W) (h1 : G ≤ G') (h2 : G' ≤ W.heap.size) : PRJ w0 CS h m pl pm pp G' v xs done W :=
  ⟨k.lk, k.bm, k.bel, k.own, k.len, fun i hi hx => by
    obtain ⟨g, h1, h2, h3⟩ := k.row i hi hx
    exact ⟨g, by omega, h2, h3⟩, h2⟩
/-- A cell of a row of Bools, behind those that are done. -/
theorem PRJ.set (k : PRJ w0 CS h m pl pm pp G v xs done W) (hg : G ≤ g) (ho : W.ownsRow (w0.heap.size + 1) 4 1 (.slice (some ⟨g, 0, none⟩) n n) n (boolV cur)) (i : Nat) (b : Bool) : PRJ w0 CS h m pl pm pp G v xs done (W.setCell ⟨g, i, none⟩ (.bool b)) ∧ (W.setCell ⟨g, i, none⟩ (.bool b)).ownsRow (w0.heap.size + 1) 4 1 (.slice (some ⟨g, 0, none⟩) n n) n (boolV (cur.set i b)) := by
  obtain ⟨c, fz, hk⟩ := Lib.ownsRow_kind ho g rfl
  have hgl := (ho.lt g rfl).1
  have hb : Below w0.heap.size W (W.setCell ⟨g, i, none⟩ (.bool b)) := (Below.refl _ _).setCell (by show _ ≤ g; omega) _
  refine ⟨⟨⟨k.lk.eq, ?_, ?_, ?_, Nat.le_trans k.lk.le hb.size, k.lk.md.below hb⟩, ?_, k.bel.trans hb, owns_set k.own _ _ (owns_ne2 ho k.own (by decide) rfl), k.len, fun i hi hx => ?_, Nat.le_trans k.le hb.size⟩, ?_⟩
  · rw [heap_setCell_other _ _ _ _ (obj_ne k.lk.bl hk (by decide))]; exact k.lk.bl
  · rw [heap_setCell_other _ _ _ _ (obj_ne k.lk.bm hk (by decide))]; exact k.lk.bm
  · rw [heap_setCell_other _ _ _ _ (obj_ne k.lk.bp hk (by decide))]; exact k.lk.bp
  · rw [heap_setCell_other _ _ _ _ (obj_ne k.bm hk (by decide))]; exact k.bm
  · obtain ⟨g', h1, h2, h3⟩ := k.row i hi hx
    exact ⟨g', h1, h2, owns_set h3 _ _ (fun e => by
      unfold Value.ownBlock at e
      injection e with e
      simp only at e
      omega)⟩
  · have := (ho.stored i (.bool b)).1
    unfold boolV at this ⊢
    rw [List.map_set]
    exact this
/-- One more row. -/
theorem PRJ.put (k : PRJ w0 CS h m pl pm pp g v xs done W) (o : Obj) (hg : (W.alloc o).grownBy W' v.ownBlock) (ho : W'.ownsRow (w0.heap.size + 1) 37 1 v1 (xs.length + [Value.slice (some ⟨g, 0, none⟩) n n].length) (xs ++ [.slice (some ⟨g, 0, none⟩) n n])) (hr : W.ownsRow (w0.heap.size + 1) 4 1 (.slice (some ⟨g, 0, none⟩) n n) n (boolV cur)) (hn : cur.length = n) : PRJ w0 CS h m pl pm pp (g + 1) v1 (xs ++ [.slice (some ⟨g, 0, none⟩) n n]) (done ++ [cur]) W' := by
  have k1 := k.below (ball o)
  have hr1 := owns_below hr (ball o)
  have hgl := (hr1.lt g rfl)
  generalize W.alloc o = A at k1 hr1 hg hgl
  have hb : Below w0.heap.size A W' := (Below.refl _ _).grown hg k1.bel.size (fun k hk => by have := (k1.own.lt k hk).1; omega)
  refine ⟨⟨k1.lk.eq, obj_grown2 k1.own k1.lk.bl (by decide) hg, obj_grown2 k1.own k1.lk.bm (by decide) hg, obj_grown2 k1.own k1.lk.bp (by decide) hg, Nat.le_trans k1.lk.le hb.size, k1.lk.md.below hb⟩, obj_grown2 k1.own k1.bm (by decide) hg, k1.bel.trans hb, by rw [List.length_append]; exact ho, by simp [k1.len], fun i hi hx => ?_, by have := hb.size; omega⟩
  by_cases hi2 : i < done.length
  · obtain ⟨g', h1, h2, h3⟩ := k1.row i hi2 (by rw [k1.len]; exact hi2)
    refine ⟨g', by omega, ?_, ?_⟩
    · rw [List.getElem_append_left (by rw [k1.len]; exact hi2), List.getElem_append_left hi2]; exact h2
    · rw [List.getElem_append_left hi2]; exact owns_grown2 h3 k1.own (by decide) hg
  · have e : i = done.length := by simp at hi; omega
    subst e
    refine ⟨g, by omega, ?_, ?_⟩
    · rw [List.getElem_append_right (by rw [k1.len]; exact Nat.le_refl _), List.getElem_append_right (Nat.le_refl _)]
      simp [k1.len, hn]
    · rw [List.getElem_append_right (Nat.le_refl _)]
      simp only [Nat.sub_self, List.getElem_cons_zero]
      rw [hn]
      exact owns_grown2 hr1 k1.own (by decide) hg
theorem boolV_row {B c : Nat} {l : List Bool} (hl : l.length ≤ 140737488355328) (ho : W.ownsRow B 4 1 (.slice (some ⟨g, 0, none⟩) l.length c) l.length (boolV l)) : Row W.heap.size (some ⟨g, 0, none⟩) 1 (boolAt W) l := by
  refine ⟨hl, .inr ⟨g, 0, rfl, (ho.lt g rfl).2, fun i hi => ?_⟩⟩
  have h1 := ho.cellAt i (by omega)
  unfold boolAt
  rw [show 0 + i * 1 = i by omega, h1]
  unfold boolV
  rw [List.getElem?_map, List.getElem?_eq_getElem hi]
  rfl
end
/-- What it gives. -/
structure SafesP (w : World) (m : ModelD) (e : Ending) (W : World) : Prop where
  bel : Below w.heap.size w W
  no : admE m ≠ 0 → e = .returned (.tuple #[.slice none 0 0, .int .i64 (admE m)])
  yes : admE m = 0 → ∃ g c, w.heap.size ≤ g ∧ e = .returned (.tuple #[.slice (some ⟨g, 0, none⟩) m.procs.length c, .int .i64 0]) ∧ Row W.heap.size (some ⟨g, 0, none⟩) 1 (boolsAt w.heap.size W.heap.size W) (m.procs.map (safesL m))
theorem PRJ.done {w0 W : World} {CS : Array Value} {h : MH} {m : ModelD} {pl pm pp G : Nat} {v : Value} {xs : List Value} (k : PRJ w0 CS h m pl pm pp G v xs (m.procs.map (safesL m)) W) (hlen : m.procs.length ≤ 4096) (hp : 0 < m.procs.length) (hsm : ∀ p ∈ m.procs, p.locs.length ≤ 256) (ha : admE m = 0) : SafesP w0 m (.returned (.tuple #[v, .int .i64 0])) W := by
  refine ⟨k.bel, fun h => absurd ha h, fun _ => ?_⟩
  have hxl : xs.length = m.procs.length := by rw [k.len, List.length_map]
  have hown := k.own
  rcases hown.2 with ⟨rfl, hl0⟩ | ⟨g, cap, cur, rfl, hb, hg, hc, hm, hs, ht⟩
  · omega
  · refine ⟨g, cap, by omega, by rw [hxl], ⟨by simp; omega, .inr ⟨g, 0, rfl, lt_of_block hg, fun i hi => ?_⟩⟩⟩
    have hix : i < xs.length := by simpa [hxl] using hi
    obtain ⟨g', -, h2, h3⟩ := k.row i hi hix
    refine ⟨g', (m.procs.map (safesL m))[i].length, by have := (h3.lt g' rfl).1; omega, ?_, boolV_row ?_ h3⟩
    · have h4 := hown.cellAt i (by omega)
      rw [show 0 + i * 1 = i by omega, h4, List.getElem?_eq_getElem hix, h2]
    · have hl : (m.procs.map (safesL m))[i].length = m.procs[i].locs.length := by simp [safesL]
      have := hsm _ (List.getElem_mem (by simpa using hi : i < m.procs.length))
      omega
theorem info_bools : (Try.prog.info? 37).map (fun i => (i.zero, i.size, i.bytes)) = some (some (.slice none 0 0), 1, 24) := by kernel_rfl
theorem one_val (W : World) (x : Value) (T : TypeId) : ∀ j u', [x][j]? = some u' → (W.alloc (.cells #[x] T)).cell? ((⟨W.heap.size, 0, none⟩ : Addr).add j) = some u' := by
  intro j u' hj
  match j, hj with
  | 0, hj => simp at hj; subst hj; exact (cell_of_row _ _ 0 _ _ _ (heap_alloc_new W _)).trans rfl
  | j + 1, hj => simp at hj
end Go.Proofs.Ytofdfaopabmfoaa
