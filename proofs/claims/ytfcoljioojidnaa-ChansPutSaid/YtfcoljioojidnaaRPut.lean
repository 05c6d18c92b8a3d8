/- The document's Put. -/
import Derived.Test.YtfcoljioojidnaaRMath
namespace Go.Proofs.Ytfcoljioojidnaa
open Go.ChangeShapes Go.WideShapes Go.ChangeAt Go.RowKit
set_option linter.unusedVariables false
set_option linter.unusedSimpArgs false

def RPutP (w : World) (room r : Int) (F : List (Int × Bool)) (Q : List (List Int)) (m : List Int) (srt : Bool) (e : Ending) (w' : World) : Prop :=
  (putCode room F Q.length m ≠ 0 → e = .returned (.tuple #[chV 0 ⟨none, 0, 0⟩, .int .i64 (putCode room F Q.length m)])) ∧
  (putCode room F Q.length m = 0 → ∃ t M, e = .returned (.tuple #[chV r t, .int .i64 0]) ∧ QI w' t M (putQ F Q m srt)) ∧
  Below w.heap.size w w'
theorem PF.failR {w wr : World} {room r : Int} {f s : SL} {F : List (Int × Bool)} {Q : List (List Int)} {m : List Int} {srt : Bool} (h : PF w room r f s wr) (u v : Value) (k : Int) (hk : putCode room F Q.length m = k) (h0 : k ≠ 0) : RPutP w room r F Q m srt (.returned (.tuple #[chV 0 ⟨none, 0, 0⟩, .int .i64 k])) ((wr.setCell ⟨w.heap.size + 1 + 1, 0, none⟩ u).setCell ⟨w.heap.size + 1 + 1, 1, none⟩ v) :=
  ⟨fun _ => by rw [hk], fun e => absurd (hk.symm.trans e) h0, (h.bel.setCell (by show w.heap.size ≤ w.heap.size + 1 + 1; omega) _).setCell (by show w.heap.size ≤ w.heap.size + 1 + 1; omega) _⟩

set_option maxHeartbeats 4000000 in
set_option maxRecDepth 100000 in
theorem rput_short (room r : Int) (f s t : SL) (srt : Bool) (w : World) (h : t.n ≠ f.n) (hn : t.n ≤ 9223372036854775807) (hf : f.n ≤ 9223372036854775807) :
    Calls Try.prog 9 #[.agg #[.int .i64 room, slV f], chV r s, slV t, .bool srt] w fun e w' => e = .returned (.tuple #[chV 0 ⟨none, 0, 0⟩, .int .i64 42]) ∧ Below w.heap.size w w' := by
  obtain ⟨fo, fn, fc⟩ := f
  obtain ⟨so, sn, sc⟩ := s
  obtain ⟨t0, tn, tc⟩ := t
  simp only at h hn hf
  have hne : ((tn : Int) != (fn : Int)) = true := by rw [bne_iff_ne]; omega
  unfold chV slV
  simp only
  go_enter Try.func9, Try.ntmps9
  go_wp2_with fail
  refine bodyPost_ret (v := .tuple #[.agg #[.int .i64 0, .slice none 0 0], .int .i64 42]) (by simp [results, Try.results9, go_sem]) rfl ?_
  exact ⟨rfl, (((Below.refl _ w).alloc (Nat.le_refl _) _).alloc (by simp) _).alloc (by simp; omega) _⟩

/-- The message that is being fitted. -/
structure R1 (w : World) (room r : Int) (f s : SL) (F : List (Int × Bool)) (m : List Int) (i : Nat) (x : SL) (wr : World) : Prop where
  pf : PF w room r f s wr
  row : wr.ownsRow w.heap.size 2 1 (slV x) i (intsV ((fitted F m).take i))
theorem R1.below {w wr w1 : World} {room r : Int} {f s x : SL} {F : List (Int × Bool)} {m : List Int} {i : Nat} (h : R1 w room r f s F m i x wr) (hb : Below wr.heap.size wr w1) : R1 w room r f s F m i x w1 := ⟨h.pf.below hb, owns_below h.row hb⟩
theorem PF.grown {w W W' : World} {room r : Int} {f s : SL} {e : TypeId} {n : Nat} {v : Value} {xs : List Value} (h : PF w room r f s W) (hr : W.ownsRow w.heap.size e 1 v n xs) (he : e ≠ 24) (he2 : e ≠ 27) (hg : W.grownBy W' v.ownBlock) : PF w room r f s W' :=
  ⟨obj_grown hr h.shp he hg, obj_grown hr h.chn he2 hg, obj_grown hr h.res he2 hg, h.bel.grown hg h.bel.size (fun k hk => (hr.lt k hk).1)⟩
theorem R1.push {w w1 w2 : World} {room r v : Int} {f s x x' : SL} {F : List (Int × Bool)} {m : List Int} {i : Nat} (h : R1 w room r f s F m i x w1) (o : Obj)
    (ho : w2.ownsRow w.heap.size 2 1 (slV x') (i + 1) (intsV ((fitted F m).take i) ++ [.int .i64 v])) (hg : (w1.alloc o).grownBy w2 (slV x).ownBlock) (hv : (fitted F m)[i]? = some v) : R1 w room r f s F m (i + 1) x' w2 := by
  have h2 := h.below ((Below.refl _ _).alloc (Nat.le_refl _) o)
  refine ⟨h2.pf.grown h2.row (by decide) (by decide) hg, ?_⟩
  rw [← take_snoc' hv]
  unfold intsV at ho ⊢
  rw [List.map_append]
  exact ho
theorem fitted_at {F : List (Int × Bool)} {m : List Int} (h : m.length = F.length) {i : Nat} (hi : i < F.length) : (fitted F m)[i]? = some (fitI F[i].1 F[i].2 (m[i]'(h ▸ hi))) := by
  rw [List.getElem?_eq_getElem (by rw [fitted_len F m h]; exact hi)]
  unfold fitted
  rw [List.getElem_zipWith]

theorem rn0 (K : Nat) : rn K 0 = 0 := rfl
theorem rn_len {K k : Nat} {u : SL} {L : List SL} (hk : k ≤ L.length) : ((ins K u L).take (rn K k)).length = rn K k := by
  rw [List.length_take, ins_len]
  unfold rn
  split <;> omega
/-- The queue that is being made. -/
structure R2 (w : World) (room r : Int) (f s : SL) (F : List (Int × Bool)) (m : List Int) (u t : SL) (b : Nat) (N : List SL) (wr : World) : Prop where
  pf : PF w room r f s wr
  fit : wr.ownsRow w.heap.size 2 1 (slV u) F.length (intsV (fitted F m))
  out : wr.heap[b]? = some (.cells #[.int .i64 r, slV t] 27 (0, 0))
  row : wr.ownsRow w.heap.size 29 1 (slV t) N.length (N.map slV)
  lt : w.heap.size + 2 < b
theorem R2.below {w wr w1 : World} {room r : Int} {f s u t : SL} {F : List (Int × Bool)} {m : List Int} {b : Nat} {N : List SL} (h : R2 w room r f s F m u t b N wr) (hb : Below wr.heap.size wr w1) : R2 w room r f s F m u t b N w1 :=
  ⟨h.pf.below hb, owns_below h.fit hb, (hb.block _ (lt_of_block h.out)).trans h.out, owns_below h.row hb, h.lt⟩
theorem R2.start {w wr : World} {room r : Int} {f s u : SL} {F : List (Int × Bool)} {m : List Int} (h : R1 w room r f s F m F.length u wr) (he : m.length = F.length) : R2 w room r f s F m u ⟨none, 0, 0⟩ wr.heap.size [] (wr.alloc (.cells #[.int .i64 r, .slice none 0 0] 27)) := by
  have h2 := h.below ((Below.refl _ _).alloc (Nat.le_refl _) (.cells #[.int .i64 r, .slice none 0 0] 27))
  refine ⟨h2.pf, ?_, heap_alloc_new _ _, World.ownsRow_nil _ _ _ _, lt_of_block h.pf.res⟩
  have := h2.row
  rw [List.take_of_length_le (by rw [fitted_len F m he]; exact Nat.le_refl _)] at this
  exact this
theorem R2.push {w wr w2 : World} {room r : Int} {f s u t t' v : SL} {F : List (Int × Bool)} {m : List Int} {b : Nat} {N : List SL} (h : R2 w room r f s F m u t b N wr) (o : Obj)
    (ho : w2.ownsRow w.heap.size 29 1 (slV t') (N.length + 1) (N.map slV ++ [slV v])) (hg : (wr.alloc o).grownBy w2 (slV t).ownBlock) :
    R2 w room r f s F m u t' b (N ++ [v]) (w2.setCell ⟨b, 1, none⟩ (slV t')) := by
  have h1 := h.below ((Below.refl _ _).alloc (Nat.le_refl _) o)
  have hp := h1.pf.grown h1.row (by decide) (by decide) hg
  have hfit := owns_grown h1.fit h1.row (by decide) hg
  have hout := obj_grown h1.row h1.out (by decide) hg
  have hl := h.lt
  refine ⟨⟨?_, ?_, ?_, hp.bel.setCell (by show w.heap.size ≤ b; omega) _⟩, owns_set hfit _ _ (owns_neObj hfit hout (by decide)), ?_, ?_, hl⟩
  · rw [heap_setCell_other _ _ _ _ (by show w.heap.size ≠ b; omega)]; exact hp.shp
  · rw [heap_setCell_other _ _ _ _ (by show w.heap.size + 1 ≠ b; omega)]; exact hp.chn
  · rw [heap_setCell_other _ _ _ _ (by show w.heap.size + 2 ≠ b; omega)]; exact hp.res
  · rw [heap_setCell_same _ _ _ _ _ _ hout]
    rfl
  · rw [List.map_append, List.length_append]
    exact owns_set ho _ _ (owns_neObj ho hout (by decide))
theorem R2.done {w wr : World} {room r : Int} {f s u t : SL} {F : List (Int × Bool)} {Q : List (List Int)} {L : List SL} {m : List Int} {srt : Bool} {b : Nat} {K : Nat} (h : R2 w room r f s F m u t b (ins K u L) wr) (he : m.length = F.length) (hat : putAt F Q m srt = K) (hK : K ≤ L.length) (hco : putCode room F Q.length m = 0) (hM : Msgs w L Q) (v x : Value) :
    RPutP w room r F Q m srt (.returned (.tuple #[chV r t, .int .i64 0])) ((wr.setCell ⟨w.heap.size + 1 + 1, 0, none⟩ v).setCell ⟨w.heap.size + 1 + 1, 1, none⟩ x) := by
  have hs : ∀ {v0 : Value} {e : TypeId} {n : Nat} {xs : List Value}, e ≠ 27 → wr.ownsRow w.heap.size e 1 v0 n xs → ((wr.setCell ⟨w.heap.size + 1 + 1, 0, none⟩ v).setCell ⟨w.heap.size + 1 + 1, 1, none⟩ x).ownsRow w.heap.size e 1 v0 n xs := fun he hh =>
    owns_set (owns_set hh _ _ (owns_neObj hh h.pf.res he)) _ _ (owns_neObj hh h.pf.res he)
  have hbel : Below w.heap.size w ((wr.setCell ⟨w.heap.size + 1 + 1, 0, none⟩ v).setCell ⟨w.heap.size + 1 + 1, 1, none⟩ x) := (h.pf.bel.setCell (by show w.heap.size ≤ w.heap.size + 1 + 1; omega) _).setCell (by show w.heap.size ≤ w.heap.size + 1 + 1; omega) _
  refine ⟨fun hc => absurd hco hc, fun _ => ⟨t, ins K u L, rfl, ?_⟩, hbel⟩
  obtain ⟨q1, q2⟩ := owns_q (hs (by decide) h.row)
  refine ⟨q1, ?_, q2, ?_, ?_⟩
  · rw [putQ_ins, ins_len, ins_len, hM.1]
  · rw [putQ_ins, ins_len, ins_len, hM.1]
  · intro i h1 h2
    have hfit : MsgAt ((wr.setCell ⟨w.heap.size + 1 + 1, 0, none⟩ v).setCell ⟨w.heap.size + 1 + 1, 1, none⟩ x) u (fitted F m) := owns_msg (B := w.heap.size) (by rw [fitted_len F m he]; exact hs (by decide) h.fit)
    have e1 := List.getElem?_eq_getElem h1
    have e2 := List.getElem?_eq_getElem h2
    simp only [putQ_ins, hat] at e2 ⊢
    rw [ins_len] at h1
    have hl := hM.1
    rcases Nat.lt_trichotomy i K with hi | hi | hi
    · rw [ins_lt (by omega) hi] at e1 e2
      rw [← Option.some.inj e1, ← Option.some.inj e2]
      exact (hM.2 i (by omega) (by omega)).below hbel
    · subst hi
      rw [ins_at hK] at e1
      rw [ins_at (by omega)] at e2
      rw [← Option.some.inj e1, ← Option.some.inj e2]
      exact hfit
    · obtain ⟨j, rfl⟩ : ∃ j, i = j + 1 := ⟨i - 1, by omega⟩
      rw [ins_gt (by omega) (by omega)] at e1 e2
      rw [← Option.some.inj e1, ← Option.some.inj e2]
      exact (hM.2 j (by omega) (by omega)).below hbel

set_option maxHeartbeats 4000000 in
set_option maxRecDepth 100000 in
theorem rput_any (room r : Int) (f s t : SL) (F : List (Int × Bool)) (L : List SL) (Q : List (List Int)) (m : List Int) (srt : Bool) (w : World) (hf : f.n = F.length) (hF : FieldsAt w f.o F) (hs : s.n = L.length) (hR : QRow w s.o L) (hM : Msgs w L Q) (ht : MsgAt w t m) (he : m.length = F.length)
    (hm8 : m.length * 8 ≤ 140737488355328) (hbig : (L.length + 1) * 24 ≤ 140737488355328) (hbq : ∀ q ∈ Q, q.length * 8 ≤ 140737488355328) :
    Calls Try.prog 9 #[.agg #[.int .i64 room, slV f], chV r s, slV t, .bool srt] w (RPutP w room r F Q m srt) := by
  have HF := Lib.hid hF
  have HR := Lib.hid hR
  have HM := Lib.hid hM
  have HT := Lib.hid ht.2
  have HBQ := Lib.hid hbq
  have hPF := PF.start room r f s w
  have hcode : putCode room F Q.length m = if F.any (fun t => !tyB t.1 t.2) then 42 else if room ≤ Q.length then 45 else 0 := by
    unfold putCode
    rw [if_neg (fun h => h he)]
  have HCO := Lib.hid hcode
  obtain ⟨fo, fn, fc⟩ := f
  obtain ⟨so, sn, sc⟩ := s
  obtain ⟨t0, tn, tc⟩ := t
  simp only at hf hs
  have htn : tn = F.length := ht.1.trans he
  subst hf hs htn
  have hQL : Q.length = L.length := hM.1.symm
  have HQL := Lib.hid hQL
  have hne : ((F.length : Int) != (F.length : Int)) = false := by simp
  have HPF := Lib.hid hPF
  clear hF hR hM ht hbq hPF hcode hQL
  obtain ⟨i2, hi2, hz0, hsz, hby⟩ := info_parts info2
  have HI := Lib.hid (And.intro hi2 (And.intro hz0 (And.intro hsz hby)))
  clear hi2 hz0 hsz hby
  obtain ⟨i29, hi29, hz0, hsz, hby⟩ := info_parts info29
  have HI29 := Lib.hid (And.intro hi29 (And.intro hz0 (And.intro hsz hby)))
  clear hi29 hz0 hsz hby
  unfold chV slV
  unfold chV slV at HPF
  simp only at HF HR HT HPF ⊢
  go_enter Try.func9, Try.ntmps9
  go_wp2_with fail
  go_loopw [10, 11] (fun xv iv wr => ∃ (i : Nat) (xo : Option Addr) (xc : Nat), iv = .int .i64 i ∧ xv = .slice xo i xc ∧ i ≤ F.length ∧ Hid (∀ j (hj : j < F.length), j < i → tyB F[j].1 F[j].2 = true) ∧ Hid (R1 w room r ⟨fo, F.length, fc⟩ ⟨so, L.length, sc⟩ F m i ⟨xo, i, xc⟩ wr)) (fun _ i _ => F.length - (intOf i).toNat)
  case atStart => exact ⟨0, none, 0, rfl, rfl, by omega, Lib.hid fun j _ h => by omega, Lib.hid ⟨HPF.out, World.ownsRow_nil _ _ _ _⟩⟩
  case round =>
    obtain ⟨i, xo, xc, rfl, rfl, hi, HG, HP⟩ := hrel
    have hi0 : (0 : Int) ≤ i := by omega
    by_cases hlt : i < F.length
    · have hlti : (i : Int) < F.length := by omega
      have hlm : i < m.length := by omega
      obtain ⟨g, off, rfl, hg, hc⟩ : ∃ g off, fo = some ⟨g, off, none⟩ ∧ g < w.heap.size ∧ ∀ i (h : i < F.length), w.cell? ⟨g, off + i * 2, none⟩ = some (.int .i64 F[i].1) ∧ w.cell? ⟨g, off + i * 2 + 1, none⟩ = some (.bool F[i].2) := by
        rcases HF.out with h | h
        · omega
        · exact h
      obtain ⟨g2, off2, rfl, hg2, hc2⟩ : ∃ g off, t0 = some ⟨g, off, none⟩ ∧ Ints w g off m := by
        rcases HT.out with h | h
        · omega
        · exact h
      obtain ⟨b, hb⟩ : ∃ b, F[i].1 = b := ⟨_, rfl⟩
      obtain ⟨sg, hsg⟩ : ∃ b, F[i].2 = b := ⟨_, rfl⟩
      obtain ⟨v, hv⟩ : ∃ v, m[i] = v := ⟨_, rfl⟩
      have l1 : wr.cell? ⟨g, off + i * 2, none⟩ = some (.int .i64 b) := (HP.out.pf.bel.cell hg).trans ((hc i hlt).1.trans (by rw [hb]))
      have l2 : wr.cell? ⟨g, off + i * 2 + 1, none⟩ = some (.bool sg) := (HP.out.pf.bel.cell hg).trans ((hc i hlt).2.trans (by rw [hsg]))
      have l3 : wr.cell? ⟨w.heap.size, 1, none⟩ = some (.slice (some ⟨g, off, none⟩) F.length fc) := (cell_of_row _ _ _ _ _ _ HP.out.pf.shp).trans rfl
      have HMV : Hid (w.cell? ⟨g2, off2 + i, none⟩ = some (.int .i64 v)) := Lib.hid ((hc2 i hlm).trans (by rw [hv]))
      have HLL := Lib.hid (And.intro l1 l2)
      have HGG := Lib.hid (And.intro hg hg2)
      have HFV : Hid ((fitted F m)[i]? = some (fitI b sg v)) := Lib.hid (by rw [fitted_at he hlt, hb, hsg, hv])
      have HBS := Lib.hid (And.intro hb hsg)
      clear hb hsg hc hc2 hv hg hg2
      go_wp2_with fail
      refine (type16 b sg _).mono ?_
      rintro e w1 ⟨rfl, hb1⟩
      have HB0 : Hid (Below wr.heap.size wr w1) := Lib.hid hb1
      have HP1 := Lib.hid (HP.out.below HB0.out)
      obtain ⟨ty, hty⟩ : ∃ x, tyB b sg = x := ⟨_, rfl⟩
      rw [hty]
      have HTY := Lib.hid hty
      clear hb1 hty l1 l2 l3
      cases ty
      · have q1 : w1.cell? ⟨w.heap.size + 1 + 1, 0, none⟩ = some (.int .i64 0) := (cell_of_row _ _ _ _ _ _ HP1.out.pf.res).trans rfl
        have q2 : w1.cell? ⟨w.heap.size + 1 + 1, 1, none⟩ = some (.slice none 0 0) := (cell_of_row _ _ _ _ _ _ HP1.out.pf.res).trans rfl
        have q3 : w1.frozen? ⟨w.heap.size + 1 + 1, 0, none⟩ = false := frozen_of_row _ _ _ _ _ HP1.out.pf.res
        have q4 : w1.frozen? ⟨w.heap.size + 1 + 1, 1, none⟩ = false := frozen_of_row _ _ _ _ _ HP1.out.pf.res
        have HK : Hid (putCode room F Q.length m = 42) := Lib.hid (by
          rw [HCO.out, if_pos (any_bad hlt (by rw [HBS.out.1, HBS.out.2]; exact HTY.out))])
        go_wp2_with fail
        refine bodyPost_ret (v := .tuple #[.agg #[.int .i64 0, .slice none 0 0], .int .i64 42]) (by simp [results, Try.results9, go_sem, q1, q2, q3, q4]) rfl ?_
        exact HP1.out.pf.failR _ _ _ HK.out (by decide)
      · have hgr : g < wr.heap.size := Nat.lt_of_lt_of_le HGG.out.1 HP.out.pf.bel.size
        have HG1 : Hid (g < w1.heap.size) := Lib.hid (Nat.lt_of_lt_of_le HGG.out.1 HP1.out.pf.bel.size)
        have HG2 : Hid (g2 < w1.heap.size) := Lib.hid (Nat.lt_of_lt_of_le HGG.out.2 HP1.out.pf.bel.size)
        have HG3 : Hid (w.heap.size < w1.heap.size) := Lib.hid (lt_of_block HP1.out.pf.shp)
        have l1 : w1.drew.cell? ⟨g, off + i * 2, none⟩ = some (.int .i64 b) := (HB0.out.cell hgr).trans HLL.out.1
        have l2 : w1.drew.cell? ⟨g, off + i * 2 + 1, none⟩ = some (.bool sg) := (HB0.out.cell hgr).trans HLL.out.2
        have l3 : w1.drew.cell? ⟨w.heap.size, 1, none⟩ = some (.slice (some ⟨g, off, none⟩) F.length fc) := (cell_of_row _ _ _ _ _ _ HP1.out.pf.shp).trans rfl
        have l4 : w1.drew.cell? ⟨g2, off2 + i, none⟩ = some (.int .i64 v) := (HP1.out.pf.bel.cell HGG.out.2).trans HMV.out
        clear hgr
        go_wp2_with fail
        go_region_law
          (first
            | (go_simp
               go_at_call 25
               refine (rfit_any b v sg w1.drew).mono ?_
               rintro e w2 ⟨rfl, hb1⟩
               have HB1 : Hid (Below w1.heap.size w1 w2) := Lib.hid ⟨hb1.os, hb1.tape, hb1.output, hb1.size, hb1.block⟩
               have HP2 := Lib.hid (HP1.out.below HB1.out)
               have HROW : Hid ((w2.alloc (Obj.cells #[.int .i64 (fitI b sg v)] 2)).ownsRow w.heap.size 2 1 (.slice xo i xc) i (intsV ((fitted F m).take i))) := Lib.hid (HP2.out.row.alloc _)
               have HN := Lib.hid (new_one w2 (.int .i64 (fitI b sg v)) 2 w2.heap.size rfl)
               have HL4 : Hid (w.heap.size ≤ (w2.alloc (Obj.cells #[.int .i64 (fitI b sg v)] 2)).heap.size) := Lib.hid (by have := HP2.out.pf.bel.size; simp; omega)
               clear hb1)
            | (refine step_append_own rfl (.tmp 39) (.tmp 50) 29 rfl w.heap.size 2 i2 (.int .i64 0) 1 8 Try.underlying29 HI.out.1 HI.out.2.1 HI.out.2.2.1 HI.out.2.2.2 rfl (by decide) (.slice xo i xc) i (intsV ((fitted F m).take i)) (by simp [Act.eval, Act.put]) HROW.out ⟨w2.heap.size, 0, none⟩ 1 1 [.int .i64 (fitI b sg v)] (by simp [Act.eval, Act.put]) rfl HN.out (by simp [Value.oneCell']) (by unfold maxLen; omega) (by omega) HL4.out ?_
               intro v3 w3 hown3 hgr3
               obtain ⟨o3, c3, rfl, -⟩ := owns_sl hown3
               have HR3 : Hid (R1 w room r ⟨some ⟨g, off, none⟩, F.length, fc⟩ ⟨so, L.length, sc⟩ F m (i + 1) ⟨o3, i + 1, c3⟩ w3) := Lib.hid (HP2.out.push _ hown3 hgr3 HFV.out)
               clear hown3 hgr3))
        all_goals (
          clear l1 l2 l3 l4
          simp only [slV, Exit.inBlock, Exit.then]
          go_wp2_with fail
          go_roundw
          case rel => exact ⟨i + 1, o3, c3, by go_num, rfl, by omega, Lib.hid fun j hj hji => by
            by_cases e : j = i
            · subst e
              rw [HBS.out.1, HBS.out.2]
              exact HTY.out
            · exact HG.out j hj (by omega), HR3⟩
          case measure => simp [intOf]; omega)
    · have hlti : ¬ (i : Int) < F.length := by omega
      obtain rfl : i = F.length := by omega
      have HNB := Lib.hid (none_bad fun j hj => HG.out j hj (by omega))
      have p1 : wr.cell? ⟨w.heap.size, 0, none⟩ = some (.int .i64 room) := (cell_of_row _ _ _ _ _ _ HP.out.pf.shp).trans rfl
      have p3 : wr.cell? ⟨w.heap.size + 1, 0, none⟩ = some (.int .i64 r) := (cell_of_row _ _ _ _ _ _ HP.out.pf.chn).trans rfl
      have p4 : wr.cell? ⟨w.heap.size + 1, 1, none⟩ = some (.slice so L.length sc) := (cell_of_row _ _ _ _ _ _ HP.out.pf.chn).trans rfl
      by_cases hfull : room ≤ L.length
      · have q1 : wr.cell? ⟨w.heap.size + 1 + 1, 0, none⟩ = some (.int .i64 0) := (cell_of_row _ _ _ _ _ _ HP.out.pf.res).trans rfl
        have q2 : wr.cell? ⟨w.heap.size + 1 + 1, 1, none⟩ = some (.slice none 0 0) := (cell_of_row _ _ _ _ _ _ HP.out.pf.res).trans rfl
        have q3 : wr.frozen? ⟨w.heap.size + 1 + 1, 0, none⟩ = false := frozen_of_row _ _ _ _ _ HP.out.pf.res
        have q4 : wr.frozen? ⟨w.heap.size + 1 + 1, 1, none⟩ = false := frozen_of_row _ _ _ _ _ HP.out.pf.res
        have HK : Hid (putCode room F Q.length m = 45) := Lib.hid (by
          rw [HCO.out, HNB.out, if_neg (by decide), HQL.out, if_pos hfull])
        go_wp2_with fail
        refine bodyPost_ret (v := .tuple #[.agg #[.int .i64 0, .slice none 0 0], .int .i64 45]) (by simp [results, Try.results9, go_sem, q1, q2, q3, q4]) rfl ?_
        exact HP.out.pf.failR _ _ _ HK.out (by decide)
      · have HK : Hid (putCode room F Q.length m = 0) := Lib.hid (by
          rw [HCO.out, HNB.out, if_neg (by decide), HQL.out, if_neg hfull])
        have HST := Lib.hid (R2.start HP.out he)
        have HAT0 := Lib.hid (putAt_le F Q m srt)
        have HIF := Lib.hid (fun (i : Nat) (hi : i < Q.length) (h : ¬ putAt F Q m srt < i) => putAt_iff F Q m srt hi h)
        obtain ⟨K, hKe⟩ : ∃ K, putAt F Q m srt = K := ⟨_, rfl⟩
        rw [hKe] at HAT0 HIF
        rw [HQL.out] at HAT0
        have HAT := Lib.hid hKe
        clear hKe
        have HFM : Hid (∀ W, R1 w room r ⟨fo, F.length, fc⟩ ⟨so, L.length, sc⟩ F m F.length ⟨xo, F.length, xc⟩ W → MsgAt W ⟨xo, F.length, xc⟩ (fitted F m)) := Lib.hid fun W h => by
          apply owns_msg (B := w.heap.size)
          have := h.row
          rw [List.take_of_length_le (by rw [fitted_len F m he]; exact Nat.le_refl _)] at this
          rw [fitted_len F m he]
          exact this
        have HFL := Lib.hid (fitted_len F m he)
        go_wp2_with fail
        generalize wr.heap.size = b at HST ⊢
        generalize wr.alloc (Obj.cells #[.int .i64 r, .slice none 0 0] 27) = W0 at HST ⊢
        clear p1 p3 p4 HFM HP
        go_loopw [14, 15] (fun dv kv wr => ∃ (k : Nat) (d : Bool) (to : Option Addr) (tc : Nat), kv = .int .i64 k ∧ dv = .bool d ∧ k ≤ L.length ∧ Hid (d = decide (K < k)) ∧ Hid (R2 w room r ⟨fo, F.length, fc⟩ ⟨so, L.length, sc⟩ F m ⟨xo, F.length, xc⟩ ⟨to, rn K k, tc⟩ b ((ins K ⟨xo, F.length, xc⟩ L).take (rn K k)) wr)) (fun _ k _ => L.length - (intOf k).toNat)
        case atStart => exact ⟨0, false, none, 0, rfl, rfl, by omega, Lib.hid (by simp), by rw [rn0, List.take_zero]; exact HST⟩
        case round =>
          rename_i wr0
          obtain ⟨k, d, to, tc, rfl, rfl, hk, HD, HX⟩ := hrel
          have hk0 : (0 : Int) ≤ k := by omega
          have p4 : wr.cell? ⟨w.heap.size + 1, 1, none⟩ = some (.slice so L.length sc) := (cell_of_row _ _ _ _ _ _ HX.out.pf.chn).trans rfl
          by_cases hlt : k < L.length
          · have hlti : (k : Int) < L.length := by omega
            have hlq : k < Q.length := by have := HQL.out; omega
            obtain ⟨g, off, rfl, hg, hc⟩ : ∃ g off, so = some ⟨g, off, none⟩ ∧ g < w.heap.size ∧ ∀ i (h : i < L.length), w.cell? ⟨g, off + i, none⟩ = some (slV L[i]) := by
              rcases HR.out with h | h
              · omega
              · exact h
            obtain ⟨⟨mo, mn, mc⟩, hs⟩ : ∃ s, L[k] = s := ⟨_, rfl⟩
            obtain ⟨q, hq⟩ : ∃ q, Q[k] = q := ⟨_, rfl⟩
            have HMQ : Hid (MsgAt wr ⟨mo, mn, mc⟩ q) := Lib.hid (hs ▸ hq ▸ (HM.out.2 k hlt hlq).below HX.out.pf.bel)
            have HMX : Hid (MsgAt wr ⟨xo, F.length, xc⟩ (fitted F m)) := Lib.hid (owns_msg (B := w.heap.size) (by rw [HFL.out]; exact HX.out.fit))
            have HQ8 : Hid (q.length * 8 ≤ 140737488355328) := Lib.hid (HBQ.out _ (hq ▸ List.getElem_mem hlq))
            have c1 : wr.cell? ⟨g, off + k, none⟩ = some (.slice mo mn mc) := (HX.out.pf.bel.cell hg).trans ((hc k hlt).trans (by rw [hs]; rfl))
            obtain ⟨ls, hls⟩ : ∃ ls, lessB (fitted F m) q = ls := ⟨_, rfl⟩
            have HIT : Hid (¬ K < k → ((srt = true ∧ ls = true) ↔ K = k)) := Lib.hid fun h => by
              have := HIF.out k hlq h
              rw [hq, hls] at this
              exact this
            have HSK : Hid (K ≠ k → (ins K ⟨xo, F.length, xc⟩ L).take (rn K k) ++ [⟨mo, mn, mc⟩] = (ins K ⟨xo, F.length, xc⟩ L).take (rn K (k + 1))) := Lib.hid fun h => by
              have := ins_skip (x := (⟨xo, F.length, xc⟩ : SL)) hlt h
              rw [hs] at this
              exact this
            have HHT : Hid (K = k → (ins K ⟨xo, F.length, xc⟩ L).take (rn K k) ++ [⟨xo, F.length, xc⟩] = (ins K ⟨xo, F.length, xc⟩ L).take (k + 1) ∧ (ins K ⟨xo, F.length, xc⟩ L).take (k + 1) ++ [⟨mo, mn, mc⟩] = (ins K ⟨xo, F.length, xc⟩ L).take (rn K (k + 1))) := Lib.hid fun h => by
              have := ins_hit (x := (⟨xo, F.length, xc⟩ : SL)) hlt h
              rw [hs] at this
              exact this
            have HC := Lib.hid (And.intro hg ((hc k hlt).trans (by rw [hs])))
            have HRL := Lib.hid (rn_len (K := K) (u := ⟨xo, F.length, xc⟩) hk)
            have HLS := Lib.hid hls
            clear hs hq hc hg hlq
            go_wp2_with fail
            refine (less13 ⟨xo, F.length, xc⟩ ⟨mo, mn, mc⟩ (fitted F m) q wr HMX.out HMQ.out (by rw [HFL.out]; omega) (by have := HQ8.out; omega)).mono ?_
            rintro e w1 ⟨rfl, nn, rfl⟩
            rw [HLS.out]
            have HX1 := Lib.hid (HX.out.below (bdrew (Below.refl _ wr) nn))
            generalize wr.drewN nn = W at HX1 ⊢
            clear p4 c1 HMQ HMX
            have p4 : W.cell? ⟨w.heap.size + 1, 1, none⟩ = some (.slice (some ⟨g, off, none⟩) L.length sc) := (cell_of_row _ _ _ _ _ _ HX1.out.pf.chn).trans rfl
            by_cases hKk : K = k
            · obtain ⟨hs1, hs2⟩ := (HIT.out (by omega)).2 hKk
              have hd : d = false := by rw [HD.out]; simp; omega
              subst hs1 hs2 hd
              have HHH := Lib.hid (HHT.out hKk)
              have HD2 : Hid (true = decide (K < k + 1)) := Lib.hid (by simp; omega)
              have hrn : rn K k = k := by unfold rn; rw [if_neg (by omega)]; rfl
              have HNE : Hid (k + 1 + 1 = rn K (k + 1)) := Lib.hid (by unfold rn; rw [if_pos (by omega)])
              rw [hrn] at HX1 HRL HHH
              have HW1 : Hid (Below W.heap.size W (W.alloc (Obj.cells #[Value.slice xo F.length xc] 29))) := Lib.hid ((Below.refl _ _).alloc (Nat.le_refl _) _)
              have a5 : W.cell? ⟨b, 1, none⟩ = some (.slice to k tc) := (cell_of_row _ _ _ _ _ _ HX1.out.out).trans rfl
              have a6 : ∀ o, (W.alloc o).cell? ⟨b, 1, none⟩ = some (.slice to k tc) := fun o => Lib.cell?_alloc_some _ a5
              have HROW : Hid ((W.alloc (Obj.cells #[Value.slice xo F.length xc] 29)).ownsRow w.heap.size 29 1 (.slice to k tc) k (((ins K ⟨xo, F.length, xc⟩ L).take k).map slV)) := Lib.hid (by
                have h := HX1.out.row
                rw [HRL.out] at h
                exact h.alloc _)
              have HN := Lib.hid (new_one W (Value.slice xo F.length xc) 29 W.heap.size rfl)
              have HL1 : Hid (∀ v ∈ [Value.slice xo F.length xc], v.oneCell' = true) := Lib.hid (by simp [Value.oneCell'])
              have HS1 : Hid (k + 1 ≤ maxLen) := Lib.hid (by unfold maxLen; omega)
              have HS2 : Hid ((k + 1) * 24 ≤ 140737488355328) := Lib.hid (by omega)
              have HL4 : Hid (w.heap.size ≤ (W.alloc (Obj.cells #[Value.slice xo F.length xc] 29)).heap.size) := Lib.hid (by have := HX1.out.pf.bel.size; simp; omega)
              clear hrn hKk
              go_wp2_with (at_builtin; refine wpList_append_own _ rfl _ _ 25 rfl w.heap.size 29 i29 (.slice none 0 0) 1 24 Try.underlying25 HI29.out.1 HI29.out.2.1 HI29.out.2.2.1 HI29.out.2.2.2 rfl (by decide) _ _ _ rfl HROW.out ⟨W.heap.size, 0, none⟩ 1 1 [Value.slice xo F.length xc] rfl rfl HN.out HL1.out HS1.out HS2.out HL4.out ?_)
              intro v2 w2 hown2 hgr2 _
              obtain ⟨o2, c2, rfl, -⟩ := owns_sl hown2
              have HX2 : Hid (R2 w room r ⟨fo, F.length, fc⟩ ⟨some ⟨g, off, none⟩, L.length, sc⟩ F m ⟨xo, F.length, xc⟩ ⟨o2, k + 1, c2⟩ b ((ins K ⟨xo, F.length, xc⟩ L).take (k + 1)) (w2.setCell ⟨b, 1, none⟩ (.slice o2 (k + 1) c2))) := Lib.hid (by
                have h := HX1.out.push (t' := ⟨o2, k + 1, c2⟩) (v := ⟨xo, F.length, xc⟩) (Obj.cells #[Value.slice xo F.length xc] 29) (by rw [HRL.out, List.map_take]; exact hown2) hgr2
                rw [HHH.out.1] at h
                exact h)
              have hob := obj_grown HROW.out ((HW1.out.block _ (lt_of_block HX1.out.out)).trans HX1.out.out) (by decide) hgr2
              have d1 : w2.cell? ⟨b, 1, none⟩ = some (.slice to k tc) := (cell_of_row _ _ _ _ _ _ hob).trans rfl
              have d2 : w2.frozen? ⟨b, 1, none⟩ = false := frozen_of_row _ _ _ _ _ hob
              clear hown2 hgr2 hob a5 a6
              simp only [slV]
              go_wp2_with fail
              clear d1 d2
              generalize w2.setCell ⟨b, 1, none⟩ (.slice o2 (k + 1) c2) = W2 at HX2 ⊢
              have HE2 := Lib.hid HHH.out.2
              have HNL2 : Hid (((ins K ⟨xo, F.length, xc⟩ L).take (k + 1)).length = k + 1) := Lib.hid (by rw [List.length_take, ins_len]; omega)
              obtain ⟨n2, hn2⟩ : ∃ n2, k + 1 = n2 := ⟨_, rfl⟩
              have hn2L : n2 ≤ L.length := by omega
              generalize (ins K ⟨xo, F.length, xc⟩ L).take (k + 1) = N2 at HX2 HE2 HNL2
              rw [show k + 1 + 1 = n2 + 1 by omega] at HNE
              rw [hn2] at HX2 HNL2
              rw [hn2]
              clear hn2
              have l1 : W2.drew.cell? ⟨b, 1, none⟩ = some (.slice o2 n2 c2) := (cell_of_row _ _ _ _ _ _ HX2.out.out).trans rfl
              have l1a : ∀ o, (W2.alloc o).cell? ⟨b, 1, none⟩ = some (.slice o2 n2 c2) := fun o => Lib.cell?_alloc_some _ (by exact l1)
              have l2 : W2.drew.cell? ⟨w.heap.size + 1, 1, none⟩ = some (.slice (some ⟨g, off, none⟩) L.length sc) := (cell_of_row _ _ _ _ _ _ HX2.out.pf.chn).trans rfl
              have l3 : W2.drew.cell? ⟨g, off + k, none⟩ = some (.slice mo mn mc) := (HX2.out.pf.bel.cell HC.out.1).trans HC.out.2
              have HROW2 : Hid ((W2.drew.alloc (Obj.cells #[Value.slice mo mn mc] 29)).ownsRow w.heap.size 29 1 (.slice o2 n2 c2) n2 (N2.map slV)) := Lib.hid (by
                have h := HX2.out.row
                rw [HNL2.out] at h
                exact (h.drew).alloc _)
              have HNW2 := Lib.hid (new_one W2.drew (Value.slice mo mn mc) 29 W2.heap.size rfl)
              have HL42 : Hid (w.heap.size ≤ (W2.drew.alloc (Obj.cells #[Value.slice mo mn mc] 29)).heap.size) := Lib.hid (by have := HX2.out.pf.bel.size; show _ ≤ (W2.alloc _).heap.size; simp; omega)
              go_wp2_with fail
              go_region_law
                (refine step_append_own rfl (.tmp 91) (.tmp 97) 25 rfl w.heap.size 29 i29 (.slice none 0 0) 1 24 Try.underlying25 HI29.out.1 HI29.out.2.1 HI29.out.2.2.1 HI29.out.2.2.2 rfl (by decide) (.slice o2 n2 c2) n2 (N2.map slV) (by simp [Act.eval, Act.put]) HROW2.out ⟨W2.heap.size, 0, none⟩ 1 1 [.slice mo mn mc] (by simp [Act.eval, Act.put]) rfl HNW2.out (by simp [Value.oneCell']) (by unfold maxLen; omega) (by omega) HL42.out ?_
                 intro v3 w3 hown3 hgr3
                 obtain ⟨o3, c3, rfl, -⟩ := owns_sl hown3
                 simp only [slV]
                 have HR3 : Hid (R2 w room r ⟨fo, F.length, fc⟩ ⟨some ⟨g, off, none⟩, L.length, sc⟩ F m ⟨xo, F.length, xc⟩ ⟨o3, n2 + 1, c3⟩ b ((ins K ⟨xo, F.length, xc⟩ L).take (rn K (k + 1))) (w3.setCell ⟨b, 1, none⟩ (.slice o3 (n2 + 1) c3))) := Lib.hid (by
                   have h := R2.push (wr := W2.drew) (w2 := w3) (HX2.out.below (by exact (Below.refl _ W2).drew)) (t' := ⟨o3, n2 + 1, c3⟩) (v := ⟨mo, mn, mc⟩) (Obj.cells #[Value.slice mo mn mc] 29) (by rw [HNL2.out]; exact hown3) (by exact hgr3)
                   rw [HE2.out] at h
                   exact h)
                 have hob := obj_grown HROW2.out ((Below.block (Below.alloc (by exact (Below.refl W2.heap.size W2).drew) (by exact Nat.le_refl _) (Obj.cells #[Value.slice mo mn mc] 29)) _ (lt_of_block HX2.out.out)).trans HX2.out.out) (by decide) hgr3
                 have d1 : w3.cell? ⟨b, 1, none⟩ = some (.slice o2 n2 c2) := (cell_of_row _ _ _ _ _ _ hob).trans rfl
                 have d2 : w3.frozen? ⟨b, 1, none⟩ = false := frozen_of_row _ _ _ _ _ hob
                 clear hown3 hgr3 hob)
              all_goals (
                clear l1 l1a l2 l3 d1 d2
                simp only [Exit.inBlock, Exit.then]
                go_wp2_with fail
                go_roundw
                case rel => exact ⟨k + 1, true, o3, c3, by go_num, rfl, by omega, HD2, by rw [show (⟨o3, rn K (k + 1), c3⟩ : SL) = ⟨o3, n2 + 1, c3⟩ by rw [HNE.out]]; exact HR3⟩
                case measure => simp [intOf]; omega)
            · have HE2 := Lib.hid (HSK.out hKk)
              have HNE : Hid (rn K k + 1 = rn K (k + 1)) := Lib.hid (by unfold rn; by_cases h : K < k <;> simp [h] <;> omega)
              have HD2 : Hid (d = decide (K < k + 1)) := Lib.hid (by rw [HD.out]; congr 1; simp; omega)
              have hn2L : rn K k ≤ L.length := by unfold rn; split <;> omega
              have HX2 := HX1
              have HNL2 := HRL
              have hk3 : srt = false ∨ (srt = true ∧ d = true) ∨ (srt = true ∧ d = false ∧ ls = false) := by
                have h1 := HIT.out
                have h2 := HD.out
                cases srt <;> cases d <;> cases ls <;> simp at h1 h2 ⊢ <;> omega
              clear hKk
              generalize (ins K ⟨xo, F.length, xc⟩ L).take (rn K k) = N2 at HX2 HE2 HNL2
              obtain ⟨n2, hn2⟩ : ∃ n2, rn K k = n2 := ⟨_, rfl⟩
              rw [hn2] at HX2 HNL2 HNE hn2L
              clear hn2 HX1 HRL
              generalize to = o2 at HX2 ⊢
              generalize tc = c2 at HX2 ⊢
              generalize W = W2 at HX2 p4 ⊢
              rcases hk3 with rfl | ⟨rfl, rfl⟩ | ⟨rfl, rfl, rfl⟩
              all_goals (
                go_wp2_with fail
                have l1 : W2.drew.cell? ⟨b, 1, none⟩ = some (.slice o2 n2 c2) := (cell_of_row _ _ _ _ _ _ HX2.out.out).trans rfl
                have l1a : ∀ o, (W2.alloc o).cell? ⟨b, 1, none⟩ = some (.slice o2 n2 c2) := fun o => Lib.cell?_alloc_some _ (by exact l1)
                have l2 : W2.drew.cell? ⟨w.heap.size + 1, 1, none⟩ = some (.slice (some ⟨g, off, none⟩) L.length sc) := (cell_of_row _ _ _ _ _ _ HX2.out.pf.chn).trans rfl
                have l3 : W2.drew.cell? ⟨g, off + k, none⟩ = some (.slice mo mn mc) := (HX2.out.pf.bel.cell HC.out.1).trans HC.out.2
                have HROW2 : Hid ((W2.drew.alloc (Obj.cells #[Value.slice mo mn mc] 29)).ownsRow w.heap.size 29 1 (.slice o2 n2 c2) n2 (N2.map slV)) := Lib.hid (by
                  have h := HX2.out.row
                  rw [HNL2.out] at h
                  exact (h.drew).alloc _)
                have HNW2 := Lib.hid (new_one W2.drew (Value.slice mo mn mc) 29 W2.heap.size rfl)
                have HL42 : Hid (w.heap.size ≤ (W2.drew.alloc (Obj.cells #[Value.slice mo mn mc] 29)).heap.size) := Lib.hid (by have := HX2.out.pf.bel.size; show _ ≤ (W2.alloc _).heap.size; simp; omega)
                go_wp2_with fail
                go_region_law
                  (refine step_append_own rfl (.tmp 91) (.tmp 97) 25 rfl w.heap.size 29 i29 (.slice none 0 0) 1 24 Try.underlying25 HI29.out.1 HI29.out.2.1 HI29.out.2.2.1 HI29.out.2.2.2 rfl (by decide) (.slice o2 n2 c2) n2 (N2.map slV) (by simp [Act.eval, Act.put]) HROW2.out ⟨W2.heap.size, 0, none⟩ 1 1 [.slice mo mn mc] (by simp [Act.eval, Act.put]) rfl HNW2.out (by simp [Value.oneCell']) (by unfold maxLen; omega) (by omega) HL42.out ?_
                   intro v3 w3 hown3 hgr3
                   obtain ⟨o3, c3, rfl, -⟩ := owns_sl hown3
                   simp only [slV]
                   have HR3 : Hid (R2 w room r ⟨fo, F.length, fc⟩ ⟨some ⟨g, off, none⟩, L.length, sc⟩ F m ⟨xo, F.length, xc⟩ ⟨o3, n2 + 1, c3⟩ b ((ins K ⟨xo, F.length, xc⟩ L).take (rn K (k + 1))) (w3.setCell ⟨b, 1, none⟩ (.slice o3 (n2 + 1) c3))) := Lib.hid (by
                     have h := R2.push (wr := W2.drew) (w2 := w3) (HX2.out.below (by exact (Below.refl _ W2).drew)) (t' := ⟨o3, n2 + 1, c3⟩) (v := ⟨mo, mn, mc⟩) (Obj.cells #[Value.slice mo mn mc] 29) (by rw [HNL2.out]; exact hown3) (by exact hgr3)
                     rw [HE2.out] at h
                     exact h)
                   have hob := obj_grown HROW2.out ((Below.block (Below.alloc (by exact (Below.refl W2.heap.size W2).drew) (by exact Nat.le_refl _) (Obj.cells #[Value.slice mo mn mc] 29)) _ (lt_of_block HX2.out.out)).trans HX2.out.out) (by decide) hgr3
                   have d1 : w3.cell? ⟨b, 1, none⟩ = some (.slice o2 n2 c2) := (cell_of_row _ _ _ _ _ _ hob).trans rfl
                   have d2 : w3.frozen? ⟨b, 1, none⟩ = false := frozen_of_row _ _ _ _ _ hob
                   clear hown3 hgr3 hob)
                all_goals (
                  clear l1 l1a l2 l3 d1 d2
                  simp only [Exit.inBlock, Exit.then]
                  go_wp2_with fail
                  go_roundw
                  case rel => exact ⟨k + 1, _, o3, c3, by go_num, rfl, by omega, HD2, by rw [show (⟨o3, rn K (k + 1), c3⟩ : SL) = ⟨o3, n2 + 1, c3⟩ by rw [HNE.out]]; exact HR3⟩
                  case measure => simp [intOf]; omega))
          · have hlti : ¬ (k : Int) < L.length := by omega
            obtain rfl : k = L.length := by omega
            clear hlt
            by_cases hKk : K < L.length
            · have hd : d = true := by rw [HD.out]; simp [hKk]
              subst hd
              have HX2 : Hid (R2 w room r ⟨fo, F.length, fc⟩ ⟨so, L.length, sc⟩ F m ⟨xo, F.length, xc⟩ ⟨to, rn K L.length, tc⟩ b (ins K ⟨xo, F.length, xc⟩ L) wr) := Lib.hid (by
                have h := HX.out
                rw [ins_done hKk] at h
                exact h)
              clear HX hKk
              generalize rn K L.length = n2 at HX2 ⊢
              have p1 : wr.cell? ⟨b, 0, none⟩ = some (.int .i64 r) := (cell_of_row _ _ _ _ _ _ HX2.out.out).trans rfl
              have p2 : wr.cell? ⟨b, 1, none⟩ = some (.slice to n2 tc) := (cell_of_row _ _ _ _ _ _ HX2.out.out).trans rfl
              have q1 : wr.cell? ⟨w.heap.size + 1 + 1, 0, none⟩ = some (.int .i64 0) := (cell_of_row _ _ _ _ _ _ HX2.out.pf.res).trans rfl
              have q2 : wr.cell? ⟨w.heap.size + 1 + 1, 1, none⟩ = some (.slice none 0 0) := (cell_of_row _ _ _ _ _ _ HX2.out.pf.res).trans rfl
              have q3 : wr.frozen? ⟨w.heap.size + 1 + 1, 0, none⟩ = false := frozen_of_row _ _ _ _ _ HX2.out.pf.res
              have q4 : wr.frozen? ⟨w.heap.size + 1 + 1, 1, none⟩ = false := frozen_of_row _ _ _ _ _ HX2.out.pf.res
              go_wp2_with fail
              refine bodyPost_ret (v := .tuple #[.agg #[.int .i64 r, .slice to n2 tc], .int .i64 0]) (by simp [results, Try.results9, go_sem, q1, q2, q3, q4]) rfl ?_
              exact HX2.out.done he HAT.out HAT0.out HK.out HM.out _ _
            · have hd : d = false := by rw [HD.out]; simp; omega
              subst hd
              have hKL : K = L.length := by have := HAT0.out; omega
              have hrn : rn K L.length = L.length := by unfold rn; rw [if_neg hKk]; rfl
              have HLA := Lib.hid (ins_last (x := (⟨xo, F.length, xc⟩ : SL)) hKL)
              have HRL := Lib.hid (rn_len (K := K) (u := ⟨xo, F.length, xc⟩) (L := L) (Nat.le_refl _))
              rw [hrn] at HX HRL HLA
              have HW1 : Hid (Below wr.heap.size wr (wr.alloc (Obj.cells #[Value.slice xo F.length xc] 29))) := Lib.hid ((Below.refl _ _).alloc (Nat.le_refl _) _)
              have a5 : wr.cell? ⟨b, 1, none⟩ = some (.slice to L.length tc) := (cell_of_row _ _ _ _ _ _ HX.out.out).trans rfl
              have a6 : ∀ o, (wr.alloc o).cell? ⟨b, 1, none⟩ = some (.slice to L.length tc) := fun o => Lib.cell?_alloc_some _ a5
              have HROW : Hid ((wr.alloc (Obj.cells #[Value.slice xo F.length xc] 29)).ownsRow w.heap.size 29 1 (.slice to L.length tc) L.length (((ins K ⟨xo, F.length, xc⟩ L).take L.length).map slV)) := Lib.hid (by
                have h := HX.out.row
                rw [HRL.out] at h
                exact h.alloc _)
              have HN := Lib.hid (new_one wr (Value.slice xo F.length xc) 29 wr.heap.size rfl)
              have HL1 : Hid (∀ v ∈ [Value.slice xo F.length xc], v.oneCell' = true) := Lib.hid (by simp [Value.oneCell'])
              have HS1 : Hid (L.length + 1 ≤ maxLen) := Lib.hid (by unfold maxLen; omega)
              have HS2 : Hid ((L.length + 1) * 24 ≤ 140737488355328) := Lib.hid (by omega)
              have HL4 : Hid (w.heap.size ≤ (wr.alloc (Obj.cells #[Value.slice xo F.length xc] 29)).heap.size) := Lib.hid (by have := HX.out.pf.bel.size; simp; omega)
              clear hKk hKL hrn
              go_wp2_with (at_builtin; refine wpList_append_own _ rfl _ _ 25 rfl w.heap.size 29 i29 (.slice none 0 0) 1 24 Try.underlying25 HI29.out.1 HI29.out.2.1 HI29.out.2.2.1 HI29.out.2.2.2 rfl (by decide) _ _ _ rfl HROW.out ⟨wr.heap.size, 0, none⟩ 1 1 [Value.slice xo F.length xc] rfl rfl HN.out HL1.out HS1.out HS2.out HL4.out ?_)
              intro v2 w2 hown2 hgr2 _
              obtain ⟨o2, c2, rfl, -⟩ := owns_sl hown2
              have HX2 : Hid (R2 w room r ⟨fo, F.length, fc⟩ ⟨so, L.length, sc⟩ F m ⟨xo, F.length, xc⟩ ⟨o2, L.length + 1, c2⟩ b (ins K ⟨xo, F.length, xc⟩ L) (w2.setCell ⟨b, 1, none⟩ (.slice o2 (L.length + 1) c2))) := Lib.hid (by
                have h := HX.out.push (t' := ⟨o2, L.length + 1, c2⟩) (v := ⟨xo, F.length, xc⟩) (Obj.cells #[Value.slice xo F.length xc] 29) (by rw [HRL.out, List.map_take]; exact hown2) hgr2
                rw [HLA.out] at h
                exact h)
              have hob := obj_grown HROW.out ((HW1.out.block _ (lt_of_block HX.out.out)).trans HX.out.out) (by decide) hgr2
              have d1 : w2.cell? ⟨b, 1, none⟩ = some (.slice to L.length tc) := (cell_of_row _ _ _ _ _ _ hob).trans rfl
              have d2 : w2.frozen? ⟨b, 1, none⟩ = false := frozen_of_row _ _ _ _ _ hob
              have d0 : w2.cell? ⟨b, 0, none⟩ = some (.int .i64 r) := (cell_of_row _ _ _ _ _ _ hob).trans rfl
              have e1 := HX2.out.pf.res
              have q1 : (w2.setCell ⟨b, 1, none⟩ (.slice o2 (L.length + 1) c2)).cell? ⟨w.heap.size + 1 + 1, 0, none⟩ = some (.int .i64 0) := (cell_of_row _ _ _ _ _ _ e1).trans rfl
              have q2 : (w2.setCell ⟨b, 1, none⟩ (.slice o2 (L.length + 1) c2)).cell? ⟨w.heap.size + 1 + 1, 1, none⟩ = some (.slice none 0 0) := (cell_of_row _ _ _ _ _ _ e1).trans rfl
              have q3 : (w2.setCell ⟨b, 1, none⟩ (.slice o2 (L.length + 1) c2)).frozen? ⟨w.heap.size + 1 + 1, 0, none⟩ = false := frozen_of_row _ _ _ _ _ e1
              have q4 : (w2.setCell ⟨b, 1, none⟩ (.slice o2 (L.length + 1) c2)).frozen? ⟨w.heap.size + 1 + 1, 1, none⟩ = false := frozen_of_row _ _ _ _ _ e1
              clear hown2 hgr2 hob a5 a6 e1
              simp only [slV]
              go_wp2_with fail
              generalize w2.setCell ⟨b, 1, none⟩ (.slice o2 (L.length + 1) c2) = W2 at HX2 q1 q2 q3 q4 ⊢
              refine bodyPost_ret (v := .tuple #[.agg #[.int .i64 r, .slice o2 (L.length + 1) c2], .int .i64 0]) (by simp [results, Try.results9, go_sem, q1, q2, q3, q4]) rfl ?_
              exact HX2.out.done he HAT.out HAT0.out HK.out HM.out _ _
end Go.Proofs.Ytfcoljioojidnaa
