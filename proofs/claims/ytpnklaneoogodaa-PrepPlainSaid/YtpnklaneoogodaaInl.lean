/- Inlines over plain tokens: the tokens. -/
import Derived.Test.YtpnklaneoogodaaLast
namespace Go.Proofs.Ytpnklaneoogodaa
open Go.ChangeShapes Go.WideShapes Go.ChangeAt Go.RowKit

theorem cells_tk (t : TK) : ∀ u ∈ tkCells t, u.oneCell' = true := by
  intro u hu; simp [tkCells] at hu; rcases hu with rfl | rfl | rfl | rfl | rfl <;> rfl
def inlineB : ByteArray := ⟨#[105, 110, 108, 105, 110, 101]⟩

set_option maxRecDepth 100000 in
set_option maxHeartbeats 1600000 in
theorem inlines_any (g off cap : Nat) (ts : List TK) (w : World) (ht : Toks w g off ts) (hr : Right ts) (hn : ts.length ≤ 8192) (hcap : ts.length ≤ cap) (hin : ∀ i (h : i < ts.length), isNm ts[i] inlineB = false) :
    Calls Try.prog 7 #[.slice (some ⟨g, off, none⟩) ts.length cap] w fun e w' => ∃ v, e = .returned (.tuple #[v, .int .i64 0, .int .i64 0]) ∧ Row w w' v ts := by
  have hmf : ∀ (fn : Fn) (first cap : Array Value) (w : World), (Instr.makeFunc fn first cap).run Try.prog w = .ok (.func fn first cap) w := fun _ _ _ _ => rfl
  have HT := Lib.hid ht
  have HI := Lib.hid hin
  have hz := hr.1
  have HE := Lib.hid fun w' (h : Below w.heap.size w w') => ends_any g off cap ts w' (by unfold maxLen; omega) (ht.below h) hr
  clear ht hin hr
  go_enter_defers Try.func7, Try.ntmps7
  go_wp2_with (first
    | (go_at_call 9; refine (HE.out _ (((( Below.refl _ _).alloc (Nat.le_refl _) _).alloc (by simp) _).alloc (by simp; omega) _)).mono ?_; rintro e w1 ⟨rfl, hb1⟩; have HB1 := Lib.hid hb1; clear hb1)
    | (go_at_call 11; refine (new_any _ _).mono ?_; rintro e w2 ⟨rfl, hb2⟩; have HB2 := Lib.hid hb2; clear hb2))
  have HM := Lib.hid (made_of HB1.out HB2.out)
  clear HE
  generalize w1.heap.size = r at HM ⊢
  have hsub : ((ts.length : Int) - 1) = ((ts.length - 1 : Nat) : Int) := by omega
  obtain ⟨m, hm⟩ : ∃ m, ts.length = m + 1 := ⟨ts.length - 1, by omega⟩
  have hm1 : ((ts.length : Int) - 1) = (m : Int) := by omega
  rw [hm1]
  clear hsub HB1 HB2 hz
  have HMM := Lib.hid hm
  have hmc : (m : Int) ≤ cap := by omega
  clear hm hm1
  go_loopw [7, 8, 9] (fun v7 d i wr => ∃ (x : Int) (k : Nat), v7 = .int .i64 0 ∧ d = .int .i64 x ∧ i = .int .i64 k ∧ k ≤ m ∧ -(k : Int) ≤ x ∧ x ≤ k ∧ Hid (Made w wr (r + 1) r true)) (fun _ _ i _ => m - (intOf i).toNat)
  case atStart => exact ⟨0, 0, rfl, rfl, rfl, by omega, by omega, by omega, HM⟩
  case round =>
    obtain ⟨x, k, rfl, rfl, rfl, hk, hx1, hx2, HW⟩ := hrel
    have hgw : g < w.heap.size := HT.out.1
    have hm0 := HMM.out
    have hsz := HW.out.bel.size
    by_cases hlt : k < m
    · obtain ⟨t, ht⟩ : ∃ t, ts[k]'(by omega) = t := ⟨_, rfl⟩
      obtain ⟨c0, c1, c2, c3, c4⟩ := (HT.out.below HW.out.bel).2 k (by omega)
      rw [ht] at c0 c1 c2 c3 c4
      have hnm := HI.out k (by omega)
      rw [ht] at hnm
      have HN := Lib.hid fun w' => name_any t inlineB w'
      rw [hnm] at HN
      have HBR := Lib.hid fun w' => braces_any t w'
      have HWB := Lib.hid fun w' (h : Below wr.heap.size wr w') => And.intro ((h.cell (p := ⟨g, off + k * 5, none⟩) (by show g < _; omega)).trans c0) (And.intro ((h.cell (p := ⟨g, off + k * 5 + 1, none⟩) (by show g < _; omega)).trans c1) (And.intro ((h.cell (p := ⟨g, off + k * 5 + 2, none⟩) (by show g < _; omega)).trans c2) (And.intro ((h.cell (p := ⟨g, off + k * 5 + 3, none⟩) (by show g < _; omega)).trans c3) ((h.cell (p := ⟨g, off + k * 5 + 4, none⟩) (by show g < _; omega)).trans c4))))
      have hk0 : (k : Int) < (ts.length : Int) := by omega
      clear ht hnm hm0
      by_cases hx : x ≤ 0
      · go_wp2_with (first
          | (go_at_call 19
             refine (HN.out _).mono ?_
             rintro e w5 ⟨rfl, hb5⟩
             obtain ⟨d0, d1, d2, d3, d4⟩ := HWB.out w5 hb5
             have HB5 := Lib.hid hb5
             clear hb5)
          | (go_at_call 21
             refine (HBR.out _).mono ?_
             rintro e w6 ⟨d, hd1, hd2, rfl, hb6⟩
             have HB6 := Lib.hid hb6
             clear hb6))
        go_roundw
        case rel => exact ⟨x + d, k + 1, rfl, by go_num, by go_num, by omega, by omega, by omega, Lib.hid ((HW.out.below HB5.out).below HB6.out)⟩
        case measure => simp [intOf]; omega
      · go_wp2_with (first
          | (go_at_call 21
             refine (HBR.out _).mono ?_
             rintro e w6 ⟨d, hd1, hd2, rfl, hb6⟩
             have HB6 := Lib.hid hb6
             clear hb6))
        go_roundw
        case rel => exact ⟨x + d, k + 1, rfl, by go_num, by go_num, by omega, by omega, by omega, Lib.hid (HW.out.below HB6.out)⟩
        case measure => simp [intOf]; omega
    · obtain rfl : k = m := by omega
      have HTT := Lib.hid (tell_both (r + 1) r 0 true g off cap k ts wr HW.out.usr (HT.out.below HW.out.bel) hn hcap (by omega))
      have hkl : k < ts.length := by omega
      obtain ⟨t, ht⟩ : ∃ t, ts[k] = t := ⟨_, rfl⟩
      have htk := (HT.out.below HW.out.bel).2 k hkl
      rw [ht] at htk
      have HTK := Lib.hid htk
      have hall : ts.take k ++ [t] = ts := by
        rw [← ht, ← List.take_succ_eq_append_getElem hkl, ← hm0, List.take_length]
      have hlk : (ts.take k).length = k := by simp; omega
      have HALL := Lib.hid hall
      have HLK := Lib.hid hlk
      have hkk : (k : Int) < (ts.length : Int) := by omega
      have hk0 : (0 : Int) ≤ (k : Int) := by omega
      clear hall hlk ht htk hm0
      go_wp2_with fail
      refine HTT.out.mono ?_
      rintro e W ⟨rfl, hT⟩
      obtain ⟨v, hN⟩ := near_of HW.out hgw HTK.out hT
      have HN := Lib.hid hN
      have hown := hN.own
      rw [HLK.out] at hown
      obtain ⟨ov, nv, cv, rfl⟩ : ∃ o n c, v = .slice o n c := by
        rcases hown.2 with ⟨h, _⟩ | ⟨g', cap', cur, h, _⟩
        · exact ⟨_, _, _, h⟩
        · exact ⟨_, _, _, h⟩
      clear hT hN hown HTT
      obtain ⟨i26, hi26, ha26, hb26, hc26⟩ := info_parts info26
      have HI26 := Lib.hid (And.intro hi26 (And.intro ha26 (And.intro hb26 hc26)))
      clear hi26 ha26 hb26 hc26
      have HNA := Lib.hid (HN.out.alloc (.cells #[.int .i64 t.kind, .int .i64 t.pos, .int .i64 t.line, .string t.text, .int .i64 t.num] 26)).drew
      have hS0 := Lib.hid HN.out.loads
      have hS1 := Lib.hid HNA.out.loads
      have hnc : ∀ (j : Nat) (u : Value), (tkCells t)[j]? = some u → (W.alloc (.cells #[.int .i64 t.kind, .int .i64 t.pos, .int .i64 t.line, .string t.text, .int .i64 t.num] 26)).drew.cell? ((⟨W.heap.size, 0, none⟩ : Addr).add j) = some u := fun j u hu => new_cells W t j u hu
      have HNC := Lib.hid hnc
      have hbs := HNA.out.hbase
      have HBS := Lib.hid hbs
      clear hnc hbs
      go_wp2_with fail
      go_region_held3 (fun w' => w'.cell? ⟨r + 1, 3, none⟩ = some (.slice ov nv cv) ∧ w'.cell? ⟨g, off + k * 5, none⟩ = some (.int .i64 t.kind) ∧ w'.cell? ⟨g, off + k * 5 + 1, none⟩ = some (.int .i64 t.pos) ∧ w'.cell? ⟨g, off + k * 5 + 2, none⟩ = some (.int .i64 t.line) ∧ w'.cell? ⟨g, off + k * 5 + 3, none⟩ = some (.string t.text) ∧ w'.cell? ⟨g, off + k * 5 + 4, none⟩ = some (.int .i64 t.num))
        (first | exact hS0.out | exact hS1.out | assumption)
        (first
          | (refine step_append_lies _ rfl (.tmp 63) (.tmp 68) 22 rfl wr.heap.size 26 i26 zeroTok 5 48 Try.underlying22 HI26.out.1 HI26.out.2.1 HI26.out.2.2.1 HI26.out.2.2.2 rfl (by decide) (.slice ov nv cv) k (cellsOf (ts.take k)) (by simp [Act.eval, Act.put]) (by have h := HNA.out.own; rw [HLK.out] at h; exact h) ⟨W.heap.size, 0, none⟩ 1 1 (tkCells t) (by simp [Act.eval, Act.put]) rfl HNC.out (cells_tk t) (by decide) (by unfold maxLen; omega) (by omega) HBS.out _ rfl ?_
             intro g2 cap2 w2 hown2 hgr2 _ hg2
             have HO2 := Lib.hid hown2
             have HG2 := Lib.hid hgr2
             clear hown2 hgr2
             have hpush := HNA.out.push (g2 := g2) (cap2 := cap2) HG2.out (by rw [HLK.out]; exact HO2.out)
             rw [HLK.out] at hpush
             obtain ⟨⟨p0, p1, p2⟩, ⟨f0, f1, f2⟩, l0, l1, l2, l3⟩ := hpush
             unfold Loads at l0 l1 l2 l3
             simp only [Act.put, List.setIfInBounds_toArray, List.set_cons_zero, List.set_cons_succ]))
      rename_i hh
      clear hh l0 l1 l2 l3 p0 p1 p2 f0 f1 f2 hS0 hS1 hmf
      obtain ⟨W3, hW3⟩ : ∃ W3, ((w2.setCell ⟨w.heap.size, 0, none⟩ (.slice (some ⟨g2, 0, none⟩) (k + 1) cap2)).setCell ⟨w.heap.size + 1, 0, none⟩ (.int .i64 0)).setCell ⟨w.heap.size + 1 + 1, 0, none⟩ (.int .i64 0) = W3 := ⟨_, rfl⟩
      rw [hW3]
      have HW3 := Lib.hid hW3
      clear hW3
      go_wp2_with fail
      refine leaves_cons (f := 18) (args := #[.pointer (some ⟨w.heap.size, 0, none⟩), .pointer (some ⟨w.heap.size + 1, 0, none⟩), .pointer (some ⟨w.heap.size + 1 + 1, 0, none⟩)]) (by simp) (by simp [go_sem]) ?_
      refine (idle18 _ _ _ W3).mono ?_
      rintro e u' W4 ⟨rfl, rfl, hb4⟩
      have hend := HNA.out.ends (g2 := g2) (cap2 := cap2) HG2.out (by rw [HLK.out]; exact HO2.out) W3 W4 (by rw [HLK.out]; exact HW3.out.symm) hb4
      rw [HLK.out, HALL.out] at hend
      obtain ⟨q0, q1, q2, hrow⟩ := hend
      have HROW := Lib.hid hrow
      clear hrow hb4
      simp [Leaves, settle, results, Try.results7, go_sem, q0, q1, q2]
      exact HROW.out
end Go.Proofs.Ytpnklaneoogodaa
