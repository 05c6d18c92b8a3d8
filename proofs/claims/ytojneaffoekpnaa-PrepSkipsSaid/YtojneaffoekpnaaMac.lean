/- Macros over plain tokens: the tokens. -/
import Derived.Test.YtojneaffoekpnaaOnce
namespace Go.Proofs.Ytojneaffoekpnaa
open Go.ChangeShapes Go.WideShapes Go.ChangeAt Go.RowKit
set_option linter.unusedVariables false
set_option linter.unusedSimpArgs false

theorem toks_take {w : World} {g off : Nat} {ts : List TK} (h : Toks w g off ts) (k : Nat) : Toks w g off (ts.take k) := by
  refine ⟨h.1, fun i hi => ?_⟩
  have hl : i < ts.length := by simp at hi; omega
  have h2 := h.2 i hl
  rw [List.getElem_take]
  exact h2

set_option maxRecDepth 100000 in
set_option maxHeartbeats 1600000 in
theorem macros_any (g off cap : Nat) (ts : List TK) (w : World) (ht : Toks w g off ts) (hr : Right ts) (hn : ts.length ≤ 8192) (hcap : ts.length ≤ cap) (hin : ∀ i (h : i < ts.length), isMk ts[i] ⟨#[35]⟩ = false) :
    Calls Try.prog 7 #[.slice (some ⟨g, off, none⟩) ts.length cap] w fun e w' => ∃ v, e = .returned (.tuple #[v, .int .i64 0, .int .i64 0]) ∧ Row w w' v ts := by
  have hmf : ∀ (fn : Fn) (first cap : Array Value) (w : World), (Instr.makeFunc fn first cap).run Try.prog w = .ok (.func fn first cap) w := fun _ _ _ _ => rfl
  have HT := Lib.hid ht
  have HI := Lib.hid hin
  have hz := hr.1
  have HE := Lib.hid fun w' (h : Below w.heap.size w w') => ends_any g off cap ts w' (by unfold maxLen; omega) (ht.below h) hr
  clear ht hin hr
  go_enter_defers Try.func7, Try.ntmps7
  go_wp2_with (first
    | (go_at_call 10; refine (HE.out _ (((( Below.refl _ _).alloc (Nat.le_refl _) _).alloc (by simp) _).alloc (by simp; omega) _)).mono ?_; rintro e w1 ⟨rfl, hb1⟩; have HB1 := Lib.hid hb1; clear hb1)
    | (go_at_call 12; refine (new_any _ _).mono ?_; rintro e w2 ⟨rfl, hb2⟩; have HB2 := Lib.hid hb2; clear hb2))
  obtain ⟨hmad, hsz2⟩ := mad_of HB1.out HB2.out
  have HM := Lib.hid hmad
  clear hmad HE
  rw [hsz2] at *
  clear hsz2 HB1 HB2
  generalize w1.heap.size = r at HM ⊢
  generalize w2.alloc _ = W0 at HM ⊢
  obtain ⟨m, hm⟩ : ∃ m, ts.length = m + 1 := ⟨ts.length - 1, by omega⟩
  have hm1 : ((ts.length : Int) - 1) = (m : Int) := by omega
  rw [hm1]
  clear hz
  have HMM := Lib.hid hm
  have hmc : (m : Int) ≤ cap := by omega
  have hml : m < ts.length := by omega
  obtain ⟨t, ht⟩ : ∃ t, ts[m] = t := ⟨_, rfl⟩
  have hall : ts.take m ++ [t] = ts := by
    rw [← ht, ← List.take_succ_eq_append_getElem hml, ← hm, List.take_length]
  have HALL := Lib.hid hall
  have HLK : Hid ((ts.take m).length = m) := Lib.hid (by simp; omega)
  have HTK : Hid (∀ W, Below w.heap.size w W → TkAt W g (off + m * 5) t) := Lib.hid fun W hb => by
    have := (HT.out.below hb).2 m hml
    rwa [ht] at this
  clear hm hm1 hall ht
  have hgw : g < w.heap.size := HT.out.1
  go_loopw [7] (fun i wr => ∃ k : Nat, i = .int .i64 k ∧ ((k = 0 ∧ 0 < m ∧ Hid (Mad w wr (r + 1) r none)) ∨ (k = m ∧ ∃ base o n c, Hid (Nea w wr (r + 1) base g (off + m * 5) (.slice o n c) (ts.take m) t)))) (fun i _ => m - (intOf i).toNat)
  case atStart =>
    refine ⟨0, rfl, ?_⟩
    rcases Nat.eq_zero_or_pos m with h0 | h0
    · right
      refine ⟨h0.symm, W0.heap.size, none, 0, 0, Lib.hid ?_⟩
      have := nea_zero (j := off + m * 5) HM.out hgw (HTK.out W0 HM.out.made.bel)
      rw [h0] at this ⊢
      exact this
    · exact .inl ⟨rfl, h0, HM⟩
  case round =>
    obtain ⟨k, rfl, ⟨rfl, hm0, HW⟩ | ⟨rfl, base, o, n, c, HN⟩⟩ := hrel
    · have hsz := HW.out.made.bel.size
      have HAT := Lib.hid fun w' (h : Below w.heap.size w w') (k : Nat) (hk : k < ts.length) => at_no (.pointer (some ⟨r + 1 + 1, 0, none⟩)) g off cap ts k w' (HT.out.below h) hk (HI.out k hk)
      have hAT0 := HAT.out wr HW.out.made.bel 0 (by omega)
      have hm0i : (0 : Int) < (m : Int) := by omega
      go_wp2_with ((go_at_call 13; refine hAT0.mono ?_; rintro e w5 ⟨rfl, hb5⟩; have HB5 := Lib.hid hb5; clear hb5))
      go_loopw [9] (fun i wi => ∃ k : Nat, i = .int .i64 k ∧ 1 ≤ k ∧ k ≤ m ∧ Hid (Mad w wi (r + 1) r none)) (fun i _ => m - (intOf i).toNat)
      case atStart => exact ⟨1, rfl, by omega, by omega, Lib.hid (HW.out.below HB5.out)⟩
      case round =>
        obtain ⟨k, rfl, hk1, hk2, HX⟩ := hrel
        by_cases hlt : k < m
        · have hATk := HAT.out _ HX.out.made.bel k (by omega)
          have hlti : (k : Int) < (m : Int) := by omega
          go_wp2_with ((go_at_call 13; refine hATk.mono ?_; rintro e w6 ⟨rfl, hb6⟩; have HB6 := Lib.hid hb6; clear hb6))
          go_roundw
          case rel => exact ⟨k + 1, by go_num, by omega, by omega, Lib.hid (HX.out.below HB6.out)⟩
          case measure => simp [intOf]; omega
        · obtain rfl : k = m := by omega
          have HKP := Lib.hid fun w' (h : Mad w w' (r + 1) r none) => keeps_nil (r + 1 + 1) w' ((cell_of_row _ _ _ _ _ _ h.m).trans rfl)
          have HTT := Lib.hid fun w' (h : Mad w w' (r + 1) r none) => tell_of (r + 1) r false 0 none g off k cap (ts.take k) w' h.made.usr h.made.hrb (by rw [HLK.out]; omega) (by
            have hu := h.made.usr
            have hp := whole_plain (r + 1) r false 0 (.slice none 0 0) none g off cap (ts.take k) w'.drew ⟨hu.obj, hu.mp⟩ (fun i hi => by simp [isUse]) (toks_take ((HT.out.below h.made.bel).below (Below.refl _ _).drew) k) (by rw [HLK.out]; omega) (by rw [HLK.out]; omega)
            rw [HLK.out] at hp
            exact hp)
          clear hAT0 HAT
          go_wp2_with ((go_at_call 16; refine (HKP.out _ HX.out).mono ?_; rintro e w6 ⟨rfl, n6, rfl⟩))
          have HX6 : Hid (Mad w (wr.drewN n6).drew (r + 1) r none) := Lib.hid (HX.out.below ((bdrew (Below.refl _ _) n6).drew))
          have hl6 : (wr.drewN n6).drew.cell? ⟨r + 1 + 1, 0, none⟩ = some (.pointer (some ⟨r + 1, 0, none⟩)) := (cell_of_row _ _ _ _ _ _ HX6.out.m).trans rfl
          have HL6 := Lib.hid hl6
          clear hl6
          go_region_held3 (fun w' => w'.cell? ⟨r + 1 + 1, 0, none⟩ = some (.pointer (some ⟨r + 1, 0, none⟩)))
            (first | exact HL6.out | assumption)
            (first
              | (go_simp
                 go_at_call 17
                 refine (HTT.out _ HX6.out).mono ?_
                 rintro e W7 ⟨rfl, hT⟩
                 obtain ⟨v, hN⟩ := nea_of HX6.out hgw (HTK.out _ HX6.out.made.bel) hT
                 have hl7 : W7.cell? ⟨r + 1 + 1, 0, none⟩ = some (.pointer (some ⟨r + 1, 0, none⟩)) := (cell_of_row _ _ _ _ _ _ hN.2.1).trans rfl
                 have HN := Lib.hid hN
                 clear hT hN))
          have hown := HN.out.1.own
          obtain ⟨ov, nv, cv, rfl⟩ : ∃ o n c, v = .slice o n c := by
            rcases hown.2 with ⟨h, _⟩ | ⟨g', cap', cur, h, _⟩
            · exact ⟨_, _, _, h⟩
            · exact ⟨_, _, _, h⟩
          clear hown HTT HKP hl7
          go_wp2_with fail
          go_roundw
          case rel => exact ⟨k, rfl, .inr ⟨rfl, _, _, _, _, HN⟩⟩
          case measure => simp [intOf]; omega
    · have hop : wr.cell? ⟨r + 1 + 1, 1, none⟩ = some (.slice none 0 0) := (cell_of_row _ _ _ _ _ _ HN.out.2.1).trans rfl
      have hl8 : wr.cell? ⟨r + 1 + 1, 0, none⟩ = some (.pointer (some ⟨r + 1, 0, none⟩)) := (cell_of_row _ _ _ _ _ _ HN.out.2.1).trans rfl
      have HL8 := Lib.hid hl8
      have HLR := Lib.hid (show r + 1 + 1 < wr.heap.size from lt_of_block HN.out.2.1)
      clear hl8
      obtain ⟨i26, hi26, ha26, hb26, hc26⟩ := info_parts info25
      have HI26 := Lib.hid (And.intro hi26 (And.intro ha26 (And.intro hb26 hc26)))
      clear hi26 ha26 hb26 hc26
      have HNA := Lib.hid (HN.out.1.alloc (.cells #[.int .i64 t.kind, .int .i64 t.pos, .int .i64 t.line, .string t.text, .int .i64 t.num] 25)).drew
      have hS0 := Lib.hid (And.intro HL8.out HN.out.1.loads)
      have hL9 : (wr.alloc (.cells #[.int .i64 t.kind, .int .i64 t.pos, .int .i64 t.line, .string t.text, .int .i64 t.num] 25)).drew.cell? ⟨r + 1 + 1, 0, none⟩ = some (.pointer (some ⟨r + 1, 0, none⟩)) := (Below.cell (p := ⟨r + 1 + 1, 0, none⟩) ((Below.refl _ _).alloc (Nat.le_refl _) _) HLR.out).trans HL8.out
      have hS1 := Lib.hid (And.intro hL9 HNA.out.loads)
      have hnc : ∀ (j : Nat) (u : Value), (tkCells t)[j]? = some u → (wr.alloc (.cells #[.int .i64 t.kind, .int .i64 t.pos, .int .i64 t.line, .string t.text, .int .i64 t.num] 25)).drew.cell? ((⟨wr.heap.size, 0, none⟩ : Addr).add j) = some u := fun j u hu => new_cells wr t j u hu
      have HNC := Lib.hid hnc
      have hbs := HNA.out.hbase
      have HBS := Lib.hid hbs
      have hkk : (k : Int) < (ts.length : Int) := by omega
      have hk0 : (0 : Int) ≤ (k : Int) := by omega
      clear hnc hbs hL9
      go_wp2_with fail
      go_region_held3 (fun w' => w'.cell? ⟨r + 1 + 1, 0, none⟩ = some (.pointer (some ⟨r + 1, 0, none⟩)) ∧ w'.cell? ⟨r + 1, 3, none⟩ = some (.slice o n c) ∧ w'.cell? ⟨g, off + k * 5, none⟩ = some (.int .i64 t.kind) ∧ w'.cell? ⟨g, off + k * 5 + 1, none⟩ = some (.int .i64 t.pos) ∧ w'.cell? ⟨g, off + k * 5 + 2, none⟩ = some (.int .i64 t.line) ∧ w'.cell? ⟨g, off + k * 5 + 3, none⟩ = some (.string t.text) ∧ w'.cell? ⟨g, off + k * 5 + 4, none⟩ = some (.int .i64 t.num))
        (first | exact hS0.out | exact hS1.out | assumption | exact ⟨by assumption, by assumption⟩)
        (first
          | (refine step_append_lies _ rfl (.tmp 87) (.tmp 92) 22 rfl base 25 i26 zeroTok 5 48 Try.underlying22 HI26.out.1 HI26.out.2.1 HI26.out.2.2.1 HI26.out.2.2.2 rfl (by decide) (.slice o n c) k (cellsOf (ts.take k)) (by simp [Act.eval, Act.put]) (by have h := HNA.out.own; rw [HLK.out] at h; exact h) ⟨wr.heap.size, 0, none⟩ 1 1 (tkCells t) (by simp [Act.eval, Act.put]) rfl HNC.out (cells_tk t) (by decide) (by unfold maxLen; omega) (by omega) HBS.out _ rfl ?_
             intro g2 cap2 w2 hown2 hgr2 _ hg2
             have HO2 := Lib.hid hown2
             have HG2 := Lib.hid hgr2
             clear hown2 hgr2
             have hpush := HNA.out.push (g2 := g2) (cap2 := cap2) HG2.out (by rw [HLK.out]; exact HO2.out)
             rw [HLK.out] at hpush
             obtain ⟨⟨p0, p1, p2⟩, ⟨f0, f1, f2⟩, l0, l1, l2, l3⟩ := hpush
             obtain ⟨m0, m1, m2, m3⟩ := m_kept (x0 := .slice (some ⟨g2, 0, none⟩) (k + 1) cap2) (x1 := .int .i64 0) (x2 := .int .i64 0) HN.out _ HG2.out
             have M0 := And.intro m0 l0
             have M1 := And.intro m1 l1
             have M2 := And.intro m2 l2
             have M3 := And.intro m3 l3
             clear m0 m1 m2 m3 l0 l1 l2 l3
             unfold Loads at M0 M1 M2 M3
             simp only [Act.put, List.setIfInBounds_toArray, List.set_cons_zero, List.set_cons_succ]))
      rename_i hh
      clear hh M0 M1 M2 M3 p0 p1 p2 f0 f1 f2 hS0 hS1 hmf
      obtain ⟨W3, hW3⟩ : ∃ W3, ((w2.setCell ⟨w.heap.size, 0, none⟩ (.slice (some ⟨g2, 0, none⟩) (k + 1) cap2)).setCell ⟨w.heap.size + 1, 0, none⟩ (.int .i64 0)).setCell ⟨w.heap.size + 1 + 1, 0, none⟩ (.int .i64 0) = W3 := ⟨_, rfl⟩
      rw [hW3]
      have HW3 := Lib.hid hW3
      clear hW3
      go_wp2_with fail
      refine leaves_cons (f := 11) (args := #[.pointer (some ⟨w.heap.size, 0, none⟩), .pointer (some ⟨w.heap.size + 1, 0, none⟩), .pointer (some ⟨w.heap.size + 1 + 1, 0, none⟩)]) (by simp) (by simp [go_sem]) ?_
      refine (idle10 _ _ _ W3).mono ?_
      rintro e u' W4 ⟨rfl, rfl, hb4⟩
      have hend := HNA.out.ends (g2 := g2) (cap2 := cap2) HG2.out (by rw [HLK.out]; exact HO2.out) W3 W4 (by rw [HLK.out]; exact HW3.out.symm) hb4
      rw [HLK.out, HALL.out] at hend
      obtain ⟨q0, q1, q2, hrow⟩ := hend
      have HROW := Lib.hid hrow
      clear hrow hb4
      simp [Leaves, settle, results, Try.results7, go_sem, q0, q1, q2]
      exact HROW.out
end Go.Proofs.Ytojneaffoekpnaa
