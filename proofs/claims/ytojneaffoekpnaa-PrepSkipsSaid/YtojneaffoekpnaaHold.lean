/- Whether a condition that is one number holds. -/
import Derived.Test.YtojneaffoekpnaaRead
namespace Go.Proofs.Ytojneaffoekpnaa
open Go.ChangeShapes Go.WideShapes Go.ChangeAt Go.RowKit
set_option linter.unusedVariables false
set_option linter.unusedSimpArgs false

theorem whole_row (b r : Nat) (fl : Bool) (n : Int) (tv : Value) (mo : Dic) (g off cap : Nat) (ts : List TK) (w : World) (hu : Usr w b r fl n tv mo) (hno : ∀ i (h : i < ts.length), isUse mo ts[i] = false) (ht : Toks w g off ts) (hn : ts.length ≤ 8192) (hcap : ts.length ≤ cap) :
    Calls Try.prog 25 #[.pointer (some ⟨b, 0, none⟩), .slice (some ⟨g, off, none⟩) ts.length cap] w fun e w' => ∃ v, e = .returned v ∧ Row w w' v ts ∧ (ts.length = 0 → v = .slice none 0 0) := by
  refine whole_enter b g off ts.length cap w _ fun W hB hp hq => ?_
  refine (done_any b r fl n tv mo _ _ g off cap ts 0 W (hu.below hB) hno hp (ht.below hB) hn hcap).mono ?_
  rintro e w' ⟨v, rfl, hr, hz⟩
  exact ⟨⟨_, rfl⟩, v, rfl, hr.base hB, hz⟩

set_option maxRecDepth 100000 in
set_option maxHeartbeats 1600000 in
theorem asked_any (mq : Value) (p : Int) (g off cap : Nat) (t : TK) (w : World) (ht : TkAt w g off t) (hk : t.kind = 2) :
    Calls Try.prog 41 #[mq, .int .i64 p, .slice (some ⟨g, off, none⟩) 1 cap] w fun e w' => ∃ v, e = .returned v ∧ Row w w' v [t] := by
  obtain ⟨i25, hi25, ha25, hb25, hc25⟩ := info_parts info25
  have HI := Lib.hid (And.intro hi25 (And.intro ha25 (And.intro hb25 hc25)))
  clear hi25 ha25 hb25 hc25
  have HT := Lib.hid ht
  have hg : g < w.heap.size := World.block_lt_of_cell? _ _ ht.1
  have hnm : isNm t definedB = false := by simp [isNm, hk]
  have HN := Lib.hid fun w' => name_any t definedB w'
  rw [hnm] at HN
  unfold definedB at HN
  obtain ⟨c0, c1, c2, c3, c4⟩ := ht
  clear hk hnm
  go_enter Try.func41, Try.ntmps41
  go_wp2_with fail
  refine wp_loop_rounds 2 ?_
  rw [rounds_succ]
  go_wp2_with fail
  refine (HN.out _).mono ?_
  rintro e w1 ⟨rfl, hb⟩
  obtain ⟨d0, d1, d2, d3, d4⟩ := tk_below HT.out (hb.mono (show g + 1 ≤ w.heap.size by omega))
  have HR1 : Hid (Row w w1 (.slice none 0 0) []) := Lib.hid ⟨World.ownsRow_nil _ _ _ _, hb⟩
  have HNC : Hid (∀ (j : Nat) (u : Value), (tkCells t)[j]? = some u → (w1.alloc (.cells #[.int .i64 t.kind, .int .i64 t.pos, .int .i64 t.line, .string t.text, .int .i64 t.num] 25)).cell? ((⟨w1.heap.size, 0, none⟩ : Addr).add j) = some u) := Lib.hid fun j u hu => new_cells w1 t j u hu
  clear hb c0 c1 c2 c3 c4
  go_wp2_with (at_builtin; refine wpList_append_tok rfl _ _ rfl w.heap.size _ 0 _ rfl ((HR1.out.alloc (.cells #[.int .i64 t.kind, .int .i64 t.pos, .int .i64 t.line, .string t.text, .int .i64 t.num] 25)).own) w1.heap.size t 1 rfl HNC.out (by omega) (HR1.out.alloc _).bel.size ?_)
  intro o2 c2 w2 hown hgr _
  have HR2 := Lib.hid ((HR1.out.alloc (.cells #[.int .i64 t.kind, .int .i64 t.pos, .int .i64 t.line, .string t.text, .int .i64 t.num] 25)).push t hgr (by simpa [cellsOf] using hown))
  clear hown hgr d0 d1 d2 d3 d4 HR1
  go_wp2_with fail
  rw [rounds_succ]
  go_wp2_with fail
  go_ret
  exact ⟨_, rfl, HR2.out⟩

set_option maxRecDepth 100000 in
set_option maxHeartbeats 1600000 in
theorem holds_any (mq b r : Nat) (n : Int) (tv : Value) (p : Int) (g off cap : Nat) (t : TK) (w : World) (hm : w.cell? ⟨mq, 0, none⟩ = some (.pointer (some ⟨b, 0, none⟩))) (hu : Usr w b r false n tv none) (ht : TkAt w g off t) (hk : t.kind = 2) (hz : t.num = 0) :
    Calls Try.prog 28 #[.pointer (some ⟨mq, 0, none⟩), .int .i64 p, .slice (some ⟨g, off, none⟩) 1 cap] w fun e w' => e = .returned (.bool false) ∧ Below w.heap.size w w' := by
  have HT := Lib.hid ht
  have HU := Lib.hid hu
  have HM := Lib.hid hm
  have HK := Lib.hid hk
  have HZ := Lib.hid hz
  have hmq : mq < w.heap.size := World.block_lt_of_cell? _ _ hm
  have HA := Lib.hid (asked_any (.pointer (some ⟨mq, 0, none⟩)) p g off cap t w.drew ht hk)
  have HS0 : Hid (w.drew.cell? ⟨mq, 0, none⟩ = some (.pointer (some ⟨b, 0, none⟩))) := Lib.hid hm
  clear ht hk hz hu
  go_enter Try.func28, Try.ntmps28
  go_wp2_with fail
  go_region_held3 (fun w' => w'.cell? ⟨mq, 0, none⟩ = some (.pointer (some ⟨b, 0, none⟩)))
    (first | exact HS0.out | assumption)
    (first
      | (go_simp
         go_at_call 41
         refine HA.out.mono ?_
         rintro e w1 ⟨v1, rfl, hr1⟩
         have HB1 : Hid (Below w.heap.size w w1) := Lib.hid ((Below.refl _ _).drew.trans hr1.bel)
         obtain ⟨g1, cap1, rfl, hg1, hg2, hc1⟩ := form_of hr1.own (by simp)
         have HT1 := Lib.hid (toks_of_own hr1.own)
         have hs1 : w1.cell? ⟨mq, 0, none⟩ = some (.pointer (some ⟨b, 0, none⟩)) := (HB1.out.cell hmq).trans HM.out
         clear hr1)
      | (go_simp
         go_at_call 25
         refine (whole_row b r false n tv none g1 0 cap1 [t] w1 (HU.out.below HB1.out) (fun i hi => by simp [isUse]) HT1.out (by simp) hc1).mono ?_
         rintro e w2 ⟨v2, rfl, hr2, _⟩
         have HB2 : Hid (Below w.heap.size w w2) := Lib.hid (HB1.out.trans (hr2.bel.mono HB1.out.size))
         obtain ⟨g2, cap2, rfl, hg3, hg4, hc2⟩ := form_of hr2.own (by simp)
         have HT2 := Lib.hid (toks_of_own hr2.own)
         have hs2 : w2.cell? ⟨mq, 0, none⟩ = some (.pointer (some ⟨b, 0, none⟩)) := (HB2.out.cell hmq).trans HM.out
         have hs3 : (w2.alloc (.cells #[.slice (some ⟨g2, 0, none⟩) 1 cap2, .int .i64 0, .int .i64 p] 84)).cell? ⟨mq, 0, none⟩ = some (.pointer (some ⟨b, 0, none⟩)) := (Below.cell (p := ⟨mq, 0, none⟩) ((Below.refl _ _).alloc (Nat.le_refl _) _) (show mq < w2.heap.size by have := HB2.out.size; omega)).trans hs2
         clear hr2))
  all_goals (
    rename_i hh
    clear hh hs1 hs2 hs3)
  have HRD : Hid (Rd (w2.alloc (.cells #[.slice (some ⟨g2, 0, none⟩) 1 cap2, .int .i64 0, .int .i64 p] 84)) w2.heap.size g2 cap2 0 p t) := Lib.hid (by
    have hb : Below w2.heap.size w2 (w2.alloc (.cells #[.slice (some ⟨g2, 0, none⟩) 1 cap2, .int .i64 0, .int .i64 p] 84)) := (Below.refl _ _).alloc (Nat.le_refl _) _
    have h0 := HT2.out.2 0 (by simp)
    simp only [Nat.zero_mul, Nat.add_zero, List.getElem_cons_zero] at h0
    exact ⟨heap_alloc_new _ _, tk_below h0 (hb.mono (show g2 + 1 ≤ w2.heap.size by omega)), HK.out, by omega⟩)
  have HB3 : Hid (Below w.heap.size w (w2.alloc (.cells #[.slice (some ⟨g2, 0, none⟩) 1 cap2, .int .i64 0, .int .i64 p] 84))) := Lib.hid (HB2.out.alloc HB2.out.size _)
  have hrb : w.heap.size ≤ w2.heap.size := HB2.out.size
  generalize w2.alloc _ = W3 at HRD HB3 ⊢
  generalize w2.heap.size = rb at HRD hrb hg4 ⊢
  have HOR := Lib.hid (or_any rb g2 cap2 p t W3 HRD.out)
  go_wp2_with fail
  refine HOR.out.mono ?_
  rintro e w4 ⟨rfl, hr4, hg⟩
  have HB4 : Hid (Below w.heap.size w w4) := Lib.hid ⟨hg.os.trans HB3.out.os, hg.tape.trans HB3.out.tape, hg.output.trans HB3.out.output, Nat.le_trans HB3.out.size hg.size, fun k hk => (hg.block k (Nat.lt_of_lt_of_le hk HB3.out.size) (by intro e; cases e; omega)).trans (HB3.out.block k hk)⟩
  have r0 : w4.cell? ⟨rb, 0, none⟩ = some (.slice (some ⟨g2, 0, none⟩) 1 cap2) := (cell_of_row _ _ _ _ _ _ hr4.obj).trans rfl
  have r1 : w4.cell? ⟨rb, 1, none⟩ = some (.int .i64 1) := (cell_of_row _ _ _ _ _ _ hr4.obj).trans rfl
  have hz0 := HZ.out
  clear hr4 hg HOR
  go_wp2_with fail
  go_quiet (fail)
  go_wp2_with fail
  go_ret
  exact ⟨rfl, bdrew HB4.out _⟩
end Go.Proofs.Ytojneaffoekpnaa
