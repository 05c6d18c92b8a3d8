/- What comes of a row of tokens where there is one macro, without parameters: the row, with its tokens for each use. -/
import Derived.Test.YtojneaffoekpnaaUsed
namespace Go.Proofs.Ytojneaffoekpnaa
open Go.ChangeShapes Go.WideShapes Go.ChangeAt Go.RowKit
set_option linter.unusedVariables false
set_option linter.unusedSimpArgs false

set_option maxRecDepth 100000 in
set_option maxHeartbeats 4000000 in
theorem uses_any (b r : Nat) (tv : Value) (z : ByteArray) (o : Option Addr) (cb : Nat) (body : List TK) (pb q : Nat) (g off cap : Nat) (ts : List TK) (w : World)
    (hu : Usr w b r false 0 tv (some (z, o, body.length, cb))) (hbody : BodyAt w o body) (hbne : ∀ g off, o = some ⟨g, off, none⟩ → g ≠ b) (hbno : ∀ i (h : i < body.length), isUse (some (z, o, body.length, cb)) body[i] = false) (hb15 : body.length ≤ 15)
    (hp : w.cell? ⟨pb, 0, none⟩ = some (.pointer (some ⟨b, 0, none⟩))) (hq : w.cell? ⟨q, 0, none⟩ = some (.func (.func 30) #[] #[.pointer (some ⟨pb, 0, none⟩), .pointer (some ⟨q, 0, none⟩)]))
    (ht : Toks w g off ts) (hn : ts.length ≤ 500) (hcap : ts.length ≤ cap) (hgb : g ≠ b) (hrb : r ≠ b) (hpb : pb ≠ b) (hqb : q ≠ b) :
    Calls Try.prog 30 #[.slice (some ⟨g, off, none⟩) ts.length cap, .int .i64 0, .pointer (some ⟨pb, 0, none⟩), .pointer (some ⟨q, 0, none⟩)] w fun e w' => ∃ v m, e = .returned v ∧ StU w w' b r false (some (z, o, body.length, cb)) tv m v (expand (some (z, o, body.length, cb)) body ts) ∧ ((expand (some (z, o, body.length, cb)) body ts).length = 0 → v = .slice none 0 0) := by
  obtain ⟨i26, hi26, ha26, hb26, hc26⟩ := info_parts info25
  have HI := Lib.hid (And.intro hi26 (And.intro ha26 (And.intro hb26 hc26)))
  clear hi26 ha26 hb26 hc26
  obtain ⟨mo, hmo⟩ : ∃ mo : Dic, some (z, o, body.length, cb) = mo := ⟨_, rfl⟩
  have HMO := Lib.hid hmo
  rw [hmo] at hu hbno ⊢
  clear hmo
  have HBY := Lib.hid hbody
  have HBE := Lib.hid hbne
  have HBN := Lib.hid hbno
  have HT := Lib.hid ht
  have HP := Lib.hid hp
  have HQ := Lib.hid hq
  have HU := Lib.hid hu
  have hb0 : b < w.heap.size := lt_of_block hu.obj
  have hr0 : r < w.heap.size := lt_of_block hu.mp
  have hpb0 : pb < w.heap.size := World.block_lt_of_cell? w _ hp
  have hqb0 : q < w.heap.size := World.block_lt_of_cell? w _ hq
  have hg0 : g < w.heap.size := ht.1
  clear hu ht hp hq hbody hbne hbno
  go_enter Try.func30, Try.ntmps30
  go_wp2
  go_loopw [7, 8] (fun v i wr => ∃ (k : Nat) (m : Int) (o7 : Option Addr) (n7 c7 : Nat), i = .int .i64 k ∧ k ≤ ts.length ∧ v = .slice o7 n7 c7 ∧ 0 ≤ m ∧ m ≤ k ∧ Hid (n7 = (expand mo body (ts.take k)).length) ∧ Hid ((expand mo body (ts.take k)).length = 0 → v = .slice none 0 0) ∧ Hid (StU w wr b r false mo tv m v (expand mo body (ts.take k)))) (fun _ i _ => ts.length - (intOf i).toNat)
  case atStart => exact ⟨0, 0, none, 0, 0, rfl, by omega, rfl, by omega, by omega, Lib.hid rfl, Lib.hid fun _ => rfl, Lib.hid (StU.start HU.out)⟩
  case round =>
    obtain ⟨k, m, o7, n7, c7, rfl, hk, rfl, hm0, hmk, HN7, HZ7, HS⟩ := hrel
    by_cases hlt : k < ts.length
    · obtain ⟨t, ht⟩ : ∃ t, ts[k] = t := ⟨_, rfl⟩
      have HTK := Lib.hid ht
      have htk := (HT.out.grown HS.out.off hgb).2 k hlt
      rw [ht] at htk
      have HTW := Lib.hid htk
      have hpw : wr.cell? ⟨pb, 0, none⟩ = some (.pointer (some ⟨b, 0, none⟩)) := (World.grownBy.cell_far HS.out.off ⟨pb, 0, none⟩ hpb0 (by intro e; cases e; exact hpb rfl)).trans HP.out
      have hqw : wr.cell? ⟨q, 0, none⟩ = some (.func (.func 30) #[] #[.pointer (some ⟨pb, 0, none⟩), .pointer (some ⟨q, 0, none⟩)]) := (World.grownBy.cell_far HS.out.off ⟨q, 0, none⟩ hqb0 (by intro e; cases e; exact hqb rfl)).trans HQ.out
      have HQW := Lib.hid hqw
      have hlt1 : (k : Int) < ts.length := by omega
      have hk0 : (0 : Int) ≤ k := by omega
      have hk1 : (k : Int) ≤ ts.length := by omega
      have hk2 : (k : Int) ≤ cap := by omega
      have hsz := HS.out.off.size
      have hpb1 : pb < wr.heap.size := by omega
      have hgw : g < wr.heap.size := by omega
      have hqw1 : q < wr.heap.size := by omega
      have hck : ¬ cap = k := by omega
      have hel : (expand mo body (ts.take k)).length ≤ 7500 := by
        have := expand_le (mo := mo) hb15 (ts.take k)
        simp at this
        omega
      have HEL := Lib.hid hel
      have hn7 : (n7 : Int) ≤ 7500 := by have := HN7.out; omega
      clear ht htk hqw hel
      cases hus : isUse mo t with
      | false =>
        have HUS := Lib.hid hus
        have HC := Lib.hid fun w' (hb : Below wr.heap.size wr w') => used_no b r false m tv mo g (off + k * 5) (ts.length - k) (cap - k) t w' (HS.out.usr.below hb) (tk_below HTW.out (hb.mono (by omega))) (by omega) hus
        unfold macroZ at HC
        clear hus
        go_wp2_with fail
        go_region_held3 (fun w' => Below wr.heap.size wr w' ∧ w'.cell? ⟨pb, 0, none⟩ = some (.pointer (some ⟨b, 0, none⟩)))
          (first | assumption | exact ⟨(Below.refl _ _).drew, hpw⟩ | exact keep_call hpb1 (by assumption) (by assumption) | exact keep_set hpb1 (by assumption) | exact keep_alloc _ hpb1 (by assumption) | exact keep_alloc _ hpb1 (keep_call hpb1 ⟨(Below.refl _ _).drew, hpw⟩ (by assumption)))
          (first
            | (go_simp
               go_at_call 31
               refine (HC.out _ (And.left (by assumption))).mono ?_
               rintro e w1 ⟨rfl, hb1⟩
               first
                 | (have hq1 := again_free wr w1 hb1
                    have hfa := hq1.1.1
                    have hfb := hq1.1.2.1
                    have hfc := hq1.1.2.2
                    have hca := hq1.2.1
                    have hcb := hq1.2.2.1
                    have hcc := hq1.2.2.2
                    have HBA := Lib.hid hb1
                    clear hq1)
                 | skip))
        all_goals (
          rename_i hh
          have HB2 := Lib.hid hh.1
          clear hh)
        · generalize hWdef : w1.alloc _ = W at HB2 ⊢
          have hne : ((n7 : Int) == 8192) = false := by simp; omega
          obtain ⟨c0, c1, c2, c3, c4⟩ := tk_below HTW.out (HB2.out.mono (show g + 1 ≤ wr.heap.size by omega))
          have HS2 := Lib.hid (HS.out.below HB2.out)
          have hWs : w.heap.size ≤ W.heap.size := Nat.le_trans hsz HB2.out.size
          have hown := HS2.out.own
          rw [← HN7.out] at hown
          have HOW := Lib.hid hown
          clear hown HS
          go_wp2_with (at_builtin; refine wpList_append_own _ rfl _ _ 22 rfl w.heap.size 25 i26 zeroTok 5 48 Try.underlying22 HI.out.1 HI.out.2.1 HI.out.2.2.1 HI.out.2.2.2 rfl (by decide) _ _ _ rfl (HOW.out.alloc (.cells #[.int .i64 t.kind, .int .i64 t.pos, .int .i64 t.line, .string t.text, .int .i64 t.num] 25)) ⟨W.heap.size, 0, none⟩ 1 1 (tkCells t) rfl rfl ?c1 ?c2 ?c3 ?c4 ?c5 ?_)
          case c1 => exact fun j u hu => new_cells W t j u hu
          case c2 => exact cells_tk t
          case c3 => unfold maxLen; omega
          case c4 => omega
          case c5 => simp; omega
          intro v2 w2 hown2 hgrow2 _
          obtain ⟨o2, c2', rfl⟩ := any_form hown2
          have HS3 : Hid (StU w w2 b r false mo tv m (.slice o2 (n7 + 1) c2') (expand mo body (ts.take (k + 1)))) := by
            have hs := HS2.out.below ((Below.refl _ _).alloc (Nat.le_refl _) (.cells #[.int .i64 t.kind, .int .i64 t.pos, .int .i64 t.line, .string t.text, .int .i64 t.num] 25))
            have hp := hs.push hb0 hr0 (new := [t]) hgrow2 (by rw [← HN7.out]; simpa [cellsOf] using hown2)
            rw [expand_take hlt HTK.out, HUS.out]
            exact Lib.hid hp
          have HN8 : Hid (n7 + 1 = (expand mo body (ts.take (k + 1))).length) := by
            rw [expand_take hlt HTK.out, HUS.out]
            exact Lib.hid (by rw [HN7.out]; simp)
          clear hown2 hgrow2 HS2 HOW c0 c1 c2 c3 c4
          go_wp2_with fail
          go_roundw
          case rel => exact ⟨k + 1, m, _, _, _, by go_num, by omega, rfl, hm0, by omega, HN8, Lib.hid (fun h => by have := HN8.out; omega), HS3⟩
          case measure => simp [intOf]; omega
        · generalize hWdef : World.setCell _ _ _ = W at HB2 ⊢
          have hne : ((n7 : Int) == 8192) = false := by simp; omega
          obtain ⟨c0, c1, c2, c3, c4⟩ := tk_below HTW.out (HB2.out.mono (show g + 1 ≤ wr.heap.size by omega))
          have HS2 := Lib.hid (HS.out.below HB2.out)
          have hWs : w.heap.size ≤ W.heap.size := Nat.le_trans hsz HB2.out.size
          have hown := HS2.out.own
          rw [← HN7.out] at hown
          have HOW := Lib.hid hown
          clear hown HS
          go_wp2_with (at_builtin; refine wpList_append_own _ rfl _ _ 22 rfl w.heap.size 25 i26 zeroTok 5 48 Try.underlying22 HI.out.1 HI.out.2.1 HI.out.2.2.1 HI.out.2.2.2 rfl (by decide) _ _ _ rfl (HOW.out.alloc (.cells #[.int .i64 t.kind, .int .i64 t.pos, .int .i64 t.line, .string t.text, .int .i64 t.num] 25)) ⟨W.heap.size, 0, none⟩ 1 1 (tkCells t) rfl rfl ?c1 ?c2 ?c3 ?c4 ?c5 ?_)
          case c1 => exact fun j u hu => new_cells W t j u hu
          case c2 => exact cells_tk t
          case c3 => unfold maxLen; omega
          case c4 => omega
          case c5 => simp; omega
          intro v2 w2 hown2 hgrow2 _
          obtain ⟨o2, c2', rfl⟩ := any_form hown2
          have HS3 : Hid (StU w w2 b r false mo tv m (.slice o2 (n7 + 1) c2') (expand mo body (ts.take (k + 1)))) := by
            have hs := HS2.out.below ((Below.refl _ _).alloc (Nat.le_refl _) (.cells #[.int .i64 t.kind, .int .i64 t.pos, .int .i64 t.line, .string t.text, .int .i64 t.num] 25))
            have hp := hs.push hb0 hr0 (new := [t]) hgrow2 (by rw [← HN7.out]; simpa [cellsOf] using hown2)
            rw [expand_take hlt HTK.out, HUS.out]
            exact Lib.hid hp
          have HN8 : Hid (n7 + 1 = (expand mo body (ts.take (k + 1))).length) := by
            rw [expand_take hlt HTK.out, HUS.out]
            exact Lib.hid (by rw [HN7.out]; simp)
          clear hown2 hgrow2 HS2 HOW c0 c1 c2 c3 c4
          go_wp2_with fail
          go_roundw
          case rel => exact ⟨k + 1, m, _, _, _, by go_num, by omega, rfl, hm0, by omega, HN8, Lib.hid (fun h => by have := HN8.out; omega), HS3⟩
          case measure => simp [intOf]; omega
      | true =>
        have HUS := Lib.hid hus
        have hkind : t.kind = 1 ∧ z = t.text := by
          have h := hus
          rw [← HMO.out] at h
          simp [isUse] at h
          exact h
        have HC : Hid (∀ w' (hb : Below wr.heap.size wr w'), Calls Try.prog 31 #[.pointer (some ⟨b, 0, none⟩), .slice (some ⟨g, off + k * 5, none⟩) (ts.length - k) (cap - k)] w' fun e w'' => e = .returned (.tuple #[.agg #[.bool true, .slice none 0 0, .slice o body.length cb], .bool true]) ∧ Below w'.heap.size w' w'') := Lib.hid fun w' hb => by
          have := used_yes b r false m tv z o body.length cb g (off + k * 5) (ts.length - k) (cap - k) t w' (by have h := HS.out.usr.below hb; rw [← HMO.out] at h; exact h) (tk_below HTW.out (hb.mono (by omega))) (by omega) hkind.1 hkind.2
          unfold plainV at this
          exact this
        clear hus hkind
        go_wp2_with fail
        go_region_held3 (fun w' => Below wr.heap.size wr w' ∧ w'.cell? ⟨pb, 0, none⟩ = some (.pointer (some ⟨b, 0, none⟩)))
          (first | assumption | exact ⟨(Below.refl _ _).drew, hpw⟩ | exact keep_call hpb1 (by assumption) (by assumption) | exact keep_set hpb1 (by assumption) | exact keep_alloc _ hpb1 (by assumption) | exact keep_alloc _ hpb1 (keep_call hpb1 ⟨(Below.refl _ _).drew, hpw⟩ (by assumption)))
          (first
            | (go_simp
               go_at_call 31
               refine (HC.out _ (And.left (by assumption))).mono ?_
               rintro e w1 ⟨rfl, hb1⟩
               first
                 | (have hq1 := again_free wr w1 hb1
                    have hfa := hq1.1.1
                    have hfb := hq1.1.2.1
                    have hfc := hq1.1.2.2
                    have hca := hq1.2.1
                    have hcb := hq1.2.2.1
                    have hcc := hq1.2.2.2
                    have HBA := Lib.hid hb1
                    clear hq1)
                 | skip))
        all_goals (
          rename_i hh
          have HB2 := Lib.hid hh.1
          clear hh)
        · generalize hWdef : w1.alloc _ = W at HB2 ⊢
          have HD : Hid (W.heap[w1.heap.size]? = some (.cells #[.bool true, .slice none 0 0, .slice o body.length cb] 63 (0, 0))) := Lib.hid (by rw [← hWdef]; exact heap_alloc_new _ _)
          have HHB2 := HB2
          clear hWdef
          generalize w1.heap.size = x at HD ⊢
          have HS2 := Lib.hid (HS.out.below HHB2.out)
          have hxb : x ≠ b := by
            intro e
            have h1 := HD.out
            rw [e, HS2.out.usr.obj] at h1
            cases h1
          have hx0 : x < W.heap.size := lt_of_block HD.out
          have hWs : wr.heap.size ≤ W.heap.size := HHB2.out.size
          have p0 : W.cell? ⟨pb, 0, none⟩ = some (.pointer (some ⟨b, 0, none⟩)) := (HHB2.out.cell hpb1).trans hpw
          have e0 : W.cell? ⟨x, 0, none⟩ = some (.bool true) := (cell_of_row _ _ _ _ _ _ HD.out).trans rfl
          have e1 : W.cell? ⟨x, 1, none⟩ = some (.slice none 0 0) := (cell_of_row _ _ _ _ _ _ HD.out).trans rfl
          have e2 : W.cell? ⟨x, 2, none⟩ = some (.slice o body.length cb) := (cell_of_row _ _ _ _ _ _ HD.out).trans rfl
          go_wp2_with fail
          refine wp_region_kept (by kernel_rfl) (by kernel_rfl) (fun ι hne f hf hcl => ?_)
          have y0 : ∀ n, (f n).cell? ⟨pb, 0, none⟩ = some (.pointer (some ⟨b, 0, none⟩)) := fun n => ((hf n).cell (by show pb < _; omega)).trans p0
          have y1 : ∀ n, (f n).cell? ⟨x, 0, none⟩ = some (.bool true) := fun n => ((hf n).cell hx0).trans e0
          have y2 : ∀ n, (f n).cell? ⟨x, 1, none⟩ = some (.slice none 0 0) := fun n => ((hf n).cell hx0).trans e1
          have y3 : ∀ n, (f n).cell? ⟨x, 2, none⟩ = some (.slice o body.length cb) := fun n => ((hf n).cell hx0).trans e2
          have HF := Lib.hid hcl
          clear hcl hf e0 e1 e2 p0
          repeat (go_big_quiet_step ((go_at_call 32; exact kept_of HF.out _ (args_any _ _ _ _ _ _))))
          refine wpQuiet_nil ?_
          intro w6 hb6
          have HB6 := Lib.hid (HHB2.out.trans (hb6.mono hWs))
          have HS6 := Lib.hid (HS2.out.below hb6)
          have HD6 := Lib.hid ((hb6.block _ hx0).trans HD.out)
          clear hb6 y0 y1 y2 y3 HF HS2 HD HS hx0
          have q0 : w6.cell? ⟨pb, 0, none⟩ = some (.pointer (some ⟨b, 0, none⟩)) := (HB6.out.cell hpb1).trans hpw
          have hg6 : w6.cell? ⟨g, off + k * 5 + 1, none⟩ = some (.int .i64 t.pos) := (HB6.out.cell hgw).trans HTW.out.2.1
          have Q0 := Lib.hid (And.intro q0 hg6)
          obtain ⟨W7, hW7⟩ : ∃ W7, w6.drew.setCell ⟨b, 2, none⟩ (.int .i64 (m + 1)) = W7 := ⟨_, rfl⟩
          have HCT := Lib.hid (count_any b m 0 t.pos w6.drew ((cell_of_row _ _ _ _ _ _ HS6.out.usr.obj).trans rfl) (frozen_of_row _ _ _ _ _ HS6.out.usr.obj) hm0 (by omega) (by omega))
          have HS7 := Lib.hid ((HS6.out.below ((Below.refl _ _).drew)).count hb0 hrb)
          have HK7 : Hid (∀ kk, kk ≠ b → W7.heap[kk]? = w6.heap[kk]?) := Lib.hid fun kk hkk => by rw [← hW7]; exact heap_setCell_other _ _ _ _ hkk
          have hs7 : W7.heap.size = w6.heap.size := by rw [← hW7]; simp [World.setCell]
          rw [hW7] at HCT HS7
          have hc7 : ∀ a : Addr, a.block ≠ b → W7.cell? a = w6.cell? a := fun a ha => World.cell?_of_block (HK7.out _ ha)
          have q1 : W7.cell? ⟨pb, 0, none⟩ = some (.pointer (some ⟨b, 0, none⟩)) := (hc7 _ hpb).trans q0
          have q2 : W7.cell? ⟨g, off + k * 5 + 1, none⟩ = some (.int .i64 t.pos) := (hc7 _ hgb).trans hg6
          have Q1 := Lib.hid (And.intro q1 q2)
          have r1 : W7.cell? ⟨q, 0, none⟩ = some (.func (.func 30) #[] #[.pointer (some ⟨pb, 0, none⟩), .pointer (some ⟨q, 0, none⟩)]) := (hc7 _ hqb).trans ((HB6.out.cell hqw1).trans HQW.out)
          have hd7 := (HK7.out x hxb).trans HD6.out
          have e0 : W7.cell? ⟨x, 0, none⟩ = some (.bool true) := (cell_of_row _ _ _ _ _ _ hd7).trans rfl
          have e1 : W7.cell? ⟨x, 1, none⟩ = some (.slice none 0 0) := (cell_of_row _ _ _ _ _ _ hd7).trans rfl
          have e2 : W7.cell? ⟨x, 2, none⟩ = some (.slice o body.length cb) := (cell_of_row _ _ _ _ _ _ hd7).trans rfl
          obtain ⟨u0, u1, u2, u3, u4⟩ := tk_below HTW.out (HB6.out.mono (show g + 1 ≤ wr.heap.size by omega))
          have S7 := Lib.hid (And.intro q1 (And.intro r1 (And.intro e0 (And.intro e1 (And.intro e2 (And.intro ((hc7 ⟨g, off + k * 5, none⟩ hgb).trans u0) (And.intro ((hc7 ⟨g, off + k * 5 + 1, none⟩ hgb).trans u1) (And.intro ((hc7 ⟨g, off + k * 5 + 2, none⟩ hgb).trans u2) (And.intro ((hc7 ⟨g, off + k * 5 + 3, none⟩ hgb).trans u3) ((hc7 ⟨g, off + k * 5 + 4, none⟩ hgb).trans u4))))))))))
          have hw67 : w.heap.size ≤ W7.heap.size := by rw [hs7]; exact Nat.le_trans hsz HB6.out.size
          have hx7 : x < W7.heap.size := lt_of_block hd7
          have HRP := Lib.hid (repl_any b o cb body t (.slice none 0 0) W7.drew ((cell_of_row _ _ _ _ _ _ HS7.out.usr.obj).trans rfl) ((HBY.out.grown HS7.out.off HBE.out).below (Below.refl _ _).drew) (by omega))
          have HD7 := Lib.hid hd7
          clear q0 hg6 q1 q2 r1 e0 e1 e2 u0 u1 u2 u3 u4 hd7 hc7 hW7
          go_wp2_with fail
          go_region_held3 (fun w' => w'.cell? ⟨pb, 0, none⟩ = some (.pointer (some ⟨b, 0, none⟩)) ∧ w'.cell? ⟨g, off + k * 5 + 1, none⟩ = some (.int .i64 t.pos))
            (first | exact Q0.out | exact Q1.out | assumption)
            (first
              | (go_simp
                 go_at_call 33
                 refine HCT.out.mono ?_
                 rintro e w7 ⟨rfl, hw7⟩
                 rw [hw7]
                 clear hw7))
          rename_i hh
          clear hh
          go_wp2_with fail
          go_region_held3 (fun w' => w'.cell? ⟨pb, 0, none⟩ = some (.pointer (some ⟨b, 0, none⟩)) ∧ w'.cell? ⟨q, 0, none⟩ = some (.func (.func 30) #[] #[.pointer (some ⟨pb, 0, none⟩), .pointer (some ⟨q, 0, none⟩)]) ∧ w'.cell? ⟨x, 0, none⟩ = some (.bool true) ∧ w'.cell? ⟨x, 1, none⟩ = some (.slice none 0 0) ∧ w'.cell? ⟨x, 2, none⟩ = some (.slice o body.length cb) ∧ w'.cell? ⟨g, off + k * 5, none⟩ = some (.int .i64 t.kind) ∧ w'.cell? ⟨g, off + k * 5 + 1, none⟩ = some (.int .i64 t.pos) ∧ w'.cell? ⟨g, off + k * 5 + 2, none⟩ = some (.int .i64 t.line) ∧ w'.cell? ⟨g, off + k * 5 + 3, none⟩ = some (.string t.text) ∧ w'.cell? ⟨g, off + k * 5 + 4, none⟩ = some (.int .i64 t.num))
            (first | exact S7.out | assumption)
            (first
              | (go_simp
                 go_at_call 34
                 refine HRP.out.mono ?_
                 rintro e w8 ⟨v8, rfl, hr8, hz8⟩
                 have S8 := loads_kept (W := W7.drew) (W2 := w8) hx7 S7.out hr8.bel (show pb < W7.heap.size by omega) (show q < W7.heap.size by omega) (show g < W7.heap.size by omega)
                 have HR8 := Lib.hid hr8
                 have HD8 := Lib.hid ((hr8.bel.block x hx7).trans HD7.out)
                 have HZ8 := Lib.hid hz8
                 have HS8 := Lib.hid (HS7.out.below (Below.trans (Below.refl _ _).drew hr8.bel))
                 clear hr8 hz8)
              | (go_simp
                 go_at_call 30
                 refine (done_row b r false (m + 1) tv mo pb q W7.drew.heap.size v8 (body.map (moved t)) 1 w8 HS8.out.usr (by intro i hi; rw [List.getElem_map, isUse_moved]; exact HBN.out i (by simpa using hi)) S8.1 HR8.out.own (by simpa using HZ8.out) (by simp; omega)).mono ?_
                 rintro e w9 ⟨v9, rfl, hr9, hz9⟩
                 have hs78 : W7.heap.size ≤ w8.heap.size := HR8.out.bel.size
                 have S9 := loads_kept (W := w8) (W2 := w9) (Nat.lt_of_lt_of_le hx7 hs78) S8 hr9.bel (by omega) (by omega) (by omega)
                 have HR9 := Lib.hid hr9
                 have HD9 := Lib.hid ((hr9.bel.block x (lt_of_block HD8.out)).trans HD8.out)
                 have HZ9 := Lib.hid hz9
                 have HS9 := Lib.hid (HS8.out.below hr9.bel)
                 clear hr9 hz9)
              | (refine step_append_row rfl (.tmp 43) (.tmp 55) rfl w.heap.size w8.heap.size (.slice o7 n7 c7) v9 n7 (cellsOf (expand mo body (ts.take k))) (by simp [Act.eval, Act.put]) (by have h := HS9.out.own; rw [← HN7.out] at h; exact h) (body.map (moved t)) (by simp [Act.eval, Act.put]) HR9.out.own HZ9.out (by simp; omega) (by have := HS9.out.off.size; omega) ?_
                 intro v10 w10 hown10 hgr10 hnil10
                 have HS10 := Lib.hid (HS9.out.push hb0 hr0 (new := body.map (moved t)) hgr10 (by rw [← HN7.out]; exact hown10))
                 have S10 := loads_grown S9 hgr10 HS9.out.own HD9.out hpb0 hqb0 hg0 HS9.out.off.size
                 have HO10 := Lib.hid hown10
                 have HNI := Lib.hid hnil10
                 clear hown10 hgr10 hnil10
                 simp only [Act.put, List.setIfInBounds_toArray, List.set_cons_zero, List.set_cons_succ]))
          rename_i hh
          clear hh S8 S9 S10
          have hown := HO10.out
          rw [List.length_map] at hown
          obtain ⟨o10, c10, rfl⟩ := any_form hown
          have HEX : Hid (n7 + body.length = (expand mo body (ts.take (k + 1))).length) := Lib.hid (by rw [expand_take hlt HTK.out, HUS.out, if_pos rfl, List.length_append, List.length_map, HN7.out])
          have HSN : Hid (StU w w10 b r false mo tv (m + 1) (.slice o10 (n7 + body.length) c10) (expand mo body (ts.take (k + 1)))) := Lib.hid (by
            rw [expand_take hlt HTK.out, HUS.out, if_pos rfl]
            exact HS10.out)
          have HZN : Hid ((expand mo body (ts.take (k + 1))).length = 0 → (Value.slice o10 (n7 + body.length) c10) = .slice none 0 0) := Lib.hid fun h => by
            have h1 := HEX.out
            have h2 := HN7.out
            exact HNI.out.2 ⟨HZ7.out (by omega), by rw [List.length_map]; omega⟩
          have hbig : ¬ (8192 : Int) < ((n7 + body.length : Nat) : Int) := by omega
          have hbig2 : ¬ (8192 : Int) < (n7 : Int) + (body.length : Int) := by omega
          clear hown HO10
          go_wp2_with fail
          go_roundw
          case rel => exact ⟨k + 1, m + 1, _, _, _, by go_num, by omega, rfl, by omega, by omega, HEX, HZN, HSN⟩
          case measure => simp [intOf]; omega
        · generalize hWdef : World.setCell _ _ _ = W at HB2 ⊢
          have HD : Hid (W.heap[wr.heap.size]? = some (.cells #[.bool true, .slice none 0 0, .slice o body.length cb] 63 (0, 0))) := Lib.hid (by rw [← hWdef]; exact again_free2 wr w1 HBA.out _ _ _)
          have HHB2 := HB2
          clear hWdef
          generalize wr.heap.size = x at HD ⊢
          have HS2 := Lib.hid (HS.out.below HHB2.out)
          have hxb : x ≠ b := by
            intro e
            have h1 := HD.out
            rw [e, HS2.out.usr.obj] at h1
            cases h1
          have hx0 : x < W.heap.size := lt_of_block HD.out
          have hWs : wr.heap.size ≤ W.heap.size := HHB2.out.size
          have p0 : W.cell? ⟨pb, 0, none⟩ = some (.pointer (some ⟨b, 0, none⟩)) := (HHB2.out.cell hpb1).trans hpw
          have e0 : W.cell? ⟨x, 0, none⟩ = some (.bool true) := (cell_of_row _ _ _ _ _ _ HD.out).trans rfl
          have e1 : W.cell? ⟨x, 1, none⟩ = some (.slice none 0 0) := (cell_of_row _ _ _ _ _ _ HD.out).trans rfl
          have e2 : W.cell? ⟨x, 2, none⟩ = some (.slice o body.length cb) := (cell_of_row _ _ _ _ _ _ HD.out).trans rfl
          go_wp2_with fail
          refine wp_region_kept (by kernel_rfl) (by kernel_rfl) (fun ι hne f hf hcl => ?_)
          have y0 : ∀ n, (f n).cell? ⟨pb, 0, none⟩ = some (.pointer (some ⟨b, 0, none⟩)) := fun n => ((hf n).cell (by show pb < _; omega)).trans p0
          have y1 : ∀ n, (f n).cell? ⟨x, 0, none⟩ = some (.bool true) := fun n => ((hf n).cell hx0).trans e0
          have y2 : ∀ n, (f n).cell? ⟨x, 1, none⟩ = some (.slice none 0 0) := fun n => ((hf n).cell hx0).trans e1
          have y3 : ∀ n, (f n).cell? ⟨x, 2, none⟩ = some (.slice o body.length cb) := fun n => ((hf n).cell hx0).trans e2
          have HF := Lib.hid hcl
          clear hcl hf e0 e1 e2 p0
          repeat (go_big_quiet_step ((go_at_call 32; exact kept_of HF.out _ (args_any _ _ _ _ _ _))))
          refine wpQuiet_nil ?_
          intro w6 hb6
          have HB6 := Lib.hid (HHB2.out.trans (hb6.mono hWs))
          have HS6 := Lib.hid (HS2.out.below hb6)
          have HD6 := Lib.hid ((hb6.block _ hx0).trans HD.out)
          clear hb6 y0 y1 y2 y3 HF HS2 HD HS hx0
          have q0 : w6.cell? ⟨pb, 0, none⟩ = some (.pointer (some ⟨b, 0, none⟩)) := (HB6.out.cell hpb1).trans hpw
          have hg6 : w6.cell? ⟨g, off + k * 5 + 1, none⟩ = some (.int .i64 t.pos) := (HB6.out.cell hgw).trans HTW.out.2.1
          have Q0 := Lib.hid (And.intro q0 hg6)
          obtain ⟨W7, hW7⟩ : ∃ W7, w6.drew.setCell ⟨b, 2, none⟩ (.int .i64 (m + 1)) = W7 := ⟨_, rfl⟩
          have HCT := Lib.hid (count_any b m 0 t.pos w6.drew ((cell_of_row _ _ _ _ _ _ HS6.out.usr.obj).trans rfl) (frozen_of_row _ _ _ _ _ HS6.out.usr.obj) hm0 (by omega) (by omega))
          have HS7 := Lib.hid ((HS6.out.below ((Below.refl _ _).drew)).count hb0 hrb)
          have HK7 : Hid (∀ kk, kk ≠ b → W7.heap[kk]? = w6.heap[kk]?) := Lib.hid fun kk hkk => by rw [← hW7]; exact heap_setCell_other _ _ _ _ hkk
          have hs7 : W7.heap.size = w6.heap.size := by rw [← hW7]; simp [World.setCell]
          rw [hW7] at HCT HS7
          have hc7 : ∀ a : Addr, a.block ≠ b → W7.cell? a = w6.cell? a := fun a ha => World.cell?_of_block (HK7.out _ ha)
          have q1 : W7.cell? ⟨pb, 0, none⟩ = some (.pointer (some ⟨b, 0, none⟩)) := (hc7 _ hpb).trans q0
          have q2 : W7.cell? ⟨g, off + k * 5 + 1, none⟩ = some (.int .i64 t.pos) := (hc7 _ hgb).trans hg6
          have Q1 := Lib.hid (And.intro q1 q2)
          have r1 : W7.cell? ⟨q, 0, none⟩ = some (.func (.func 30) #[] #[.pointer (some ⟨pb, 0, none⟩), .pointer (some ⟨q, 0, none⟩)]) := (hc7 _ hqb).trans ((HB6.out.cell hqw1).trans HQW.out)
          have hd7 := (HK7.out x hxb).trans HD6.out
          have e0 : W7.cell? ⟨x, 0, none⟩ = some (.bool true) := (cell_of_row _ _ _ _ _ _ hd7).trans rfl
          have e1 : W7.cell? ⟨x, 1, none⟩ = some (.slice none 0 0) := (cell_of_row _ _ _ _ _ _ hd7).trans rfl
          have e2 : W7.cell? ⟨x, 2, none⟩ = some (.slice o body.length cb) := (cell_of_row _ _ _ _ _ _ hd7).trans rfl
          obtain ⟨u0, u1, u2, u3, u4⟩ := tk_below HTW.out (HB6.out.mono (show g + 1 ≤ wr.heap.size by omega))
          have S7 := Lib.hid (And.intro q1 (And.intro r1 (And.intro e0 (And.intro e1 (And.intro e2 (And.intro ((hc7 ⟨g, off + k * 5, none⟩ hgb).trans u0) (And.intro ((hc7 ⟨g, off + k * 5 + 1, none⟩ hgb).trans u1) (And.intro ((hc7 ⟨g, off + k * 5 + 2, none⟩ hgb).trans u2) (And.intro ((hc7 ⟨g, off + k * 5 + 3, none⟩ hgb).trans u3) ((hc7 ⟨g, off + k * 5 + 4, none⟩ hgb).trans u4))))))))))
          have hw67 : w.heap.size ≤ W7.heap.size := by rw [hs7]; exact Nat.le_trans hsz HB6.out.size
          have hx7 : x < W7.heap.size := lt_of_block hd7
          have HRP := Lib.hid (repl_any b o cb body t (.slice none 0 0) W7.drew ((cell_of_row _ _ _ _ _ _ HS7.out.usr.obj).trans rfl) ((HBY.out.grown HS7.out.off HBE.out).below (Below.refl _ _).drew) (by omega))
          have HD7 := Lib.hid hd7
          clear q0 hg6 q1 q2 r1 e0 e1 e2 u0 u1 u2 u3 u4 hd7 hc7 hW7
          go_wp2_with fail
          go_region_held3 (fun w' => w'.cell? ⟨pb, 0, none⟩ = some (.pointer (some ⟨b, 0, none⟩)) ∧ w'.cell? ⟨g, off + k * 5 + 1, none⟩ = some (.int .i64 t.pos))
            (first | exact Q0.out | exact Q1.out | assumption)
            (first
              | (go_simp
                 go_at_call 33
                 refine HCT.out.mono ?_
                 rintro e w7 ⟨rfl, hw7⟩
                 rw [hw7]
                 clear hw7))
          rename_i hh
          clear hh
          go_wp2_with fail
          go_region_held3 (fun w' => w'.cell? ⟨pb, 0, none⟩ = some (.pointer (some ⟨b, 0, none⟩)) ∧ w'.cell? ⟨q, 0, none⟩ = some (.func (.func 30) #[] #[.pointer (some ⟨pb, 0, none⟩), .pointer (some ⟨q, 0, none⟩)]) ∧ w'.cell? ⟨x, 0, none⟩ = some (.bool true) ∧ w'.cell? ⟨x, 1, none⟩ = some (.slice none 0 0) ∧ w'.cell? ⟨x, 2, none⟩ = some (.slice o body.length cb) ∧ w'.cell? ⟨g, off + k * 5, none⟩ = some (.int .i64 t.kind) ∧ w'.cell? ⟨g, off + k * 5 + 1, none⟩ = some (.int .i64 t.pos) ∧ w'.cell? ⟨g, off + k * 5 + 2, none⟩ = some (.int .i64 t.line) ∧ w'.cell? ⟨g, off + k * 5 + 3, none⟩ = some (.string t.text) ∧ w'.cell? ⟨g, off + k * 5 + 4, none⟩ = some (.int .i64 t.num))
            (first | exact S7.out | assumption)
            (first
              | (go_simp
                 go_at_call 34
                 refine HRP.out.mono ?_
                 rintro e w8 ⟨v8, rfl, hr8, hz8⟩
                 have S8 := loads_kept (W := W7.drew) (W2 := w8) hx7 S7.out hr8.bel (show pb < W7.heap.size by omega) (show q < W7.heap.size by omega) (show g < W7.heap.size by omega)
                 have HR8 := Lib.hid hr8
                 have HD8 := Lib.hid ((hr8.bel.block x hx7).trans HD7.out)
                 have HZ8 := Lib.hid hz8
                 have HS8 := Lib.hid (HS7.out.below (Below.trans (Below.refl _ _).drew hr8.bel))
                 clear hr8 hz8)
              | (go_simp
                 go_at_call 30
                 refine (done_row b r false (m + 1) tv mo pb q W7.drew.heap.size v8 (body.map (moved t)) 1 w8 HS8.out.usr (by intro i hi; rw [List.getElem_map, isUse_moved]; exact HBN.out i (by simpa using hi)) S8.1 HR8.out.own (by simpa using HZ8.out) (by simp; omega)).mono ?_
                 rintro e w9 ⟨v9, rfl, hr9, hz9⟩
                 have hs78 : W7.heap.size ≤ w8.heap.size := HR8.out.bel.size
                 have S9 := loads_kept (W := w8) (W2 := w9) (Nat.lt_of_lt_of_le hx7 hs78) S8 hr9.bel (by omega) (by omega) (by omega)
                 have HR9 := Lib.hid hr9
                 have HD9 := Lib.hid ((hr9.bel.block x (lt_of_block HD8.out)).trans HD8.out)
                 have HZ9 := Lib.hid hz9
                 have HS9 := Lib.hid (HS8.out.below hr9.bel)
                 clear hr9 hz9)
              | (refine step_append_row rfl (.tmp 43) (.tmp 55) rfl w.heap.size w8.heap.size (.slice o7 n7 c7) v9 n7 (cellsOf (expand mo body (ts.take k))) (by simp [Act.eval, Act.put]) (by have h := HS9.out.own; rw [← HN7.out] at h; exact h) (body.map (moved t)) (by simp [Act.eval, Act.put]) HR9.out.own HZ9.out (by simp; omega) (by have := HS9.out.off.size; omega) ?_
                 intro v10 w10 hown10 hgr10 hnil10
                 have HS10 := Lib.hid (HS9.out.push hb0 hr0 (new := body.map (moved t)) hgr10 (by rw [← HN7.out]; exact hown10))
                 have S10 := loads_grown S9 hgr10 HS9.out.own HD9.out hpb0 hqb0 hg0 HS9.out.off.size
                 have HO10 := Lib.hid hown10
                 have HNI := Lib.hid hnil10
                 clear hown10 hgr10 hnil10
                 simp only [Act.put, List.setIfInBounds_toArray, List.set_cons_zero, List.set_cons_succ]))
          rename_i hh
          clear hh S8 S9 S10
          have hown := HO10.out
          rw [List.length_map] at hown
          obtain ⟨o10, c10, rfl⟩ := any_form hown
          have HEX : Hid (n7 + body.length = (expand mo body (ts.take (k + 1))).length) := Lib.hid (by rw [expand_take hlt HTK.out, HUS.out, if_pos rfl, List.length_append, List.length_map, HN7.out])
          have HSN : Hid (StU w w10 b r false mo tv (m + 1) (.slice o10 (n7 + body.length) c10) (expand mo body (ts.take (k + 1)))) := Lib.hid (by
            rw [expand_take hlt HTK.out, HUS.out, if_pos rfl]
            exact HS10.out)
          have HZN : Hid ((expand mo body (ts.take (k + 1))).length = 0 → (Value.slice o10 (n7 + body.length) c10) = .slice none 0 0) := Lib.hid fun h => by
            have h1 := HEX.out
            have h2 := HN7.out
            exact HNI.out.2 ⟨HZ7.out (by omega), by rw [List.length_map]; omega⟩
          have hbig : ¬ (8192 : Int) < ((n7 + body.length : Nat) : Int) := by omega
          have hbig2 : ¬ (8192 : Int) < (n7 : Int) + (body.length : Int) := by omega
          clear hown HO10
          go_wp2_with fail
          go_roundw
          case rel => exact ⟨k + 1, m + 1, _, _, _, by go_num, by omega, rfl, by omega, by omega, HEX, HZN, HSN⟩
          case measure => simp [intOf]; omega
    · obtain rfl : k = ts.length := by omega
      have HSF := HS
      rw [List.take_length] at HSF HZ7
      go_wp2_with fail
      go_ret
      exact ⟨_, _, rfl, HSF.out, HZ7.out⟩
end Go.Proofs.Ytojneaffoekpnaa
