/- What comes of a row of tokens that are no uses: the row. -/
import Derived.Test.YtojneaffoekpnaaRepl
import Derived.Deep.RegionWith
import Derived.Laws.AppendOwn
import Derived.Deep.RegionHeld3
namespace Go.Proofs.Ytojneaffoekpnaa
open Go.ChangeShapes Go.WideShapes Go.ChangeAt Go.RowKit
set_option linter.unusedVariables false
set_option linter.unusedSimpArgs false

theorem not_used (w : World) {b r : Nat} {fl : Bool} {n : Int} {tv : Value} {mo : Dic} {g off : Nat} {ts : List TK} (hu : Usr w b r fl n tv mo) (ht : Toks w g off ts) (k : Nat) (hk : k < ts.length) (hno : isUse mo ts[k] = false) (cap : Nat) (w' : World) (hb : Below w.heap.size w w') :
    Calls Try.prog 31 #[.pointer (some ⟨b, 0, none⟩), .slice (some ⟨g, off + k * 5, none⟩) (ts.length - k) cap] w' fun e w'' => e = .returned (.tuple #[.agg #[.bool false, .slice none 0 0, .slice none 0 0], .bool false]) ∧ Below w'.heap.size w' w'' :=
  used_no b r fl n tv mo g _ _ cap ts[k] w' (hu.below hb) ((ht.below hb).2 k hk) (by omega) hno

theorem take_push {w0 w2 : World} {v2 : Value} {ts : List TK} {t : TK} {k : Nat} (hk : k < ts.length) (ht : ts[k] = t) (h : Row w0 w2 v2 (ts.take k ++ [t])) : Row w0 w2 v2 (ts.take (k + 1)) := by
  rw [List.take_succ_eq_append_getElem hk, ht]
  exact h
theorem keep_call {wr w1 w2 : World} {a : Addr} {v : Value} (ha : a.block < wr.heap.size) (h : Below wr.heap.size wr w1 ∧ w1.cell? a = some v) (hb : Below w1.heap.size w1 w2) : Below wr.heap.size wr w2 ∧ w2.cell? a = some v :=
  ⟨h.1.trans (hb.mono h.1.size), (hb.cell (Nat.lt_of_lt_of_le ha h.1.size)).trans h.2⟩
theorem keep_alloc {wr w1 : World} {a : Addr} {v : Value} (o : Obj) (ha : a.block < wr.heap.size) (h : Below wr.heap.size wr w1 ∧ w1.cell? a = some v) : Below wr.heap.size wr (w1.alloc o) ∧ (w1.alloc o).cell? a = some v :=
  keep_call ha h (Below.alloc (Below.refl _ _) (Nat.le_refl _) o)

theorem keep_set {wr w1 : World} {a : Addr} {v v0 v1 v2 : Value} (ha : a.block < wr.heap.size) (h : Below wr.heap.size wr w1 ∧ w1.cell? a = some v) :
    Below wr.heap.size wr (((w1.setCell ⟨wr.heap.size, 0, none⟩ v0).setCell ⟨wr.heap.size, 1, none⟩ v1).setCell ⟨wr.heap.size, 2, none⟩ v2) ∧ (((w1.setCell ⟨wr.heap.size, 0, none⟩ v0).setCell ⟨wr.heap.size, 1, none⟩ v1).setCell ⟨wr.heap.size, 2, none⟩ v2).cell? a = some v := by
  have e : Below wr.heap.size w1 (((w1.setCell ⟨wr.heap.size, 0, none⟩ v0).setCell ⟨wr.heap.size, 1, none⟩ v1).setCell ⟨wr.heap.size, 2, none⟩ v2) := (((Below.refl _ _).setCell (p := ⟨wr.heap.size, 0, none⟩) (Nat.le_refl _) _).setCell (p := ⟨wr.heap.size, 1, none⟩) (Nat.le_refl _) _).setCell (p := ⟨wr.heap.size, 2, none⟩) (Nat.le_refl _) _
  exact ⟨h.1.trans e, (e.cell ha).trans h.2⟩

theorem again_free (wr w1 : World) (hb1 : Below (wr.alloc (.cells #[.bool false, .slice none 0 0, .slice none 0 0] 63)).drew.heap.size (wr.alloc (.cells #[.bool false, .slice none 0 0, .slice none 0 0] 63)).drew w1) :
    (w1.frozen? ⟨wr.heap.size, 0, none⟩ = false ∧ w1.frozen? ⟨wr.heap.size, 1, none⟩ = false ∧ w1.frozen? ⟨wr.heap.size, 2, none⟩ = false) ∧ w1.cell? ⟨wr.heap.size, 0, none⟩ = some (.bool false) ∧ w1.cell? ⟨wr.heap.size, 1, none⟩ = some (.slice none 0 0) ∧ w1.cell? ⟨wr.heap.size, 2, none⟩ = some (.slice none 0 0) := by
  have hz0 : (wr.alloc (.cells #[.bool false, .slice none 0 0, .slice none 0 0] 63)).heap[wr.heap.size]? = some (.cells #[.bool false, .slice none 0 0, .slice none 0 0] 63 (0, 0)) := heap_alloc_new _ _
  have hz1 : w1.heap[wr.heap.size]? = some (.cells #[.bool false, .slice none 0 0, .slice none 0 0] 63 (0, 0)) := (hb1.block wr.heap.size (by show wr.heap.size < (wr.alloc _).heap.size; rw [World.size_alloc]; omega)).trans hz0
  exact ⟨⟨frozen_of_row _ _ _ _ _ hz1, frozen_of_row _ _ _ _ _ hz1, frozen_of_row _ _ _ _ _ hz1⟩, (cell_of_row _ _ _ _ _ _ hz1).trans rfl, (cell_of_row _ _ _ _ _ _ hz1).trans rfl, (cell_of_row _ _ _ _ _ _ hz1).trans rfl⟩

set_option maxRecDepth 100000 in
set_option maxHeartbeats 1600000 in
theorem done_any (b r : Nat) (fl : Bool) (n : Int) (tv : Value) (mo : Dic) (pb q : Nat) (g off cap : Nat) (ts : List TK) (dp : Int) (w : World) (hu : Usr w b r fl n tv mo) (hno : ∀ i (h : i < ts.length), isUse mo ts[i] = false) (hp : w.cell? ⟨pb, 0, none⟩ = some (.pointer (some ⟨b, 0, none⟩))) (ht : Toks w g off ts) (hn : ts.length ≤ 8192) (hcap : ts.length ≤ cap) :
    Calls Try.prog 30 #[.slice (some ⟨g, off, none⟩) ts.length cap, .int .i64 dp, .pointer (some ⟨pb, 0, none⟩), .pointer (some ⟨q, 0, none⟩)] w fun e w' => ∃ v, e = .returned v ∧ Row w w' v ts ∧ (ts.length = 0 → v = .slice none 0 0) := by
  obtain ⟨i26, hi26, ha26, hb26, hc26⟩ := info_parts info25
  have HI := Lib.hid (And.intro hi26 (And.intro ha26 (And.intro hb26 hc26)))
  clear hi26 ha26 hb26 hc26
  have HU := Lib.hid hu
  have HNO := Lib.hid hno
  have HT := Lib.hid ht
  have HP := Lib.hid hp
  have hb0 : b < w.heap.size := lt_of_block hu.obj
  have hpb : pb < w.heap.size := World.block_lt_of_cell? w _ hp
  have hg0 : g < w.heap.size := ht.1
  clear hu ht hp hno
  go_enter Try.func30, Try.ntmps30
  go_wp2
  go_loopw [7, 8] (fun v i wr => ∃ k : Nat, i = .int .i64 k ∧ k ≤ ts.length ∧ (∃ o c', v = .slice o k c' ∧ Hid (k = 0 → v = .slice none 0 0)) ∧ Hid (Row w wr v (ts.take k))) (fun _ i _ => ts.length - (intOf i).toNat)
  case atStart => exact ⟨0, rfl, by omega, ⟨none, 0, rfl, Lib.hid fun _ => rfl⟩, Lib.hid (by simpa using Row.nil_ w)⟩
  case round =>
    obtain ⟨k, rfl, hk, ⟨o7, c7, rfl, HZ7⟩, HR⟩ := hrel
    by_cases hlt : k < ts.length
    · have HB := HR.out.bel
      obtain ⟨c0, c1, c2, c3, c4⟩ := (HT.out.below HB).2 k hlt
      have hpw : wr.cell? ⟨pb, 0, none⟩ = some (.pointer (some ⟨b, 0, none⟩)) := (HB.cell hpb).trans HP.out
      have hlt1 : (k : Int) < ts.length := by omega
      have hk0 : (0 : Int) ≤ k := by omega
      have hk1 : (k : Int) ≤ ts.length := by omega
      have hk2 : (k : Int) ≤ cap := by omega
      have hsz := HB.size
      have HC := Lib.hid (not_used wr (HU.out.below HB) (HT.out.below HB) k hlt (HNO.out k hlt) (cap - k))
      have hpb1 : pb < wr.heap.size := by omega
      clear c0 c1 c2 c3 c4
      go_wp2_with fail
      have hck : ¬ cap = k := by omega
      go_region_held3 (fun w' => Below wr.heap.size wr w' ∧ w'.cell? ⟨pb, 0, none⟩ = some (.pointer (some ⟨b, 0, none⟩)))
        (first | assumption | exact ⟨(Below.refl _ _).drew, hpw⟩ | exact keep_call hpb1 (by assumption) (by assumption) | exact keep_set hpb1 (by assumption) | exact keep_alloc _ hpb1 (by assumption))
        (first
          | (go_simp
             go_at_call 31
             refine (HC.out _ (And.left (by assumption))).mono ?_
             rintro e w1 ⟨rfl, hb1⟩
             first
               | (have hq := again_free wr w1 hb1
                  have hfa := hq.1.1
                  have hfb := hq.1.2.1
                  have hfc := hq.1.2.2
                  have hca := hq.2.1
                  have hcb := hq.2.2.1
                  have hcc := hq.2.2.2
                  clear hq)
               | skip))
      all_goals (
        rename_i hh
        have HB2 := Lib.hid hh.1
        have hh1 := True.intro
        clear hh)
      · generalize w1.alloc _ = W at HB2 ⊢
        have hne : ((k : Int) == 8192) = false := by simp; omega
        obtain ⟨c0, c1, c2, c3, c4⟩ := ((HT.out.below HB).below HB2.out).2 k hlt
        have HRW := Lib.hid (HR.out.below HB2.out)
        have hWs : w.heap.size ≤ W.heap.size := Nat.le_trans hsz HB2.out.size
        have htl : (ts.take k).length = k := by simp; omega
        obtain ⟨t, ht⟩ : ∃ t, ts[k] = t := ⟨_, rfl⟩
        have HTK := Lib.hid ht
        have hown := HRW.out.own
        rw [htl] at hown
        have HOW := Lib.hid hown
        rw [ht] at c0 c1 c2 c3 c4
        clear hown ht htl HR hh1
        go_wp2_with (at_builtin; refine wpList_append_own _ rfl _ _ 22 rfl w.heap.size 25 i26 zeroTok 5 48 Try.underlying22 HI.out.1 HI.out.2.1 HI.out.2.2.1 HI.out.2.2.2 rfl (by decide) _ _ _ rfl (HOW.out.alloc (.cells #[.int .i64 t.kind, .int .i64 t.pos, .int .i64 t.line, .string t.text, .int .i64 t.num] 25)) ⟨W.heap.size, 0, none⟩ 1 1 (tkCells t) rfl rfl ?c1 ?c2 ?c3 ?c4 ?c5 ?_)
        case c1 => exact fun j u hu => new_cells W t j u hu
        case c2 => intro u hu; simp [tkCells] at hu; rcases hu with rfl | rfl | rfl | rfl | rfl <;> rfl
        case c3 => unfold maxLen; omega
        case c4 => omega
        case c5 => simp; omega
        intro v2 w2 hown2 hgrow2 _
        have HR2 : Hid (Row w w2 v2 (ts.take (k + 1))) := by
          have hr := HRW.out.alloc (.cells #[.int .i64 t.kind, .int .i64 t.pos, .int .i64 t.line, .string t.text, .int .i64 t.num] 25)
          refine Lib.hid (take_push hlt HTK.out (hr.push t hgrow2 ?_))
          rw [show (ts.take k).length = k by simp; omega]
          exact hown2
        obtain ⟨o2, cap2, rfl⟩ : ∃ o cap, v2 = .slice o (k + 1) cap := by
          rcases hown2.2 with ⟨h1, h2⟩ | ⟨g, cap, cur, h1, _⟩
          · omega
          · exact ⟨_, _, h1⟩
        clear hown2 hgrow2 HRW HOW c0 c1 c2 c3 c4
        go_wp2_with fail
        go_roundw
        case rel => exact ⟨k + 1, by go_num, by omega, ⟨_, _, rfl, Lib.hid fun h => by omega⟩, HR2⟩
        case measure => simp [intOf]; omega
      · generalize World.setCell _ _ _ = W at HB2 ⊢
        have hne : ((k : Int) == 8192) = false := by simp; omega
        obtain ⟨c0, c1, c2, c3, c4⟩ := ((HT.out.below HB).below HB2.out).2 k hlt
        have HRW := Lib.hid (HR.out.below HB2.out)
        have hWs : w.heap.size ≤ W.heap.size := Nat.le_trans hsz HB2.out.size
        have htl : (ts.take k).length = k := by simp; omega
        obtain ⟨t, ht⟩ : ∃ t, ts[k] = t := ⟨_, rfl⟩
        have HTK := Lib.hid ht
        have hown := HRW.out.own
        rw [htl] at hown
        have HOW := Lib.hid hown
        rw [ht] at c0 c1 c2 c3 c4
        clear hown ht htl HR hh1
        go_wp2_with (at_builtin; refine wpList_append_own _ rfl _ _ 22 rfl w.heap.size 25 i26 zeroTok 5 48 Try.underlying22 HI.out.1 HI.out.2.1 HI.out.2.2.1 HI.out.2.2.2 rfl (by decide) _ _ _ rfl (HOW.out.alloc (.cells #[.int .i64 t.kind, .int .i64 t.pos, .int .i64 t.line, .string t.text, .int .i64 t.num] 25)) ⟨W.heap.size, 0, none⟩ 1 1 (tkCells t) rfl rfl ?c1 ?c2 ?c3 ?c4 ?c5 ?_)
        case c1 => exact fun j u hu => new_cells W t j u hu
        case c2 => intro u hu; simp [tkCells] at hu; rcases hu with rfl | rfl | rfl | rfl | rfl <;> rfl
        case c3 => unfold maxLen; omega
        case c4 => omega
        case c5 => simp; omega
        intro v2 w2 hown2 hgrow2 _
        have HR2 : Hid (Row w w2 v2 (ts.take (k + 1))) := by
          have hr := HRW.out.alloc (.cells #[.int .i64 t.kind, .int .i64 t.pos, .int .i64 t.line, .string t.text, .int .i64 t.num] 25)
          refine Lib.hid (take_push hlt HTK.out (hr.push t hgrow2 ?_))
          rw [show (ts.take k).length = k by simp; omega]
          exact hown2
        obtain ⟨o2, cap2, rfl⟩ : ∃ o cap, v2 = .slice o (k + 1) cap := by
          rcases hown2.2 with ⟨h1, h2⟩ | ⟨g, cap, cur, h1, _⟩
          · omega
          · exact ⟨_, _, h1⟩
        clear hown2 hgrow2 HRW HOW c0 c1 c2 c3 c4
        go_wp2_with fail
        go_roundw
        case rel => exact ⟨k + 1, by go_num, by omega, ⟨_, _, rfl, Lib.hid fun h => by omega⟩, HR2⟩
        case measure => simp [intOf]; omega
    · obtain rfl : k = ts.length := by omega
      have HRF : Hid (Row w wr (.slice o7 ts.length c7) ts) := Lib.hid (by have := HR.out; rwa [List.take_length] at this)
      clear HR
      go_wp2_with fail
      go_ret
      exact ⟨_, rfl, HRF.out, HZ7.out⟩
end Go.Proofs.Ytojneaffoekpnaa
