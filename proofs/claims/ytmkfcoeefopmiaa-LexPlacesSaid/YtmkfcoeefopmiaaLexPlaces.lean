/- LexPlaces: each token of every source stands where it says, behind the one ahead, and only blanks and comments lie between. Conditions: none. -/
import Derived.Test.YtmkfcoeefopmiaaHead
import Derived.Test.YtmkfcoeefopmiaaTokD
import Derived.Test.YtmkfcoeefopmiaaTokR
import Derived.Test.YtmkfcoeefopmiaaBig
import Derived.OpenShut
import Derived.ShutString
import Derived.ChangeOld
import Derived.HandedShaped
import Derived.Lib.SmallJoins
import Derived.Deep.QuietTactic
import Derived.BigQuiet
import Derived.IntWalk
namespace Go.Proofs.Ytmkfcoeefopmiaa.lexPlaces
open Go.ChangeShapes Go.WideShapes Go.ChangeAt Go.RowKit
open Go.ChangeMaps (open_string shut_string)
set_option linter.unusedVariables false
set_option linter.unusedSimpArgs false

theorem own : ownKnob Try.prog.godebug = none := by kernel_rfl
theorem laidOut : laidOutB Try.prog = true := by kernel_rfl

theorem tokR_as (u : ByteArray) (w0 : World) (hs : u.size ≤ 65535) (ts : List TK) (e p : Nat) (hL : Hid (Lx u 0 1 0 ts e p)) :
    Calls Try.prog 6 #[.string u] w0 fun x w' => ∃ v, x = .returned (.tuple #[v, .int .i64 e, .int .i64 p]) ∧ Below w0.heap.size w0 w' :=
  (tokensR u w0 hs ts e p hL.out).mono fun x w' ⟨v, hx, hb, _, _⟩ => ⟨v, hx, hb⟩
theorem tokD_bad (u : ByteArray) (w0 : World) (hs : u.size ≤ 65535) (ts : List TK) (e p : Nat) (hL : Hid (Lx u 0 1 0 ts e p)) (he : e ≠ 0) (mm : Int) (hm0 : w0.cell? ⟨0, 0, none⟩ = some (.int .i64 mm)) :
    Calls Try.prog 5 #[.string u] w0 fun x w' => x = .returned (.tuple #[.slice none 0 0, .int .i64 e, .int .i64 p]) ∧ Below w0.heap.size w0 w' :=
  (tokensD u w0 hs ts e p hL.out mm hm0).mono fun x w' ⟨v, hx, hb, _, h2⟩ => ⟨by rw [hx, h2 he], hb⟩
theorem tokD_good (u : ByteArray) (w0 : World) (hs : u.size ≤ 65535) (ts : List TK) (p : Nat) (hL : Hid (Lx u 0 1 0 ts 0 p)) (mm : Int) (hm0 : w0.cell? ⟨0, 0, none⟩ = some (.int .i64 mm)) :
    Calls Try.prog 5 #[.string u] w0 fun x w' => ∃ g cap, x = .returned (.tuple #[.slice (some ⟨g, 0, none⟩) ts.length cap, .int .i64 0, .int .i64 p]) ∧ Row w0 w' (.slice (some ⟨g, 0, none⟩) ts.length cap) ts := by
  refine (tokensD u w0 hs ts 0 p hL.out mm hm0).mono fun x w' ⟨v, hx, hb, h1, h2⟩ => ?_
  have hr := h1 rfl
  have hne := hL.out.some_ rfl
  rcases hr.own.2 with ⟨h3, h4⟩ | ⟨g, cap, cur, h3, _⟩
  · exact absurd (List.length_eq_zero_iff.1 h4) hne
  · rw [h3] at hr hx
    exact ⟨g, cap, hx, hr⟩

set_option maxRecDepth 100000 in
set_option maxHeartbeats 1000000 in
theorem walk_big (u : ByteArray) (w : World) (h : 65535 < u.size) :
    Calls Try.prog 3 #[.string u] w fun e w' => e = .returned (.bool true) ∧ Below w.heap.size w w' := by
  go_enter Try.func3, Try.ntmps3
  go_wp2_with (first | (go_at_call 5; refine (bigD _ _ h).mono ?_; rintro e w ⟨rfl, rfl⟩) | (go_at_call 6; refine (bigR _ _ h).mono ?_; rintro e w ⟨rfl, rfl⟩))
  go_ret
  exact ⟨rfl, Below.refl _ _⟩

set_option maxRecDepth 100000 in
set_option maxHeartbeats 1000000 in
theorem walk_bad (u : ByteArray) (w : World) (hs : u.size ≤ 65535) (ts : List TK) (e p : Nat) (HL : Hid (Lx u 0 1 0 ts e p)) (mm : Int) (HM : Hid (w.cell? ⟨0, 0, none⟩ = some (.int .i64 mm))) (he : e ≠ 0) :
    Calls Try.prog 3 #[.string u] w fun e w' => e = .returned (.bool true) ∧ Below w.heap.size w w' := by
  have he2 : ((e : Int) != 0) = true := by rw [bne_iff_ne]; omega
  have HE := Lib.hid he
  clear he
  go_enter Try.func3, Try.ntmps3
  go_wp2_with fail
  refine (tokD_bad u _ hs ts e p HL HE.out mm HM.out).mono ?_
  rintro x w1 ⟨rfl, hb1⟩
  have HB1 := Lib.hid hb1
  clear hb1
  go_wp2_with fail
  refine (tokR_as u _ hs ts e p HL).mono ?_
  rintro x w2 ⟨v2, rfl, hb2⟩
  have HB2 := Lib.hid (HB1.out.trans (hb2.mono HB1.out.size))
  clear hb2
  go_wp2
  go_ret
  exact ⟨rfl, HB2.out⟩

theorem slice_at (u : ByteArray) (a b : Nat) (A B : Int) (hA : A = a) (hB : B = b) (h1 : a ≤ b) (h2 : b ≤ u.size) (w : World) : (Instr.slice 9 (.string u) (some (.int .i64 A)) (some (.int .i64 B)) none).run Try.prog w = .ok (.string (u.extract a b)) w := by
  subst hA hB
  have := run_slice_string (P := Try.prog) (w := w) 9 u .i64 .i64 (a : Int) (b : Int) Try.underlying9 (by omega) (by omega) (by omega)
  rw [this]
  congr 3

theorem blank_as (u : ByteArray) (k : Nat) (w : World) (hs : u.size ≤ 65535) (hk : k < u.size) (V : Value) (h : Hid (blankV (blankAt u k) = V)) :
    Calls Try.prog 7 #[.string u, .int .i64 k] w fun e w' => e = .returned V ∧ w' = w := by
  rw [← h.out]; exact blank_any u k w hs hk

theorem _root_.Go.Proofs.Ytmkfcoeefopmiaa.Row.drewN {w0 w : World} {v : Value} {acc : List TK} (h : Row w0 w v acc) (n : Nat) : Row w0 (w.drewN n) v acc :=
  h.below ⟨rfl, rfl, rfl, Nat.le_refl _, fun _ _ => rfl⟩

/-- Where the law stands: behind i tokens, at place k. -/
def At (u : ByteArray) (ts : List TK) (i k : Nat) : Prop := (i = ts.length ∧ k = u.size) ∨ (i < ts.length ∧ ∃ l c, Lx u k l c (ts.drop i) 0 0)

set_option maxRecDepth 1000000 in
set_option maxHeartbeats 4000000 in
theorem walk_good (u : ByteArray) (w : World) (hs : u.size ≤ 65535) (ts : List TK) (p : Nat) (HL : Hid (Lx u 0 1 0 ts 0 p)) (hp : p = 0) (hlen : ts.length ≤ 65536) (mm : Int) (HM : Hid (w.cell? ⟨0, 0, none⟩ = some (.int .i64 mm))) :
    Calls Try.prog 3 #[.string u] w fun e w' => e = .returned (.bool true) ∧ Below w.heap.size w w' := by
  subst hp
  have hne := List.length_pos_iff.2 (HL.out.some_ rfl)
  have hz : ((ts.length : Int) == 0) = false := by rw [beq_eq_false_iff_ne]; omega
  have hli : (ts.length : Int) ≤ 65536 := by omega
  have hsi : (u.size : Int) ≤ 65535 := by omega
  go_enter Try.func3, Try.ntmps3
  go_wp2_with fail
  refine (tokD_good u _ hs ts 0 HL mm HM.out).mono ?_
  rintro x w1 ⟨g, cap, rfl, hr1⟩
  have HR1 := Lib.hid hr1
  clear hr1
  go_wp2_with fail
  refine (tokR_as u _ hs ts 0 0 HL).mono ?_
  rintro x w2 ⟨v2, rfl, hb2⟩
  have HR2 := Lib.hid (HR1.out.below hb2)
  clear hb2 HR1
  go_wp2
  go_loopw [9, 10] (fun en ix wr => ∃ i k : Nat, en = .int .i64 k ∧ ix = .int .i64 i ∧ i ≤ ts.length ∧ k ≤ u.size ∧ Hid (At u ts i k) ∧ Hid (Row w wr (.slice (some ⟨g, 0, none⟩) ts.length cap) ts)) (fun _ ix _ => ts.length - (intOf ix).toNat)
  case atStart => exact ⟨0, 0, rfl, rfl, by omega, by omega, Lib.hid (.inr ⟨hne, 1, 0, HL.out⟩), HR2⟩
  case round =>
    obtain ⟨i, k, rfl, rfl, hi, hk, HA, HR⟩ := hrel
    clear HR2
    by_cases hlt : i < ts.length
    · obtain ⟨l, c, hlx⟩ : ∃ l c, Lx u k l c (ts.drop i) 0 0 := by
        rcases HA.out with ⟨h1, _⟩ | ⟨_, h2⟩
        · omega
        · exact h2
      have hii : (i : Int) < ts.length := by omega
      obtain ⟨t, rest, hd, hp1, hp2, hk0⟩ := hlx.head rfl hk
      have hti : ts[i]? = some t := by
        have : (ts.drop i)[0]? = some t := by rw [hd]; rfl
        rw [List.getElem?_drop] at this; exact this
      have hrest : rest = ts.drop (i + 1) := by
        have : (ts.drop i).drop 1 = rest := by rw [hd]; rfl
        rw [← this, List.drop_drop]
      have hlast : (rest = []) ↔ i + 1 = ts.length := by
        rw [hrest, List.drop_eq_nil_iff]; omega
      have hcell : ∀ j, j < 5 → wr.cell? ⟨g, i * 5 + j, none⟩ = (tkCells t)[j]? := fun j hj => by
        rw [← cells_at ts i t hti j hj]
        exact HR.out.own.cellAt (i * 5 + j) (by omega)
      have f0 : wr.cell? ⟨g, i * 5, none⟩ = some (.int .i64 t.kind) := hcell 0 (by omega)
      have f1 : wr.cell? ⟨g, i * 5 + 1, none⟩ = some (.int .i64 t.pos) := hcell 1 (by omega)
      have f2 : wr.cell? ⟨g, i * 5 + 2, none⟩ = some (.int .i64 t.line) := hcell 2 (by omega)
      have f3 : wr.cell? ⟨g, i * 5 + 3, none⟩ = some (.string t.text) := hcell 3 (by omega)
      have f4 : wr.cell? ⟨g, i * 5 + 4, none⟩ = some (.int .i64 t.num) := hcell 4 (by omega)
      have hq1 : ¬ (t.pos : Int) < k := by omega
      have hq2 : ¬ (u.size : Int) < t.pos := by omega
      have HKB : Hid (((t.kind : Int) == 0) = ((i : Int) == (ts.length : Int) - 1)) := Lib.hid (by
        rw [Bool.eq_iff_iff, beq_iff_eq, beq_iff_eq]
        constructor
        · intro h; have := hlast.1 (hk0.1 (by omega)); omega
        · intro h; have := hk0.2 (hlast.2 (by omega)); omega)
      rw [hd] at hlx
      have HLX := Lib.hid hlx
      have HRS := Lib.hid hrest
      have HLS := Lib.hid hlast
      clear hd hti hrest hlast hcell hlx hk0 HA
      obtain ⟨b, hb1⟩ : ∃ b, ((t.kind : Int) == 0) = b := ⟨_, rfl⟩
      have hb2 : ((i : Int) == (ts.length : Int) - 1) = b := by rw [← HKB.out]; exact hb1
      clear HKB
      obtain ⟨kind, hkd⟩ : ∃ x, t.kind = x := ⟨_, rfl⟩
      obtain ⟨pos, hps⟩ : ∃ x, t.pos = x := ⟨_, rfl⟩
      obtain ⟨line, hln⟩ : ∃ x, t.line = x := ⟨_, rfl⟩
      obtain ⟨text, htx⟩ : ∃ x, t.text = x := ⟨_, rfl⟩
      obtain ⟨num, hnm⟩ : ∃ x, t.num = x := ⟨_, rfl⟩
      rw [hkd] at f0 hb1
      rw [hps] at f1 hp1 hp2 hq1 hq2
      rw [hln] at f2
      rw [htx] at f3
      rw [hnm] at f4
      have HKD := Lib.hid hkd
      have HPS := Lib.hid hps
      have HTX := Lib.hid htx
      clear hkd hps hln htx hnm
      cases b
      all_goals
        go_wp2_with fail
        go_loop [9] (fun en => ∃ x l c : Nat, en = .int .i64 x ∧ x ≤ pos ∧ Hid (Lx u x l c (t :: rest) 0 0)) (fun en => pos - (intOf en).toNat)
        case atStart => exact ⟨k, l, c, rfl, hp1, HLX⟩
        case round =>
          obtain ⟨x, l', c', rfl, hx, hlx⟩ := hrel
          clear HLX
          by_cases hlt2 : x < pos
          · obtain ⟨n, j, h1, hb, hn, h2⟩ := hlx.out.step (by rw [HPS.out]; exact hlt2)
            have HB : Hid (blankV (blankAt u x) = .tuple #[.int .i64 n, .int .i64 j, .bool true]) := Lib.hid (by rw [hb]; rfl)
            have hnx : x + n ≤ pos := by
              obtain ⟨t', rest', e1, e2, _⟩ := h2.head rfl (blankAt_le u x n j h1 hb)
              cases e1
              rw [HPS.out] at e2
              exact e2
            have HL2 := Lib.hid h2
            have hxi : (x : Int) < pos := by omega
            have hn0 : ((n : Int) == 0) = false := by rw [beq_eq_false_iff_ne]; omega
            have hni : (n : Int) ≤ 65535 := by omega
            clear hb h2 hlx
            go_wp2_with (go_at_call 7; refine (blank_as u x _ hs h1 _ HB).mono ?_; rintro e w' ⟨rfl, rfl⟩)
            go_round
            case rel => exact ⟨x + n, l' + j, c', by go_num, hnx, HL2⟩
            case measure => simp [intOf]; omega
          · obtain ⟨hpe, hcase⟩ := hlx.out.here (by omega) (by rw [HPS.out]; omega)
            have hxp : x = pos := by rw [HPS.out] at hpe; exact hpe.symm
            subst hxp
            rw [HKD.out, HTX.out] at hcase
            have hkind : (kind ≠ 3 ∧ text = u.extract x (x + text.size) ∧ x + text.size ≤ u.size ∧ At u ts (i + 1) (x + text.size)) ∨ (kind = 3 ∧ text = u.extract (x + 1) (x + text.size + 1) ∧ x + text.size + 2 ≤ u.size ∧ At u ts (i + 1) (x + text.size + 2)) := by
              rcases hcase with ⟨q1, q2, q3, q4⟩ | ⟨q1, q2, q3, q4, q5⟩
              · left
                have hz0 : text.size = 0 := by rw [q3]; rfl
                refine ⟨by omega, ?_, by omega, .inl ⟨?_, by omega⟩⟩
                · rw [hz0, q3]
                  have : (u.extract x (x + 0)).size = 0 := by simp
                  cases hd : u.extract x (x + 0) with
                  | mk d =>
                    rw [hd] at this
                    have h0 : d.size = 0 := this
                    rw [Array.eq_empty_of_size_eq_zero h0]
                · exact HLS.out.1 q1
              · have hle := tokAt_le u x q1 q4
                have hat : At u ts (i + 1) (x + (tokAt u x).size) := by
                  refine .inr ⟨?_, l', c' + 1, ?_⟩
                  · have := q5.some_ rfl
                    rcases Nat.lt_or_ge (i + 1) ts.length with h | h
                    · exact h
                    · exact absurd (HLS.out.2 (by omega)) this
                  · rw [← HRS.out]; exact q5
                rcases tok_shape q1 q4 with ⟨r1, r2, r3, r4⟩ | ⟨r1, r2, r3⟩
                · left
                  rw [← q3] at r3 r4
                  rw [← q2] at r2
                  rw [← r4] at r3 hat hle
                  exact ⟨r2, r3, hle.1, hat⟩
                · right
                  rw [← q3] at r2 r3
                  rw [← q2] at r1
                  rw [← r3] at hat hle
                  exact ⟨r1, r2, by omega, by rw [Nat.add_assoc]; exact hat⟩
            clear hcase hpe hlx hlt2 hx hp1
            have hxi : ¬ (x : Int) < x := by omega
            have hxs : (x : Int) ≤ 65535 := by omega
            have h0t : (0 : Int) ≤ (text.size : Int) := by omega
            rcases hkind with ⟨k3, htx, hle, hat⟩ | ⟨k3, htx, hle, hat⟩
            · have HAT := Lib.hid hat
              have k3a : ((kind : Int) == 3) = false := by rw [beq_eq_false_iff_ne]; omega
              have k3b : ((kind : Int) != 3) = true := by rw [bne_iff_ne]; omega
              have hts2 : (text.size : Int) ≤ 65535 := by omega
              have hg1 : ¬ (u.size : Int) < (x : Int) + (text.size : Int) := by omega
              have hsl : ∀ w : World, (Instr.slice 9 (.string u) (some (.int .i64 (x : Int))) (some (.int .i64 ((x : Int) + (text.size : Int)))) none).run Try.prog w = .ok (.string text) w := fun w => by
                rw [slice_at u x (x + text.size) _ _ rfl (by omega) (by omega) hle, ← htx]
              clear hat htx k3
              go_wp2
              have hg2 : decide ((u.size : Int) < (x : Int) + (text.size : Int)) = false := by simp; omega
              have e1 : IntKind.i64.wrap ((x : Int) + (text.size : Int)) = (x : Int) + (text.size : Int) := IntWalk.i64_in _ (by omega)
              go_quiet (fail)
              clear e1
              go_wp2
              go_roundw
              case rel => exact ⟨i + 1, x + text.size, by go_num, by go_num, by omega, hle, HAT, Lib.hid ((HR.out.alloc _).drewN _)⟩
              case measure => simp [intOf]; omega
            · have HAT := Lib.hid hat
              subst k3
              have hts2 : (text.size : Int) ≤ 65535 := by omega
              have hg1 : ¬ (u.size : Int) < (x : Int) + ((text.size : Int) + 2) := by omega
              have hsl : ∀ w : World, (Instr.slice 9 (.string u) (some (.int .i64 ((x : Int) + 1))) (some (.int .i64 ((x : Int) + ((text.size : Int) + 2) - 1))) none).run Try.prog w = .ok (.string text) w := fun w => by
                rw [slice_at u (x + 1) (x + text.size + 1) _ _ (by omega) (by omega) (by omega) (by omega), ← htx]
              clear hat htx
              go_wp2
              have hg2 : decide ((u.size : Int) < (x : Int) + ((text.size : Int) + 2)) = false := by simp; omega
              have e1 : IntKind.i64.wrap ((x : Int) + ((text.size : Int) + 2)) = (x : Int) + ((text.size : Int) + 2) := IntWalk.i64_in _ (by omega)
              have e2 : IntKind.i64.wrap ((x : Int) + 1) = (x : Int) + 1 := IntWalk.i64_in _ (by omega)
              have e3 : IntKind.i64.wrap ((x : Int) + ((text.size : Int) + 2) - 1) = (x : Int) + ((text.size : Int) + 2) - 1 := IntWalk.i64_in _ (by omega)
              go_quiet (fail)
              clear e1 e2 e3
              go_wp2
              go_roundw
              case rel => exact ⟨i + 1, x + text.size + 2, by go_num, by go_num, by omega, hle, HAT, Lib.hid ((HR.out.alloc _).drewN _)⟩
              case measure => simp [intOf]; omega
    · have hke : k = u.size := by
        rcases HA.out with ⟨_, h⟩ | ⟨h, _⟩
        · exact h
        · omega
      have hii : ¬ (i : Int) < ts.length := by omega
      have hkz : ((k : Int) == (u.size : Int)) = true := by rw [beq_iff_eq]; omega
      clear hke
      go_wp2
      go_ret
      exact ⟨rfl, HR.out.bel⟩

theorem Lx.count {u : ByteArray} {k l c e p : Nat} {ts : List TK} (h : Lx u k l c ts e p) : ts.length ≤ u.size - k + 1 ∧ (e = 0 → p = 0) := by
  induction h with
  | fin _ _ _ _ => exact ⟨by simp, fun _ => rfl⟩
  | opened _ _ _ _ _ => exact ⟨by simp, fun h => absurd h (by omega)⟩
  | blank k l c n j ts e p h1 hb hn hx ih => exact ⟨by have := ih.1; omega, ih.2⟩
  | wrong _ _ _ _ _ h => exact ⟨by simp, fun h' => absurd h' h⟩
  | many _ _ _ _ _ _ _ => exact ⟨by simp, fun h => absurd h (by omega)⟩
  | tok k l c ts e p h1 hb h0 hc hx ih => exact ⟨by have := tokAt_le u k h1 h0; have := ih.1; simp; omega, ih.2⟩

theorem walk (u : ByteArray) (w : World) (mm : Int) (hm : w.cell? ⟨0, 0, none⟩ = some (.int .i64 mm)) :
    Calls Try.prog 3 #[.string u] w fun e w' => e = .returned (.bool true) ∧ Below w.heap.size w w' := by
  by_cases hs : 65535 < u.size
  · exact walk_big u w hs
  obtain ⟨ts, e, p, hL⟩ := Lx.all u _ 0 1 0 (Nat.le_refl _)
  by_cases he : e = 0
  · subst he
    have hc := Lx.count hL
    exact walk_good u w (by omega) ts p (Lib.hid hL) (hc.2 rfl) (by omega) mm (Lib.hid hm)
  · exact walk_bad u w (by omega) ts e p (Lib.hid hL) mm (Lib.hid hm) he

set_option maxRecDepth 100000 in
theorem lifted (os : Os) (started : os.Started) (H : Type) (enc : TypeId × Value → H) :
    ReturnsInHanded {} Try.checked os 3 .any (Rows.lexPlacesSpec.pre6 enc Try.prog Try.f3 Rows.lexPlacesRow.domain false) (Rows.lexPlacesSpec.post enc Try.prog Try.f3 false true false false) := by
  refine returnsInHanded_of_change_shaped (C := Try.checked) own started (by kernel_rfl) Try.func3
    (ChangeSpec.witness6 (enc := enc) (C := Try.checked) false ⟨#[], #[.string ByteArray.empty], []⟩ 8 (by kernel_rfl) (by kernel_rfl) (by kernel_rfl) (by kernel_rfl)) ?_
  intro W base args ds gs before hval0 hW hcnd _ hsh _
  have hval : ∀ (j : Nat) t v, Try.f3.params[j]? = some t → args[j]? = some v → Value.okWide Try.prog W .any base t v := hval0
  have hW' := hW
  obtain ⟨p, q, hA0, hV, rfl, hfz, hnd⟩ := hW
  have hA : DataW.TrodAll enc Try.prog W 0 (fun _ => true) true Try.f3.params.toList args.toList ds p := hA0
  rw [Try.params3] at hA hval
  obtain ⟨v0, vs0, d0, ds0, p0, q0, hargs, rfl, rfl, h0, r0⟩ := trodAll_cons hA
  obtain ⟨rfl, rfl, rfl⟩ := trodAll_nil r0
  obtain rfl : args = #[v0] := by cases args; simp_all
  obtain ⟨rfl, rfl⟩ := trodVars_none hV
  have k0 := h0
  have lt0 : ∀ x ∈ p0, x.block < W.heap.size := by obtain ⟨m, hm⟩ := k0; exact DataW.trod_lt m _ _ _ hm
  obtain ⟨s0, rfl, rfl, rfl, hs0⟩ := open_string Try.underlying9 (hval 0 9 v0 rfl rfl) h0
  clear hA0 hval0
  obtain ⟨mm, hmm⟩ := Try.laysM143.s1_3 W hsh
  refine (walk s0 W mm hmm).mono fun e W' ⟨he, bel⟩ => ?_
  subst he
  exact ⟨_, rfl, _, _, _, [], _, [], hW', trodAll_mk1 (shut_bool Try.underlying4 _), (trodAll_cons_mk (Below.trod laidOut (by kernel_rfl) (of_decide_eq_true (by kernel_rfl)) k0 bel lt0) trodAll_mk0), rfl, bel.frame _, fun h => by cases h⟩

theorem over : Rows.lexPlacesRow.holds Try.pinned (OpenSpec.ofChange Rows.lexPlacesSpec) :=
  OpenClaim.holds_of_wide 3 Try.f3 rfl rfl rfl rfl rfl rfl rfl ⟨rfl, rfl, rfl, rfl, rfl⟩ rfl rfl rfl rfl rfl (by kernel_rfl) Try.func3 (by kernel_rfl)
    (of_decide_eq_true (by kernel_rfl)) (by unfold Func.isWrapper; first | (rw [if_pos (by decide +kernel)]; kernel_rfl) | (rw [if_neg (by decide +kernel)]; exact ⟨rfl, rfl⟩))
    (fun os started H enc _ => lifted os started H enc)

theorem proved : Rows.LexPlacesSaid := over
#print axioms proved
end Go.Proofs.Ytmkfcoeefopmiaa.lexPlaces
namespace Go.Proofs.Ytmkfcoeefopmiaa
theorem lexPlaces_holds : Rows.LexPlacesSaid := lexPlaces.proved
end Go.Proofs.Ytmkfcoeefopmiaa
