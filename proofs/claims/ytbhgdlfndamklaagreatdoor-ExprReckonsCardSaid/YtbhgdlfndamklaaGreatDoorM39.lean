/- The document's place of the message that is received. -/
import Derived.Test.YtbhgdlfndamklaaGreatDoorM38
import Derived.Test.YtbhgdlfndamklaaGreatDoorM19
import Derived.Test.YtbhgdlfndamklaaGreatDoorM27
import Derived.Test.YtbhgdlfndamklaaGreatDoorM23
import Derived.Test.YtbhgdlfndamklaaGreatDoorM30
import Derived.Test.YtbhgdlfndamklaaGreatDoorM18
import Derived.WalkKit
import Derived.ProofKit
import Derived.Below
import Derived.Outline
import Derived.BigQuiet
import Derived.Deep.QuietTactic
namespace Go.Proofs.YtbhgdlfndamklaaGreatDoor
open Go.ChangeShapes Go.WideShapes Go.ChangeAt Go.RowKit
set_option linter.unusedVariables false
set_option linter.unusedSimpArgs false

set_option maxRecDepth 100000 in
set_option maxHeartbeats 2000000 in
theorem matches13H {B : Nat} (msg want mat : List Int) (o1 o2 o3 : Option Addr) (c1 c2 c3 : Nat) (w : World) (hB : B ≤ w.heap.size) (h1 : Row B o1 1 (intAt w) msg) (h2 : Row B o2 1 (intAt w) want) (h3 : Row B o3 1 (intAt w) mat) :
    Calls Tryz.prog 76 #[.slice o1 msg.length c1, .slice o2 want.length c2, .slice o3 mat.length c3] w fun e w' => e = .returned (.bool (matchesB want mat msg)) ∧ Below w.heap.size w w' := by
  have HR := Lib.hid (And.intro h1 (And.intro h2 h3))
  have HBB := Lib.hid hB
  have l1 := h1.1
  have l2 := h2.1
  have l3 := h3.1
  have HB0 : Hid (Below w.heap.size w w) := Lib.hid (Below.refl _ _)
  clear h1 h2 h3 hB
  by_cases hs1 : msg.length < mat.length
  · have HZ : Hid (matchesB want mat msg = false) := Lib.hid (matches_short (.inl hs1))
    have e1 : (msg.length : Int) < (mat.length : Int) := by omega
    go_enter Tryz.func76, Tryz.ntmps76
    go_wp2_with fail
    go_ret
    exact ⟨retB HZ.out.symm, HB0.out⟩
  have e1 : ¬ (msg.length : Int) < (mat.length : Int) := by omega
  have n1 : decide (msg.length < mat.length) = false := decide_eq_false hs1
  by_cases hs2 : want.length < mat.length
  · have HZ : Hid (matchesB want mat msg = false) := Lib.hid (matches_short (.inr hs2))
    have e2 : (want.length : Int) < (mat.length : Int) := by omega
    have n2 : decide (want.length < mat.length) = true := decide_eq_true hs2
    go_enter Tryz.func76, Tryz.ntmps76
    go_wp2_with fail
    go_ret
    exact ⟨retB HZ.out.symm, HB0.out⟩
  have e2 : ¬ (want.length : Int) < (mat.length : Int) := by omega
  have n2 : decide (want.length < mat.length) = false := decide_eq_false hs2
  go_enter Tryz.func76, Tryz.ntmps76
  go_wp2_with fail
  go_loopw [7] (fun jv wr => ∃ j : Nat, jv = .int .i64 j ∧ j ≤ mat.length ∧ Hid (∀ k (hk : k < mat.length), k < j → ∀ (hk2 : k < msg.length) (hk3 : k < want.length), ¬ (mat[k] = 1 ∧ msg[k] ≠ want[k])) ∧ Hid (Below w.heap.size w wr)) (fun jv _ => mat.length - (intOf jv).toNat)
  case atStart => exact ⟨0, rfl, by omega, Lib.hid fun k _ h => by omega, HB0⟩
  case round =>
    clear HB0
    obtain ⟨j, rfl, hj, HJ, HB2⟩ := hrel
    have hj0 : (0 : Int) ≤ j := by omega
    by_cases hjl : j < mat.length
    · have hjli : (j : Int) < mat.length := by omega
      have hjm : j < msg.length := by omega
      have hjw : j < want.length := by omega
      have hjmi : (j : Int) < msg.length := by omega
      have hjwi : (j : Int) < want.length := by omega
      obtain ⟨gm, offm, hom, -, em⟩ := (HR.out.1.mono fun _ _ _ hg => intAt.below (HB2.out.mono HBB.out) hg).cell hjm
      obtain ⟨gw, offw, how, -, ew⟩ := (HR.out.2.1.mono fun _ _ _ hg => intAt.below (HB2.out.mono HBB.out) hg).cell hjw
      obtain ⟨ga, offa, hoa, -, ea⟩ := (HR.out.2.2.mono fun _ _ _ hg => intAt.below (HB2.out.mono HBB.out) hg).cell hjl
      obtain ⟨a, ha⟩ : ∃ x, mat[j] = x := ⟨_, rfl⟩
      obtain ⟨m, hm⟩ : ∃ x, msg[j] = x := ⟨_, rfl⟩
      obtain ⟨v, hv⟩ : ∃ x, want[j] = x := ⟨_, rfl⟩
      rw [ha] at ea
      rw [hm] at em
      rw [hv] at ew
      unfold intAt at ea em ew
      rw [Nat.mul_one] at ea em ew
      subst hom how hoa
      have HBAD : Hid (a = 1 → m ≠ v → matchesB want mat msg = false) := Lib.hid fun h1 h2 => matches_bad hjl hjm hjw (by rw [ha]; exact h1) (by rw [hm, hv]; exact h2)
      have HGO : Hid (¬ (a = 1 ∧ m ≠ v) → ∀ k (hk : k < mat.length), k < j + 1 → ∀ (hk2 : k < msg.length) (hk3 : k < want.length), ¬ (mat[k] = 1 ∧ msg[k] ≠ want[k])) := Lib.hid fun h k hk hkj hk2 hk3 => by
        by_cases e : k = j
        · subst e
          rw [ha, hm, hv]
          exact h
        · exact HJ.out k hk (by omega) hk2 hk3
      clear ha hm hv HJ
      have HB3 : Hid (∀ n, Below w.heap.size w (wr.drewN n)) := Lib.hid fun n => HB2.out.trans (bdrew (Below.refl _ _) n)
      by_cases z1 : a = 1
      · have d1 : (a == 1) = true := by rw [beq_iff_eq]; exact z1
        by_cases z2 : m = v
        · have d2 : (m != v) = false := by rw [bne_eq_false_iff_eq]; exact z2
          have HZ := Lib.hid (HGO.out fun h => h.2 z2)
          clear z1 z2
          go_wp2_with fail
          go_quiet (fail)
          go_wp2_with fail
          go_roundw
          case rel => exact ⟨j + 1, by go_num, by omega, HZ, Lib.hid (HB3.out _)⟩
          case measure => simp [intOf]; omega
        · have d2 : (m != v) = true := by rw [bne_iff_ne]; exact z2
          have HZ := Lib.hid (HBAD.out z1 z2)
          clear z1 z2
          go_wp2_with fail
          go_quiet (fail)
          go_wp2_with fail
          go_ret
          exact ⟨retB HZ.out.symm, HB3.out _⟩
      · have d1 : (a == 1) = false := by rw [beq_eq_false_iff_ne]; exact z1
        have HZ := Lib.hid (HGO.out fun h => z1 h.1)
        clear z1
        go_wp2_with fail
        go_quiet (fail)
        go_wp2_with fail
        go_roundw
        case rel => exact ⟨j + 1, by go_num, by omega, HZ, Lib.hid (HB3.out _)⟩
        case measure => simp [intOf]; omega
    · have hjli : ¬ (j : Int) < mat.length := by omega
      have HZ : Hid (matchesB want mat msg = true) := Lib.hid (matches_ok (by omega) (by omega) fun k hk => HJ.out k hk (by omega) (by omega) (by omega))
      clear HJ
      go_wp2_with fail
      go_ret
      exact ⟨retB HZ.out.symm, HB2.out⟩

theorem find_off {want mat : List Int} {q : List (List Int)} {i : Nat} (hi : 0 < i) : findF want mat false q i = -1 := by
  cases q
  · rfl
  · unfold findF
    rw [if_pos ⟨hi, rfl⟩]

set_option maxRecDepth 100000 in
set_option maxHeartbeats 4000000 in
theorem find13H {B : Nat} (sh : Int) (q : List (List Int)) (want mat : List Int) (any : Bool) (qo o1 o2 : Option Addr) (qc p1 p2 : Nat) (w : World) (hB : B ≤ w.heap.size) (hq : Row B qo 1 (msgAt B w) q) (h1 : Row B o1 1 (intAt w) want) (h2 : Row B o2 1 (intAt w) mat) :
    Calls Tryz.prog 53 #[.agg #[.int .i64 sh, .slice qo q.length qc], .slice o1 want.length p1, .slice o2 mat.length p2, .bool any] w fun e w' => e = .returned (.int .i64 (findF want mat any q 0)) ∧ Below w.heap.size w w' := by
  have HR := Lib.hid (And.intro hq (And.intro h1 h2))
  have HBB := Lib.hid hB
  have lq := hq.1
  have l1 := h1.1
  have l2 := h2.1
  clear hq h1 h2 hB
  obtain ⟨R, hR⟩ : ∃ R, findF want mat any q 0 = R := ⟨_, rfl⟩
  have HF0 : Hid (findF want mat any (q.drop 0) 0 = R) := Lib.hid hR
  rw [hR]
  clear hR
  have HX : Hid (Bq w w.heap.size #[.int .i64 sh, .slice qo q.length qc] 91 (w.alloc (.cells #[.int .i64 sh, .slice qo q.length qc] 91))) := Lib.hid (Bq.new (Below.refl _ _) _ _)
  go_enter Tryz.func53, Tryz.ntmps53
  go_upto_region 1 with fail
  generalize w.alloc (Obj.cells #[.int .i64 sh, .slice qo q.length qc] 91) = W0 at HX ⊢
  go_wp2_with fail
  go_loopw [9] (fun iv wr => ∃ i : Nat, iv = .int .i64 i ∧ i ≤ q.length ∧ Hid (findF want mat any (q.drop i) i = R) ∧ Hid (Bq w w.heap.size #[.int .i64 sh, .slice qo q.length qc] 91 wr)) (fun iv _ => q.length - (intOf iv).toNat)
  case atStart => exact ⟨0, rfl, by omega, HF0, HX⟩
  case round =>
    clear HF0 HX
    obtain ⟨i, rfl, hi, HF, HX⟩ := hrel
    have hi0 : (0 : Int) ≤ i := by omega
    have y1 : wr.cell? ⟨w.heap.size, 1, none⟩ = some (.slice qo q.length qc) := HX.out.cell rfl
    by_cases hlt : i < q.length
    · have hlti : (i : Int) < q.length := by omega
      have HS := Lib.hid (find_step hlt HF.out)
      obtain ⟨g1, off1, ho1, hg1, mo, mc, e1, hms⟩ := (HR.out.1.mono fun _ _ _ hg => msgAt.below (HX.out.bel.mono HBB.out) hg).cell hlt
      obtain ⟨msg, hmsg⟩ : ∃ x, q[i] = x := ⟨_, rfl⟩
      rw [hmsg] at e1 hms HS
      rw [Nat.mul_one] at e1
      rw [ho1] at y1
      have lm := hms.1
      have HC := Lib.hid (matches13H (B := B) msg want mat mo o1 o2 mc p1 p2 wr (Nat.le_trans HBB.out HX.out.bel.size) hms (HR.out.2.1.mono fun _ _ _ hg => intAt.below (HX.out.bel.mono HBB.out) hg) (HR.out.2.2.mono fun _ _ _ hg => intAt.below (HX.out.bel.mono HBB.out) hg))
      clear hms hmsg hg1 HF ho1
      go_wp2_with fail
      refine HC.out.mono ?_
      rintro e W2 ⟨rfl, hb2⟩
      have HX2 := Lib.hid (HX.out.below hb2)
      clear hb2 HC HX y1 e1
      obtain ⟨u, hu⟩ : ∃ u, matchesB want mat msg = u := ⟨_, rfl⟩
      rw [hu] at HS ⊢
      clear hu
      cases u
      · have HG : Hid (findF want mat any (q.drop (i + 1)) (i + 1) = R) := Lib.hid (by
          have := HS.out
          rw [if_neg (by simp : ¬ (false = true))] at this
          by_cases hz : 0 < i ∧ any = false
          · rw [if_pos hz] at this
            rw [← this, hz.2]
            exact find_off (by omega)
          · rw [if_neg hz] at this
            exact this)
        clear HS
        go_wp2_with fail
        go_roundw
        case rel => exact ⟨i + 1, by go_num, by omega, HG, HX2⟩
        case measure => simp [intOf]; omega
      by_cases hz : i = 0
      · subst hz
        have HE : Hid (R = 0) := Lib.hid (by
          have := HS.out
          rw [if_neg (by omega), if_pos rfl] at this
          exact this.symm)
        clear HS
        go_wp2_with fail
        go_ret
        exact ⟨retI HE.out.symm, HX2.out.bel⟩
      have d0 : ((i : Int) == 0) = false := by rw [beq_eq_false_iff_ne]; omega
      have d1 : (i == 0) = false := by rw [beq_eq_false_iff_ne]; omega
      have d2 : decide (i = 0) = false := decide_eq_false hz
      cases any
      · have HG : Hid (findF want mat false (q.drop (i + 1)) (i + 1) = R) := Lib.hid (by
          have := HS.out
          rw [if_pos ⟨by omega, rfl⟩] at this
          rw [← this]
          exact find_off (by omega))
        clear HS
        go_wp2_with fail
        go_roundw
        case rel => exact ⟨i + 1, by go_num, by omega, HG, HX2⟩
        case measure => simp [intOf]; omega
      · have HE : Hid (R = i) := Lib.hid (by
          have := HS.out
          rw [if_neg (by simp), if_pos rfl] at this
          exact this.symm)
        clear HS
        go_wp2_with fail
        go_ret
        exact ⟨retI HE.out.symm, HX2.out.bel⟩
    · have hlti : ¬ (i : Int) < q.length := by omega
      have HE : Hid (R = -1) := Lib.hid (find_end hlt HF.out)
      clear HF
      go_wp2_with fail
      go_ret
      exact ⟨retI HE.out.symm, HX.out.bel⟩
end Go.Proofs.YtbhgdlfndamklaaGreatDoor
/- The document's layer 14: an Env in a box, what Eval promises, and Chan. -/
namespace Go.Proofs.YtbhgdlfndamklaaGreatDoor
open Go.ChangeShapes Go.WideShapes Go.ChangeAt Go.RowKit
set_option linter.unusedVariables false
set_option linter.unusedSimpArgs false

theorem ED.lift {B B' : Nat} {w : World} {h : MH} {hs : SH} {ao : Option Addr} {E : EnvD} (k : ED B w h hs ao E) (hB : B ≤ B') : ED B' w h hs ao E :=
  ⟨k.md.lift hB, k.sd.lift hB, k.able.lift' hB fun _ _ _ _ h => h⟩
/-- An Env in a box. -/
structure Zs (w : World) (ES : Array Value) (h : MH) (hs : SH) (ao : Option Addr) (ac : Nat) (E : EnvD) (W : World) : Prop where
  es : ES = eCells h hs ao ac E
  bx : Bq w w.heap.size ES 36 W
  ed : ED w.heap.size W h hs ao E
section
variable {w W W' : World} {ES : Array Value} {h : MH} {hs : SH} {ao : Option Addr} {ac : Nat} {E : EnvD}
theorem Zs.below (k : Zs w ES h hs ao ac E W) (hb : Below W.heap.size W W') : Zs w ES h hs ao ac E W' := ⟨k.es, k.bx.below hb, k.ed.below (hb.mono k.bx.bel.size)⟩
theorem Zs.drewN (k : Zs w ES h hs ao ac E W) (n : Nat) : Zs w ES h hs ao ac E (W.drewN n) := k.below (bdrew (Below.refl _ _) n)
theorem Zs.new (hd : ED w.heap.size w h hs ao E) (hS : ES = eCells h hs ao ac E) : Zs w ES h hs ao ac E (w.alloc (.cells ES 36)) := ⟨hS, Bq.new (Below.refl _ _) _ _, hd.below (ball _)⟩
theorem Zs.here (k : Zs w ES h hs ao ac E W) : ED W.heap.size W h hs ao E := k.ed.lift k.bx.bel.size
theorem Zs.info (k : Zs w ES h hs ao ac E W) : (Tryz.prog.info? 36).map (·.size) = some ES.size := by
  rw [k.es]
  show _ = some 16
  kernel_rfl
theorem Zs.ek (k : Zs w ES h hs ao ac E W) : Ek w.heap.size W w.heap.size h hs ao ac E := Ek.ofW (T := 36) (by rw [← k.es]; exact k.bx.box) k.bx.bel.size k.ed
theorem Zs.cell (k : Zs w ES h hs ao ac E W) {i : Nat} {v : Value} (hv : (eCells h hs ao ac E)[i]? = some v) : W.cell? ⟨w.heap.size, i, none⟩ = some v := k.bx.cell (by rw [k.es]; exact hv)
end
/-- What the document's Eval promises of the expressions below N. -/
def EvH (h : MH) (hs : SH) (ao : Option Addr) (ac : Nat) (E : EnvD) (ev : Int → Int × Int) (N : Nat) : Prop :=
  ∀ (x : Int) (W : World), 0 ≤ x → x < N → ED W.heap.size W h hs ao E → Calls Tryz.prog 9 #[.agg (eCells h hs ao ac E), .int .i64 x] W fun e W' => e = .returned (.tuple #[.int .i64 (ev x).1, .int .i64 (ev x).2]) ∧ Below W.heap.size W W'

set_option maxRecDepth 100000 in
set_option maxHeartbeats 2000000 in
theorem chan14H {h : MH} {hs : SH} {ao : Option Addr} {ac : Nat} {E : EnvD} {ev : Int → Int × Int} {N : Nat} (x : Int) (w : World) (hd : ED w.heap.size w h hs ao E) (he : EvH h hs ao ac E ev N) (hx0 : 0 ≤ x) (hx : x < N) :
    Calls Tryz.prog 10 #[.agg (eCells h hs ao ac E), .int .i64 x] w fun e w' => e = .returned (.tuple #[.int .i64 (rchanB E ev x).1, .int .i64 (rchanB E ev x).2]) ∧ Below w.heap.size w w' := by
  have HE := Lib.hid (fun W hd => he x W hx0 hx hd)
  obtain ⟨ES, hES⟩ : ∃ c, c = eCells h hs ao ac E := ⟨_, rfl⟩
  have HX := Lib.hid (Zs.new hd hES)
  rw [← hES] at HE ⊢
  have hcl := hd.sd.chans.1
  clear hd he hES
  obtain ⟨⟨v, er⟩, hev⟩ : ∃ q, ev x = q := ⟨_, rfl⟩
  rw [hev] at HE
  simp only at HE
  have HEV := Lib.hid hev
  clear hev
  go_enter Tryz.func10, Tryz.ntmps10
  go_upto_region 1 with fail
  generalize w.alloc (.cells ES 36) = W0 at HX ⊢
  go_wp2_with (refine wpList_load_row rfl _ _ rfl _ rfl _ ES _ _ HX.out.bx.box Tryz.underlying36 rfl HX.out.info ?_)
  refine (HE.out W0 HX.out.here).mono ?_
  rintro e W1 ⟨rfl, hb1⟩
  have HX1 := Lib.hid (HX.out.below hb1)
  have c8 : W1.cell? ⟨w.heap.size, 8, none⟩ = some (.slice hs.co E.s.chans.length hs.cc) := HX1.out.cell rfl
  clear hb1 HX HE
  by_cases h0 : er = 0
  · have hd0 : (er != 0) = false := by rw [bne_eq_false_iff_eq]; exact h0
    subst h0
    by_cases h1 : v < 1
    · have hd1 : decide (v < 1) = true := decide_eq_true h1
      have HV : Hid (rchanB E ev x = (0, 49)) := Lib.hid (by unfold rchanB; rw [HEV.out]; simp [h1])
      go_wp2_with fail
      go_ret2
      exact ⟨ret2 (by rw [HV.out]) (by rw [HV.out]), HX1.out.bx.bel⟩
    · have hd1 : decide (v < 1) = false := decide_eq_false h1
      by_cases h2 : (E.s.chans.length : Int) < v
      · have hd2 : decide ((E.s.chans.length : Int) < v) = true := decide_eq_true h2
        have HV : Hid (rchanB E ev x = (0, 49)) := Lib.hid (by unfold rchanB; rw [HEV.out]; simp [h2])
        go_wp2_with fail
        go_ret2
        exact ⟨ret2 (by rw [HV.out]) (by rw [HV.out]), HX1.out.bx.bel⟩
      · have hd2 : decide ((E.s.chans.length : Int) < v) = false := decide_eq_false h2
        have HV : Hid (rchanB E ev x = (v, 0)) := Lib.hid (by unfold rchanB; rw [HEV.out]; simp [h1, h2])
        go_wp2_with fail
        go_ret2
        exact ⟨ret2 (by rw [HV.out]) (by rw [HV.out]), HX1.out.bx.bel⟩
  · have hd0 : (er != 0) = true := by rw [bne_iff_ne]; exact h0
    have HV : Hid (rchanB E ev x = (0, er)) := Lib.hid (by unfold rchanB; rw [HEV.out]; simp [h0])
    go_wp2_with fail
    go_ret2
    exact ⟨ret2 (by rw [HV.out]) (by rw [HV.out]), HX1.out.bx.bel⟩
end Go.Proofs.YtbhgdlfndamklaaGreatDoor
/- The document's both, either and if. -/
namespace Go.Proofs.YtbhgdlfndamklaaGreatDoor
open Go.ChangeShapes Go.WideShapes Go.ChangeAt Go.RowKit
set_option linter.unusedVariables false
set_option linter.unusedSimpArgs false

theorem one14H (b : Bool) (w : World) : Calls Tryz.prog 26 #[.bool b] w fun e w' => e = .returned (.int .i64 (truthI b)) ∧ w = w' := by
  go_enter Tryz.func26, Tryz.ntmps26
  cases b
  · go_wp2
    all_goals (go_ret; exact ⟨rfl, rfl⟩)
  · go_wp2
    all_goals (go_ret; exact ⟨rfl, rfl⟩)
/-- An Env and an expression in boxes. -/
structure Zx (w : World) (ES XS : Array Value) (h : MH) (hs : SH) (ao : Option Addr) (ac : Nat) (E : EnvD) (W : World) : Prop where
  zs : Zs w ES h hs ao ac E W
  xb : Bq w (w.heap.size + 1) XS 73 W
section
variable {w W W' : World} {ES XS : Array Value} {h : MH} {hs : SH} {ao : Option Addr} {ac : Nat} {E : EnvD}
theorem Zx.below (k : Zx w ES XS h hs ao ac E W) (hb : Below W.heap.size W W') : Zx w ES XS h hs ao ac E W' := ⟨k.zs.below hb, k.xb.below hb⟩
theorem Zx.new (hd : ED w.heap.size w h hs ao E) (hS : ES = eCells h hs ao ac E) : Zx w ES XS h hs ao ac E ((w.alloc (.cells ES 36)).alloc (.cells XS 73)) :=
  ⟨(Zs.new hd hS).below (ball _), new_at (by simp), (Zs.new hd hS).bx.bel.alloc (by simp) _⟩
theorem Zx.cell (k : Zx w ES XS h hs ao ac E W) {i : Nat} {v : Value} (hv : XS[i]? = some v) : W.cell? ⟨w.heap.size + 1, i, none⟩ = some v := k.xb.cell hv
end

set_option maxRecDepth 100000 in
set_option maxHeartbeats 4000000 in
theorem logic14H {h : MH} {hs : SH} {ao vo ao2 mo : Option Addr} {ac vc ac2 mc : Nat} {E : EnvD} {ev : Int → Int × Int} {N : Nat} (x : ExprD) (w : World) (hd : ED w.heap.size w h hs ao E) (he : EvH h hs ao ac E ev N) (h00 : ∀ i, (ev i).2 ≠ 0 → (ev i).1 = 0) (hop : 22 ≤ x.op ∧ x.op ≤ 24) (ha : 0 ≤ x.a ∧ x.a < N) (hb : 0 ≤ x.b ∧ x.b < N) (hc : x.op = 24 → 0 ≤ x.c ∧ x.c < N) :
    Calls Tryz.prog 24 #[.agg (eCells h hs ao ac E), .agg (xCells x vo ao2 mo vc ac2 mc)] w fun e w' => e = .returned (.tuple #[.int .i64 (chosenB ev x).1, .int .i64 (chosenB ev x).2]) ∧ Below w.heap.size w w' := by
  have HEA := Lib.hid (fun W hd => he x.a W ha.1 ha.2 hd)
  have HEB := Lib.hid (fun W hd => he x.b W hb.1 hb.2 hd)
  have HEC := Lib.hid (fun (e24 : x.op = 24) W hd => he x.c W (hc e24).1 (hc e24).2 hd)
  obtain ⟨ES, hES⟩ : ∃ c, c = eCells h hs ao ac E := ⟨_, rfl⟩
  obtain ⟨XS, hXS⟩ : ∃ c, c = xCells x vo ao2 mo vc ac2 mc := ⟨_, rfl⟩
  have HX := Lib.hid (Zx.new (XS := XS) hd hES)
  have HXS := Lib.hid hXS
  rw [← hES] at HEA HEB HEC ⊢
  rw [← hXS]
  have h0a := h00 x.a
  have h0b := h00 x.b
  have h0c := h00 x.c
  clear hd he hES hXS ha hb hc h00
  obtain ⟨⟨v, er⟩, hev⟩ : ∃ q, ev x.a = q := ⟨_, rfl⟩
  obtain ⟨⟨v1, er1⟩, hev1⟩ : ∃ q, ev x.b = q := ⟨_, rfl⟩
  obtain ⟨⟨v2, er2⟩, hev2⟩ : ∃ q, ev x.c = q := ⟨_, rfl⟩
  rw [hev] at HEA h0a
  rw [hev1] at HEB h0b
  rw [hev2] at HEC h0c
  simp only at HEA HEB HEC h0a h0b h0c
  have HV : Hid (chosenB ev x = if er ≠ 0 then (0, er) else if x.op = 22 ∧ v = 0 then (0, 0) else if x.op = 23 ∧ v ≠ 0 then (1, 0) else if x.op = 24 ∧ v = 0 then (v2, er2) else if x.op = 24 then (v1, er1) else if er1 ≠ 0 then (0, er1) else (truthI (v1 != 0), 0)) := Lib.hid (by
    unfold chosenB
    rw [hev, hev1, hev2]
    simp only
    clear HEA HEB HEC HX HXS hev hev1 hev2
    rcases (by omega : x.op = 22 ∨ x.op = 23 ∨ x.op = 24) with e | e | e <;> rw [e] <;> by_cases z : er = 0 <;> by_cases z0 : v = 0 <;> by_cases z1 : er1 = 0 <;> by_cases z2 : er2 = 0 <;> by_cases z3 : v1 = 0 <;> simp_all [truthI])
  clear hev hev1 hev2 h0a h0b h0c
  obtain ⟨R, hR⟩ : ∃ R, chosenB ev x = R := ⟨_, rfl⟩
  rw [hR] at HV ⊢
  have hop2 : x.op = 22 ∨ x.op = 23 ∨ x.op = 24 := by omega
  obtain ⟨op, ho⟩ : ∃ o, x.op = o := ⟨_, rfl⟩
  rw [ho] at HV HEC hop2
  have HO := Lib.hid ho
  clear hop hR ho
  go_enter Tryz.func24, Tryz.ntmps24
  go_upto_region 1 with fail
  generalize (w.alloc (.cells ES 36)).alloc (.cells XS 73) = W0 at HX ⊢
  have x2 : W0.cell? ⟨w.heap.size + 1, 2, none⟩ = some (.int .i64 x.a) := HX.out.cell (by rw [HXS.out]; rfl)
  go_wp2_with (refine wpList_load_row rfl _ _ rfl _ rfl _ ES _ _ HX.out.zs.bx.box Tryz.underlying36 rfl HX.out.zs.info ?_)
  refine (HEA.out W0 HX.out.zs.here).mono ?_
  rintro e W1 ⟨rfl, hb1⟩
  have HX1 := Lib.hid (HX.out.below hb1)
  clear hb1 HX HEA x2
  have x0 : W1.cell? ⟨w.heap.size + 1, 0, none⟩ = some (.int .i64 op) := HX1.out.cell (by rw [HXS.out, ← HO.out]; rfl)
  have x3 : W1.cell? ⟨w.heap.size + 1, 3, none⟩ = some (.int .i64 x.b) := HX1.out.cell (by rw [HXS.out]; rfl)
  have x4 : W1.cell? ⟨w.heap.size + 1, 4, none⟩ = some (.int .i64 x.c) := HX1.out.cell (by rw [HXS.out]; rfl)
  by_cases z : er = 0
  rotate_left
  · have HE : Hid (R = (0, er)) := Lib.hid (by rw [HV.out, if_pos z])
    have d : (er != 0) = true := by rw [bne_iff_ne]; exact z
    clear z
    go_wp2_with fail
    go_ret2
    exact ⟨ret2 (by rw [HE.out]) (by rw [HE.out]), HX1.out.zs.bx.bel⟩
  have d : (er != 0) = false := by rw [bne_eq_false_iff_eq]; exact z
  subst z
  rcases hop2 with rfl | rfl | rfl
  · by_cases z0 : v = 0
    · have HE : Hid (R = (0, 0)) := Lib.hid (by rw [HV.out]; simp [z0])
      have d0 : (v == 0) = true := by rw [beq_iff_eq]; exact z0
      have d1 : (v != 0) = false := by rw [bne_eq_false_iff_eq]; exact z0
      clear z0
      go_wp2_with fail
      go_ret2
      exact ⟨ret2 (by rw [HE.out]) (by rw [HE.out]), HX1.out.zs.bx.bel⟩
    have HE : Hid (R = if er1 ≠ 0 then (0, er1) else (truthI (v1 != 0), 0)) := Lib.hid (by rw [HV.out]; simp [z0])
    have d0 : (v == 0) = false := by rw [beq_eq_false_iff_ne]; exact z0
    have d1 : (v != 0) = true := by rw [bne_iff_ne]; exact z0
    clear z0
    go_wp2_with (refine wpList_load_row rfl _ _ rfl _ rfl _ ES _ _ HX1.out.zs.bx.box Tryz.underlying36 rfl HX1.out.zs.info ?_)
    refine (HEB.out W1 HX1.out.zs.here).mono ?_
    rintro e W2 ⟨rfl, hb2⟩
    have HX2 := Lib.hid (HX1.out.below hb2)
    clear hb2 HX1 HEB x0 x3 x4
    by_cases z1 : er1 = 0
    · have HE2 : Hid (R = (truthI (v1 != 0), 0)) := Lib.hid (by rw [HE.out, if_neg (by simpa using z1)])
      have d2 : (er1 != 0) = false := by rw [bne_eq_false_iff_eq]; exact z1
      clear z1
      go_wp2_with fail
      refine (one14H (v1 != 0) W2).mono ?_
      rintro e W3 ⟨rfl, rfl⟩
      go_wp2_with fail
      go_ret2
      exact ⟨ret2 (by rw [HE2.out]) (by rw [HE2.out]), HX2.out.zs.bx.bel⟩
    · have HE2 : Hid (R = (0, er1)) := Lib.hid (by rw [HE.out, if_pos z1])
      have d2 : (er1 != 0) = true := by rw [bne_iff_ne]; exact z1
      clear z1
      go_wp2_with fail
      go_ret2
      exact ⟨ret2 (by rw [HE2.out]) (by rw [HE2.out]), HX2.out.zs.bx.bel⟩
  · by_cases z0 : v = 0
    rotate_left
    · have HE : Hid (R = (1, 0)) := Lib.hid (by rw [HV.out]; simp [z0])
      have d0 : (v == 0) = false := by rw [beq_eq_false_iff_ne]; exact z0
      have d1 : (v != 0) = true := by rw [bne_iff_ne]; exact z0
      clear z0
      go_wp2_with fail
      go_ret2
      exact ⟨ret2 (by rw [HE.out]) (by rw [HE.out]), HX1.out.zs.bx.bel⟩
    have HE : Hid (R = if er1 ≠ 0 then (0, er1) else (truthI (v1 != 0), 0)) := Lib.hid (by rw [HV.out]; simp [z0])
    have d0 : (v == 0) = true := by rw [beq_iff_eq]; exact z0
    have d1 : (v != 0) = false := by rw [bne_eq_false_iff_eq]; exact z0
    clear z0
    go_wp2_with (refine wpList_load_row rfl _ _ rfl _ rfl _ ES _ _ HX1.out.zs.bx.box Tryz.underlying36 rfl HX1.out.zs.info ?_)
    refine (HEB.out W1 HX1.out.zs.here).mono ?_
    rintro e W2 ⟨rfl, hb2⟩
    have HX2 := Lib.hid (HX1.out.below hb2)
    clear hb2 HX1 HEB x0 x3 x4
    by_cases z1 : er1 = 0
    · have HE2 : Hid (R = (truthI (v1 != 0), 0)) := Lib.hid (by rw [HE.out, if_neg (by simpa using z1)])
      have d2 : (er1 != 0) = false := by rw [bne_eq_false_iff_eq]; exact z1
      clear z1
      go_wp2_with fail
      refine (one14H (v1 != 0) W2).mono ?_
      rintro e W3 ⟨rfl, rfl⟩
      go_wp2_with fail
      go_ret2
      exact ⟨ret2 (by rw [HE2.out]) (by rw [HE2.out]), HX2.out.zs.bx.bel⟩
    · have HE2 : Hid (R = (0, er1)) := Lib.hid (by rw [HE.out, if_pos z1])
      have d2 : (er1 != 0) = true := by rw [bne_iff_ne]; exact z1
      clear z1
      go_wp2_with fail
      go_ret2
      exact ⟨ret2 (by rw [HE2.out]) (by rw [HE2.out]), HX2.out.zs.bx.bel⟩
  · by_cases z0 : v = 0
    · have HE : Hid (R = (v2, er2)) := Lib.hid (by rw [HV.out]; simp [z0])
      have d0 : (v == 0) = true := by rw [beq_iff_eq]; exact z0
      have d1 : (v != 0) = false := by rw [bne_eq_false_iff_eq]; exact z0
      clear z0
      go_wp2_with (refine wpList_load_row rfl _ _ rfl _ rfl _ ES _ _ HX1.out.zs.bx.box Tryz.underlying36 rfl HX1.out.zs.info ?_)
      refine (HEC.out (by first | rfl | trivial) W1 HX1.out.zs.here).mono ?_
      rintro e W2 ⟨rfl, hb2⟩
      have HX2 := Lib.hid (HX1.out.below hb2)
      clear hb2 HX1 x0 x3 x4
      go_wp2_with fail
      go_ret2
      exact ⟨ret2 (by rw [HE.out]) (by rw [HE.out]), HX2.out.zs.bx.bel⟩
    · have HE : Hid (R = (v1, er1)) := Lib.hid (by rw [HV.out]; simp [z0])
      have d0 : (v == 0) = false := by rw [beq_eq_false_iff_ne]; exact z0
      have d1 : (v != 0) = true := by rw [bne_iff_ne]; exact z0
      clear z0
      go_wp2_with (refine wpList_load_row rfl _ _ rfl _ rfl _ ES _ _ HX1.out.zs.bx.box Tryz.underlying36 rfl HX1.out.zs.info ?_)
      refine (HEB.out W1 HX1.out.zs.here).mono ?_
      rintro e W2 ⟨rfl, hb2⟩
      have HX2 := Lib.hid (HX1.out.below hb2)
      clear hb2 HX1 x0 x3 x4
      go_wp2_with fail
      go_ret2
      exact ⟨ret2 (by rw [HE.out]) (by rw [HE.out]), HX2.out.zs.bx.bel⟩
end Go.Proofs.YtbhgdlfndamklaaGreatDoor
/- How much stands in a channel, as the document has it. -/
namespace Go.Proofs.YtbhgdlfndamklaaGreatDoor
open Go.ChangeShapes Go.WideShapes Go.ChangeAt Go.RowKit
set_option linter.unusedVariables false
set_option linter.unusedSimpArgs false

set_option maxRecDepth 100000 in
set_option maxHeartbeats 1500000 in
theorem asksR14H {h : MH} {hs : SH} {ao vo ao2 mo : Option Addr} {ac vc ac2 mc : Nat} {E : EnvD} {ev : Int → Int × Int} {N : Nat} (x : ExprD) (w : World) (hok : Ok E) (hd : ED w.heap.size w h hs ao E) (he : EvH h hs ao ac E ev N) (hop : 25 ≤ x.op ∧ x.op ≤ 29) (ha : 0 ≤ x.a ∧ x.a < N) :
    Calls Tryz.prog 25 #[.agg (eCells h hs ao ac E), .agg (xCells x vo ao2 mo vc ac2 mc)] w fun e w' => e = .returned (.tuple #[.int .i64 (rroomB E ev x).1, .int .i64 (rroomB E ev x).2]) ∧ Below w.heap.size w w' := by
  have HEA := Lib.hid (fun W hd => chan14H x.a W hd he ha.1 ha.2)
  obtain ⟨ES, hES⟩ : ∃ c, c = eCells h hs ao ac E := ⟨_, rfl⟩
  obtain ⟨XS, hXS⟩ : ∃ c, c = xCells x vo ao2 mo vc ac2 mc := ⟨_, rfl⟩
  have HX := Lib.hid (Zx.new (XS := XS) hd hES)
  have HXS := Lib.hid hXS
  have HO := Lib.hid hok
  rw [← hES] at HEA ⊢
  rw [← hXS]
  clear hd he hES hXS ha hok
  obtain ⟨⟨v, er⟩, hev⟩ : ∃ q, rchanB E ev x.a = q := ⟨_, rfl⟩
  rw [hev] at HEA
  simp only at HEA
  have HV0 : Hid (rroomB E ev x = if er ≠ 0 then (0, er) else (roomOp x.op (chanNo E v).queue.length (shapeNo E (chanNo E v)).room, 0)) := Lib.hid (by unfold rroomB; rw [hev])
  have HK : Hid (er = 0 → ∃ k : Nat, v = (k : Int) + 1 ∧ k < E.s.chans.length) := Lib.hid fun h0 => by
    obtain ⟨k, hk1, hkl⟩ := rchan_ok (E := E) (ev := ev) (a := x.a) (by rw [hev]; exact h0)
    rw [hev] at hk1
    exact ⟨k, hk1, hkl⟩
  clear hev
  obtain ⟨R, hR⟩ : ∃ R, rroomB E ev x = R := ⟨_, rfl⟩
  rw [hR] at HV0 ⊢
  clear hR
  go_enter Tryz.func25, Tryz.ntmps25
  go_upto_region 1 with fail
  generalize (w.alloc (.cells ES 36)).alloc (.cells XS 73) = W0 at HX ⊢
  have x2 : W0.cell? ⟨w.heap.size + 1, 2, none⟩ = some (.int .i64 x.a) := HX.out.cell (by rw [HXS.out]; rfl)
  go_wp2_with (refine wpList_load_row rfl _ _ rfl _ rfl _ ES _ _ HX.out.zs.bx.box Tryz.underlying36 rfl HX.out.zs.info ?_)
  refine (HEA.out W0 HX.out.zs.here).mono ?_
  rintro e W1 ⟨rfl, hb1⟩
  have HX1 := Lib.hid (HX.out.below hb1)
  clear hb1 HX HEA x2
  by_cases z : er = 0
  rotate_left
  · have HE : Hid (R = (0, er)) := Lib.hid (by rw [HV0.out, if_pos z])
    have d : (er != 0) = true := by rw [bne_iff_ne]; exact z
    clear z
    go_wp2_with fail
    go_ret2
    exact ⟨ret2 (by rw [HE.out]) (by rw [HE.out]), HX1.out.zs.bx.bel⟩
  have d : (er != 0) = false := by rw [bne_eq_false_iff_eq]; exact z
  subst z
  obtain ⟨k, hk1, hkl⟩ := HK.out rfl
  subst hk1
  obtain ⟨c, hc⟩ : ∃ s, E.s.chans[k]? = some s := ⟨_, List.getElem?_eq_getElem hkl⟩
  obtain ⟨s, hs2, hs0, hs1⟩ := may_chan HO.out hc
  obtain ⟨ks, hks⟩ : ∃ q : Nat, c.shape = q := ⟨c.shape.toNat, by omega⟩
  have HV : Hid (R = (roomOp x.op c.queue.length s.room, 0)) := Lib.hid (by rw [HV0.out, if_neg (by simp), chanNo_get hc, shapeNo_get hs2])
  rw [hks, Int.toNat_natCast] at hs2
  have hksl : (ks : Int) < E.m.shapes.length := by omega
  have hks0 : (0 : Int) ≤ ks := by omega
  have hkz : (0 : Int) ≤ (k : Int) + 1 - 1 := by omega
  have hki : (k : Int) + 1 - 1 < E.s.chans.length := by omega
  have hke : (k : Int) + 1 - 1 = k := by omega
  obtain ⟨g1, off1, ho1, hg1, hca⟩ := HX1.out.zs.ed.sd.chans.get hc
  have hcl := HX1.out.zs.ed.sd.chans.1
  have e8 : W1.cell? ⟨w.heap.size, 8, none⟩ = some (.slice hs.co E.s.chans.length hs.cc) := HX1.out.zs.cell rfl
  rw [ho1] at e8
  have q0 := hca.c0
  rw [hks] at q0
  obtain ⟨qo, qc, q1, hq⟩ := hca.queue
  have hql := hq.1
  have HX2 := Lib.hid (HX1.out.below (ball (.cells #[.int .i64 ks, .slice qo c.queue.length qc] 91)))
  have HB2 : Hid ((W1.alloc (.cells #[.int .i64 ks, .slice qo c.queue.length qc] 91)).heap[W1.heap.size]? = some (.cells #[.int .i64 ks, .slice qo c.queue.length qc] 91 (0, 0))) := Lib.hid (heap_alloc_new W1 _)
  have HS2 := Lib.hid hs2
  clear hq hca ho1 hs2 hs0 hs1 hks hc HK HV0 hg1
  go_upto_region 5 with fail
  generalize W1.alloc (.cells #[.int .i64 ks, .slice qo c.queue.length qc] 91) = W2 at HX2 HB2 ⊢
  obtain ⟨T, hT⟩ : ∃ T, W1.heap.size = T := ⟨_, rfl⟩
  rw [hT] at HB2 ⊢
  clear e8 q0 q1 HX1 hkz hki hke hT
  obtain ⟨g2, off2, ho2, hg2, hsa⟩ := HX2.out.zs.ed.md.shapes.get HS2.out
  have hsl := HX2.out.zs.ed.md.shapes.1
  have e2 : W2.cell? ⟨w.heap.size, 2, none⟩ = some (.slice h.so E.m.shapes.length h.sc) := HX2.out.zs.cell rfl
  rw [ho2] at e2
  have y0 : W2.cell? ⟨T, 0, none⟩ = some (.int .i64 ks) := (cell_of_row _ _ _ _ _ _ HB2.out).trans rfl
  have r0 := hsa.c0
  obtain ⟨fo, fc, r1, hf⟩ := hsa.fields
  have hfl := hf.1
  have HX3 := Lib.hid (HX2.out.below (ball (.cells #[.int .i64 s.room, .slice fo s.fields.length fc] 117)))
  have HB3 : Hid ((W2.alloc (.cells #[.int .i64 s.room, .slice fo s.fields.length fc] 117)).heap[T]? = some (.cells #[.int .i64 ks, .slice qo c.queue.length qc] 91 (0, 0))) := Lib.hid (((ball (w := W2) (.cells #[.int .i64 s.room, .slice fo s.fields.length fc] 117)).block _ (lt_of_block HB2.out)).trans HB2.out)
  have HS3 : Hid ((W2.alloc (.cells #[.int .i64 s.room, .slice fo s.fields.length fc] 117)).heap[W2.heap.size]? = some (.cells #[.int .i64 s.room, .slice fo s.fields.length fc] 117 (0, 0))) := Lib.hid (heap_alloc_new W2 _)
  clear hf hsa ho2 hg2 HB2 HS2
  go_upto_region 6 with fail
  generalize W2.alloc (.cells #[.int .i64 s.room, .slice fo s.fields.length fc] 117) = W3 at HX3 HB3 HS3 ⊢
  obtain ⟨T2, hT2⟩ : ∃ T, W2.heap.size = T := ⟨_, rfl⟩
  rw [hT2] at HS3 ⊢
  clear e2 y0 r0 r1 HX2 hT2
  have y1 : W3.cell? ⟨T, 1, none⟩ = some (.slice qo c.queue.length qc) := (cell_of_row _ _ _ _ _ _ HB3.out).trans rfl
  have r0 : W3.cell? ⟨T2, 0, none⟩ = some (.int .i64 s.room) := (cell_of_row _ _ _ _ _ _ HS3.out).trans rfl
  have x0 : W3.cell? ⟨w.heap.size + 1, 0, none⟩ = some (.int .i64 x.op) := HX3.out.cell (by rw [HXS.out]; rfl)
  have hcs : x.op = 25 ∨ x.op = 26 ∨ x.op = 27 ∨ x.op = 28 ∨ x.op = 29 := by omega
  clear hop
  rcases hcs with e | e | e | e | e
  · rw [e] at x0 HV
    go_wp2_with fail
    go_ret2
    exact ⟨ret2 (by rw [HV.out]; rfl) (by rw [HV.out]), HX3.out.zs.bx.bel⟩
  · rw [e] at x0 HV
    obtain ⟨b, hb⟩ : ∃ b, decide (s.room ≤ (c.queue.length : Int)) = b := ⟨_, rfl⟩
    have HZ : Hid (R = (truthI b, 0)) := Lib.hid (by rw [HV.out, ← hb]; rfl)

    cases b
    · go_wp2_with fail
      refine (one14H false W3).mono ?_
      rintro e W4 ⟨rfl, rfl⟩
      go_wp2_with fail
      go_ret2
      exact ⟨ret2 (by rw [HZ.out]) (by rw [HZ.out]), HX3.out.zs.bx.bel⟩
    · go_wp2_with fail
      refine (one14H true W3).mono ?_
      rintro e W4 ⟨rfl, rfl⟩
      go_wp2_with fail
      go_ret2
      exact ⟨ret2 (by rw [HZ.out]) (by rw [HZ.out]), HX3.out.zs.bx.bel⟩
  · rw [e] at x0 HV
    obtain ⟨b, hb⟩ : ∃ b, decide (c.queue.length = 0) = b := ⟨_, rfl⟩
    have HZ : Hid (R = (truthI b, 0)) := Lib.hid (by rw [HV.out, ← hb]; unfold roomOp; simp)
    have hb2 : ((c.queue.length : Int) == 0) = b := by rw [← hb, Bool.eq_iff_iff, beq_iff_eq, decide_eq_true_eq]; omega
    have hb3 : (c.queue.length == 0) = b := by rw [← hb, Bool.eq_iff_iff, beq_iff_eq, decide_eq_true_eq]
    cases b
    · go_wp2_with fail
      refine (one14H false W3).mono ?_
      rintro e W4 ⟨rfl, rfl⟩
      go_wp2_with fail
      go_ret2
      exact ⟨ret2 (by rw [HZ.out]) (by rw [HZ.out]), HX3.out.zs.bx.bel⟩
    · go_wp2_with fail
      refine (one14H true W3).mono ?_
      rintro e W4 ⟨rfl, rfl⟩
      go_wp2_with fail
      go_ret2
      exact ⟨ret2 (by rw [HZ.out]) (by rw [HZ.out]), HX3.out.zs.bx.bel⟩
  · rw [e] at x0 HV
    obtain ⟨b, hb⟩ : ∃ b, decide ((c.queue.length : Int) < s.room) = b := ⟨_, rfl⟩
    have HZ : Hid (R = (truthI b, 0)) := Lib.hid (by rw [HV.out, ← hb]; rw [show decide ((c.queue.length : Int) < s.room) = !decide (s.room ≤ (c.queue.length : Int)) from by rw [Bool.eq_iff_iff]; simp]; rfl)

    cases b
    · go_wp2_with fail
      refine (one14H false W3).mono ?_
      rintro e W4 ⟨rfl, rfl⟩
      go_wp2_with fail
      go_ret2
      exact ⟨ret2 (by rw [HZ.out]) (by rw [HZ.out]), HX3.out.zs.bx.bel⟩
    · go_wp2_with fail
      refine (one14H true W3).mono ?_
      rintro e W4 ⟨rfl, rfl⟩
      go_wp2_with fail
      go_ret2
      exact ⟨ret2 (by rw [HZ.out]) (by rw [HZ.out]), HX3.out.zs.bx.bel⟩
  · rw [e] at x0 HV
    obtain ⟨b, hb⟩ : ∃ b, decide (0 < (c.queue.length : Int)) = b := ⟨_, rfl⟩
    have HZ : Hid (R = (truthI b, 0)) := Lib.hid (by rw [HV.out, ← hb]; rw [show decide (0 < (c.queue.length : Int)) = !decide ((c.queue.length : Int) = 0) from by rw [Bool.eq_iff_iff, decide_eq_true_eq, Bool.not_eq_true', decide_eq_false_iff_not]; omega]; rfl)
    have hb2 : decide (0 < c.queue.length) = b := by rw [← hb, Bool.eq_iff_iff, decide_eq_true_eq, decide_eq_true_eq]; omega
    cases b
    · go_wp2_with fail
      refine (one14H false W3).mono ?_
      rintro e W4 ⟨rfl, rfl⟩
      go_wp2_with fail
      go_ret2
      exact ⟨ret2 (by rw [HZ.out]) (by rw [HZ.out]), HX3.out.zs.bx.bel⟩
    · go_wp2_with fail
      refine (one14H true W3).mono ?_
      rintro e W4 ⟨rfl, rfl⟩
      go_wp2_with fail
      go_ret2
      exact ⟨ret2 (by rw [HZ.out]) (by rw [HZ.out]), HX3.out.zs.bx.bel⟩
end Go.Proofs.YtbhgdlfndamklaaGreatDoor
/- A region that draws its order and whose callees may lay new blocks, but turn nothing that was there: one walk, in the order of the text. The class of worlds is 'nothing below has turned'; it is handed over as a family, so that the library's own steps see through it. -/
namespace Go.Proofs.YtbhgdlfndamklaaGreatDoor
open Go.ChangeShapes Go.WideShapes Go.ChangeAt Go.RowKit

theorem wp_region_kept {P : Program} {id : Nat} {Q : Exit → Act → World → Prop} {a : Act} {w : World} {l : List Oper} (hm : P.follows .mixedOrders = true) (hB : Region.lexB .any l.toArray = true)
    (h : ∀ (ι : Type) (_ : Nonempty ι) (f : ι → World), (∀ n, Below w.heap.size w (f n)) → (∀ n w', Below (f n).heap.size (f n) w' → ∃ m, w' = f m) →
      wpQuiet P l.toArray (fun w' => ∃ n, w' = f n) (fun a' => ∀ w', Below w.heap.size w w' → Q .normal a' w') l a) : (Code.region id l.toArray true).wp P Q a w := by
  refine wp_region_quiet (C := fun w' => ∃ n : { x // Below w.heap.size w x }, w' = n.1) hm hB ⟨⟨_, (Below.refl _ _).drew⟩, rfl⟩ ?_
  have h1 := h { x // Below w.heap.size w x } ⟨⟨w, Below.refl _ _⟩⟩ (fun n => n.1) (fun n => n.2) (fun n w' hw => ⟨⟨w', n.2.trans (hw.mono n.2.size)⟩, rfl⟩)
  have e : (fun a' => ∀ w', Below w.heap.size w w' → Q .normal a' w') = (fun a' => ∀ w', (∃ n : { x // Below w.heap.size w x }, w' = n.1) → Q .normal a' w') := by
    funext a'
    apply propext
    constructor
    · rintro g w' ⟨n, rfl⟩
      exact g _ n.2
    · intro g w' hw
      exact g w' ⟨⟨w', hw⟩, rfl⟩
  rw [e] at h1
  simpa using h1

/-- A callee that lays new blocks alone, met in such a region. -/
theorem kept_of {P : Program} {F : FuncId} {args : Array Value} {v : Value} {ι : Type} {f : ι → World} (hcl : ∀ n w', Below (f n).heap.size (f n) w' → ∃ m, w' = f m) (n : ι)
    (h : Calls P F args (f n) fun e w' => e = .returned v ∧ Below (f n).heap.size (f n) w') : Calls P F args (f n) fun e w' => e = .returned v ∧ ∃ m, w' = f m :=
  h.mono fun _ _ ⟨he, hb⟩ => ⟨he, hcl n _ hb⟩
end Go.Proofs.YtbhgdlfndamklaaGreatDoor
