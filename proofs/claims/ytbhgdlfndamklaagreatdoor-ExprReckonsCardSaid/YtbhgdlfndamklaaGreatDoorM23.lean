/- What all calls of layer 14 are handed. -/
import Derived.Test.YtbhgdlfndamklaaGreatDoorM22
import Derived.Test.YtbhgdlfndamklaaGreatDoorM01
import Derived.Lib.ItoaNum
import Derived.Lib.AppendIntMem
import Derived.Shelf.Strconv.Itoa0
import Derived.Shelf.Strconv.Itoa1
import Derived.Shelf.LaysM
import Derived.Shelf.Strconv.Itoa2
import Derived.Shelf.Strconv.AppendUint10
import Derived.Shelf.Strconv.AppendInt10
import Derived.Shelf.Strconv.AppendIntPublic10
import Derived.Test.YtbhgdlfndamklaaGreatDoorProg
namespace Go.Proofs.YtbhgdlfndamklaaGreatDoor
open Go.ChangeShapes Go.WideShapes Go.ChangeAt Go.RowKit
set_option linter.unusedVariables false
set_option linter.unusedSimpArgs false

/-- An Env's cells. -/
def eCells (h : MH) (hs : SH) (ao : Option Addr) (ac : Nat) (E : EnvD) : Array Value := #[.slice h.go E.m.globals.length h.gc, .slice h.io E.m.init.length h.ic, .slice h.so E.m.shapes.length h.sc, .slice h.co E.m.chans.length h.cc, .slice h.po E.m.procs.length h.pc, .int .i64 E.m.claim, .slice h.eo E.m.exprs.length h.ec, .slice hs.go E.s.globals.length hs.gc, .slice hs.co E.s.chans.length hs.cc, .slice hs.po E.s.procs.length hs.pc, .int .i64 E.s.last, .int .i64 E.s.alone, .int .i64 E.s.claim, .int .i64 E.pid, .bool E.timeout, .slice ao E.able.length ac]
/-- May an Env be, and is a number a place of an expression? -/
def envE (E : EnvD) (x : Int) : Int := if stateE E.m E.s ≠ 0 then stateE E.m E.s else if E.pid < -1 ∨ (E.s.procs.length : Int) ≤ E.pid ∨ x < 0 ∨ (E.m.exprs.length : Int) ≤ x then 42 else 0
/-- What an Env lies in. -/
structure ED (B : Nat) (w : World) (h : MH) (hs : SH) (ao : Option Addr) (E : EnvD) : Prop where
  md : MD B w h E.m
  sd : SD B w hs E.s
  able : Row B ao 1 (boolAt w) E.able
theorem envE_ok {E : EnvD} {x : Int} (h : envE E x = 0) : Ok E ∧ 0 ≤ x ∧ x < E.m.exprs.length := by
  unfold envE at h
  split at h
  · rename_i h1
    exact absurd h h1
  · rename_i h1
    split at h
    · simp at h
    · rename_i h2
      have h3 : stateE E.m E.s = 0 := by simpa using h1
      unfold stateE at h3
      split at h3
      · rename_i h4
        split at h3
        · rename_i h5
          exact ⟨⟨h4, h5, by omega⟩, by omega, by omega⟩
        · simp at h3
      · simp at h3
theorem ED.below {B : Nat} {w w' : World} {h : MH} {hs : SH} {ao : Option Addr} {E : EnvD} (k : ED B w h hs ao E) (hb : Below B w w') : ED B w' h hs ao E :=
  ⟨k.md.below hb, k.sd.below hb, k.able.mono fun _ _ _ hg => boolAt.below hb hg⟩
theorem Ek.of {B pe : Nat} {W : World} {h : MH} {hs : SH} {ao : Option Addr} {ac : Nat} {E : EnvD} {T : TypeId} (hblk : W.heap[pe]? = some (.cells (eCells h hs ao ac E) T (0, 0))) (hB : B ≤ pe) (hd : ED B W h hs ao E) : Ek B W pe h hs ao ac E := by
  have hlt := lt_of_block hblk
  refine ⟨⟨?_, ?_, ?_, ?_, ?_, ?_, ?_, Nat.le_of_lt (Nat.lt_of_le_of_lt hB hlt), hlt, hd.md⟩, ⟨?_, ?_, ?_, ?_, ?_, ?_, Nat.le_of_lt (Nat.lt_of_le_of_lt hB hlt), hlt, hd.sd⟩, ?_, ?_, ?_, hd.able⟩
  all_goals exact (cell_of_row _ _ _ _ _ _ hblk).trans rfl
/-- Whatever lies where: rows below B, the Env's block anywhere. -/
theorem Ek.ofW {B pe : Nat} {W : World} {h : MH} {hs : SH} {ao : Option Addr} {ac : Nat} {E : EnvD} {T : TypeId} (hblk : W.heap[pe]? = some (.cells (eCells h hs ao ac E) T (0, 0))) (hB : B ≤ W.heap.size) (hd : ED B W h hs ao E) : Ek B W pe h hs ao ac E := by
  have hlt := lt_of_block hblk
  refine ⟨⟨?_, ?_, ?_, ?_, ?_, ?_, ?_, hB, hlt, hd.md⟩, ⟨?_, ?_, ?_, ?_, ?_, ?_, hB, hlt, hd.sd⟩, ?_, ?_, ?_, hd.able⟩
  all_goals exact (cell_of_row _ _ _ _ _ _ hblk).trans rfl

set_option maxHeartbeats 2000000 in
set_option maxRecDepth 100000 in
theorem echeckC {B : Nat} {h : MH} {hs : SH} {ao : Option Addr} {ac : Nat} {E : EnvD} (x : Int) (w : World) (hB : B ≤ w.heap.size) (hd : ED B w h hs ao E) :
    Calls Tryz.prog 20 #[.agg (eCells h hs ao ac E), .int .i64 x] w fun e w' => e = .returned (.int .i64 (envE E x)) ∧ Below w.heap.size w w' := by
  have HX := Lib.hid (Bx.new w (eCells h hs ao ac E) 36)
  have HD := Lib.hid (hd.below (HX.out.bel.mono hB))
  have HBB := Lib.hid hB
  have hml := hd.md.exprs.1
  have hsl := hd.sd.procs.1
  clear hd
  unfold eCells at HX ⊢
  go_enter Tryz.func20, Tryz.ntmps20
  go_wp2_with fail
  have HSC := Lib.hid (stateCheckC (w.alloc (Obj.cells #[.slice h.go E.m.globals.length h.gc, .slice h.io E.m.init.length h.ic, .slice h.so E.m.shapes.length h.sc, .slice h.co E.m.chans.length h.cc, .slice h.po E.m.procs.length h.pc, .int .i64 E.m.claim, .slice h.eo E.m.exprs.length h.ec, .slice hs.go E.s.globals.length hs.gc, .slice hs.co E.s.chans.length hs.cc, .slice hs.po E.s.procs.length hs.pc, .int .i64 E.s.last, .int .i64 E.s.alone, .int .i64 E.s.claim, .int .i64 E.pid, .bool E.timeout, .slice ao E.able.length ac] 36)) (Nat.le_trans HBB.out HX.out.bel.size) HD.out.md HD.out.sd)
  unfold mV mCells sV sCells at HSC
  refine HSC.out.mono ?_
  rintro e W1 ⟨rfl, hb1⟩
  have HX1 := Lib.hid (HX.out.below hb1)
  clear hb1 HSC HX
  obtain ⟨er, her⟩ : ∃ q, stateE E.m E.s = q := ⟨_, rfl⟩
  rw [her]
  have HV : Hid (envE E x = if er ≠ 0 then er else if E.pid < -1 ∨ (E.s.procs.length : Int) ≤ E.pid ∨ x < 0 ∨ (E.m.exprs.length : Int) ≤ x then 42 else 0) := Lib.hid (by unfold envE; rw [her])
  clear her
  have c6 : W1.cell? ⟨w.heap.size, 6, none⟩ = some (.slice h.eo E.m.exprs.length h.ec) := HX1.out.cell rfl
  have c9 : W1.cell? ⟨w.heap.size, 9, none⟩ = some (.slice hs.po E.s.procs.length hs.pc) := HX1.out.cell rfl
  have c13 : W1.cell? ⟨w.heap.size, 13, none⟩ = some (.int .i64 E.pid) := HX1.out.cell rfl
  by_cases h0 : er = 0
  · have hd0 : (er != 0) = false := by rw [bne_eq_false_iff_eq]; exact h0
    subst h0
    by_cases h1 : E.pid < -1
    · have hd1 : decide (E.pid < -1) = true := decide_eq_true h1
      have HR : Hid (envE E x = 42) := Lib.hid (by rw [HV.out, if_neg (by simp), if_pos (.inl h1)])
      go_wp2_with fail
      go_ret
      exact ⟨retI HR.out.symm, HX1.out.bel⟩
    · have hd1 : decide (E.pid < -1) = false := decide_eq_false h1
      by_cases h2 : (E.s.procs.length : Int) ≤ E.pid
      · have hd2 : decide ((E.s.procs.length : Int) ≤ E.pid) = true := decide_eq_true h2
        have HR : Hid (envE E x = 42) := Lib.hid (by rw [HV.out, if_neg (by simp), if_pos (.inr (.inl h2))])
        go_wp2_with fail
        go_ret
        exact ⟨retI HR.out.symm, HX1.out.bel⟩
      · have hd2 : decide ((E.s.procs.length : Int) ≤ E.pid) = false := decide_eq_false h2
        by_cases h3 : x < 0
        · have hd3 : decide (x < 0) = true := decide_eq_true h3
          have HR : Hid (envE E x = 42) := Lib.hid (by rw [HV.out, if_neg (by simp), if_pos (.inr (.inr (.inl h3)))])
          go_wp2_with fail
          go_ret
          exact ⟨retI HR.out.symm, HX1.out.bel⟩
        · have hd3 : decide (x < 0) = false := decide_eq_false h3
          by_cases h4 : (E.m.exprs.length : Int) ≤ x
          · have hd4 : decide ((E.m.exprs.length : Int) ≤ x) = true := decide_eq_true h4
            have HR : Hid (envE E x = 42) := Lib.hid (by rw [HV.out, if_neg (by simp), if_pos (.inr (.inr (.inr h4)))])
            go_wp2_with fail
            go_ret
            exact ⟨retI HR.out.symm, HX1.out.bel⟩
          · have hd4 : decide ((E.m.exprs.length : Int) ≤ x) = false := decide_eq_false h4
            have HR : Hid (envE E x = 0) := Lib.hid (by rw [HV.out, if_neg (by simp), if_neg (by omega)])
            go_wp2_with fail
            go_ret
            exact ⟨retI HR.out.symm, HX1.out.bel⟩
  · have hd0 : (er != 0) = true := by rw [bne_iff_ne]; exact h0
    have HR : Hid (envE E x = er) := Lib.hid (by rw [HV.out, if_pos h0])
    go_wp2_with fail
    go_ret
    exact ⟨retI HR.out.symm, HX1.out.bel⟩
end Go.Proofs.YtbhgdlfndamklaaGreatDoor
/- Layer 14's Eval, Slot and Chan, for every Env. -/
namespace Go.Proofs.YtbhgdlfndamklaaGreatDoor
open Go.ChangeShapes Go.WideShapes Go.ChangeAt Go.RowKit
set_option linter.unusedVariables false
set_option linter.unusedSimpArgs false

def evE (E : EnvD) : Int → Int × Int := evalF E E.m.exprs.length
def exprNo (E : EnvD) (x : Int) : ExprD := E.m.exprs[x.toNat]?.getD ⟨0, 0, 0, 0, 0, ⟨0, 0, 0, 0, []⟩, [], []⟩
def envEval (E : EnvD) (x : Int) : Int × Int := if envE E x ≠ 0 then (0, envE E x) else evE E x
def envChan (E : EnvD) (x : Int) : Int × Int := if envE E x ≠ 0 then (0, envE E x) else rchanB E (evE E) x
def envSlot (E : EnvD) (x : Int) : Int × Int × Int := if envE E x ≠ 0 then (0, 0, envE E x) else rslotB E (evE E) (exprNo E x)

set_option maxHeartbeats 2000000 in
set_option maxRecDepth 100000 in
theorem eEvalC {B : Nat} {h : MH} {hs : SH} {ao : Option Addr} {ac : Nat} {E : EnvD} (x : Int) (w : World) (hB : B ≤ w.heap.size) (hd : ED B w h hs ao E) :
    Calls Tryz.prog 7 #[.agg (eCells h hs ao ac E), .int .i64 x] w fun e w' => e = .returned (.tuple #[.int .i64 (envEval E x).1, .int .i64 (envEval E x).2]) ∧ Below w.heap.size w w' := by
  have HX := Lib.hid (Bx.new w (eCells h hs ao ac E) 36)
  have HD := Lib.hid (hd.below (HX.out.bel.mono hB))
  have HBB := Lib.hid hB
  have HCK := Lib.hid (echeckC (ac := ac) x _ (Nat.le_trans hB HX.out.bel.size) HD.out)
  clear hd
  unfold eCells at HX HCK ⊢
  go_enter Tryz.func7, Tryz.ntmps7
  go_wp2_with fail
  refine HCK.out.mono ?_
  rintro e W1 ⟨rfl, hb1⟩
  have HX1 := Lib.hid (HX.out.below hb1)
  have HD1 := Lib.hid (HD.out.below (hb1.mono (Nat.le_trans HBB.out HX.out.bel.size)))
  clear hb1 HCK HX
  obtain ⟨er, her⟩ : ∃ q, envE E x = q := ⟨_, rfl⟩
  rw [her]
  by_cases h0 : er = 0
  · have hd0 : (er != 0) = false := by rw [bne_eq_false_iff_eq]; exact h0
    subst h0
    obtain ⟨hok, hx0, hxl⟩ := envE_ok her
    have HV : Hid (envEval E x = evE E x) := Lib.hid (by unfold envEval; rw [her, if_neg (by simp)])
    have HE := Lib.hid (evalC (B := B) (pe := w.heap.size) (h := h) (hs := hs) (ao := ao) (ac := ac) hok x W1 hx0 hxl (Ek.of (T := 36) HX1.out.box HBB.out HD1.out))
    clear hok
    go_wp2_with fail
    refine HE.out.mono ?_
    rintro e W2 ⟨rfl, hb2⟩
    have HB2 := Lib.hid (HX1.out.bel.trans (hb2.mono HX1.out.bel.size))
    clear hb2 HE
    go_wp2_with fail
    go_ret2
    exact ⟨ret2 (by rw [HV.out]; rfl) (by rw [HV.out]; rfl), HB2.out⟩
  · have hd0 : (er != 0) = true := by rw [bne_iff_ne]; exact h0
    have HV : Hid (envEval E x = (0, er)) := Lib.hid (by unfold envEval; rw [her, if_pos h0])
    go_wp2_with fail
    go_ret2
    exact ⟨ret2 (by rw [HV.out]) (by rw [HV.out]), HX1.out.bel⟩

set_option maxHeartbeats 2000000 in
set_option maxRecDepth 100000 in
theorem eChanC {B : Nat} {h : MH} {hs : SH} {ao : Option Addr} {ac : Nat} {E : EnvD} (x : Int) (w : World) (hB : B ≤ w.heap.size) (hd : ED B w h hs ao E) :
    Calls Tryz.prog 8 #[.agg (eCells h hs ao ac E), .int .i64 x] w fun e w' => e = .returned (.tuple #[.int .i64 (envChan E x).1, .int .i64 (envChan E x).2]) ∧ Below w.heap.size w w' := by
  have HX := Lib.hid (Bx.new w (eCells h hs ao ac E) 36)
  have HD := Lib.hid (hd.below (HX.out.bel.mono hB))
  have HBB := Lib.hid hB
  have HCK := Lib.hid (echeckC (ac := ac) x _ (Nat.le_trans hB HX.out.bel.size) HD.out)
  clear hd
  unfold eCells at HX HCK ⊢
  go_enter Tryz.func8, Tryz.ntmps8
  go_wp2_with fail
  refine HCK.out.mono ?_
  rintro e W1 ⟨rfl, hb1⟩
  have HX1 := Lib.hid (HX.out.below hb1)
  have HD1 := Lib.hid (HD.out.below (hb1.mono (Nat.le_trans HBB.out HX.out.bel.size)))
  clear hb1 HCK HX
  obtain ⟨er, her⟩ : ∃ q, envE E x = q := ⟨_, rfl⟩
  rw [her]
  by_cases h0 : er = 0
  · have hd0 : (er != 0) = false := by rw [bne_eq_false_iff_eq]; exact h0
    subst h0
    obtain ⟨hok, hx0, hxl⟩ := envE_ok her
    have HV : Hid (envChan E x = rchanB E (evE E) x) := Lib.hid (by unfold envChan; rw [her, if_neg (by simp)])
    have HE := Lib.hid (chanC x W1 (Ek.of (T := 36) (ac := ac) HX1.out.box HBB.out HD1.out) (evalC hok) hx0 hxl)
    clear hok
    go_wp2_with fail
    refine HE.out.mono ?_
    rintro e W2 ⟨rfl, hb2⟩
    have HB2 := Lib.hid (HX1.out.bel.trans (hb2.mono HX1.out.bel.size))
    clear hb2 HE
    go_wp2_with fail
    go_ret2
    exact ⟨ret2 (by rw [HV.out]; rfl) (by rw [HV.out]; rfl), HB2.out⟩
  · have hd0 : (er != 0) = true := by rw [bne_iff_ne]; exact h0
    have HV : Hid (envChan E x = (0, er)) := Lib.hid (by unfold envChan; rw [her, if_pos h0])
    go_wp2_with fail
    go_ret2
    exact ⟨ret2 (by rw [HV.out]) (by rw [HV.out]), HX1.out.bel⟩

end Go.Proofs.YtbhgdlfndamklaaGreatDoor
/- Layer 14's example, as data, and what it comes to. -/
namespace Go.Proofs.YtbhgdlfndamklaaGreatDoor

def vNo : VarD := ⟨0, 0, 0, 0, []⟩
def numD (n : Int) : ExprD := ⟨1, n, -1, -1, -1, vNo, [], []⟩
def varD (i : Int) : ExprD := ⟨2, 0, -1, -1, -1, ⟨0, 0, -1, -1, [⟨i, 3, 1⟩]⟩, [], []⟩
def shownM : ModelD := ⟨[(8, false), (8, false), (8, false)], [4, 5, 6], [], [], [⟨ByteArray.empty, 0, [], [], [⟨[], [], false, false, false, false, false⟩], 0, 0, 0, 1, -1⟩], -1,
  [numD 2, varD 0, numD 7, numD 0, ⟨7, 0, 2, 3, -1, vNo, [], []⟩, numD 0, ⟨22, 0, 5, 4, -1, vNo, [], []⟩, numD 3, varD 7]⟩
def shownS : StateD := ⟨[4, 5, 6], [], [], 0, -1, -1⟩
def shownE : EnvD := ⟨shownM, shownS, -1, false, []⟩
theorem shown_1 : envEval shownE 1 = (6, 0) := by decide +kernel
theorem shown_4 : envEval shownE 4 = (0, 48) := by decide +kernel
theorem shown_6 : envEval shownE 6 = (0, 0) := by decide +kernel
theorem shown_8 : envEval shownE 8 = (0, 47) := by decide +kernel
theorem shown_5 : envChan shownE 5 = (0, 49) := by decide +kernel
end Go.Proofs.YtbhgdlfndamklaaGreatDoor
/- Numbers to a base, as text. -/
namespace Go.Proofs.YtbhgdlfndamklaaGreatDoor
open Go.ChangeShapes Go.WideShapes Go.ChangeAt Go.RowKit
set_option linter.unusedVariables false

def digB (k : Nat) : UInt8 := if k < 10 then UInt8.ofNat (48 + k) else UInt8.ofNat (87 + k)
/-- The digits, the last one first. -/
def revB (b : Nat) : Nat → Nat → List UInt8
  | 0, _ => []
  | f + 1, u => if u < b then [digB u] else digB (u % b) :: revB b f (u / b)
/-- To a base from 2 on; of a number below 2^64. -/
def baseL (b u : Nat) : List UInt8 := (revB b 64 u).reverse
theorem rev_more {b : Nat} (hb : 2 ≤ b) : ∀ (f g u : Nat), u < 2 ^ f → 0 < f → f ≤ g → revB b f u = revB b g u
  | 0, g, u, h, h0, h2 => by omega
  | f + 1, g, u, h, h0, h2 => by
    obtain ⟨k, rfl⟩ : ∃ k, g = k + 1 := ⟨g - 1, by omega⟩
    unfold revB
    split
    · rfl
    · rename_i hu
      have h3 : u / b < 2 ^ f := by
        rw [Nat.div_lt_iff_lt_mul (by omega)]
        have e : 2 ^ (f + 1) = 2 ^ f * 2 := Nat.pow_succ 2 f
        have := Nat.mul_le_mul_left (2 ^ f) hb
        omega
      have hf : 0 < f := by
        rcases Nat.eq_zero_or_pos f with e | e
        · subst e
          simp at h
          omega
        · exact e
      rw [rev_more hb f k (u / b) h3 hf (by omega)]
theorem base_small {b u : Nat} (h : u < b) : baseL b u = [digB u] := by
  unfold baseL revB
  rw [if_pos h]; rfl
theorem base_step {b u : Nat} (hb : 2 ≤ b) (h : b ≤ u) (hu : u < 18446744073709551616) : baseL b u = baseL b (u / b) ++ [digB (u % b)] := by
  have e : baseL b u = (digB (u % b) :: revB b 63 (u / b)).reverse := by
    unfold baseL
    conv => lhs; unfold revB
    rw [if_neg (by omega)]
  have h3 : u / b < 2 ^ 63 := by
    rw [Nat.div_lt_iff_lt_mul (by omega)]
    have := Nat.mul_le_mul_left (2 ^ 63) hb
    omega
  rw [e, List.reverse_cons, rev_more hb 63 64 (u / b) h3 (by omega) (by omega)]
  rfl
theorem rev_len (b : Nat) : ∀ (f u : Nat), (revB b f u).length ≤ f
  | 0, u => by simp [revB]
  | f + 1, u => by
    unfold revB
    split
    · simp
    · have := rev_len b f (u / b)
      simp; omega
theorem base_len (b u : Nat) : (baseL b u).length ≤ 64 := by
  unfold baseL
  rw [List.length_reverse]
  exact rev_len b 64 u
theorem dec_base : ∀ (u : Nat), u < 18446744073709551616 → Lib.decDigits u = baseL 10 u
  | u, hu => by
    by_cases h : u < 10
    · rw [Lib.decDigits, dif_pos h, base_small h]
      unfold digB
      rw [if_pos h]
    · rw [Lib.decDigits, dif_neg h, base_step (by omega) (by omega) hu, dec_base (u / 10) (by omega)]
      unfold digB
      rw [if_pos (by omega)]
termination_by u => u
decreasing_by omega
theorem cells_app (a b : List UInt8) : Lib.byteCells (a ++ b) = Lib.byteCells a ++ Lib.byteCells b := by simp [Lib.byteCells]
theorem cells_len (a : List UInt8) : (Lib.byteCells a).length = a.length := by simp [Lib.byteCells]
/-- The low 32 bits. -/
def low32 (v : Int) : Nat := (v % 4294967296).toNat
theorem low32_lt (v : Int) : low32 v < 4294967296 := by unfold low32; omega
def isDec (c : Int) : Prop := c = 100 ∨ c = 105 ∨ c = 101
/-- One of the numbers, as the letter has it. -/
def convF (c : UInt8) (v : Int) : List UInt8 :=
  if c = 99 then [UInt8.ofNat (v % 256).toNat] else if c = 120 then baseL 16 (low32 v) else if c = 111 then baseL 8 (low32 v) else if c = 117 then baseL 10 (low32 v) else Lib.itoa v
def isConv (c : UInt8) : Bool := c = 100 || c = 105 || c = 101 || c = 117 || c = 120 || c = 111 || c = 99
def printF : List UInt8 → List Int → List UInt8
  | [], _ => []
  | [c], _ => [c]
  | c :: d :: r, args =>
    if c ≠ 37 then c :: printF (d :: r) args
    else if d = 37 then 37 :: printF r args
    else if isConv d = false then 37 :: d :: printF r args
    else match args with
      | [] => printF r []
      | a :: rest => convF d a ++ printF r rest
theorem itoa_len {v : Int} (h : -9223372036854775808 ≤ v ∧ v ≤ 9223372036854775807) : (Lib.itoa v).length ≤ 65 := by
  unfold Lib.itoa
  split
  · rw [List.length_cons, dec_base _ (by omega)]
    have := base_len 10 v.natAbs
    omega
  · rw [dec_base _ (by omega)]
    have := base_len 10 v.toNat
    omega
theorem conv_len {c : UInt8} {v : Int} (h : -9223372036854775808 ≤ v ∧ v ≤ 9223372036854775807) : (convF c v).length ≤ 65 := by
  unfold convF
  have := itoa_len h
  split
  · simp
  · split
    · have := base_len 16 (low32 v); omega
    · split
      · have := base_len 8 (low32 v); omega
      · split
        · have := base_len 10 (low32 v); omega
        · exact this
end Go.Proofs.YtbhgdlfndamklaaGreatDoor
/-
  DERIVED: THE SHELF's CONTRACTS AT THIS DUMP, IN PLAIN WORDS (tools/lay-plain.mjs out of 'TryzShelf.lean', which tools/lay-shelf.mjs wrote): THE SAME DECLARATIONS UNDER THE SAME NAMES: 'import', 'namespace', 'open', 'def', 'theorem' AND NOTHING ELSE: no command of the shelf's: FOR A HAND-IN. Each laying: the table of numbers ('.._ren') and one theorem, a field a fact of the dump's own or the kernel's comparison; each contract: ONE APPLICATION.
-/
namespace Go.Proofs
open Go.Shelf
def Tryz.lays129_ren : Go.Shelf.Ren := ⟨fun | 129 => 107 | n => n, fun | 53 => 131 | 3 => 3 | 4 => 4 | 46 => 128 | 5 => 5 | 9 => 9 | n => n, fun | n => n⟩
def Tryz.lays317_ren : Go.Shelf.Ren := ⟨fun | 317 => 106 | n => n, fun | 3 => 3 | 46 => 128 | n => n, fun | n => n⟩
open Go.Lib in
def Tryz.lays318_ren : Go.Shelf.Ren := ⟨fun | 318 => 108 | n => n, fun | 3 => 3 | 4 => 4 | n => n, fun | n => n⟩
open Go.Lib in
def Tryz.lays283_ren : Go.Shelf.Ren := ⟨fun | 283 => 87 | n => n, fun | 3 => 3 | 9 => 9 | 4 => 4 | n => n, fun | n => n⟩
open Go.Lib in
def Tryz.laysM284_ren : Go.Shelf.Ren := ⟨fun | 284 => 88 | 129 => 107 | 317 => 106 | 318 => 108 | n => n, fun | 53 => 131 | 3 => 3 | 212 => 174 | 0 => 0 | 4 => 4 | 46 => 128 | 5 => 5 | 9 => 9 | n => n, fun | 17 => 0 | n => n⟩
open Go.Lib in
def Tryz.lays285_ren : Go.Shelf.Ren := ⟨fun | 285 => 89 | n => n, fun | 37 => 99 | 53 => 131 | 3 => 3 | 4 => 4 | 51 => 132 | 9 => 9 | 5 => 5 | 0 => 0 | n => n, fun | n => n⟩
open Go.RowKit Go.Sort Go.Lib in
def Tryz.laysM288_ren : Go.Shelf.Ren := ⟨fun | 288 => 78 | 283 => 87 | 284 => 88 | 285 => 89 | 286 => 90 | 129 => 107 | 317 => 106 | 318 => 108 | 319 => 109 | 320 => 110 | 337 => 127 | 338 => 128 | n => n, fun | 37 => 99 | 53 => 131 | 3 => 3 | 4 => 4 | 9 => 9 | 171 => 151 | 0 => 0 | 173 => 154 | 212 => 174 | 51 => 132 | 5 => 5 | 20 => 20 | 213 => 175 | 46 => 128 | 232 => 200 | 233 => 201 | n => n, fun | 17 => 0 | 18 => 1 | 19 => 2 | n => n⟩
theorem Tryz.laysM288 : Go.Proofs.LaysM.n288 Tryz.prog Tryz.laysM288_ren := {
  mixed := by kernel_rfl
  f129 := Tryz.func107.trans (congrArg some (by kernel_rfl))
  f283 := Tryz.func87.trans (congrArg some (by kernel_rfl))
  f284 := Tryz.func88.trans (congrArg some (by kernel_rfl))
  f285 := Tryz.func89.trans (congrArg some (by kernel_rfl))
  f286 := Tryz.func90.trans (congrArg some (by kernel_rfl))
  f288 := Tryz.func78.trans (congrArg some (by kernel_rfl))
  f317 := Tryz.func106.trans (congrArg some (by kernel_rfl))
  f318 := Tryz.func108.trans (congrArg some (by kernel_rfl))
  f319 := Tryz.func109.trans (congrArg some (by kernel_rfl))
  f320 := Tryz.func110.trans (congrArg some (by kernel_rfl))
  f337 := Tryz.func127.trans (congrArg some (by kernel_rfl))
  f338 := Tryz.func128.trans (congrArg some (by kernel_rfl))
  t0 := Tryz.underlying0
  a0 := Tryz.isAgg0
  z0 := Tryz.sizeOf0
  v0 := Tryz.zeroValue0
  t3 := Tryz.underlying3
  a3 := Tryz.isAgg3
  z3 := Tryz.sizeOf3
  v3 := Tryz.zeroValue3
  t4 := Tryz.underlying4
  a4 := Tryz.isAgg4
  z4 := Tryz.sizeOf4
  v4 := Tryz.zeroValue4
  t5 := Tryz.underlying5
  a5 := Tryz.isAgg5
  z5 := Tryz.sizeOf5
  v5 := Tryz.zeroValue5
  t9 := Tryz.underlying9
  a9 := Tryz.isAgg9
  z9 := Tryz.sizeOf9
  v9 := Tryz.zeroValue9
  t20 := Tryz.underlying20
  a20 := Tryz.isAgg20
  z20 := Tryz.sizeOf20
  v20 := Tryz.zeroValue20
  t37 := Tryz.underlying99
  a37 := Tryz.isAgg99
  z37 := Tryz.sizeOf99
  v37 := Tryz.zeroValue99
  t46 := Tryz.underlying128
  a46 := Tryz.isAgg128
  z46 := Tryz.sizeOf128
  v46 := Tryz.zeroValue128
  t51 := Tryz.underlying132
  a51 := Tryz.isAgg132
  z51 := Tryz.sizeOf132
  v51 := Tryz.zeroValue132
  t53 := Tryz.underlying131
  a53 := Tryz.isAgg131
  z53 := Tryz.sizeOf131
  v53 := Tryz.zeroValue131
  t171 := Tryz.underlying151
  a171 := Tryz.isAgg151
  z171 := Tryz.sizeOf151
  v171 := Tryz.zeroValue151
  t173 := Tryz.underlying154
  a173 := Tryz.isAgg154
  z173 := Tryz.sizeOf154
  v173 := Tryz.zeroValue154
  t212 := Tryz.underlying174
  a212 := Tryz.isAgg174
  z212 := Tryz.sizeOf174
  v212 := Tryz.zeroValue174
  t213 := Tryz.underlying175
  a213 := Tryz.isAgg175
  z213 := Tryz.sizeOf175
  t232 := Tryz.underlying200
  a232 := Tryz.isAgg200
  z232 := Tryz.sizeOf200
  v232 := Tryz.zeroValue200
  t233 := Tryz.underlying201
  a233 := Tryz.isAgg201
  z233 := Tryz.sizeOf201
  v233 := Tryz.zeroValue201
  g17 := by kernel_rfl
  g18 := by kernel_rfl
  g19 := by kernel_rfl
  i0 := by kernel_rfl
  i3 := by kernel_rfl
  i4 := by kernel_rfl
  i5 := by kernel_rfl
  i9 := by kernel_rfl
  i20 := by kernel_rfl
  i37 := by kernel_rfl
  i46 := by kernel_rfl
  i51 := by kernel_rfl
  i53 := by kernel_rfl
  i171 := by kernel_rfl
  i173 := by kernel_rfl
  i212 := by kernel_rfl
  i232 := by kernel_rfl
  i233 := by kernel_rfl
  m17 := by kernel_rfl
  m18 := by kernel_rfl
  m19 := by kernel_rfl }
open Go.RowKit Go.Sort Go.Lib in
open Go.RowKit Go.Sort Go.Lib in
open Go.RowKit Go.Sort Go.Lib in
/-- internal/strconv.AppendUint(dst, i, 10): the two contracts as one. NO WALK. (LAID: no walk: one application.) -/
theorem Tryz.internal_strconv_AppendUint_10 (B n u : Nat) (hu64 : u < 18446744073709551616) (sv : Value) (xs : List Value) (w : World) (hown : w.ownsRow B 5 1 sv n xs) (hBw : B ≤ w.heap.size) (hlim : n + 20 ≤ 140737488355328) (htab : Lib.TabIs Tryz.prog w "internal/strconv.uint64pow10" .u64 Lib.pow10Tab) :
    Calls Tryz.prog 78 #[sv, .int .u64 u, .int .i64 10] w fun e w' => ∃ v', e = .returned v' ∧ w'.ownsRow B 5 1 v' (n + (Lib.decDigits u).length) (xs ++ Lib.byteCells (Lib.decDigits u)) ∧ Below B w w' ∧ Lib.OthersKept 5 none w w' := Any.internal_strconv_AppendUint_10 Tryz.laysM288 B n u hu64 sv xs w hown hBw hlim htab
def Tryz.laysM249_ren : Go.Shelf.Ren := ⟨fun | 249 => 77 | 288 => 78 | 283 => 87 | 284 => 88 | 285 => 89 | 286 => 90 | 129 => 107 | 317 => 106 | 318 => 108 | 319 => 109 | 320 => 110 | 337 => 127 | 338 => 128 | n => n, fun | 37 => 99 | 2 => 2 | 3 => 3 | 53 => 131 | 4 => 4 | 9 => 9 | 171 => 151 | 0 => 0 | 173 => 154 | 212 => 174 | 51 => 132 | 5 => 5 | 20 => 20 | 213 => 175 | 46 => 128 | 232 => 200 | 233 => 201 | n => n, fun | 17 => 0 | 18 => 1 | 19 => 2 | n => n⟩
open Go.RowKit Go.Sort Go.Lib in
def Tryz.laysM176_ren : Go.Shelf.Ren := ⟨fun | 176 => 63 | 249 => 77 | 288 => 78 | 283 => 87 | 284 => 88 | 285 => 89 | 286 => 90 | 129 => 107 | 317 => 106 | 318 => 108 | 319 => 109 | 320 => 110 | 337 => 127 | 338 => 128 | n => n, fun | 37 => 99 | 2 => 2 | 3 => 3 | 53 => 131 | 4 => 4 | 9 => 9 | 171 => 151 | 0 => 0 | 173 => 154 | 212 => 174 | 51 => 132 | 5 => 5 | 20 => 20 | 213 => 175 | 46 => 128 | 232 => 200 | 233 => 201 | n => n, fun | 17 => 0 | 18 => 1 | 19 => 2 | n => n⟩
theorem Tryz.laysM176 : Go.Proofs.LaysM.n176 Tryz.prog Tryz.laysM176_ren := {
  mixed := by kernel_rfl
  f129 := Tryz.func107.trans (congrArg some (by kernel_rfl))
  f176 := Tryz.func63.trans (congrArg some (by kernel_rfl))
  f249 := Tryz.func77.trans (congrArg some (by kernel_rfl))
  f283 := Tryz.func87.trans (congrArg some (by kernel_rfl))
  f284 := Tryz.func88.trans (congrArg some (by kernel_rfl))
  f285 := Tryz.func89.trans (congrArg some (by kernel_rfl))
  f286 := Tryz.func90.trans (congrArg some (by kernel_rfl))
  f288 := Tryz.func78.trans (congrArg some (by kernel_rfl))
  f317 := Tryz.func106.trans (congrArg some (by kernel_rfl))
  f318 := Tryz.func108.trans (congrArg some (by kernel_rfl))
  f319 := Tryz.func109.trans (congrArg some (by kernel_rfl))
  f320 := Tryz.func110.trans (congrArg some (by kernel_rfl))
  f337 := Tryz.func127.trans (congrArg some (by kernel_rfl))
  f338 := Tryz.func128.trans (congrArg some (by kernel_rfl))
  t0 := Tryz.underlying0
  a0 := Tryz.isAgg0
  z0 := Tryz.sizeOf0
  v0 := Tryz.zeroValue0
  t2 := Tryz.underlying2
  a2 := Tryz.isAgg2
  z2 := Tryz.sizeOf2
  v2 := Tryz.zeroValue2
  t3 := Tryz.underlying3
  a3 := Tryz.isAgg3
  z3 := Tryz.sizeOf3
  v3 := Tryz.zeroValue3
  t4 := Tryz.underlying4
  a4 := Tryz.isAgg4
  z4 := Tryz.sizeOf4
  v4 := Tryz.zeroValue4
  t5 := Tryz.underlying5
  a5 := Tryz.isAgg5
  z5 := Tryz.sizeOf5
  v5 := Tryz.zeroValue5
  t9 := Tryz.underlying9
  a9 := Tryz.isAgg9
  z9 := Tryz.sizeOf9
  v9 := Tryz.zeroValue9
  t20 := Tryz.underlying20
  a20 := Tryz.isAgg20
  z20 := Tryz.sizeOf20
  v20 := Tryz.zeroValue20
  t37 := Tryz.underlying99
  a37 := Tryz.isAgg99
  z37 := Tryz.sizeOf99
  v37 := Tryz.zeroValue99
  t46 := Tryz.underlying128
  a46 := Tryz.isAgg128
  z46 := Tryz.sizeOf128
  v46 := Tryz.zeroValue128
  t51 := Tryz.underlying132
  a51 := Tryz.isAgg132
  z51 := Tryz.sizeOf132
  v51 := Tryz.zeroValue132
  t53 := Tryz.underlying131
  a53 := Tryz.isAgg131
  z53 := Tryz.sizeOf131
  v53 := Tryz.zeroValue131
  t171 := Tryz.underlying151
  a171 := Tryz.isAgg151
  z171 := Tryz.sizeOf151
  v171 := Tryz.zeroValue151
  t173 := Tryz.underlying154
  a173 := Tryz.isAgg154
  z173 := Tryz.sizeOf154
  v173 := Tryz.zeroValue154
  t212 := Tryz.underlying174
  a212 := Tryz.isAgg174
  z212 := Tryz.sizeOf174
  v212 := Tryz.zeroValue174
  t213 := Tryz.underlying175
  a213 := Tryz.isAgg175
  z213 := Tryz.sizeOf175
  t232 := Tryz.underlying200
  a232 := Tryz.isAgg200
  z232 := Tryz.sizeOf200
  v232 := Tryz.zeroValue200
  t233 := Tryz.underlying201
  a233 := Tryz.isAgg201
  z233 := Tryz.sizeOf201
  v233 := Tryz.zeroValue201
  g17 := by kernel_rfl
  g18 := by kernel_rfl
  g19 := by kernel_rfl
  i0 := by kernel_rfl
  i2 := by kernel_rfl
  i3 := by kernel_rfl
  i4 := by kernel_rfl
  i5 := by kernel_rfl
  i9 := by kernel_rfl
  i20 := by kernel_rfl
  i37 := by kernel_rfl
  i46 := by kernel_rfl
  i51 := by kernel_rfl
  i53 := by kernel_rfl
  i171 := by kernel_rfl
  i173 := by kernel_rfl
  i212 := by kernel_rfl
  i232 := by kernel_rfl
  i233 := by kernel_rfl
  m17 := by kernel_rfl
  m18 := by kernel_rfl
  m19 := by kernel_rfl }
open Go.RowKit Go.Sort Go.Lib in
/-- strconv.AppendInt: "AppendInt appends the string form of the integer i, as generated by FormatInt, to dst and returns the extended buffer.": AT BASE 10: WHAT COMES BACK OWNS dst's CELLS AND, BEHIND THEM, i's DECIMAL NUMERAL ('Lib.itoa i': at most 20 bytes), for every int64. Below the call's own blocks nothing has turned. (LAID: no walk: one application.) -/
theorem Tryz.strconv_AppendInt_10 (B n : Nat) (i : Int) (h0 : -9223372036854775808 ≤ i) (h1 : i ≤ 9223372036854775807) (sv : Value) (xs : List Value) (w : World) (hown : w.ownsRow B 5 1 sv n xs) (hBw : B ≤ w.heap.size) (hlim : n + 21 ≤ 140737488355328) (htab : Lib.TabBelow Tryz.prog B w "internal/strconv.uint64pow10" .u64 Lib.pow10Tab) :
    Calls Tryz.prog 63 #[sv, .int .i64 i, .int .i64 10] w fun e w' => ∃ v', e = .returned v' ∧ w'.ownsRow B 5 1 v' (n + (Lib.itoa i).length) (xs ++ Lib.byteCells (Lib.itoa i)) ∧ Below B w w' ∧ Lib.OthersKept 5 none w w' := Any.strconv_AppendInt_10 Tryz.laysM176 B n i h0 h1 sv xs w hown hBw hlim htab
end Go.Proofs
