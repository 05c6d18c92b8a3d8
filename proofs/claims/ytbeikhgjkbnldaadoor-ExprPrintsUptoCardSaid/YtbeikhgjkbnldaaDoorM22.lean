/- What an expression is reckoned in, as data; what it comes to. -/
import Derived.Test.YtbeikhgjkbnldaaDoorM19
import Derived.Test.YtbeikhgjkbnldaaDoorM21
import Derived.BigQuiet
namespace Go.Proofs.YtbeikhgjkbnldaaDoor
open Go.ChangeShapes Go.WideShapes Go.ChangeAt Go.RowKit

structure EnvD where
  m : ModelD
  s : StateD
  pid : Int
  timeout : Bool
  able : List Bool
/-- An Env in a block. -/
structure Ek (B : Nat) (w : World) (pe : Nat) (h : MH) (hs : SH) (ao : Option Addr) (ac : Nat) (E : EnvD) : Prop where
  ck : Ck B w pe h E.m
  sk : Sk B w pe 7 hs E.s
  c13 : w.cell? ⟨pe, 13, none⟩ = some (.int .i64 E.pid)
  c14 : w.cell? ⟨pe, 14, none⟩ = some (.bool E.timeout)
  c15 : w.cell? ⟨pe, 15, none⟩ = some (.slice ao E.able.length ac)
  able : Row B ao 1 (boolAt w) E.able
theorem Ek.leW {B pe : Nat} {w : World} {h : MH} {hs : SH} {ao : Option Addr} {ac : Nat} {E : EnvD} (k : Ek B w pe h hs ao ac E) : B ≤ w.heap.size := by have := k.ck.le; have := k.ck.lt; omega
theorem Ek.below {B pe : Nat} {w w' : World} {h : MH} {hs : SH} {ao : Option Addr} {ac : Nat} {E : EnvD} (k : Ek B w pe h hs ao ac E) (hb : Below w.heap.size w w') : Ek B w' pe h hs ao ac E :=
  ⟨k.ck.below hb, k.sk.below hb, (hb.cell k.ck.lt).trans k.c13, (hb.cell k.ck.lt).trans k.c14, (hb.cell k.ck.lt).trans k.c15, k.able.mono fun _ _ _ hg => boolAt.below (hb.mono k.leW) hg⟩
/-- Model and state may be, and the pid is one. -/
structure Ok (E : EnvD) : Prop where
  good : goodB E.m = true
  may : mayB E.m E.s = true
  pid : -1 ≤ E.pid ∧ E.pid < E.s.procs.length
def truthI (b : Bool) : Int := if b = true then 1 else 0
def slotsL (E : EnvD) (pid : Int) : List Int := if pid < 0 then E.s.globals else (E.s.procs[pid.toNat]?.map (·.frame)).getD []
def typeOfP (E : EnvD) (pid : Int) : Int := (E.s.procs[pid.toNat]?.map (·.type)).getD 0
def dimsF (ev : Int → Int × Int) : List DimD → Int → Int × Int
  | [], a => (a, 0)
  | d :: r, a => if (ev d.i).2 ≠ 0 then (0, (ev d.i).2) else if (ev d.i).1 < 0 ∨ d.len ≤ (ev d.i).1 then (0, 47) else dimsF ev r (a + (ev d.i).1 * d.stride)
def pidB (E : EnvD) (ev : Int → Int × Int) (v : VarD) : Int × Int :=
  if v.scope = 1 then (if E.pid < 0 then (0, 42) else (E.pid, 0))
  else if v.scope = 2 then (if (ev v.who).2 ≠ 0 then (0, (ev v.who).2) else if (ev v.who).1 < 0 ∨ (E.s.procs.length : Int) ≤ (ev v.who).1 ∨ typeOfP E (ev v.who).1 ≠ v.type then (0, 52) else ((ev v.who).1, 0))
  else (-1, 0)
def rslotB (E : EnvD) (ev : Int → Int × Int) (x : ExprD) : Int × Int × Int :=
  if x.op ≠ 2 then (0, 0, 42) else if (pidB E ev x.v).2 ≠ 0 then (0, 0, (pidB E ev x.v).2)
  else if ((slotsL E (pidB E ev x.v).1).length : Int) < reachL x.v then (0, 0, 42)
  else if (dimsF ev x.v.dims x.v.slot).2 ≠ 0 then (0, 0, (dimsF ev x.v.dims x.v.slot).2) else ((pidB E ev x.v).1, (dimsF ev x.v.dims x.v.slot).1, 0)
def rchanB (E : EnvD) (ev : Int → Int × Int) (a : Int) : Int × Int := if (ev a).2 ≠ 0 then (0, (ev a).2) else if (ev a).1 < 1 ∨ (E.s.chans.length : Int) < (ev a).1 then (0, 49) else ((ev a).1, 0)
def chosenB (ev : Int → Int × Int) (x : ExprD) : Int × Int :=
  if (ev x.a).2 ≠ 0 then (0, (ev x.a).2) else if x.op = 22 ∧ (ev x.a).1 = 0 then (0, 0) else if x.op = 23 ∧ (ev x.a).1 ≠ 0 then (1, 0)
  else if x.op = 24 ∧ (ev x.a).1 = 0 then (if (ev x.c).2 ≠ 0 then (0, (ev x.c).2) else ((ev x.c).1, 0))
  else if (ev x.b).2 ≠ 0 then (0, (ev x.b).2) else if x.op = 24 then ((ev x.b).1, 0) else (truthI (decide ((ev x.b).1 ≠ 0)), 0)
def chanNo (E : EnvD) (n : Int) : ChanD := E.s.chans[(n - 1).toNat]?.getD ⟨0, []⟩
def shapeNo (E : EnvD) (c : ChanD) : ShapeD := E.m.shapes[c.shape.toNat]?.getD ⟨0, []⟩
def roomOp (op size most : Int) : Int := if op = 26 then truthI (decide (most ≤ size)) else if op = 28 then truthI (!decide (most ≤ size)) else if op = 27 then truthI (decide (size = 0)) else if op = 29 then truthI (!decide (size = 0)) else size
def rroomB (E : EnvD) (ev : Int → Int × Int) (x : ExprD) : Int × Int :=
  if (rchanB E ev x.a).2 ≠ 0 then (0, (rchanB E ev x.a).2) else (roomOp x.op (chanNo E (rchanB E ev x.a).1).queue.length (shapeNo E (chanNo E (rchanB E ev x.a).1)).room, 0)
def wantedF (ev : Int → Int × Int) : List (Int × Int) → List Int × Int
  | [] => ([], 0)
  | z :: r => if z.2 = 1 then (if (ev z.1).2 ≠ 0 then ([], (ev z.1).2) else if (wantedF ev r).2 ≠ 0 then ([], (wantedF ev r).2) else ((ev z.1).1 :: (wantedF ev r).1, 0)) else if (wantedF ev r).2 ≠ 0 then ([], (wantedF ev r).2) else (0 :: (wantedF ev r).1, 0)
/-- Does a message match? -/
def matchesB (want mat : List Int) (msg : List Int) : Bool := decide (mat.length ≤ msg.length ∧ mat.length ≤ want.length) && (List.range mat.length).all (fun i => !(decide (mat.getD i 0 = 1) && decide (msg.getD i 0 ≠ want.getD i 0)))
def findF (want mat : List Int) (any : Bool) : List (List Int) → Nat → Int
  | [], _ => -1
  | msg :: r, i => if 0 < i ∧ any = false then -1 else if matchesB want mat msg = true then i else findF want mat any r (i + 1)
def rpollB (E : EnvD) (ev : Int → Int × Int) (x : ExprD) : Int × Int :=
  if (rchanB E ev x.a).2 ≠ 0 then (0, (rchanB E ev x.a).2) else if (shapeNo E (chanNo E (rchanB E ev x.a).1)).fields.length ≠ x.args.length then (0, 49)
  else if (wantedF ev (x.args.zip x.mat)).2 ≠ 0 then (0, (wantedF ev (x.args.zip x.mat)).2)
  else (truthI (decide (0 ≤ findF (wantedF ev (x.args.zip x.mat)).1 x.mat (decide (x.n = 1)) (chanNo E (rchanB E ev x.a).1).queue 0)), 0)
def locOf (E : EnvD) (p : ProcessD) : Option LocD := (E.m.procs[p.type.toNat]?).bind (fun t => t.locs[p.loc.toNat]?)
def inProgress (E : EnvD) (p : ProcessD) : Bool := ((locOf E p).map (·.progress)).getD false
def knownB (E : EnvD) (op : Int) : Int := if op = 31 then E.pid else if op = 32 then E.s.last else if op = 33 then E.s.procs.length else if op = 34 then truthI (E.s.procs.all (fun p => !inProgress E p)) else truthI E.timeout
def askedB (E : EnvD) (x : ExprD) (who : Int) : Int × Int :=
  if x.op = 36 then (truthI (decide (0 ≤ who ∧ who < E.able.length) && E.able.getD who.toNat false), 0)
  else match (if who < 0 then none else E.s.procs[who.toNat]?) with
    | none => (0, 52)
    | some p => if x.op = 37 then (p.loc, 0) else if p.type ≠ x.n then (0, 52) else (truthI (x.args.any (fun q => decide (q = p.loc))), 0)
def slotVal (E : EnvD) (pid slot : Int) : Int := (slotsL E pid).getD slot.toNat 0
def evalB (E : EnvD) (ev : Int → Int × Int) (x : ExprD) : Int × Int :=
  if x.op = 1 then (x.n, 0)
  else if x.op = 2 then (if (rslotB E ev x).2.2 ≠ 0 then (0, (rslotB E ev x).2.2) else (slotVal E (rslotB E ev x).1 (rslotB E ev x).2.1, 0))
  else if 3 ≤ x.op ∧ x.op ≤ 5 then (if (ev x.a).2 ≠ 0 then (0, (ev x.a).2) else val.one x.op (ev x.a).1)
  else if 22 ≤ x.op ∧ x.op ≤ 24 then chosenB ev x
  else if 25 ≤ x.op ∧ x.op ≤ 29 then rroomB E ev x
  else if x.op = 30 then rpollB E ev x
  else if 31 ≤ x.op ∧ x.op ≤ 35 then (knownB E x.op, 0)
  else if 36 ≤ x.op ∧ x.op ≤ 38 then (if (ev x.a).2 ≠ 0 then (0, (ev x.a).2) else askedB E x (ev x.a).1)
  else if x.op = 39 then (0, 42)
  else if (ev x.a).2 ≠ 0 then (0, (ev x.a).2) else if (ev x.b).2 ≠ 0 then (0, (ev x.b).2) else val.two x.op (ev x.a).1 (ev x.b).1
def evalF (E : EnvD) : Nat → Int → Int × Int
  | 0, _ => (0, 0)
  | f + 1, i => match E.m.exprs[i.toNat]? with
    | some x => evalB E (evalF E f) x
    | none => (0, 0)
/-- The calls of Eval at places below N. -/
def EvC (B pe : Nat) (h : MH) (hs : SH) (ao : Option Addr) (ac : Nat) (E : EnvD) (ev : Int → Int × Int) (N : Nat) : Prop :=
  ∀ (p : Int) (W : World), 0 ≤ p → p < N → Ek B W pe h hs ao ac E → Calls Tryd.prog 17 #[.pointer (some ⟨pe, 0, none⟩), .int .i64 p] W fun e W' => e = .returned (.tuple #[.int .i64 (ev p).1, .int .i64 (ev p).2]) ∧ Below W.heap.size W W'
theorem ret2 {a b c d : Int} (h : a = b) (h2 : c = d) : Ending.returned (.tuple #[.int .i64 a, .int .i64 c]) = .returned (.tuple #[.int .i64 b, .int .i64 d]) := by rw [h, h2]

/-- A process of a state that may be. -/
theorem may_proc {E : EnvD} (hk : Ok E) {i : Nat} {p : ProcessD} (hp : E.s.procs[i]? = some p) : ∃ t, E.m.procs[p.type.toNat]? = some t ∧ 0 ≤ p.type ∧ p.type < E.m.procs.length ∧ 0 ≤ p.loc ∧ p.loc < t.locs.length ∧ p.frame.length = t.frame.length := by
  have h1 := hk.may
  unfold mayB at h1
  simp only [Bool.and_eq_true] at h1
  have h2 := h1.1.2
  rw [List.all_eq_true] at h2
  have h3 := h2 p (List.mem_of_getElem? hp)
  unfold procMayB procHeadB procFB at h3
  simp only [Bool.and_eq_true, decide_eq_true_eq] at h3
  obtain ⟨⟨h4, h5, _⟩, h6⟩ := h3
  split at h6
  · rename_i t ht
    simp only [Bool.and_eq_true, decide_eq_true_eq] at h6
    obtain ⟨⟨h7, h8, _⟩, h9⟩ := h6
    unfold fitsL at h9
    simp only [Bool.and_eq_true, decide_eq_true_eq] at h9
    exact ⟨t, ht, h4, h5, h7, h8, h9.1⟩
  · cases h6
theorem may_chan {E : EnvD} (hk : Ok E) {i : Nat} {c : ChanD} (hc : E.s.chans[i]? = some c) : ∃ s, E.m.shapes[c.shape.toNat]? = some s ∧ 0 ≤ c.shape ∧ c.shape < E.m.shapes.length := by
  have h1 := hk.may
  unfold mayB at h1
  simp only [Bool.and_eq_true] at h1
  have h2 := h1.1.1.2
  rw [List.all_eq_true] at h2
  have h3 := h2 c (List.mem_of_getElem? hc)
  unfold chanMayB chanHeadB chanFB at h3
  simp only [Bool.and_eq_true, decide_eq_true_eq] at h3
  obtain ⟨⟨h4, h5⟩, h6⟩ := h3
  split at h6
  · rename_i t ht
    exact ⟨t, ht, h4, h5⟩
  · cases h6
theorem good_ex {E : EnvD} (hk : Ok E) : EX E.m := by
  have h := hk.good
  unfold goodB checkL at h
  rw [decide_eq_true_eq] at h
  by_cases h3 : (expressionsL E.m).2 = true
  · exact EX.of h3
  · have h4 : (expressionsL E.m).2 = false := by simpa using h3
    rw [if_pos h4] at h
    repeat' (split at h)
    all_goals (simp at h)
end Go.Proofs.YtbeikhgjkbnldaaDoor
/- One number for a truth, and the numbers of a process. -/
namespace Go.Proofs.YtbeikhgjkbnldaaDoor
open Go.ChangeShapes Go.WideShapes Go.ChangeAt Go.RowKit
set_option linter.unusedVariables false
set_option linter.unusedSimpArgs false

theorem truthC (b : Bool) (w : World) : Calls Tryd.prog 49 #[.bool b] w fun e w' => e = .returned (.int .i64 (truthI b)) ∧ w = w' := by
  cases b
  · go_enter Tryd.func49, Tryd.ntmps49
    go_wp2_with fail
    go_ret
    exact ⟨rfl, rfl⟩
  · go_enter Tryd.func49, Tryd.ntmps49
    go_wp2_with fail
    go_ret
    exact ⟨rfl, rfl⟩

set_option maxRecDepth 100000 in
theorem slotsC {B pe : Nat} {h : MH} {hs : SH} {ao : Option Addr} {ac : Nat} {E : EnvD} (pid : Int) (w : World) (hk : Ek B w pe h hs ao ac E) (hp : pid < E.s.procs.length) :
    Calls Tryd.prog 28 #[.pointer (some ⟨pe, 0, none⟩), .int .i64 pid] w fun e w' => ∃ o c, Row B o 1 (intAt w) (slotsL E pid) ∧ e = .returned (.slice o (slotsL E pid).length c) ∧ w = w' := by
  have HK := Lib.hid hk
  have c7 := hk.sk.c0
  have c9 := hk.sk.c2
  clear hk
  by_cases hn : pid < 0
  · have hd : decide (pid < 0) = true := decide_eq_true hn
    have HV : Hid (slotsL E pid = E.s.globals) := Lib.hid (by unfold slotsL; rw [if_pos hn])
    go_enter Tryd.func28, Tryd.ntmps28
    go_wp2_with fail
    go_ret
    rw [HV.out]
    exact ⟨_, _, HK.out.sk.sd.globals, rfl, rfl⟩
  · have hd : decide (pid < 0) = false := decide_eq_false hn
    obtain ⟨k, rfl⟩ : ∃ k : Nat, pid = k := ⟨pid.toNat, by omega⟩
    have hkl : k < E.s.procs.length := by omega
    have hkz : (0 : Int) ≤ k := by omega
    obtain ⟨p, hpk⟩ : ∃ s, E.s.procs[k]? = some s := ⟨_, List.getElem?_eq_getElem hkl⟩
    have HV : Hid (slotsL E k = p.frame) := Lib.hid (by unfold slotsL; rw [if_neg hn, Int.toNat_natCast, hpk]; rfl)
    have hpl := HK.out.sk.sd.procs.1
    obtain ⟨g, off, ho, hg, hpa⟩ := HK.out.sk.sd.procs.get hpk
    rw [ho] at c9
    obtain ⟨qo, qc, q3, hq⟩ := hpa.frame
    have HQ := Lib.hid hq
    clear hq hpa hpk ho hn
    go_enter Tryd.func28, Tryd.ntmps28
    go_wp2_with fail
    go_ret
    rw [HV.out]
    exact ⟨_, _, HQ.out, rfl, rfl⟩
end Go.Proofs.YtbeikhgjkbnldaaDoor
/- What a state tells without being asked for anything. -/
namespace Go.Proofs.YtbeikhgjkbnldaaDoor
open Go.ChangeShapes Go.WideShapes Go.ChangeAt Go.RowKit
set_option linter.unusedVariables false
set_option linter.unusedSimpArgs false

theorem Ek.leB {B pe : Nat} {w W : World} {h : MH} {hs : SH} {ao : Option Addr} {ac : Nat} {E : EnvD} (k : Ek B w pe h hs ao ac E) (hb : Below w.heap.size w W) : B ≤ W.heap.size := Nat.le_trans k.leW hb.size

set_option maxHeartbeats 2000000 in
set_option maxRecDepth 100000 in
theorem knownC {B pe : Nat} {h : MH} {hs : SH} {ao : Option Addr} {ac : Nat} {E : EnvD} (op : Int) (w : World) (hk : Ek B w pe h hs ao ac E) (hok : Ok E) (ho : 31 ≤ op ∧ op ≤ 35) :
    Calls Tryd.prog 33 #[.pointer (some ⟨pe, 0, none⟩), .int .i64 op] w fun e w' => e = .returned (.int .i64 (knownB E op)) ∧ Below w.heap.size w w' := by
  have HK := Lib.hid hk
  have HO := Lib.hid hok
  have c9 := hk.sk.c2
  have c10 := hk.sk.c3
  have c13 := hk.c13
  have c14 := hk.c14
  have hpl := hk.sk.sd.procs.1
  clear hk hok
  have hcs : op = 31 ∨ op = 32 ∨ op = 33 ∨ op = 34 ∨ op = 35 := by omega
  clear ho
  rcases hcs with rfl | rfl | rfl | rfl | rfl
  · go_enter Tryd.func33, Tryd.ntmps33
    go_wp2_with fail
    go_ret
    exact ⟨rfl, Below.refl _ _⟩
  · go_enter Tryd.func33, Tryd.ntmps33
    go_wp2_with fail
    go_ret
    exact ⟨rfl, Below.refl _ _⟩
  · go_enter Tryd.func33, Tryd.ntmps33
    go_wp2_with fail
    go_ret
    exact ⟨rfl, Below.refl _ _⟩
  · have HV : Hid (knownB E 34 = truthI (E.s.procs.all (fun p => !inProgress E p))) := Lib.hid rfl
    go_enter Tryd.func33, Tryd.ntmps33
    go_wp2_with fail
    go_loopw [37] (fun iv W => ∃ i : Nat, iv = .int .i64 i ∧ i ≤ E.s.procs.length ∧ Hid (∀ j (hj : j < E.s.procs.length), j < i → (!inProgress E E.s.procs[j]) = true) ∧ Hid (Below w.heap.size w W)) (fun iv _ => E.s.procs.length - (intOf iv).toNat)
    case atStart => exact ⟨0, rfl, by omega, Lib.hid fun j _ h => by omega, Lib.hid (Below.refl _ _)⟩
    case round =>
      obtain ⟨i, rfl, hi, HJ, HB⟩ := hrel
      have hi0 : (0 : Int) ≤ i := by omega
      clear c9 c10 c13 c14
      by_cases hlt : i < E.s.procs.length
      · have hlti : (i : Int) < E.s.procs.length := by omega
        obtain ⟨p, hp⟩ : ∃ x, E.s.procs[i] = x := ⟨_, rfl⟩
        have hpq : E.s.procs[i]? = some p := by rw [List.getElem?_eq_getElem hlt, hp]
        obtain ⟨t, ht, ht0, ht1, hl0, hl1, -⟩ := may_proc HO.out hpq
        obtain ⟨kt, hkt⟩ : ∃ k : Nat, p.type = k := ⟨p.type.toNat, by omega⟩
        obtain ⟨kl, hkl⟩ : ∃ k : Nat, p.loc = k := ⟨p.loc.toNat, by omega⟩
        have hktl : (kt : Int) < E.m.procs.length := by omega
        have hkll : (kl : Int) < t.locs.length := by omega
        have hkt0 : (0 : Int) ≤ kt := by omega
        have hkl0 : (0 : Int) ≤ kl := by omega
        obtain ⟨l, hl⟩ : ∃ l, t.locs[kl]? = some l := ⟨_, List.getElem?_eq_getElem (by omega)⟩
        have HPR : Hid (inProgress E p = l.progress) := Lib.hid (by unfold inProgress locOf; rw [ht, hkl, Int.toNat_natCast]; show ((t.locs[kl]?).map (·.progress)).getD false = _; rw [hl]; rfl)
        rw [hkt, Int.toNat_natCast] at ht
        have HKW := HK.out.below HB.out
        have c4 := HKW.ck.c4
        have c9 := HKW.sk.c2
        have hml := HKW.ck.md.procs.1
        obtain ⟨g1, off1, ho1, hg1, hpa⟩ := HKW.sk.sd.procs.get hpq
        obtain ⟨g2, off2, ho2, hg2, hta⟩ := HKW.ck.md.procs.get ht
        obtain ⟨lo, lc, r4, hlr⟩ := hta.locs
        have hll := hlr.1
        obtain ⟨g3, off3, ho3, hg3, hla⟩ := hlr.get hl
        have r6 := hla.c6
        have q0 := hpa.c0
        have q1 := hpa.c1
        subst ho3
        rw [ho1] at c9
        rw [ho2] at c4
        rw [hkt] at q0
        rw [hkl] at q1
        have HBAD : Hid (l.progress = true → knownB E 34 = 0) := Lib.hid fun e => by rw [HV.out, all_bad hlt (by rw [hp, HPR.out, e]; rfl)]; rfl
        have HGO : Hid (l.progress = false → ∀ j (hj : j < E.s.procs.length), j < i + 1 → (!inProgress E E.s.procs[j]) = true) := Lib.hid fun e j hj hjk => by
          by_cases ej : j = i
          · subst ej; rw [hp, HPR.out, e]; rfl
          · exact HJ.out j hj (by omega)
        obtain ⟨lp, hlp⟩ : ∃ x, l.progress = x := ⟨_, rfl⟩
        rw [hlp] at r6
        have HLP := Lib.hid hlp
        clear HKW hpa hta hla hlr ho1 ho2 hp hpq ht hl hlp hkt hkl hl0 hl1 ht0 ht1
        cases lp
        · have HZ := Lib.hid (HGO.out HLP.out)
          go_wp2_with fail
          go_quiet (fail)
          have HB2 : Hid (Below w.heap.size w (wr.drewN nq)) := Lib.hid (bdrew HB.out nq)
          generalize wr.drewN nq = W2 at HB2 ⊢
          clear c4 c9 r4 r6 q0 q1
          go_wp2_with fail
          go_roundw
          case rel => exact ⟨i + 1, by go_num, by omega, HZ, HB2⟩
          case measure => simp [intOf]; omega
        · have HZ := Lib.hid (HBAD.out HLP.out)
          go_wp2_with fail
          go_quiet (fail)
          have HB2 : Hid (Below w.heap.size w (wr.drewN nq)) := Lib.hid (bdrew HB.out nq)
          generalize wr.drewN nq = W2 at HB2 ⊢
          clear c4 c9 r4 r6 q0 q1
          go_wp2_with fail
          go_ret
          exact ⟨retI HZ.out.symm, HB2.out⟩
      · have hlti : ¬ (i : Int) < E.s.procs.length := by omega
        have HZ : Hid (knownB E 34 = 1) := Lib.hid (by rw [HV.out, all_of fun j hj => HJ.out j hj (by omega)]; rfl)
        go_wp2_with fail
        go_ret
        exact ⟨retI HZ.out.symm, HB.out⟩
  · go_enter Tryd.func33, Tryd.ntmps33
    go_wp2_with fail
    refine (truthC E.timeout w).mono ?_
    rintro e W1 ⟨rfl, rfl⟩
    go_wp2_with fail
    go_ret
    exact ⟨rfl, Below.refl _ _⟩
end Go.Proofs.YtbeikhgjkbnldaaDoor
/- The channel that an expression says. -/
namespace Go.Proofs.YtbeikhgjkbnldaaDoor
open Go.ChangeShapes Go.WideShapes Go.ChangeAt Go.RowKit
set_option linter.unusedVariables false
set_option linter.unusedSimpArgs false


set_option maxRecDepth 100000 in
theorem chanC {B pe : Nat} {h : MH} {hs : SH} {ao : Option Addr} {ac : Nat} {E : EnvD} {ev : Int → Int × Int} {N : Nat} (x : Int) (w : World) (hk : Ek B w pe h hs ao ac E) (he : EvC B pe h hs ao ac E ev N) (hx0 : 0 ≤ x) (hx : x < N) :
    Calls Tryd.prog 21 #[.pointer (some ⟨pe, 0, none⟩), .int .i64 x] w fun e w' => e = .returned (.tuple #[.int .i64 (rchanB E ev x).1, .int .i64 (rchanB E ev x).2]) ∧ Below w.heap.size w w' := by
  have HK := Lib.hid hk
  have HE := Lib.hid (he x w hx0 hx hk)
  clear hk he
  obtain ⟨⟨v, er⟩, hev⟩ : ∃ q, ev x = q := ⟨_, rfl⟩
  rw [hev] at HE
  simp only at HE
  go_enter Tryd.func21, Tryd.ntmps21
  go_wp2_with fail
  refine HE.out.mono ?_
  rintro e W1 ⟨rfl, hb1⟩
  have HB1 := Lib.hid hb1
  have HK1 := Lib.hid (HK.out.below hb1)
  have c8 := HK1.out.sk.c1
  have hcl := HK1.out.sk.sd.chans.1
  clear hb1
  by_cases h0 : er = 0
  · have hd0 : (er != 0) = false := by rw [bne_eq_false_iff_eq]; exact h0
    subst h0
    by_cases h1 : v < 1
    · have hd1 : decide (v < 1) = true := decide_eq_true h1
      have HV : Hid (rchanB E ev x = (0, 49)) := Lib.hid (by unfold rchanB; rw [hev]; simp [h1])
      go_wp2_with fail
      go_ret2
      exact ⟨ret2 (by rw [HV.out]) (by rw [HV.out]), HB1.out⟩
    · have hd1 : decide (v < 1) = false := decide_eq_false h1
      by_cases h2 : (E.s.chans.length : Int) < v
      · have hd2 : decide ((E.s.chans.length : Int) < v) = true := decide_eq_true h2
        have HV : Hid (rchanB E ev x = (0, 49)) := Lib.hid (by unfold rchanB; rw [hev]; simp [h2])
        go_wp2_with fail
        go_ret2
        exact ⟨ret2 (by rw [HV.out]) (by rw [HV.out]), HB1.out⟩
      · have hd2 : decide ((E.s.chans.length : Int) < v) = false := decide_eq_false h2
        have HV : Hid (rchanB E ev x = (v, 0)) := Lib.hid (by unfold rchanB; rw [hev]; simp [h1, h2])
        go_wp2_with fail
        go_ret2
        exact ⟨ret2 (by rw [HV.out]) (by rw [HV.out]), HB1.out⟩
  · have hd0 : (er != 0) = true := by rw [bne_iff_ne]; exact h0
    have HV : Hid (rchanB E ev x = (0, er)) := Lib.hid (by unfold rchanB; rw [hev]; simp [h0])
    go_wp2_with fail
    go_ret2
    exact ⟨ret2 (by rw [HV.out]) (by rw [HV.out]), HB1.out⟩
end Go.Proofs.YtbeikhgjkbnldaaDoor
/- How much stands in a channel. -/
namespace Go.Proofs.YtbeikhgjkbnldaaDoor
open Go.ChangeShapes Go.WideShapes Go.ChangeAt Go.RowKit
set_option linter.unusedVariables false
set_option linter.unusedSimpArgs false

theorem rchan_ok {E : EnvD} {ev : Int → Int × Int} {a : Int} (h : (rchanB E ev a).2 = 0) : ∃ k : Nat, (rchanB E ev a).1 = (k : Int) + 1 ∧ k < E.s.chans.length := by
  unfold rchanB at h ⊢
  split
  · rename_i h1
    rw [if_pos h1] at h
    exact absurd h h1
  · rename_i h1
    rw [if_neg h1] at h
    split
    · rename_i h2
      rw [if_pos h2] at h
      simp at h
    · rename_i h2
      exact ⟨((ev a).1 - 1).toNat, by show (ev a).1 = _; omega, by omega⟩
theorem chanNo_get {E : EnvD} {k : Nat} {c : ChanD} (h : E.s.chans[k]? = some c) : chanNo E ((k : Int) + 1) = c := by
  unfold chanNo
  rw [show ((k : Int) + 1 - 1).toNat = k by omega, h]; rfl
theorem shapeNo_get {E : EnvD} {c : ChanD} {s : ShapeD} (h : E.m.shapes[c.shape.toNat]? = some s) : shapeNo E c = s := by
  unfold shapeNo
  rw [h]; rfl

set_option maxHeartbeats 4000000 in
set_option maxRecDepth 100000 in
theorem roomC {B pe g a : Nat} {h : MH} {hs : SH} {ao : Option Addr} {ac : Nat} {E : EnvD} {ev : Int → Int × Int} {N : Nat} {x : ExprD} (w : World) (hk : Ek B w pe h hs ao ac E) (hok : Ok E) (he : EvC B pe h hs ao ac E ev N) (hx : exprAt B w g a x) (hg : g < B) (hop : 25 ≤ x.op ∧ x.op ≤ 29) (hx0 : 0 ≤ x.a) (hxN : x.a < N) :
    Calls Tryd.prog 31 #[.pointer (some ⟨pe, 0, none⟩), .pointer (some ⟨g, a, none⟩)] w fun e w' => e = .returned (.tuple #[.int .i64 (rroomB E ev x).1, .int .i64 (rroomB E ev x).2]) ∧ Below w.heap.size w w' := by
  have HK := Lib.hid hk
  have HO := Lib.hid hok
  have x2 := hx.c2
  have hgw : g < w.heap.size := by have := hk.leW; omega
  have HX := Lib.hid (fun W (hb : Below w.heap.size w W) => (hb.cell (p := ⟨g, a, none⟩) hgw).trans hx.c0)
  have HC := Lib.hid (chanC x.a w hk he hx0 hxN)
  clear hk hok he hx
  obtain ⟨⟨v, er⟩, hev⟩ : ∃ q, rchanB E ev x.a = q := ⟨_, rfl⟩
  rw [hev] at HC
  simp only at HC
  go_enter Tryd.func31, Tryd.ntmps31
  go_wp2_with fail
  refine HC.out.mono ?_
  rintro e W1 ⟨rfl, hb1⟩
  have HB1 := Lib.hid hb1
  have HK1 := Lib.hid (HK.out.below hb1)
  clear hb1 x2 HC
  by_cases h0 : er = 0
  · have hd0 : (er != 0) = false := by rw [bne_eq_false_iff_eq]; exact h0
    subst h0
    obtain ⟨k, hk1, hkl⟩ := rchan_ok (E := E) (ev := ev) (a := x.a) (by rw [hev])
    rw [hev] at hk1
    have hk2 : v = (k : Int) + 1 := hk1
    subst hk2
    obtain ⟨c, hc⟩ : ∃ s, E.s.chans[k]? = some s := ⟨_, List.getElem?_eq_getElem hkl⟩
    obtain ⟨s, hs, hs0, hs1⟩ := may_chan HO.out hc
    obtain ⟨ks, hks⟩ : ∃ q : Nat, c.shape = q := ⟨c.shape.toNat, by omega⟩
    have hV : rroomB E ev x = (roomOp x.op c.queue.length s.room, 0) := by
      unfold rroomB
      rw [hev, if_neg (by simp), chanNo_get hc, shapeNo_get hs]
    have HV := Lib.hid hV
    rw [hks, Int.toNat_natCast] at hs
    have hksl : (ks : Int) < E.m.shapes.length := by omega
    have hks0 : (0 : Int) ≤ ks := by omega
    have hkz : (0 : Int) ≤ (k : Int) + 1 - 1 := by omega
    have hki : (k : Int) + 1 - 1 < E.s.chans.length := by omega
    have hke : (k : Int) + 1 - 1 = k := by omega
    obtain ⟨g1, off1, ho1, hg1, hca⟩ := HK1.out.sk.sd.chans.get hc
    obtain ⟨g2, off2, ho2, hg2, hsa⟩ := HK1.out.ck.md.shapes.get hs
    have hcl := HK1.out.sk.sd.chans.1
    have hsl := HK1.out.ck.md.shapes.1
    have c8 := HK1.out.sk.c1
    have c2 := HK1.out.ck.c2
    rw [ho1] at c8
    rw [ho2] at c2
    have q0 := hca.c0
    rw [hks] at q0
    obtain ⟨qo, qc, q1, hq⟩ := hca.queue
    have hql := hq.1
    have r0 := hsa.c0
    have x0 := HX.out W1 HB1.out
    have hbn : Below w.heap.size w (W1.drewN 0) := bdrew HB1.out 0
    have HXW := HX
    clear hq hca hsa ho1 ho2 hs hs0 hs1 hks hc hV hev hk1 hbn HXW
    go_wp2_with fail
    go_quiet (fail)
    have HB2 : Hid (Below w.heap.size w (W1.drewN nq)) := Lib.hid (bdrew HB1.out nq)
    generalize W1.drewN nq = W2 at HB2 ⊢
    clear c8 c2 q0 q1 r0 x0
    have x0 := HX.out W2 HB2.out
    have hcs : x.op = 25 ∨ x.op = 26 ∨ x.op = 27 ∨ x.op = 28 ∨ x.op = 29 := by omega
    clear hop
    rcases hcs with e | e | e | e | e
    · rw [e] at x0 HV
      go_wp2_with fail
      go_ret2
      exact ⟨ret2 (by rw [HV.out]; rfl) (by rw [HV.out]), HB2.out⟩
    · rw [e] at x0 HV
      obtain ⟨b, hb⟩ : ∃ b, decide (s.room ≤ (c.queue.length : Int)) = b := ⟨_, rfl⟩
      have HZ : Hid (rroomB E ev x = (truthI b, 0)) := Lib.hid (by rw [HV.out, ← hb]; rfl)
      cases b
      · go_wp2_with fail
        refine (truthC false W2).mono ?_
        rintro e W3 ⟨rfl, rfl⟩
        go_wp2_with fail
        go_ret2
        exact ⟨ret2 (by rw [HZ.out]) (by rw [HZ.out]), HB2.out⟩
      · go_wp2_with fail
        refine (truthC true W2).mono ?_
        rintro e W3 ⟨rfl, rfl⟩
        go_wp2_with fail
        go_ret2
        exact ⟨ret2 (by rw [HZ.out]) (by rw [HZ.out]), HB2.out⟩
    · rw [e] at x0 HV
      by_cases hz : c.queue.length = 0
      · have hb : ((c.queue.length : Int) == 0) = true := by rw [beq_iff_eq]; omega
        have HZ : Hid (rroomB E ev x = (1, 0)) := Lib.hid (by rw [HV.out]; unfold roomOp; simp [hz]; rfl)
        clear hz
        go_wp2_with fail
        refine (truthC true W2).mono ?_
        rintro e W3 ⟨rfl, rfl⟩
        go_wp2_with fail
        go_ret2
        exact ⟨ret2 (by rw [HZ.out]; rfl) (by rw [HZ.out]), HB2.out⟩
      · have hb : ((c.queue.length : Int) == 0) = false := by rw [beq_eq_false_iff_ne]; omega
        have HZ : Hid (rroomB E ev x = (0, 0)) := Lib.hid (by rw [HV.out]; unfold roomOp; simp [hz]; rfl)
        clear hz
        go_wp2_with fail
        refine (truthC false W2).mono ?_
        rintro e W3 ⟨rfl, rfl⟩
        go_wp2_with fail
        go_ret2
        exact ⟨ret2 (by rw [HZ.out]; rfl) (by rw [HZ.out]), HB2.out⟩
    · rw [e] at x0 HV
      obtain ⟨b, hb⟩ : ∃ b, decide (s.room ≤ (c.queue.length : Int)) = b := ⟨_, rfl⟩
      have HZ : Hid (rroomB E ev x = (truthI (!b), 0)) := Lib.hid (by rw [HV.out, ← hb]; rfl)
      cases b
      · go_wp2_with fail
        refine (truthC true W2).mono ?_
        rintro e W3 ⟨rfl, rfl⟩
        go_wp2_with fail
        go_ret2
        exact ⟨ret2 (by rw [HZ.out]; rfl) (by rw [HZ.out]), HB2.out⟩
      · go_wp2_with fail
        refine (truthC false W2).mono ?_
        rintro e W3 ⟨rfl, rfl⟩
        go_wp2_with fail
        go_ret2
        exact ⟨ret2 (by rw [HZ.out]; rfl) (by rw [HZ.out]), HB2.out⟩
    · rw [e] at x0 HV
      by_cases hz : c.queue.length = 0
      · have hb : ((c.queue.length : Int) == 0) = true := by rw [beq_iff_eq]; omega
        have HZ : Hid (rroomB E ev x = (0, 0)) := Lib.hid (by rw [HV.out]; unfold roomOp; simp [hz]; rfl)
        clear hz
        go_wp2_with fail
        refine (truthC false W2).mono ?_
        rintro e W3 ⟨rfl, rfl⟩
        go_wp2_with fail
        go_ret2
        exact ⟨ret2 (by rw [HZ.out]; rfl) (by rw [HZ.out]), HB2.out⟩
      · have hb : ((c.queue.length : Int) == 0) = false := by rw [beq_eq_false_iff_ne]; omega
        have HZ : Hid (rroomB E ev x = (1, 0)) := Lib.hid (by rw [HV.out]; unfold roomOp; simp [hz]; rfl)
        clear hz
        go_wp2_with fail
        refine (truthC true W2).mono ?_
        rintro e W3 ⟨rfl, rfl⟩
        go_wp2_with fail
        go_ret2
        exact ⟨ret2 (by rw [HZ.out]; rfl) (by rw [HZ.out]), HB2.out⟩
  · have hd0 : (er != 0) = true := by rw [bne_iff_ne]; exact h0
    have HV : Hid (rroomB E ev x = (0, er)) := Lib.hid (by unfold rroomB; rw [hev]; simp [h0])
    go_wp2_with fail
    go_ret2
    exact ⟨ret2 (by rw [HV.out]) (by rw [HV.out]), HB1.out⟩
end Go.Proofs.YtbeikhgjkbnldaaDoor
