/- Layer 17's example, as data and in memory. -/
import Derived.Test.YtihkkjflfdbkkaaGreatDoorM27
import Derived.Test.YtihkkjflfdbkkaaGreatDoorM44
import Derived.Test.YtihkkjflfdbkkaaGreatDoorM37
import Derived.Test.YtihkkjflfdbkkaaGreatDoorM32
import Derived.Test.YtihkkjflfdbkkaaGreatDoorM05
import Derived.Test.YtihkkjflfdbkkaaGreatDoorM01
import Derived.Test.YtihkkjflfdbkkaaGreatDoorCards
import Derived.Test.YtihkkjflfdbkkaaGreatDoorTie
import Derived.Deep.DeepHandedRow
import Derived.Deep.DeepWitnessRowRef
import Derived.Lib.LaidIn
import Derived.Lib.LaidTab
import Derived.LaidLaws
import Derived.Stop.LaidErr
import Derived.Lib.SmallJoins
namespace Go.Proofs.YtihkkjflfdbkkaaGreatDoor
open Go.ChangeShapes Go.WideShapes Go.ChangeAt Go.RowKit
set_option linter.unusedVariables false
set_option linter.unusedSimpArgs false

def cTr : TransD := ⟨⟨8, -1, -1, 0, [], [], ByteArray.empty⟩, 0, 0⟩
def cLs : List LocD := [⟨[cTr], [], false, false, false, true, false⟩, ⟨[], [], false, false, false, false, false⟩]
def cPr : ProcD := ⟨ByteArray.empty, 0, [], [], cLs, 0, 1, 0, 1, -1⟩
def cmD : ModelD := ⟨[], [], [], [], [cPr], 0, []⟩
def csD : StateD := ⟨[], [], [], 0, -1, 0⟩
theorem cm_ok : stateE cmD csD = 0 := by decide +kernel
theorem cm_ended : endedB cmD csD = false := by decide +kernel
theorem cm_acc : accB cmD csD = true := by decide +kernel
def coT : Array Value := #[.int .i64 8, .int .i64 (-1), .int .i64 (-1), .int .i64 0, .slice none 0 0, .slice none 0 0, .string ⟨#[]⟩, .int .i64 0, .int .i64 0]
def coL (t : Nat) : Array Value := #[.slice (some ⟨t, 0, none⟩) 1 1, .slice none 0 0, .bool false, .bool false, .bool false, .bool true, .bool false, .slice none 0 0, .slice none 0 0, .bool false, .bool false, .bool false, .bool false, .bool false]
def coP (l : Nat) : Array Value := #[.string ⟨#[]⟩, .int .i64 0, .slice none 0 0, .slice none 0 0, .slice (some ⟨l, 0, none⟩) 2 2, .int .i64 0, .int .i64 1, .int .i64 0, .int .i64 1, .int .i64 (-1)]
structure Cm (W : World) (t l p : Nat) : Prop where
  b1 : W.heap[t]? = some (.cells coT 56 (0, 0))
  b2 : W.heap[l]? = some (.cells (coL t) 52 (0, 0))
  b3 : W.heap[p]? = some (.cells (coP l) 48 (0, 0))
def cmH (p : Nat) : MH := ⟨none, 0, none, 0, none, 0, none, 0, some ⟨p, 0, none⟩, 1, none, 0⟩
def csH : SH := ⟨none, 0, none, 0, none, 0⟩
section
variable {W W' : World} {t l p : Nat}
theorem Cm.below (k : Cm W t l p) (hb : Below W.heap.size W W') : Cm W' t l p :=
  ⟨(hb.block _ (lt_of_block k.b1)).trans k.b1, (hb.block _ (lt_of_block k.b2)).trans k.b2, (hb.block _ (lt_of_block k.b3)).trans k.b3⟩
theorem Cm.pl (k : Cm W t l p) : Pl p l t W :=
  ⟨lt_of_block k.b3, lt_of_block k.b2, lt_of_block k.b1, (cell_of_row _ _ 4 _ _ _ k.b3).trans rfl, (cell_of_row _ _ 0 _ _ _ k.b2).trans rfl, (cell_of_row _ _ 0 _ _ _ k.b1).trans rfl, (cell_of_row _ _ 7 _ _ _ k.b1).trans rfl⟩
theorem cRow {α : Type} {B : Nat} {g : Nat} {k : Nat} {R : Nat → Nat → α → Prop} {l : List α} (hg : g < B) (hl : l.length ≤ 100) (h : ∀ i (hi : i < l.length), R g (i * k) l[i]) : Row B (some ⟨g, 0, none⟩) k R l :=
  ⟨by omega, .inr ⟨g, 0, rfl, hg, fun i hi => by rw [Nat.zero_add]; exact h i hi⟩⟩
set_option maxRecDepth 100000 in
theorem Cm.md (k : Cm W t l p) : MD W.heap.size W (cmH p) cmD := by
  have ct : ∀ (j : Nat) (v : Value), coT[j]? = some v → W.cell? ⟨t, j, none⟩ = some v := fun j v hv => (cell_of_row _ _ j _ _ _ k.b1).trans hv
  have cl : ∀ (j : Nat) (v : Value), (coL t)[j]? = some v → W.cell? ⟨l, j, none⟩ = some v := fun j v hv => (cell_of_row _ _ j _ _ _ k.b2).trans hv
  have cp : ∀ (j : Nat) (v : Value), (coP l)[j]? = some v → W.cell? ⟨p, j, none⟩ = some v := fun j v hv => (cell_of_row _ _ j _ _ _ k.b3).trans hv
  have nilS : ∀ {α : Type} (g a k : Nat) (R : Nat → Nat → α → Prop), W.cell? ⟨g, a, none⟩ = some (.slice none 0 0) → Sli W.heap.size W g a k R [] := fun g a k R hc => ⟨none, 0, hc, Row.nil _ _ _ _⟩
  have T1 : Row W.heap.size (some ⟨t, 0, none⟩) 9 (transAt W.heap.size W) [cTr] := row_one1 (lt_of_block k.b1) ⟨⟨ct _ _ rfl, ct _ _ rfl, ct _ _ rfl, ct _ _ rfl, nilS _ _ _ _ (ct _ _ rfl), nilS _ _ _ _ (ct _ _ rfl), ct _ _ rfl⟩, ct _ _ rfl, ct _ _ rfl⟩
  have LS : Row W.heap.size (some ⟨l, 0, none⟩) 7 (locAt W.heap.size W) cLs := cRow (lt_of_block k.b2) (by decide) (fun j hj => by
    have hj' : j = 0 ∨ j = 1 := by have : j < 2 := hj; omega
    rcases hj' with rfl | rfl
    · exact ⟨⟨_, _, cl 0 _ rfl, T1⟩, nilS _ _ _ _ (cl 1 _ rfl), cl 2 _ rfl, cl 3 _ rfl, cl 4 _ rfl, cl 5 _ rfl, cl 6 _ rfl⟩
    · exact ⟨nilS _ _ _ _ (cl 7 _ rfl), nilS _ _ _ _ (cl 8 _ rfl), cl 9 _ rfl, cl 10 _ rfl, cl 11 _ rfl, cl 12 _ rfl, cl 13 _ rfl⟩)
  have P : procAt W.heap.size W p 0 cPr := ⟨cp _ _ rfl, cp _ _ rfl, nilS _ _ _ _ (cp 2 _ rfl), nilS _ _ _ _ (cp 3 _ rfl), ⟨_, _, cp 4 _ rfl, LS⟩, cp _ _ rfl, cp _ _ rfl, cp _ _ rfl, cp _ _ rfl, cp _ _ rfl⟩
  exact ⟨Row.nil _ _ _ _, Row.nil _ _ _ _, Row.nil _ _ _ _, Row.nil _ _ _ _, row_one1 (lt_of_block k.b3) P, Row.nil _ _ _ _⟩
theorem cs_sd (W : World) : SD W.heap.size W csH csD := ⟨Row.nil _ _ _ _, Row.nil _ _ _ _, Row.nil _ _ _ _⟩
theorem cm_mV (p : Nat) : mV (cmH p) cmD = .agg (cM p) := rfl
theorem cs_sV : sV csH csD = .agg cS := rfl
theorem Cm.cs (k : Cm W t l p) : Cs W p := by
  refine ⟨fun W' hb => ?_, fun W' hb => ?_⟩
  · have h := stateCheckC W' (Nat.le_refl _) (k.below hb).md (cs_sd W')
    rw [cm_ok, cm_mV, cs_sV] at h
    exact h
  · have h := copyC W' (Nat.le_refl _) (cs_sd W') ⟨by decide, by decide, by decide, fun c hc => (by cases hc), fun q hq => (by cases hq)⟩
    rw [cs_sV] at h
    refine h.mono ?_
    rintro e w' ⟨hh, rfl, -, hb2⟩
    exact ⟨⟨hh.go, hh.gc, hh.co, hh.cc, hh.po, hh.pc, rfl⟩, hb2⟩
theorem Cm.ended (k : Cm W t l p) : Calls Tryz.prog 7 #[.agg (cM p), .agg cS] W fun e w' => e = .returned (.tuple #[.bool false, .int .i64 0]) ∧ Below W.heap.size W w' := by
  have h := endedC W k.md (cs_sd W)
  have e : markV cmD csD endedB = false := (if_pos cm_ok).trans cm_ended
  rw [e, cm_ok, cm_mV, cs_sV] at h
  exact h
theorem Cm.accepts (k : Cm W t l p) : Calls Tryz.prog 8 #[.agg (cM p), .agg cS] W fun e w' => e = .returned (.tuple #[.bool true, .int .i64 0]) ∧ Below W.heap.size W w' := by
  have h := acceptsC W k.md (cs_sd W)
  have e : markV cmD csD accB = true := (if_pos cm_ok).trans cm_acc
  rw [e, cm_ok, cm_mV, cs_sV] at h
  exact h
end
end Go.Proofs.YtihkkjflfdbkkaaGreatDoor
/- Layer 17's example holds. -/
namespace Go.Proofs.YtihkkjflfdbkkaaGreatDoor
open Go.ChangeShapes Go.WideShapes Go.ChangeAt Go.RowKit
set_option linter.unusedVariables false
set_option linter.unusedSimpArgs false

set_option maxRecDepth 100000 in
set_option maxHeartbeats 8000000 in
theorem shownC (w : World) : Calls Tryz.prog 5 #[] w fun e w' => e = .returned (.bool true) ∧ Below w.heap.size w w' := by
  go_enter Tryz.func5, Tryz.ntmps5
  go_upto_region 4 with fail
  have HCM : Hid (Cm (allocs w [.cells coT 56, .cells coT 56, .cells (coL (w.heap.size + 1)) 52, .cells (coP (w.heap.size + 1 + 1)) 48, .cells (cM (w.heap.size + 1 + 1 + 1)) 29, .cells cS 33]) (w.heap.size + 1) (w.heap.size + 1 + 1) (w.heap.size + 1 + 1 + 1)) := Lib.hid ⟨allocs_at (k := 1) rfl, allocs_at (k := 2) rfl, allocs_at (k := 3) rfl⟩
  have HBM : Hid ((allocs w [.cells coT 56, .cells coT 56, .cells (coL (w.heap.size + 1)) 52, .cells (coP (w.heap.size + 1 + 1)) 48, .cells (cM (w.heap.size + 1 + 1 + 1)) 29, .cells cS 33]).heap[w.heap.size + 1 + 1 + 1 + 1]? = some (.cells (cM (w.heap.size + 1 + 1 + 1)) 29 (0, 0))) := Lib.hid (allocs_at (k := 4) rfl)
  have HBS : Hid ((allocs w [.cells coT 56, .cells coT 56, .cells (coL (w.heap.size + 1)) 52, .cells (coP (w.heap.size + 1 + 1)) 48, .cells (cM (w.heap.size + 1 + 1 + 1)) 29, .cells cS 33]).heap[w.heap.size + 1 + 1 + 1 + 1 + 1]? = some (.cells cS 33 (0, 0))) := Lib.hid (allocs_at (k := 5) rfl)
  have HB0 : Hid (Below w.heap.size w (allocs w [.cells coT 56, .cells coT 56, .cells (coL (w.heap.size + 1)) 52, .cells (coP (w.heap.size + 1 + 1)) 48, .cells (cM (w.heap.size + 1 + 1 + 1)) 29, .cells cS 33])) := Lib.hid (allocs_below _ _ _ (Nat.le_refl _))
  change Code.wp _ _ _ _ (allocs w [.cells coT 56, .cells coT 56, .cells (coL (w.heap.size + 1)) 52, .cells (coP (w.heap.size + 1 + 1)) 48, .cells (cM (w.heap.size + 1 + 1 + 1)) 29, .cells cS 33])
  generalize allocs w [.cells coT 56, .cells coT 56, .cells (coL (w.heap.size + 1)) 52, .cells (coP (w.heap.size + 1 + 1)) 48, .cells (cM (w.heap.size + 1 + 1 + 1)) 29, .cells cS 33] = W1 at HCM HBM HBS HB0 ⊢
  generalize w.heap.size + 1 + 1 + 1 + 1 + 1 = k5 at HCM HBM HBS ⊢
  generalize w.heap.size + 1 + 1 + 1 + 1 = k4 at HCM HBM HBS ⊢
  generalize w.heap.size + 1 + 1 + 1 = k3 at HCM HBM HBS ⊢
  generalize w.heap.size + 1 + 1 = k2 at HCM HBM HBS ⊢
  generalize w.heap.size + 1 = k1 at HCM HBM HBS ⊢
  have HIM : Hid ((Tryz.prog.info? 29).map (·.size) = some (cM k3).size) := Lib.hid (by show _ = some 7; kernel_rfl)
  have HIS : Hid ((Tryz.prog.info? 33).map (·.size) = some cS.size) := Lib.hid (by show _ = some 6; kernel_rfl)
  go_wp2_with (first | refine wpList_load_row rfl _ _ rfl _ rfl _ (cM k3) _ _ HBM.out Tryz.underlying29 rfl HIM.out ?_ | refine wpList_load_row rfl _ _ rfl _ rfl _ cS _ _ HBS.out Tryz.underlying33 rfl HIS.out ?_)
  refine (claimSteps W1 HCM.out.pl HCM.out.cs).mono ?_
  rintro e W2 ⟨⟨g, c, rfl, e0, e1, e2, e3, e4, e5, e6, hg⟩, hb2⟩
  have HCM2 := Lib.hid (HCM.out.below hb2)
  have HBM2 := Lib.hid ((hb2.block _ (lt_of_block HBM.out)).trans HBM.out)
  have HBS2 := Lib.hid ((hb2.block _ (lt_of_block HBS.out)).trans HBS.out)
  have HB2 := Lib.hid (HB0.out.trans (hb2.mono HB0.out.size))
  have HE := Lib.hid (And.intro hg (And.intro e0 (And.intro e1 (And.intro e2 (And.intro e3 (And.intro e4 (And.intro e5 e6)))))))
  clear hb2 e0 e1 e2 e3 e4 e5 e6 hg HCM HBM HBS HB0
  go_wp2_with (first | refine wpList_load_row rfl _ _ rfl _ rfl _ (cM k3) _ _ HBM2.out Tryz.underlying29 rfl HIM.out ?_ | refine wpList_load_row rfl _ _ rfl _ rfl _ cS _ _ HBS2.out Tryz.underlying33 rfl HIS.out ?_)
  refine HCM2.out.accepts.mono ?_
  rintro e W3 ⟨rfl, hb3⟩
  have HCM3 := Lib.hid (HCM2.out.below hb3)
  have HBM3 := Lib.hid ((hb3.block _ (lt_of_block HBM2.out)).trans HBM2.out)
  have HBS3 := Lib.hid ((hb3.block _ (lt_of_block HBS2.out)).trans HBS2.out)
  have HB3 := Lib.hid (HB2.out.trans (hb3.mono HB2.out.size))
  have HG3 : Hid (Below W2.heap.size W2 W3) := Lib.hid hb3
  clear hb3 HCM2 HBM2 HBS2 HB2
  go_wp2_with (first | refine wpList_load_row rfl _ _ rfl _ rfl _ (cM k3) _ _ HBM3.out Tryz.underlying29 rfl HIM.out ?_ | refine wpList_load_row rfl _ _ rfl _ rfl _ cS _ _ HBS3.out Tryz.underlying33 rfl HIS.out ?_)
  refine HCM3.out.ended.mono ?_
  rintro e W4 ⟨rfl, hb4⟩
  have HB4 := Lib.hid (HB3.out.trans (hb4.mono HB3.out.size))
  have hG : Below W2.heap.size W2 W4 := HG3.out.trans (hb4.mono HG3.out.size)
  have e0 := (hG.cell (p := ⟨g, 0, none⟩) HE.out.1).trans HE.out.2.1
  have e1 := (hG.cell (p := ⟨g, 1, none⟩) HE.out.1).trans HE.out.2.2.1
  have e2 := (hG.cell (p := ⟨g, 2, none⟩) HE.out.1).trans HE.out.2.2.2.1
  have e3 := (hG.cell (p := ⟨g, 3, none⟩) HE.out.1).trans HE.out.2.2.2.2.1
  have e4 := (hG.cell (p := ⟨g, 4, none⟩) HE.out.1).trans HE.out.2.2.2.2.2.1
  have e5 := (hG.cell (p := ⟨g, 5, none⟩) HE.out.1).trans HE.out.2.2.2.2.2.2.1
  have e6 := (hG.cell (p := ⟨g, 6, none⟩) HE.out.1).trans HE.out.2.2.2.2.2.2.2
  clear hb4 hG HE HG3 HCM3 HBM3 HBS3 HB3 HIM HIS
  go_wp2_with fail
  go_ret
  exact ⟨rfl, HB4.out⟩
end Go.Proofs.YtihkkjflfdbkkaaGreatDoor
/- A model that came in: no row of numbers is too long for a machine. -/
namespace Go.Proofs.YtihkkjflfdbkkaaGreatDoor
open Go.ChangeShapes Go.WideShapes Go.ChangeAt Go.RowKit
set_option linter.unusedVariables false
variable {H : Type} {enc : TypeId × Value → H} {W : World} {base : Nat} {sp : Nat → Bool} {hd : Bool} {fuel : Nat}

def SArgsB (m : ModelD) : Prop := ∀ p ∈ m.procs, ∀ l ∈ p.locs, ∀ t ∈ l.out, t.s.args.length ≤ 17592186044416
theorem row_both {α : Type} {B : Nat} {o : Option Addr} {k : Nat} {R : Nat → Nat → α → Prop} {P : α → Prop} {l : List α} (h : Row B o k (fun g a x => R g a x ∧ P x) l) : Row B o k R l ∧ ∀ x ∈ l, P x := by
  refine ⟨h.mono fun _ _ _ _ h => h.1, fun x hx => ?_⟩
  obtain ⟨i, hi, rfl⟩ := List.mem_iff_getElem.1 hx
  obtain ⟨g, off, -, -, h2⟩ := h.cell hi
  exact h2.2
theorem opens_sliP {α : Type} {R : Nat → Nat → α → Prop} {P : α → Prop} {t e : TypeId} {kk bb : Nat} (ht : Tryz.prog.underlying t = some (.slice e)) (hk : Tryz.prog.cellsOf e = kk) (hk1 : 0 < kk) (hbb : Tryz.prog.bytesOf e = bb) (hb1 : 0 < bb) (he : Opens enc W base sp hd e (fun g a x => R g a x ∧ P x)) :
    Opens enc W base sp hd t (fun g a (l : List α) => Sli W.heap.size W g a kk R l ∧ ∀ x ∈ l, P x) := by
  intro g off h
  obtain ⟨l, o, c, h1, h2⟩ := opens_sli ht hk hk1 hbb hb1 he g off h
  exact ⟨l, ⟨o, c, h1, (row_both h2).1⟩, (row_both h2).2⟩
set_option maxRecDepth 100000 in
theorem opens_intsB : Opens enc W base sp hd 25 (fun g a (l : List Int) => Sli W.heap.size W g a 1 (intAt W) l ∧ l.length ≤ 17592186044416) := by
  rintro g off ⟨m, ds, y, hl, h, hw⟩
  obtain ⟨o, n, c, hcs, hnb, -⟩ := open_rowS Tryz.underlying25 c_int.1 (by decide) c_int.2 h hw
  obtain ⟨o', l, c', hcs', hr⟩ := open_sli Tryz.underlying25 c_int.1 (by decide) c_int.2 (by decide) (opens_int Tryz.underlying3) h hw
  have hn : n = l.length := by
    rw [hcs] at hcs'
    injection hcs' with e
    injection e
  subst hcs'
  have h2 : reachBytes = 140737488351232 := rfl
  exact ⟨l, ⟨o', c', hl 0 (by simp), hr⟩, by omega⟩
theorem opens_exprB : Opens enc W base sp hd 74 (fun g a x => exprAt W.heap.size W g a x ∧ x.args.length ≤ 17592186044416) := by
  intro g off h
  have P := open_parts Tryz.underlying74 h
  obtain ⟨x0, h0⟩ := opens_int Tryz.underlying3 _ _ (P 0 _ rfl)
  obtain ⟨x1, h1⟩ := opens_int Tryz.underlying2 _ _ (P 1 _ rfl)
  obtain ⟨x2, h2⟩ := opens_int Tryz.underlying3 _ _ (P 2 _ rfl)
  obtain ⟨x3, h3⟩ := opens_int Tryz.underlying3 _ _ (P 3 _ rfl)
  obtain ⟨x4, h4⟩ := opens_int Tryz.underlying3 _ _ (P 4 _ rfl)
  obtain ⟨x5, h5⟩ := opens_var _ _ (P 5 _ rfl)
  obtain ⟨x6, h6, hb⟩ := opens_intsB _ _ (P 6 _ rfl)
  obtain ⟨x7, h7⟩ := opens_ints _ _ (P 7 _ rfl)
  exact ⟨⟨x0, x1, x2, x3, x4, x5, x6, x7⟩, ⟨h0, h1, h2, h3, h4, h5, h6, h7⟩, hb⟩
theorem opens_stmtB : Opens enc W base sp hd 54 (fun g a s => stmtAt W.heap.size W g a s ∧ s.args.length ≤ 17592186044416) := by
  intro g off h
  have P := open_parts Tryz.underlying54 h
  obtain ⟨x0, h0⟩ := opens_int Tryz.underlying3 _ _ (P 0 _ rfl)
  obtain ⟨x1, h1⟩ := opens_int Tryz.underlying3 _ _ (P 1 _ rfl)
  obtain ⟨x2, h2⟩ := opens_int Tryz.underlying3 _ _ (P 2 _ rfl)
  obtain ⟨x3, h3⟩ := opens_int Tryz.underlying3 _ _ (P 3 _ rfl)
  obtain ⟨x4, h4, hb⟩ := opens_intsB _ _ (P 4 _ rfl)
  obtain ⟨x5, h5⟩ := opens_ints _ _ (P 5 _ rfl)
  obtain ⟨x6, h6⟩ := opens_str Tryz.underlying9 _ _ (P 6 _ rfl)
  exact ⟨⟨x0, x1, x2, x3, x4, x5, x6⟩, ⟨h0, h1, h2, h3, h4, h5, h6⟩, hb⟩
def TrB (t : TransD) : Prop := t.s.args.length ≤ 17592186044416
theorem opens_transB : Opens enc W base sp hd 56 (fun g a t => transAt W.heap.size W g a t ∧ TrB t) := by
  intro g off h
  have P := open_parts Tryz.underlying56 h
  obtain ⟨x0, h0, hb⟩ := opens_stmtB _ _ (P 0 _ rfl)
  obtain ⟨x1, h1⟩ := opens_int Tryz.underlying3 _ _ (P 1 _ rfl)
  obtain ⟨x2, h2⟩ := opens_int Tryz.underlying3 _ _ (P 2 _ rfl)
  exact ⟨⟨x0, x1, x2⟩, ⟨h0, h1, h2⟩, hb⟩
theorem opens_transsB : Opens enc W base sp hd 49 (fun g a (l : List TransD) => Sli W.heap.size W g a 9 (transAt W.heap.size W) l ∧ ∀ t ∈ l, TrB t) := opens_sliP Tryz.underlying49 (by kernel_rfl) (by decide) (bb := 112) (by kernel_rfl) (by decide) opens_transB
def LcB (l : LocD) : Prop := ∀ t ∈ l.out, TrB t
theorem opens_locB : Opens enc W base sp hd 52 (fun g a l => locAt W.heap.size W g a l ∧ LcB l) := by
  intro g off h
  have P := open_parts Tryz.underlying52 h
  obtain ⟨x0, h0, hb⟩ := opens_transsB _ _ (P 0 _ rfl)
  obtain ⟨x1, h1⟩ := opens_escs _ _ (P 1 _ rfl)
  obtain ⟨x2, h2⟩ := opens_bool Tryz.underlying4 _ _ (P 2 _ rfl)
  obtain ⟨x3, h3⟩ := opens_bool Tryz.underlying4 _ _ (P 3 _ rfl)
  obtain ⟨x4, h4⟩ := opens_bool Tryz.underlying4 _ _ (P 4 _ rfl)
  obtain ⟨x5, h5⟩ := opens_bool Tryz.underlying4 _ _ (P 5 _ rfl)
  obtain ⟨x6, h6⟩ := opens_bool Tryz.underlying4 _ _ (P 6 _ rfl)
  exact ⟨⟨x0, x1, x2, x3, x4, x5, x6⟩, ⟨h0, h1, h2, h3, h4, h5, h6⟩, hb⟩
theorem opens_locsB : Opens enc W base sp hd 46 (fun g a (l : List LocD) => Sli W.heap.size W g a 7 (locAt W.heap.size W) l ∧ ∀ x ∈ l, LcB x) := opens_sliP Tryz.underlying46 (by kernel_rfl) (by decide) (bb := 56) (by kernel_rfl) (by decide) opens_locB
def PrB (p : ProcD) : Prop := ∀ l ∈ p.locs, LcB l
set_option maxRecDepth 100000 in
theorem opens_procB : Opens enc W base sp hd 48 (fun g a p => procAt W.heap.size W g a p ∧ PrB p) := by
  intro g off h
  have P := open_parts Tryz.underlying48 h
  obtain ⟨x0, h0⟩ := opens_str Tryz.underlying9 _ _ (P 0 _ rfl)
  obtain ⟨x1, h1⟩ := opens_int Tryz.underlying3 _ _ (P 1 _ rfl)
  obtain ⟨x2, h2⟩ := opens_tys _ _ (P 2 _ rfl)
  obtain ⟨x3, h3⟩ := opens_int64s _ _ (P 3 _ rfl)
  obtain ⟨x4, h4, hb⟩ := opens_locsB _ _ (P 4 _ rfl)
  obtain ⟨x5, h5⟩ := opens_int Tryz.underlying3 _ _ (P 5 _ rfl)
  obtain ⟨x6, h6⟩ := opens_int Tryz.underlying3 _ _ (P 6 _ rfl)
  obtain ⟨x7, h7⟩ := opens_int Tryz.underlying3 _ _ (P 7 _ rfl)
  obtain ⟨x8, h8⟩ := opens_int Tryz.underlying3 _ _ (P 8 _ rfl)
  obtain ⟨x9, h9⟩ := opens_int Tryz.underlying3 _ _ (P 9 _ rfl)
  exact ⟨⟨x0, x1, x2, x3, x4, x5, x6, x7, x8, x9⟩, ⟨h0, h1, h2, h3, h4, h5, h6, h7, h8, h9⟩, hb⟩
set_option maxRecDepth 100000 in
/-- A model, by value. -/
theorem open_modelB {v : Value} {r : Reach} {b0 : Nat} {d : DataW H} {p : List MemPlace} (hv : Value.okWide Tryz.prog W r b0 29 v) (h : DataW.Trod enc Tryz.prog W base sp hd 29 v d p) (hw : Fits 29 d) : ∃ h m, v = mV h m ∧ MD W.heap.size W h m ∧ ArgsB m ∧ SArgsB m := by
  obtain ⟨cs, rfl, hsz⟩ := okWide_struct Tryz.underlying29 hv
  obtain ⟨l⟩ := cs
  have hC : Tryz.prog.cellsOf 29 = 7 := by kernel_rfl
  have hl : l.length = 7 := hsz.trans hC
  obtain ⟨fu, hf⟩ := h
  have P := open_fits Tryz.underlying29 hf hw
  obtain ⟨n0, y0, p0, w0⟩ := P 0 _ rfl
  obtain ⟨n1, y1, p1, w1⟩ := P 1 _ rfl
  obtain ⟨n2, y2, p2, w2⟩ := P 2 _ rfl
  obtain ⟨n3, y3, p3, w3⟩ := P 3 _ rfl
  obtain ⟨n4, y4, p4, w4⟩ := P 4 _ rfl
  obtain ⟨n5, y5, p5, w5⟩ := P 5 _ rfl
  obtain ⟨n6, y6, p6, w6⟩ := P 6 _ rfl
  clear P
  obtain ⟨o0, l0, c0, e0, r0⟩ := open_sli Tryz.underlying22 (kk := 2) (by kernel_rfl) (by decide) (bb := 16) (by kernel_rfl) (by decide) opens_ty p0 w0
  obtain ⟨o1, l1, c1, e1, r1⟩ := open_sli Tryz.underlying23 c_int64.1 (by decide) c_int64.2 (by decide) (opens_int Tryz.underlying2) p1 w1
  obtain ⟨o2, l2, c2, e2, r2⟩ := open_sli Tryz.underlying24 (kk := 2) (by kernel_rfl) (by decide) (bb := 32) (by kernel_rfl) (by decide) opens_shape p2 w2
  obtain ⟨o3, l3, c3, e3, r3⟩ := open_sli Tryz.underlying25 c_int.1 (by decide) c_int.2 (by decide) (opens_int Tryz.underlying3) p3 w3
  obtain ⟨o4, l4, c4, e4, r4⟩ := open_sli Tryz.underlying26 (kk := 10) (by kernel_rfl) (by decide) (bb := 136) (by kernel_rfl) (by decide) opens_procB p4 w4
  obtain ⟨v5, e5, _, _⟩ := DataW.trod_int Tryz.underlying3 p5
  obtain ⟨o6, l6, c6, e6, r6⟩ := open_sli Tryz.underlying27 (kk := 12) (by kernel_rfl) (by decide) (bb := 144) (by kernel_rfl) (by decide) opens_exprB p6 w6
  have f0 := (one_cs (l := l) (o := 0) (by omega) (by kernel_rfl)).symm.trans e0
  have f1 := (one_cs (l := l) (o := 1) (by omega) (by kernel_rfl)).symm.trans e1
  have f2 := (one_cs (l := l) (o := 2) (by omega) (by kernel_rfl)).symm.trans e2
  have f3 := (one_cs (l := l) (o := 3) (by omega) (by kernel_rfl)).symm.trans e3
  have f4 := (one_cs (l := l) (o := 4) (by omega) (by kernel_rfl)).symm.trans e4
  have f5 := (one_cs (l := l) (o := 5) (by omega) (by kernel_rfl)).symm.trans e5
  have f6 := (one_cs (l := l) (o := 6) (by omega) (by kernel_rfl)).symm.trans e6
  clear e0 e1 e2 e3 e4 e5 e6 p0 p1 p2 p3 p4 p5 p6 w0 w1 w2 w3 w4 w5 w6 hf hw hsz hv
  obtain ⟨a0, a1, a2, a3, a4, a5, a6, rfl⟩ := seven_of hl
  simp only [List.getElem_cons_zero, List.getElem_cons_succ, List.cons.injEq, and_true] at f0 f1 f2 f3 f4 f5 f6
  subst f0 f1 f2 f3 f4 f5 f6
  exact ⟨⟨o0, c0, o1, c1, o2, c2, o3, c3, o4, c4, o6, c6⟩, ⟨l0, l1, l2, l3, l4, v5, l6⟩, rfl, ⟨r0, r1, r2, r3, (row_both r4).1, (row_both r6).1⟩, fun x hx => (row_both r6).2 x hx, fun p hp l hl t ht => (row_both r4).2 p hp l hl t ht⟩
end Go.Proofs.YtihkkjflfdbkkaaGreatDoor
/- A state that came in, opened; the pids of a row of steps. -/
namespace Go.Proofs.YtihkkjflfdbkkaaGreatDoor
open Go.ChangeShapes Go.WideShapes Go.ChangeAt Go.RowKit
set_option linter.unusedVariables false
set_option linter.unusedSimpArgs false
set_option maxRecDepth 100000
variable {H : Type} {enc : TypeId × Value → H} {W : World} {base : Nat} {sp : Nat → Bool} {hd : Bool} {fuel : Nat}

theorem opens_msg : Opens enc W base sp hd 102 (fun g a l => msgAt W.heap.size W g a l) := opens_sli Tryz.underlying102 c_int64.1 (by decide) c_int64.2 (by decide) (opens_int Tryz.underlying2)
theorem opens_msgs : Opens enc W base sp hd 99 (fun g a l => Sli W.heap.size W g a 1 (msgAt W.heap.size W) l) := opens_sli Tryz.underlying99 (by kernel_rfl) (by decide) (bb := 24) (by kernel_rfl) (by decide) opens_msg
theorem opens_chan : Opens enc W base sp hd 101 (chanAt W.heap.size W) := by
  intro g off h
  have P := open_parts Tryz.underlying101 h
  obtain ⟨x0, h0⟩ := opens_int Tryz.underlying3 _ _ (P 0 _ rfl)
  obtain ⟨x1, h1⟩ := opens_msgs _ _ (P 1 _ rfl)
  exact ⟨⟨x0, x1⟩, h0, h1⟩
theorem opens_process : Opens enc W base sp hd 66 (processAt W.heap.size W) := by
  intro g off h
  have P := open_parts Tryz.underlying66 h
  obtain ⟨x0, h0⟩ := opens_int Tryz.underlying3 _ _ (P 0 _ rfl)
  obtain ⟨x1, h1⟩ := opens_int Tryz.underlying3 _ _ (P 1 _ rfl)
  obtain ⟨x2, h2⟩ := opens_int Tryz.underlying3 _ _ (P 2 _ rfl)
  obtain ⟨x3, h3⟩ := opens_int64s _ _ (P 3 _ rfl)
  exact ⟨⟨x0, x1, x2, x3⟩, h0, h1, h2, h3⟩
theorem six_of {α : Type} {l : List α} (h : l.length = 6) : ∃ a b c d e f, l = [a, b, c, d, e, f] := by
  match l, h with
  | [a, b, c, d, e, f], _ => exact ⟨a, b, c, d, e, f, rfl⟩
/-- A state's cells. -/
theorem open_stateL {l : List Value} {y : DataW H × List MemPlace} (hl : l.length = 6) (h : DataW.trod enc Tryz.prog W base sp hd fuel 33 l = some y) (hw : Fits 33 y.1) : ∃ h s, l = (sCells h s).toList ∧ SD W.heap.size W h s := by
  have P := open_fits Tryz.underlying33 h hw
  obtain ⟨n0, y0, p0, w0⟩ := P 0 _ rfl
  obtain ⟨n1, y1, p1, w1⟩ := P 1 _ rfl
  obtain ⟨n2, y2, p2, w2⟩ := P 2 _ rfl
  obtain ⟨n3, y3, p3, w3⟩ := P 3 _ rfl
  obtain ⟨n4, y4, p4, w4⟩ := P 4 _ rfl
  obtain ⟨n5, y5, p5, w5⟩ := P 5 _ rfl
  clear P
  obtain ⟨o0, l0, c0, e0, r0⟩ := open_sli Tryz.underlying23 c_int64.1 (by decide) c_int64.2 (by decide) (opens_int Tryz.underlying2) p0 w0
  obtain ⟨o1, l1, c1, e1, r1⟩ := open_sli Tryz.underlying30 (kk := 2) (by kernel_rfl) (by decide) (bb := 32) (by kernel_rfl) (by decide) opens_chan p1 w1
  obtain ⟨o2, l2, c2, e2, r2⟩ := open_sli Tryz.underlying31 (kk := 4) (by kernel_rfl) (by decide) (bb := 48) (by kernel_rfl) (by decide) opens_process p2 w2
  obtain ⟨v3, e3, _, _⟩ := DataW.trod_int Tryz.underlying3 p3
  obtain ⟨v4, e4, _, _⟩ := DataW.trod_int Tryz.underlying3 p4
  obtain ⟨v5, e5, _, _⟩ := DataW.trod_int Tryz.underlying3 p5
  have f0 := (one_cs (l := l) (o := 0) (by omega) (by kernel_rfl)).symm.trans e0
  have f1 := (one_cs (l := l) (o := 1) (by omega) (by kernel_rfl)).symm.trans e1
  have f2 := (one_cs (l := l) (o := 2) (by omega) (by kernel_rfl)).symm.trans e2
  have f3 := (one_cs (l := l) (o := 3) (by omega) (by kernel_rfl)).symm.trans e3
  have f4 := (one_cs (l := l) (o := 4) (by omega) (by kernel_rfl)).symm.trans e4
  have f5 := (one_cs (l := l) (o := 5) (by omega) (by kernel_rfl)).symm.trans e5
  clear e0 e1 e2 e3 e4 e5 p0 p1 p2 p3 p4 p5 w0 w1 w2 w3 w4 w5 h hw
  obtain ⟨a0, a1, a2, a3, a4, a5, rfl⟩ := six_of hl
  simp only [List.getElem_cons_zero, List.getElem_cons_succ, List.cons.injEq, and_true] at f0 f1 f2 f3 f4 f5
  subst f0 f1 f2 f3 f4 f5
  exact ⟨⟨o0, c0, o1, c1, o2, c2⟩, ⟨l0, l1, l2, v3, v4, v5⟩, rfl, r0, r1, r2⟩
/-- A state, by value. -/
theorem open_state {v : Value} {r : Reach} {b0 : Nat} {d : DataW H} {p : List MemPlace} (hv : Value.okWide Tryz.prog W r b0 33 v) (h : DataW.Trod enc Tryz.prog W base sp hd 33 v d p) (hw : Fits 33 d) : ∃ h s, v = sV h s ∧ SD W.heap.size W h s := by
  obtain ⟨cs, rfl, hsz⟩ := okWide_struct Tryz.underlying33 hv
  obtain ⟨l⟩ := cs
  have hC : Tryz.prog.cellsOf 33 = 6 := by kernel_rfl
  have hl : l.length = 6 := hsz.trans hC
  obtain ⟨fu, hf⟩ := h
  obtain ⟨hs, s, e, hsd⟩ := open_stateL hl hf hw
  subst e
  exact ⟨hs, s, rfl, hsd⟩
end Go.Proofs.YtihkkjflfdbkkaaGreatDoor
/- What the row's list gives, and a world in which it is met. -/
namespace Go.Proofs.YtihkkjflfdbkkaaGreatDoor
open Go.ChangeShapes Go.WideShapes Go.ChangeAt Go.RowKit
set_option linter.unusedVariables false
set_option linter.unusedSimpArgs false

theorem own : ownKnob Tryz.prog.godebug = none := by kernel_rfl
theorem laidOut : laidOutB Tryz.prog = true := by kernel_rfl
abbrev laidL : List (String × DataW Unit) := Rows.claimMarksRow.laid
/-! ### A world for the witness -/
def lit1 : DataW Unit → Value
  | .lit (.int k z) => .int k z
  | _ => undef
def row1 : DataW Unit → List Value
  | .agg l => l.map lit1
  | _ => []
noncomputable def laidWorld (os : Os) : World :=
  let w0 := World.holding Tryz.prog os ⟨#[], #[], []⟩
  let put (h : Array Obj) (g : Nat) (cs : Array Value) : Array Obj := h.modify g fun
    | .cells _ t frozen => .cells cs t frozen
    | o => o
  let h1 := put w0.heap 1 (row1 Rows.laid_internal_strconv_uint64pow10).toArray
  let h2 := put h1 2 (row1 Rows.laid_math_bits_deBruijn32tab).toArray
  let h3 := put h2 3 (row1 Rows.laid_math_bits_deBruijn64tab).toArray
  let h4 := put h3 0 (row1 Rows.laid_spinneret_exec_none).toArray
  { w0 with heap := h4 }
end Go.Proofs.YtihkkjflfdbkkaaGreatDoor
