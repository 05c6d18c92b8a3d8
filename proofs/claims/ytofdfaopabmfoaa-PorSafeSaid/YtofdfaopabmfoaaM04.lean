/- A state as data, and how it lies in memory; which states may be. -/
import Derived.Test.YtofdfaopabmfoaaM02
import Derived.Test.YtofdfaopabmfoaaM03
namespace Go.Proofs.Ytofdfaopabmfoaa
open Go.ChangeShapes Go.WideShapes Go.ChangeAt Go.RowKit

structure ChanD where
  shape : Int
  queue : List (List Int)
structure ProcessD where
  type : Int
  loc : Int
  prio : Int
  frame : List Int
structure StateD where
  globals : List Int
  chans : List ChanD
  procs : List ProcessD
  last : Int
  alone : Int
  claim : Int
def msgAt (B : Nat) (w : World) (g a : Nat) (l : List Int) : Prop := Sli B w g a 1 (intAt w) l
structure chanAt (B : Nat) (w : World) (g a : Nat) (c : ChanD) : Prop where
  c0 : w.cell? ⟨g, a, none⟩ = some (.int .i64 c.shape)
  queue : Sli B w g (a + 1) 1 (msgAt B w) c.queue
structure processAt (B : Nat) (w : World) (g a : Nat) (p : ProcessD) : Prop where
  c0 : w.cell? ⟨g, a, none⟩ = some (.int .i64 p.type)
  c1 : w.cell? ⟨g, a + 1, none⟩ = some (.int .i64 p.loc)
  c2 : w.cell? ⟨g, a + 2, none⟩ = some (.int .i64 p.prio)
  frame : Sli B w g (a + 3) 1 (intAt w) p.frame
section
variable {B : Nat} {w w' : World} (hb : Below B w w')
include hb
theorem msgAt.below {g a : Nat} {x : List Int} (hg : g < B) (h : msgAt B w g a x) : msgAt B w' g a x := Sli.below hb hg h fun _ _ _ hg => intAt.below hb hg
theorem chanAt.below {g a : Nat} {x : ChanD} (hg : g < B) (h : chanAt B w g a x) : chanAt B w' g a x := ⟨(hb.cell hg).trans h.c0, h.queue.below hb hg fun _ _ _ hg => msgAt.below hb hg⟩
theorem processAt.below {g a : Nat} {x : ProcessD} (hg : g < B) (h : processAt B w g a x) : processAt B w' g a x := ⟨(hb.cell hg).trans h.c0, (hb.cell hg).trans h.c1, (hb.cell hg).trans h.c2, h.frame.below hb hg fun _ _ _ hg => intAt.below hb hg⟩
end
/-- The heads of a state's slices. -/
structure SH where
  go : Option Addr
  gc : Nat
  co : Option Addr
  cc : Nat
  po : Option Addr
  pc : Nat
structure SD (B : Nat) (w : World) (h : SH) (s : StateD) : Prop where
  globals : Row B h.go 1 (intAt w) s.globals
  chans : Row B h.co 2 (chanAt B w) s.chans
  procs : Row B h.po 4 (processAt B w) s.procs
theorem SD.below {B : Nat} {w w' : World} {h : SH} {s : StateD} (hm : SD B w h s) (hb : Below B w w') : SD B w' h s :=
  ⟨hm.globals.mono fun _ _ _ hg => intAt.below hb hg, hm.chans.mono fun _ _ _ hg => chanAt.below hb hg, hm.procs.mono fun _ _ _ hg => processAt.below hb hg⟩
section
variable {B B' : Nat} {w : World} (hB : B ≤ B')
include hB
theorem Row.lift' {α : Type} {o : Option Addr} {k : Nat} {R R' : Nat → Nat → α → Prop} {l : List α} (h : Row B o k R l) (hR : ∀ g a x, g < B → R g a x → R' g a x) : Row B' o k R' l := (h.mono hR).up hB
theorem Sli.lift' {α : Type} {g a k : Nat} {R R' : Nat → Nat → α → Prop} {l : List α} (h : Sli B w g a k R l) (hR : ∀ g a x, g < B → R g a x → R' g a x) : Sli B' w g a k R' l := by
  obtain ⟨o, c, h1, h2⟩ := h
  exact ⟨o, c, h1, h2.lift' hB hR⟩
theorem msgAt.lift {g a : Nat} {x : List Int} (h : msgAt B w g a x) : msgAt B' w g a x := Sli.lift' hB h fun _ _ _ _ h => h
theorem chanAt.lift {g a : Nat} {x : ChanD} (h : chanAt B w g a x) : chanAt B' w g a x := ⟨h.c0, h.queue.lift' hB fun _ _ _ _ h => h.lift hB⟩
theorem processAt.lift {g a : Nat} {x : ProcessD} (h : processAt B w g a x) : processAt B' w g a x := ⟨h.c0, h.c1, h.c2, h.frame.lift' hB fun _ _ _ _ h => h⟩
theorem SD.lift {h : SH} {s : StateD} (hm : SD B w h s) : SD B' w h s := ⟨hm.globals.lift' hB fun _ _ _ _ h => h, hm.chans.lift' hB fun _ _ _ _ h => h.lift hB, hm.procs.lift' hB fun _ _ _ _ h => h.lift hB⟩
end
/-- A state's cells. -/
def sCells (h : SH) (s : StateD) : Array Value := #[.slice h.go s.globals.length h.gc, .slice h.co s.chans.length h.cc, .slice h.po s.procs.length h.pc, .int .i64 s.last, .int .i64 s.alone, .int .i64 s.claim]
def sV (h : SH) (s : StateD) : Value := .agg (sCells h s)
/-- A state in a block of the call's own. -/
structure Sk (B : Nat) (w : World) (p o : Nat) (h : SH) (s : StateD) : Prop where
  c0 : w.cell? ⟨p, o, none⟩ = some (.slice h.go s.globals.length h.gc)
  c1 : w.cell? ⟨p, o + 1, none⟩ = some (.slice h.co s.chans.length h.cc)
  c2 : w.cell? ⟨p, o + 2, none⟩ = some (.slice h.po s.procs.length h.pc)
  c3 : w.cell? ⟨p, o + 3, none⟩ = some (.int .i64 s.last)
  c4 : w.cell? ⟨p, o + 4, none⟩ = some (.int .i64 s.alone)
  c5 : w.cell? ⟨p, o + 5, none⟩ = some (.int .i64 s.claim)
  le : B ≤ w.heap.size
  lt : p < w.heap.size
  sd : SD B w h s
theorem Sk.below {B p o : Nat} {w w' : World} {h : SH} {s : StateD} (hk : Sk B w p o h s) (hb : Below w.heap.size w w') : Sk B w' p o h s :=
  ⟨(hb.cell hk.lt).trans hk.c0, (hb.cell hk.lt).trans hk.c1, (hb.cell hk.lt).trans hk.c2, (hb.cell hk.lt).trans hk.c3, (hb.cell hk.lt).trans hk.c4, (hb.cell hk.lt).trans hk.c5, Nat.le_trans hk.le hb.size, Nat.lt_of_lt_of_le hk.lt hb.size, hk.sd.below (hb.mono (hk.le))⟩

/-- Is there a number for each type, and one of it? -/
def fitsL (t : List (Int × Bool)) (l : List Int) : Bool := decide (l.length = t.length) && (t.zip l).all fitZ
def shapeAtD (m : ModelD) (n : Int) : Option ShapeD := m.shapes[n.toNat]?
def chanHeadB (m : ModelD) (c : ChanD) : Bool := decide (0 ≤ c.shape ∧ c.shape < m.shapes.length)
def chanFB (m : ModelD) (c : ChanD) : Bool := match m.shapes[c.shape.toNat]? with
  | some s => decide ((c.queue.length : Int) ≤ s.room) && c.queue.all (fitsL s.fields)
  | none => false
def chanMayB (m : ModelD) (c : ChanD) : Bool := chanHeadB m c && chanFB m c
def procHeadB (m : ModelD) (p : ProcessD) : Bool := decide (0 ≤ p.type ∧ p.type < m.procs.length ∧ p.type ≠ m.claim)
def procFB (m : ModelD) (p : ProcessD) : Bool := match m.procs[p.type.toNat]? with
  | some t => decide (0 ≤ p.loc ∧ p.loc < t.locs.length ∧ p.prio = t.prio) && fitsL t.frame p.frame
  | none => false
def procMayB (m : ModelD) (p : ProcessD) : Bool := procHeadB m p && procFB m p
def claimLocs (m : ModelD) : Nat := (m.procs[m.claim.toNat]?.map (·.locs.length)).getD 0
def mayHeadB (m : ModelD) (s : StateD) : Bool := fitsL m.globals s.globals && decide (s.chans.length ≤ 32 ∧ s.procs.length ≤ 16)
def mayTailB (m : ModelD) (s : StateD) : Bool := decide (0 ≤ s.last ∧ s.last < 16 ∧ -1 ≤ s.alone ∧ s.alone < s.procs.length) && (if m.claim < 0 then decide (s.claim = -1) else decide (0 ≤ s.claim ∧ s.claim < claimLocs m))
def mayB (m : ModelD) (s : StateD) : Bool := mayHeadB m s && s.chans.all (chanMayB m) && s.procs.all (procMayB m) && mayTailB m s
def goodB (m : ModelD) : Bool := decide ((checkL m).1 = 0)
def stateE (m : ModelD) (s : StateD) : Int := if goodB m = true then (if mayB m s = true then 0 else 41) else 40
end Go.Proofs.Ytofdfaopabmfoaa
/- Partial-order reduction, as functions of data: which models are admitted, at which places a process may go alone. -/
namespace Go.Proofs.Ytofdfaopabmfoaa
open Go.ChangeShapes Go.WideShapes Go.ChangeAt Go.RowKit
set_option linter.unusedVariables false
set_option linter.unusedSimpArgs false

theorem procsL_every {m : ModelD} (h : (procsL m).2 = true) {i : Nat} {x : ProcD} (hx : m.procs[i]? = some x) : procB m (x, i) = true := by
  unfold procsL idxB at h
  split at h
  · cases h
  · rename_i hb
    refine bad_all hb _ ?_
    obtain ⟨hi, rfl⟩ := List.getElem?_eq_some_iff.1 hx
    rw [List.mem_iff_getElem]
    exact ⟨i, by rw [List.length_zipIdx]; exact hi, by simp⟩
/-- What a good model has. -/
structure GM (m : ModelD) : Prop where
  ex : EX m
  procs : ∀ (i : Nat) (p : ProcD), m.procs[i]? = some p → procB m (p, i) = true
  ways : ∀ (i : Nat) (p : ProcD), m.procs[i]? = some p → dprocB m (p, i) = true
  least : 1 ≤ m.procs.length
theorem dstat_all {m : ModelD} : ∀ (l : List ProcD) (k : Nat), (dstatGo m (l.zipIdx k)).2 = true → ∀ (i : Nat) (p : ProcD), l[i]? = some p → dprocB m (p, k + i) = true
  | [], k, _, i, p, hp => by simp at hp
  | q :: r, k, h, i, p, hp => by
    rw [List.zipIdx_cons] at h
    unfold dstatGo at h
    split at h
    · rename_i h1
      cases i with
      | zero => simp at hp; subst hp; exact h1
      | succ i =>
        have := dstat_all r (k + 1) h i p (by simpa using hp)
        rw [show k + (i + 1) = k + 1 + i by omega]
        exact this
    · cases h
theorem GM.of {m : ModelD} (h : goodB m = true) : GM m := by
  unfold goodB checkL at h
  rw [decide_eq_true_eq] at h
  by_cases h1 : (globalsL m).2 = false
  · rw [if_pos h1] at h; simp at h
  rw [if_neg h1] at h
  by_cases h2 : (channelsL m).2 = false
  · rw [if_pos h2] at h; simp at h
  rw [if_neg h2] at h
  by_cases h3 : (expressionsL m).2 = false
  · rw [if_pos h3] at h; simp at h
  rw [if_neg h3] at h
  by_cases h4 : (procsL m).2 = false
  · rw [if_pos h4] at h; simp at h
  rw [if_neg h4] at h
  by_cases h5 : (activeL m).2 = false
  · rw [if_pos h5] at h; simp at h
  rw [if_neg h5] at h
  by_cases h6 : (statementsL m).2 = false
  · rw [if_pos h6] at h; simp at h
  have h3' : (expressionsL m).2 = true := by simpa using h3
  have h4' : (procsL m).2 = true := by simpa using h4
  have h6' : (statementsL m).2 = true := by simpa using h6
  have hex := EX.of h3'
  refine ⟨hex, fun i p hp => procsL_every h4' hp, fun i p hp => ?_, ?_⟩
  · rw [statements_is hex] at h6'
    have := dstat_all m.procs 0 h6' i p hp
    simpa using this
  · unfold expressionsL at h3'
    split at h3'
    · cases h3'
    · rename_i hh
      unfold exprsHead at hh
      rw [decide_eq_true_eq] at hh
      omega

/-! ### Which models are admitted -/
def badX (x : ExprD) : Bool := decide (x.op = 32 ∨ x.op = 36 ∨ x.op = 37 ∨ x.op = 38 ∨ (x.op = 2 ∧ x.v.scope = 2))
def prio0 (m : ModelD) : Int := (m.procs[0]?.map (·.prio)).getD 0
def prioB (m : ModelD) (p : ProcD) : Bool := decide (p.prio = prio0 m)
def atomB (p : ProcD) : Bool := p.locs.any (·.atomic)
def timeB (x : ExprD) : Bool := decide (x.op = 35)
def okX (x : ExprD) : Bool := !badX x
/-- Of a good model: is it admitted? -/
def admB (m : ModelD) : Bool := decide (m.claim < 0) && m.procs.all (prioB m) && m.exprs.all okX && !(m.procs.any atomB && m.exprs.any timeB)
def admE (m : ModelD) : Int := if goodB m = true then (if admB m = true then 0 else 44) else 40

/-! ### Where a process may go alone -/
/-- One expression, of its parts. -/
def ownX (f : Int → Bool) (x : ExprD) : Bool := if x.op = 1 ∨ x.op = 31 then true else if 24 < x.op ∨ (x.op = 2 ∧ x.v.scope ≠ 1) then false else (partsL x).all f
def ownF (m : ModelD) : Nat → Int → Bool
  | 0, _ => false
  | f + 1, q => match m.exprs[q.toNat]? with
    | none => false
    | some x => ownX (ownF m f) x
def ownB (m : ModelD) (q : Int) : Bool := ownF m (q.toNat + 1) q
theorem ownX_congr {f g : Int → Bool} {x : ExprD} (h : ∀ p ∈ partsL x, f p = g p) : ownX f x = ownX g x := by
  unfold ownX
  split
  · rfl
  · split
    · rfl
    · rw [Bool.eq_iff_iff, List.all_eq_true, List.all_eq_true]
      exact ⟨fun a p hp => by rw [← h p hp]; exact a p hp, fun a p hp => by rw [h p hp]; exact a p hp⟩
theorem ownF_more {m : ModelD} (hx : EX m) : ∀ (n f : Nat) (q : Int), q.toNat < n → q.toNat < f → 0 ≤ q → ownF m f q = ownF m (q.toNat + 1) q
  | 0, f, q, h, _, _ => by omega
  | n + 1, 0, q, _, h, _ => by omega
  | n + 1, f + 1, q, h1, h2, h3 => by
    unfold ownF
    cases hq : m.exprs[q.toNat]? with
    | none => rfl
    | some x =>
      simp only
      refine ownX_congr fun p hp => ?_
      have hb := (hx.ok q.toNat x hq).2 p hp
      rw [ownF_more hx n f p (by omega) (by omega) hb.1, ownF_more hx n q.toNat p (by omega) (by omega) hb.1]
theorem ownB_is {m : ModelD} (hx : EX m) {q : Int} (h0 : 0 ≤ q) {x : ExprD} (hq : m.exprs[q.toNat]? = some x) : ownB m q = ownX (ownB m) x := by
  have e : ownB m q = ownX (ownF m q.toNat) x := by
    unfold ownB
    show (match m.exprs[q.toNat]? with | none => false | some x => ownX (ownF m q.toNat) x) = _
    rw [hq]
  rw [e]
  refine ownX_congr fun p hp => ?_
  have hb := (hx.ok q.toNat x hq).2 p hp
  exact ownF_more hx (p.toNat + 1) q.toNat p (by omega) (by omega) hb.1
def ownS (m : ModelD) (s : StmtD) : Bool :=
  if s.kind = 1 then ownB m s.a else if s.kind = 2 then ownB m s.a && ownB m s.b else if s.kind = 4 then s.args.all (ownB m) else decide (s.kind = 7 ∨ s.kind = 8)
def markB (l : LocD) : Bool := l.atomic || l.dstep || l.accept || l.progress
def meetB (s : ShapeD) : Bool := decide (s.room = 0)
def meetsB (m : ModelD) : Bool := m.shapes.any meetB
def takesB (t : TransD) : Bool := decide (t.s.kind = 6 ∧ t.s.n ≤ 1)
def takesL (w : List TransD) : Bool := w.any takesB
def recvLB (l : LocD) : Bool := (l.out :: l.esc).any takesL
def toLB (m : ModelD) (l : LocD) : Bool := !markB l && !(meetsB m && recvLB l)
def outB (m : ModelD) (p : ProcD) (t : TransD) : Bool := ownS m t.s && match p.locs[t.to.toNat]? with
  | none => false
  | some l => toLB m l
def headB (p : ProcD) (l : LocD) : Bool := decide (0 < l.out.length) && decide (l.esc.length = 0) && !markB l && decide (p.provided < 0)
def safeLB (m : ModelD) (p : ProcD) (l : LocD) : Bool := headB p l && l.out.all (outB m p)
def safesL (m : ModelD) (p : ProcD) : List Bool := p.locs.map (safeLB m p)
def safeAt (m : ModelD) (i k : Nat) : Bool := match m.procs[i]? with
  | none => false
  | some p => match p.locs[k]? with
    | none => false
    | some l => safeLB m p l

/-! ### What a good model's statements and ways are -/
theorem GM.stmt {m : ModelD} (h : GM m) {i : Nat} {p : ProcD} (hp : m.procs[i]? = some p) {l : LocD} (hl : l ∈ p.locs) {t : TransD} (ht : t ∈ l.out) : stmtB m t.s = true := by
  have h1 := h.ways i p hp
  unfold dprocB at h1
  simp only [Bool.and_eq_true] at h1
  have h2 := List.all_eq_true.1 h1.1 l hl
  unfold dlocB at h2
  have h3 := List.all_eq_true.1 h2 l.out (by simp)
  have h4 := List.all_eq_true.1 h3 t ht
  unfold dwayB at h4
  simp only [Bool.and_eq_true] at h4
  exact h4.1.1.1.1
theorem GM.to {m : ModelD} (h : GM m) {i : Nat} {p : ProcD} (hp : m.procs[i]? = some p) {l : LocD} (hl : l ∈ p.locs) {t : TransD} (ht : t ∈ l.out) : 0 ≤ t.to ∧ t.to < p.locs.length := by
  have h1 := h.procs i p hp
  unfold procB placesB at h1
  simp only [Bool.and_eq_true] at h1
  have h2 := h1.1.2.1.2
  obtain ⟨k, hk, rfl⟩ := List.mem_iff_getElem.1 hl
  have h3 := List.all_eq_true.1 h2 (p.locs[k], k) (by rw [List.mem_iff_getElem]; exact ⟨k, by simpa using hk, by simp⟩)
  unfold locB' locB at h3
  simp only [Bool.and_eq_true] at h3
  have h4 := List.all_eq_true.1 h3.1.2 t ht
  unfold toB at h4
  simpa using h4
theorem GM.esc {m : ModelD} (h : GM m) {i : Nat} {p : ProcD} (hp : m.procs[i]? = some p) {l : LocD} (hl : l ∈ p.locs) : l.esc.length ≤ 8 := by
  have h1 := h.procs i p hp
  unfold procB placesB at h1
  simp only [Bool.and_eq_true] at h1
  have h2 := h1.1.2.1.2
  obtain ⟨k, hk, rfl⟩ := List.mem_iff_getElem.1 hl
  have h3 := List.all_eq_true.1 h2 (p.locs[k], k) (by rw [List.mem_iff_getElem]; exact ⟨k, by simpa using hk, by simp⟩)
  unfold locB' locB locHeadB at h3
  simp only [Bool.and_eq_true, Bool.not_eq_true', decide_eq_false_iff_not] at h3
  omega
theorem GM.many {m : ModelD} (h : GM m) {i : Nat} {p : ProcD} (hp : m.procs[i]? = some p) : p.locs.length ≤ 256 := by
  have h1 := h.procs i p hp
  unfold procB placesB placesHeadB at h1
  simp only [Bool.and_eq_true, Bool.not_eq_true', decide_eq_false_iff_not] at h1
  omega
/-- The parts that a statement has, by its kind. -/
theorem stmt_parts {m : ModelD} {s : StmtD} (h : stmtB m s = true) :
    ((s.kind = 1 ∨ s.kind = 2) → (0 ≤ s.a ∧ s.a < m.exprs.length) ∧ s.args = []) ∧ (s.kind = 2 → 0 ≤ s.b ∧ s.b < m.exprs.length) ∧ (s.kind = 1 → s.b = -1) ∧ (s.kind = 4 → s.a = -1 ∧ s.b = -1) ∧ ((s.kind = 7 ∨ s.kind = 8) → s.a = -1 ∧ s.b = -1 ∧ s.args = []) ∧ (∀ q ∈ s.args, 0 ≤ q ∧ q < m.exprs.length) := by
  have hargs : ∀ q ∈ s.args, 0 ≤ q ∧ q < m.exprs.length := by
    intro q hq
    have h3 := (stmt_ab h).2.2
    exact isExpr_le (List.all_eq_true.1 h3 q hq)
  unfold stmtB at h
  split at h
  · cases h
  · rename_i q hq
    simp only [Bool.and_eq_true] at h
    obtain ⟨⟨⟨⟨h1, h2⟩, _⟩, _⟩, _⟩ := h
    unfold askAB at h1
    unfold askN at h2
    simp only [Bool.not_eq_true', Bool.or_eq_false_iff, decide_eq_false_iff_not, Bool.and_eq_false_iff, Bool.not_eq_false', Decidable.not_not] at h1 h2
    unfold askOf at hq
    refine ⟨fun hk => ?_, fun hk => ?_, fun hk => ?_, fun hk => ?_, fun hk => ?_, hargs⟩
    · rcases hk with hk | hk
      · rw [if_pos (by omega)] at hq
        injection hq with hq
        subst hq
        simp only at h1 h2
        refine ⟨isExpr_le (by simpa using h1.1.1.2), List.eq_nil_of_length_eq_zero (by omega)⟩
      · rw [if_neg (by omega), if_pos (by omega)] at hq
        injection hq with hq
        subst hq
        simp only at h1 h2
        refine ⟨isExpr_le (by simpa using h1.1.1.2), List.eq_nil_of_length_eq_zero (by omega)⟩
    · rw [if_neg (by omega), if_pos (by omega)] at hq
      injection hq with hq
      subst hq
      simp only at h1 h2
      exact isExpr_le (by simpa using h1.2)
    · rw [if_pos (by omega)] at hq
      injection hq with hq
      subst hq
      simpa using h1.1.2
    · rw [if_neg (by omega), if_neg (by omega), if_pos (by omega)] at hq
      injection hq with hq
      subst hq
      exact ⟨by simpa using h1.1.1.1, by simpa using h1.1.2⟩
    · rw [if_neg (by omega), if_neg (by omega), if_neg (by omega), if_neg (by omega), if_neg (by omega), if_pos (by omega)] at hq
      injection hq with hq
      subst hq
      simp only at h1 h2
      exact ⟨by simpa using h1.1.1.1, by simpa using h1.1.2, List.eq_nil_of_length_eq_zero (by omega)⟩
end Go.Proofs.Ytofdfaopabmfoaa
/- Type, Fits, Reach. -/
namespace Go.Proofs.Ytofdfaopabmfoaa
open Go.ChangeShapes Go.WideShapes Go.ChangeAt Go.RowKit

theorem typeC (b : Int) (s : Bool) (w : World) : Calls Try.prog 39 #[.agg #[.int .i64 b, .bool s]] w fun e w' => e = .returned (.bool (tyB b s)) ∧ Below w.heap.size w w' := by
  go_enter Try.func39, Try.ntmps39
  go_wp2
  all_goals (go_ret; refine ⟨retB ?_, Below.alloc (Below.refl _ _) (Nat.le_refl _) _⟩)
  all_goals (unfold tyB; rw [Bool.eq_iff_iff]; simp_all)
  all_goals omega
theorem fitsC (b : Int) (s : Bool) (v : Int) (w : World) : Calls Try.prog 38 #[.agg #[.int .i64 b, .bool s], .int .i64 v] w fun e w' => e = .returned (.bool (fitB b s v)) ∧ Below w.heap.size w w' := by
  have HB := Lib.hid (Below.alloc (Below.refl w.heap.size w) (Nat.le_refl _) (.cells #[.int .i64 b, .bool s] 59))
  have HS : Hid (w.heap.size < (w.alloc (.cells #[.int .i64 b, .bool s] 59)).heap.size) := Lib.hid (by simp)
  have HC := Lib.hid (heap_alloc_new w (.cells #[.int .i64 b, .bool s] 59))
  go_enter Try.func38, Try.ntmps38
  go_wp2_with fail
  refine (typeC b s _).mono ?_
  rintro e w1 ⟨rfl, hb⟩
  have HB1 := Lib.hid (HB.out.trans (hb.mono (Nat.le_of_lt HS.out)))
  have c0 : w1.cell? ⟨w.heap.size, 0, none⟩ = some (.int .i64 b) := by
    rw [hb.cell HS.out, cell_of_row _ _ _ _ _ _ HC.out]; rfl
  have c1 : w1.cell? ⟨w.heap.size, 1, none⟩ = some (.bool s) := by
    rw [hb.cell HS.out, cell_of_row _ _ _ _ _ _ HC.out]; rfl
  clear hb HB HS HC
  cases hty : tyB b s
  · have hf : fitB b s v = false := by unfold fitB; rw [hty]; rfl
    go_wp2
    go_ret
    exact ⟨retB hf.symm, HB1.out⟩
  · have h1 : 1 ≤ b ∧ b ≤ 32 ∧ (s = true → b = 16 ∨ b = 32) := by
      unfold tyB at hty; simp at hty; cases s <;> simp_all
    obtain ⟨h1, h2, h3⟩ := h1
    cases s
    · have hf : fitB b false v = (decide (0 ≤ v) && decide (v < 2 ^ b.toNat)) := by unfold fitB; rw [hty]; rfl
      have hp : (2 : Int) ^ b.toNat ≤ 2 ^ 32 := by
        have := Nat.pow_le_pow_right (n := 2) (by decide) (show b.toNat ≤ 32 by omega)
        exact_mod_cast this
      have hq : (0 : Int) < 2 ^ b.toNat := Int.pow_pos (by decide)
      have HWR : Hid (wrap64 (2 ^ b.toNat) = 2 ^ b.toNat) := Lib.hid (IntWalk.wrap64_in _ (by omega))
      have HF := Lib.hid hf
      clear hf hp hq
      go_wp2
      all_goals (go_ret; refine ⟨retB (Eq.trans ?_ HF.out.symm), HB1.out⟩)
      all_goals (have hwr := HWR.out; rw [Bool.eq_iff_iff]; simp_all)
      all_goals omega
    · rcases h3 rfl with rfl | rfl
      · have hf : fitB 16 true v = (decide (-32768 ≤ v) && decide (v < 32768)) := by unfold fitB; rw [hty]; rfl
        skip
        go_wp2
        all_goals (go_ret; refine ⟨retB (Eq.trans ?_ hf.symm), HB1.out⟩)
        all_goals (rw [Bool.eq_iff_iff]; simp_all)
        all_goals omega
      · have hf : fitB 32 true v = (decide (-2147483648 ≤ v) && decide (v < 2147483648)) := by unfold fitB; rw [hty]; rfl
        skip
        go_wp2
        all_goals (go_ret; refine ⟨retB (Eq.trans ?_ hf.symm), HB1.out⟩)
        all_goals (rw [Bool.eq_iff_iff]; simp_all)
        all_goals omega

theorem mul_small (a b : Int) (h1 : 0 ≤ a) (h2 : a ≤ 1073741824) (h3 : 0 ≤ b) (h4 : b ≤ 1073741824) : 0 ≤ a * b ∧ a * b ≤ 1152921504606846976 :=
  ⟨Int.mul_nonneg h1 h3, Int.le_trans (Int.mul_le_mul h2 h4 h3 (by decide)) (by decide)⟩
set_option maxRecDepth 100000 in
theorem reachC (v : VarD) (o : Option Addr) (cap B : Nat) (w : World) (hin : Row B o 3 (dimAt w) v.dims) (hB : B ≤ w.heap.size) :
    Calls Try.prog 76 #[.agg #[.int .i64 v.scope, .int .i64 v.slot, .int .i64 v.who, .int .i64 v.type, .slice o v.dims.length cap]] w fun e w' => e = .returned (.int .i64 (reachL v)) ∧ Below w.heap.size w w' := by
  have HIN := Lib.hid hin
  have hn : v.dims.length ≤ 140737488355328 := hin.1
  have HBB := Lib.hid hB
  clear hin hB
  obtain ⟨sc, sl, wh, ty, dims⟩ := v
  simp only at HIN hn ⊢
  by_cases hbad : 4 < dims.length ∨ sl < 0 ∨ 1073741824 < sl
  · have hv : reachL ⟨sc, sl, wh, ty, dims⟩ = 0 := if_pos hbad
    have HV := Lib.hid hv
    clear hv
    go_enter Try.func76, Try.ntmps76
    go_wp2
    all_goals first | (exfalso; omega) | (go_ret; exact ⟨retI HV.out.symm, Below.alloc (Below.refl _ _) (Nat.le_refl _) _⟩)
  · have HV : Hid (reachR dims (sl + 1) = reachL ⟨sc, sl, wh, ty, dims⟩) := Lib.hid (if_neg hbad).symm
    generalize reachL ⟨sc, sl, wh, ty, dims⟩ = R at HV
    have h1 : ¬ 4 < dims.length := fun h => hbad (.inl h)
    have h2 : ¬ sl < 0 := fun h => hbad (.inr (.inl h))
    have h3 : ¬ 1073741824 < sl := fun h => hbad (.inr (.inr h))
    clear hbad
    have hs1 : IntKind.i64.wrap (sl + 1) = sl + 1 := IntWalk.i64_in _ (by omega)
    have HB : Hid (Below w.heap.size w (w.alloc (.cells #[.int .i64 sc, .int .i64 sl, .int .i64 wh, .int .i64 ty, .slice o dims.length cap] 55))) := Lib.hid (Below.alloc (Below.refl _ _) (Nat.le_refl _) _)
    go_enter Try.func76, Try.ntmps76
    go_wp2
    go_loopw [3, 26] (fun a i wr => ∃ (k : Nat) (x : Int), i = .int .i64 k ∧ k ≤ dims.length ∧ a = .int .i64 x ∧ 0 ≤ x ∧ x ≤ 1073741825 + k * 1152921504606846976 ∧ Hid (reachR (dims.drop k) x = R) ∧ Hid (Below w.heap.size w wr)) (fun _ i _ => dims.length - (intOf i).toNat)
    case atStart => exact ⟨0, sl + 1, rfl, by omega, rfl, by omega, by omega, HV, HB⟩
    case round =>
      clear HV HB
      obtain ⟨k, x, rfl, hk, rfl, hx0, hx1, HR, HBR⟩ := hrel
      by_cases hlt : k < dims.length
      · obtain ⟨g, off, rfl, hg, e0, e1, e2⟩ := HIN.out.cell hlt
        have HDR : Hid (dims.drop k = dims[k] :: dims.drop (k + 1)) := Lib.hid (List.drop_eq_getElem_cons hlt)
        obtain ⟨⟨I, L, S⟩, hd⟩ : ∃ d, dims[k] = d := ⟨_, rfl⟩
        rw [hd] at e0 e1 e2 HDR
        simp only at e0 e1 e2
        have hgw : g < w.heap.size := Nat.lt_of_lt_of_le hg HBB.out
        have c0 := (HBR.out.cell (p := ⟨g, off + k * 3, none⟩) hgw).trans e0
        have c1 := (HBR.out.cell (p := ⟨g, off + k * 3 + 1, none⟩) hgw).trans e1
        have c2 := (HBR.out.cell (p := ⟨g, off + k * 3 + 2, none⟩) hgw).trans e2
        clear e0 e1 e2 hd
        have hsz := HBR.out.size
        by_cases hb : L < 1 ∨ 1073741825 < L ∨ S < 0 ∨ 1073741824 < S
        · have HZ : Hid (R = 0) := Lib.hid (by rw [← HR.out, HDR.out]; exact if_pos hb)
          clear HR HDR
          go_wp2
          all_goals first | (exfalso; omega) | (go_ret; exact ⟨retI HZ.out.symm, HBR.out.alloc hsz _⟩)
        · have hm := mul_small (L - 1) S (by omega) (by omega) (by omega) (by omega)
          have HN : Hid (reachR (dims.drop (k + 1)) (x + (L - 1) * S) = R) := Lib.hid (by rw [← HR.out, HDR.out]; exact (if_neg hb).symm)
          have i1 : ¬ L < 1 := fun h => hb (.inl h)
          have i2 : ¬ 1073741825 < L := fun h => hb (.inr (.inl h))
          have i3 : ¬ S < 0 := fun h => hb (.inr (.inr (.inl h)))
          have i4 : ¬ 1073741824 < S := fun h => hb (.inr (.inr (.inr h)))
          have j1 : IntKind.i64.wrap (L - 1) = L - 1 := IntWalk.i64_in _ (by omega)
          have j2 : IntKind.i64.wrap ((L - 1) * S) = (L - 1) * S := IntWalk.i64_in _ (by omega)
          have j3 : IntKind.i64.wrap (x + (L - 1) * S) = x + (L - 1) * S := IntWalk.i64_in _ (by omega)
          have HM := Lib.hid hm
          clear hm hb HR HDR
          go_wp2
          go_round
          case rel =>
            have hm := HM.out
            exact ⟨k + 1, x + (L - 1) * S, by go_num, by omega, by go_num, by omega, by go_num, HN, Lib.hid (HBR.out.alloc hsz _)⟩
          case measure => simp [intOf]; omega
      · obtain rfl : k = dims.length := by omega
        have HX : Hid (x = R) := Lib.hid (by have h := HR.out; rw [List.drop_length] at h; exact h)
        go_wp2
        go_ret
        exact ⟨retI HX.out, HBR.out⟩
end Go.Proofs.Ytofdfaopabmfoaa
/- The checker's small questions. -/
namespace Go.Proofs.Ytofdfaopabmfoaa
open Go.ChangeShapes Go.WideShapes Go.ChangeAt Go.RowKit
set_option linter.unusedVariables false
set_option linter.unusedSimpArgs false

theorem partsOfC (op : Int) (w : World) : Calls Try.prog 56 #[.int .i64 op] w fun e w' => e = .returned (.int .i64 (partsOf op)) ∧ w = w' := by
  have HP : Hid (∀ n : Nat, partsOf op = n → ((partsOf op : Nat) : Int) = n) := Lib.hid fun n h => by rw [h]
  go_enter Try.func56, Try.ntmps56
  go_wp2
  all_goals (go_ret; refine ⟨retI ?_, rfl⟩)
  all_goals (unfold partsOf; repeat' split)
  all_goals first | rfl | omega | (exfalso; simp only [beq_iff_eq, beq_eq_false_iff_ne, ne_eq] at *; omega)
theorem proctypeC {B p : Nat} {h : MH} {m : ModelD} (n : Int) (w : World) (hk : Ck B w p h m) : Calls Try.prog 59 #[.pointer (some ⟨p, 0, none⟩), .int .i64 n] w fun e w' => e = .returned (.bool (ptypeB m n)) ∧ w = w' := by
  have c4 := hk.c4
  have c5 := hk.c5
  have hl := hk.md.procs.1
  clear hk
  go_enter Try.func59, Try.ntmps59
  go_wp2
  all_goals (go_ret; refine ⟨retB ?_, rfl⟩)
  all_goals (unfold ptypeB; rw [Bool.eq_iff_iff]; simp_all)
  all_goals omega
theorem isExprC {B p : Nat} {h : MH} {m : ModelD} (n : Int) (w : World) (hk : Ck B w p h m) : Calls Try.prog 72 #[.pointer (some ⟨p, 0, none⟩), .int .i64 n] w fun e w' => e = .returned (.bool (isExprB m n)) ∧ w = w' := by
  have c6 := hk.c6
  have hl := hk.md.exprs.1
  clear hk
  go_enter Try.func72, Try.ntmps72
  go_wp2
  all_goals (go_ret; refine ⟨retB ?_, rfl⟩)
  all_goals (unfold isExprB; rw [Bool.eq_iff_iff]; simp_all)
  all_goals omega
theorem opAt_get {m : ModelD} {n : Int} {x : ExprD} (h : m.exprs[n.toNat]? = some x) : opAt m n = x.op := by unfold opAt; rw [h]; rfl
theorem isVarC {B p : Nat} {h : MH} {m : ModelD} (n : Int) (w : World) (hk : Ck B w p h m) : Calls Try.prog 73 #[.pointer (some ⟨p, 0, none⟩), .int .i64 n] w fun e w' => e = .returned (.bool (isVarB m n)) ∧ w = w' := by
  have HK := Lib.hid hk
  have c6 := hk.c6
  have hl := hk.md.exprs.1
  clear hk
  cases hx : isExprB m n
  · have hv : isVarB m n = false := by unfold isVarB; rw [hx]; rfl
    have HV := Lib.hid hv
    have HX := Lib.hid hx
    clear hv hx
    go_enter Try.func73, Try.ntmps73
    go_wp2_with fail
    refine (isExprC n w HK.out).mono ?_
    rintro e w' ⟨rfl, rfl⟩
    rw [HX.out]
    go_wp2
    go_ret
    exact ⟨retB HV.out.symm, rfl⟩
  · have hb : 0 ≤ n ∧ n < m.exprs.length := by unfold isExprB at hx; simpa using hx
    obtain ⟨k, rfl⟩ : ∃ k : Nat, n = k := ⟨n.toNat, by omega⟩
    have hk : k < m.exprs.length := by omega
    obtain ⟨g, off, ho, hg, he⟩ := HK.out.md.exprs.cell hk
    have hv : isVarB m (k : Int) = decide (m.exprs[k].op = 2) := by
      unfold isVarB
      rw [hx, opAt_get (x := m.exprs[k]) (by rw [Int.toNat_natCast]; exact List.getElem?_eq_getElem hk)]
      rfl
    have HV := Lib.hid hv
    have HX := Lib.hid hx
    have c0 := he.c0
    obtain ⟨op, hop⟩ : ∃ op, m.exprs[k].op = op := ⟨_, rfl⟩
    rw [hop] at c0 HV
    rw [ho] at c6
    have h1 : (k : Int) < m.exprs.length := by omega
    clear hv hx hb he ho hop
    go_enter Try.func73, Try.ntmps73
    go_wp2_with fail
    refine (isExprC k w HK.out).mono ?_
    rintro e w' ⟨rfl, rfl⟩
    rw [HX.out]
    go_wp2
    all_goals (go_ret; refine ⟨retB ?_, rfl⟩)
    all_goals (rw [HV.out])
    all_goals (rw [Bool.eq_iff_iff]; simp)
end Go.Proofs.Ytofdfaopabmfoaa
