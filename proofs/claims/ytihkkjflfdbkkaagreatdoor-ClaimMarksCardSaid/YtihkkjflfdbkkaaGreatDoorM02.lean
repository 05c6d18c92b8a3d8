/- Which models may be run, as functions of data. -/
import Derived.Test.YtihkkjflfdbkkaaGreatDoorM01
namespace Go.Proofs.YtihkkjflfdbkkaaGreatDoor

/-- May a type be? -/
def tyB (b : Int) (s : Bool) : Bool := decide (1 ≤ b) && decide (b ≤ 32) && (!s || decide (b = 16) || decide (b = 32))
/-- Is a number one of a type? -/
def fitB (b : Int) (s : Bool) (v : Int) : Bool :=
  tyB b s && (if s then decide (-2 ^ (b.toNat - 1) ≤ v) && decide (v < 2 ^ (b.toNat - 1)) else decide (0 ≤ v) && decide (v < 2 ^ b.toNat))
def reachR : List DimD → Int → Int
  | [], a => a
  | d :: r, a => if d.len < 1 ∨ 1073741825 < d.len ∨ d.stride < 0 ∨ 1073741824 < d.stride then 0 else reachR r (a + (d.len - 1) * d.stride)
def reachL (v : VarD) : Int := if 4 < v.dims.length ∨ v.slot < 0 ∨ 1073741824 < v.slot then 0 else reachR v.dims (v.slot + 1)

def fitZ (x : (Int × Bool) × Int) : Bool := fitB x.1.1 x.1.2 x.2
def globalsL (m : ModelD) : Int × Bool := if 128 < m.globals.length ∨ m.init.length ≠ m.globals.length then (-1, false) else idxB (bad fitZ (m.globals.zip m.init))
def tyP (t : Int × Bool) : Bool := tyB t.1 t.2
def shapeB (s : ShapeD) : Bool := !(decide (s.room < 0 ∨ 16 < s.room ∨ s.fields.length < 1 ∨ 8 < s.fields.length)) && s.fields.all tyP
def chanB (m : ModelD) (s : Int) : Bool := decide (0 ≤ s ∧ s < m.shapes.length)
def channelsL (m : ModelD) : Int × Bool := if 32 < m.shapes.length ∨ 32 < m.chans.length then (-1, false) else match bad shapeB m.shapes with
  | some i => (i, false)
  | none => idxB (bad (chanB m) m.chans)

def ptypeB (m : ModelD) (n : Int) : Bool := decide (0 ≤ n ∧ n < m.procs.length ∧ n ≠ m.claim)
def dimB (d : DimD) : Bool := !(decide (d.len < 1 ∨ 128 < d.len ∨ d.stride < 0 ∨ 128 < d.stride))
def varHeadB (v : VarD) : Bool := !(decide (v.scope < 0 ∨ 2 < v.scope ∨ v.slot < 0 ∨ 128 < v.slot ∨ 4 < v.dims.length))
def varTailB (m : ModelD) (v : VarD) : Bool := if v.scope = 2 then ptypeB m v.type else decide (v.who = -1 ∧ v.type = -1)
def varB (m : ModelD) (v : VarD) : Bool := varHeadB v && v.dims.all dimB && varTailB m v
def isExprB (m : ModelD) (x : Int) : Bool := decide (0 ≤ x ∧ x < m.exprs.length)
def opAt (m : ModelD) (x : Int) : Int := (m.exprs[x.toNat]?.map (·.op)).getD 0
def isVarB (m : ModelD) (x : Int) : Bool := isExprB m x && decide (opAt m x = 2)
def fieldB (m : ModelD) (x : Int × Int) : Bool := isExprB m x.1 && decide (-1 ≤ x.2 ∧ x.2 ≤ 1) && (!(decide (x.2 = 0)) || isVarB m x.1)
def fieldsB (m : ModelD) (args mat : List Int) : Bool := !(decide (args.length < 1 ∨ 8 < args.length ∨ mat.length ≠ args.length)) && (args.zip mat).all (fieldB m)
def partsOf (op : Int) : Nat := if op = 24 then 3 else if 6 ≤ op ∧ op ≤ 23 then 2 else if (3 ≤ op ∧ op ≤ 5) ∨ (25 ≤ op ∧ op ≤ 30) ∨ (36 ≤ op ∧ op ≤ 38) then 1 else 0
def abcL (x : ExprD) : List Int := [x.a, x.b, x.c]
def restB (x : ExprD) : Bool := ((abcL x).drop (partsOf x.op)).all (fun q => decide (q = -1))
def locsAt (m : ModelD) (n : Int) : Nat := (m.procs[n.toNat]?.map (·.locs.length)).getD 0
def paramsAt (m : ModelD) (n : Int) : Int := (m.procs[n.toNat]?.map (·.params)).getD 0
def atB (m : ModelD) (x : ExprD) : Bool := !(!(ptypeB m x.n) || decide (x.args.length = 0)) && x.args.all (fun q => decide (0 ≤ q ∧ q < locsAt m x.n))
def kindB (m : ModelD) (x : ExprD) : Bool :=
  if x.op = 1 then fitB 32 true x.n else if x.op = 2 then varB m x.v else if x.op = 30 then decide (x.n = 0 ∨ x.n = 1) && fieldsB m x.args x.mat
  else if x.op = 38 then atB m x else if x.op = 39 then ptypeB m x.n && decide ((x.args.length : Int) = paramsAt m x.n) else true
def exprB (m : ModelD) (x : ExprD) : Bool := decide (1 ≤ x.op ∧ x.op ≤ 39) && restB x && kindB m x
/-- All parts, the Who, the indexes. -/
def moreL (x : ExprD) : List Int := if x.op = 2 then (if x.v.scope = 2 then [x.v.who] else []) ++ x.v.dims.map (·.i) else if x.op = 30 ∨ x.op = 39 then x.args else []
def partsL (x : ExprD) : List Int := (abcL x).take (partsOf x.op) ++ moreL x
def takePart (i : Nat) (s : List Bool × Bool) (p : Int) : List Bool × Bool := if p < 0 ∨ (i : Int) ≤ p ∨ s.1.getD p.toNat false = true then (s.1, false) else (s.1.set p.toNat true, s.2)
def takeAll (i : Nat) (t : List Bool) (l : List Int) : List Bool × Bool := l.foldl (takePart i) (t, true)
def exprsGo (m : ModelD) : List ExprD → Nat → List Bool → Int × Bool
  | [], _, _ => (0, true)
  | x :: r, i, t => if exprB m x = true then (if (takeAll i t (partsL x)).2 = true then exprsGo m r (i + 1) (takeAll i t (partsL x)).1 else (i, false)) else (i, false)
def exprsHead (m : ModelD) : Bool := decide (m.procs.length < 1 ∨ 16 < m.procs.length ∨ m.claim < -1 ∨ (m.procs.length : Int) ≤ m.claim ∨ 4096 < m.exprs.length)
def expressionsL (m : ModelD) : Int × Bool := if exprsHead m = true then (-1, false) else exprsGo m m.exprs 0 (List.replicate m.exprs.length false)

def frameHeadB (p : ProcD) : Bool := !(decide (128 < p.frame.length ∨ p.init.length ≠ p.frame.length ∨ p.params < 0 ∨ (p.frame.length : Int) < p.params))
def frameTailB (m : ModelD) (p : ProcD) : Bool := decide (0 ≤ p.active ∧ p.active ≤ 16 ∧ 1 ≤ p.prio ∧ p.prio ≤ 255 ∧ -1 ≤ p.provided ∧ p.provided < m.exprs.length)
def frameB (m : ModelD) (p : ProcD) : Bool := frameHeadB p && (p.frame.zip p.init).all fitZ && frameTailB m p
def placesHeadB (p : ProcD) : Bool := !(decide (p.locs.length < 1 ∨ 256 < p.locs.length ∨ p.start < 0 ∨ (p.locs.length : Int) ≤ p.start ∨ p.final < 0 ∨ (p.locs.length : Int) ≤ p.final))
def toB (n : Nat) (t : TransD) : Bool := decide (0 ≤ t.to ∧ t.to < n)
def locHeadB (p : ProcD) (i : Nat) (l : LocD) : Bool := !(decide (8 < l.esc.length ∨ (l.dstep = true ∧ l.atomic = true) ∨ ((i : Int) = p.final ∧ (0 < l.out.length ∨ 0 < l.esc.length))))
def escB (n : Nat) (l : List TransD) : Bool := decide (l.length ≠ 0) && l.all (toB n)
def locB (p : ProcD) (i : Nat) (l : LocD) : Bool := locHeadB p i l && l.out.all (toB p.locs.length) && l.esc.all (escB p.locs.length)
def locB' (p : ProcD) (x : LocD × Nat) : Bool := locB p x.2 x.1
def manyL (l : LocD) : Nat := l.out.length + (l.esc.map List.length).sum
def manyP (p : ProcD) : Nat := (p.locs.map manyL).sum
def placesB (p : ProcD) : Bool := placesHeadB p && p.locs.zipIdx.all (locB' p) && decide (manyP p ≤ 1024)
def looksLocB (l : LocD) : Bool := !(decide (0 < l.esc.length) || l.atomic || l.dstep)
def looksOnB (p : ProcD) : Bool := p.locs.all looksLocB && decide (p.frame.length = 0 ∧ p.params = 0 ∧ p.active = 0 ∧ p.provided = -1)
def procB (m : ModelD) (x : ProcD × Nat) : Bool := frameB m x.1 && placesB x.1 && (!(decide ((x.2 : Int) = m.claim)) || looksOnB x.1)
def procsL (m : ModelD) : Int × Bool := idxB (bad (procB m) m.procs.zipIdx)
def activeS (m : ModelD) : Int := (m.procs.map (·.active)).sum
def activeL (m : ModelD) : Int × Bool := (-1, decide (activeS m ≤ 16))

def scopeAt (m : ModelD) (x : Int) : Int := (m.exprs[x.toNat]?.map (·.v.scope)).getD 0
def settableB (m : ModelD) (x : Int) : Bool := isVarB m x && decide (scopeAt m x ≠ 2)
def recvB (m : ModelD) (x : Int × Int) : Bool := !(decide (x.2 = 0)) || settableB m x.1
def receivesB (m : ModelD) (s : StmtD) : Bool := fieldsB m s.args s.mat && (s.args.zip s.mat).all (recvB m)
/-- What a kind asks: hasA, hasB, mostN, least, most, matches, text. -/
structure Ask where
  hasA : Bool
  hasB : Bool
  mostN : Int
  least : Int
  most : Int
  matches_ : Bool
  text : Bool
def askOf (m : ModelD) (k : Int) : Option Ask :=
  if k = 1 ∨ k = 3 then some ⟨true, false, 0, 0, 0, false, false⟩ else if k = 2 then some ⟨true, true, 0, 0, 0, false, false⟩ else if k = 4 then some ⟨false, false, 0, 0, -1, false, true⟩
  else if k = 5 then some ⟨true, false, 1, 1, 8, false, false⟩ else if k = 6 then some ⟨true, false, 3, 1, 8, true, false⟩ else if k = 7 ∨ k = 8 then some ⟨false, false, 0, 0, 0, false, false⟩
  else if k = 9 then some ⟨true, false, (m.shapes.length : Int) - 1, 0, 0, false, false⟩ else none
def askAB (m : ModelD) (s : StmtD) (q : Ask) : Bool := !(decide (q.hasA ≠ decide (s.a ≠ -1)) || (q.hasA && !isExprB m s.a) || decide (q.hasB ≠ decide (s.b ≠ -1)) || (q.hasB && !isExprB m s.b))
def askN (s : StmtD) (q : Ask) : Bool := !(decide (s.n < 0 ∨ q.mostN < s.n ∨ (s.args.length : Int) < q.least ∨ (0 ≤ q.most ∧ q.most < (s.args.length : Int)) ∨ (q.matches_ = false ∧ 0 < s.mat.length) ∨ (q.text = false ∧ s.text.size ≠ 0) ∨ 256 < s.text.size))
def stmtB (m : ModelD) (s : StmtD) : Bool := match askOf m s.kind with
  | none => false
  | some q => askAB m s q && askN s q && s.args.all (isExprB m) && (!(decide (s.kind = 2 ∨ s.kind = 9)) || settableB m s.a) && (!q.matches_ || receivesB m s)
def claimsB (k : Int) : Bool := decide (k = 1 ∨ k = 3 ∨ k = 7 ∨ k = 8)
def frameAt (m : ModelD) (n : Int) : Nat := (m.procs[n.toNat]?.map (·.frame.length)).getD 0
def roomL (m : ModelD) (proc : Nat) (v : VarD) : Int := if v.scope = 1 then frameAt m proc else if v.scope = 2 then frameAt m v.type else m.globals.length
def liesB (m : ModelD) (proc : Nat) (v : VarD) : Bool := !(decide (v.scope = 1 ∧ (proc : Int) = m.claim)) && decide (reachL v ≤ roomL m proc v)
/-- May an expression be used, by itself? -/
def useB (m : ModelD) (proc : Nat) (x : ExprD) : Bool := if x.op = 39 then false else if x.op = 31 then decide ((proc : Int) ≠ m.claim) else if x.op = 2 then liesB m proc x.v else true
/-- What is left is looked at, the last one first. -/
def usesF (m : ModelD) (proc : Nat) : Nat → List Int → List Int → Bool × List Int
  | 0, seen, _ => (false, seen)
  | f + 1, seen, left => match left.getLast? with
    | none => (true, seen)
    | some q => if seen[q.toNat]? = some ((proc : Int) + 1) then usesF m proc f seen left.dropLast else match m.exprs[q.toNat]? with
      | none => (false, seen)
      | some x => if useB m proc x = true then usesF m proc f (seen.set q.toNat (proc + 1)) (left.dropLast ++ partsL x) else (false, seen.set q.toNat (proc + 1))
def usesL (m : ModelD) (proc : Nat) (seen : List Int) (top : Int) : Bool × List Int := usesF m proc 70000 seen [top]
/-- One behind the other, till one does not hold. -/
def stopF {σ α : Type} (f : σ → α → Bool × σ) : List α → σ → Bool × σ
  | [], s => (true, s)
  | x :: r, s => if (f s x).1 = true then stopF f r (f s x).2 else (false, (f s x).2)
def argsAt (m : ModelD) (x : Int) : List Int := (m.exprs[x.toNat]?.map (·.args)).getD []
def topL (m : ModelD) (proc : Nat) (whole : Bool) (x : Int) : List Int := if x < 0 then [] else if whole = true ∧ opAt m x = 39 ∧ (proc : Int) ≠ m.claim then argsAt m x else [x]
def topsL (m : ModelD) (proc : Nat) (s : StmtD) : List Int := topL m proc (decide (s.kind = 1)) s.a ++ topL m proc (decide (s.kind = 2)) s.b ++ s.args
def usedByL (m : ModelD) (proc : Nat) (seen : List Int) (s : StmtD) : Bool × List Int := stopF (usesL m proc) (topsL m proc s) seen
def wayL (m : ModelD) (proc : Nat) (seen : List Int) (t : TransD) : Bool × List Int := if (stmtB m t.s && (!(decide ((proc : Int) = m.claim)) || claimsB t.s.kind)) = true then usedByL m proc seen t.s else (false, seen)
def waysL (m : ModelD) (proc : Nat) (seen : List Int) (l : List TransD) : Bool × List Int := stopF (wayL m proc) l seen
def locL (m : ModelD) (proc : Nat) (seen : List Int) (l : LocD) : Bool × List Int := stopF (waysL m proc) (l.out :: l.esc) seen
def procL (m : ModelD) (seen : List Int) (x : ProcD × Nat) : Bool × List Int :=
  if (stopF (locL m x.2) x.1.locs seen).1 = true then (if 0 ≤ x.1.provided then usesL m x.2 (stopF (locL m x.2) x.1.locs seen).2 x.1.provided else (true, (stopF (locL m x.2) x.1.locs seen).2)) else (false, (stopF (locL m x.2) x.1.locs seen).2)
def statGo (m : ModelD) : List (ProcD × Nat) → List Int → Int × Bool
  | [], _ => (0, true)
  | x :: r, s => if (procL m s x).1 = true then statGo m r (procL m s x).2 else (x.2, false)
def statementsL (m : ModelD) : Int × Bool := statGo m m.procs.zipIdx (List.replicate m.exprs.length 0)
def checkL (m : ModelD) : Int × Int × Int :=
  if (globalsL m).2 = false then (40, 1, (globalsL m).1) else if (channelsL m).2 = false then (40, 2, (channelsL m).1) else if (expressionsL m).2 = false then (40, 3, (expressionsL m).1)
  else if (procsL m).2 = false then (40, 4, (procsL m).1) else if (activeL m).2 = false then (40, 5, (activeL m).1) else if (statementsL m).2 = false then (40, 6, (statementsL m).1) else (0, 0, 0)

/-- What the third part gives. -/
theorem exprsGo_ok {m : ModelD} : ∀ (l : List ExprD) (i : Nat) (t : List Bool), (exprsGo m l i t).2 = true → ∀ k (hk : k < l.length), exprB m l[k] = true ∧ ∀ p ∈ partsL l[k], 0 ≤ p ∧ p < ((i + k : Nat) : Int)
  | [], _, _, _, k, hk => by simp at hk
  | x :: r, i, t, h, k, hk => by
    unfold exprsGo at h
    split at h
    · rename_i h1
      split at h
      · rename_i h2
        cases k with
        | zero =>
          refine ⟨h1, fun p hp => ?_⟩
          have key : ∀ (l : List Int) (s : List Bool × Bool), (l.foldl (takePart i) s).2 = true → s.2 = true ∧ ∀ p ∈ l, 0 ≤ p ∧ p < (i : Int) := by
            intro l
            induction l with
            | nil => intro s h; exact ⟨h, fun p hp => by cases hp⟩
            | cons q r ih =>
              intro s h
              rw [List.foldl_cons] at h
              obtain ⟨h3, h4⟩ := ih _ h
              unfold takePart at h3
              split at h3
              · cases h3
              · rename_i h5
                refine ⟨h3, fun p hp => ?_⟩
                rcases List.mem_cons.1 hp with rfl | hp
                · omega
                · exact h4 p hp
          have := (key (partsL x) (t, true) h2).2 p (by simpa using hp)
          simpa using this
        | succ k =>
          have := exprsGo_ok r (i + 1) _ h k (by simpa using hk)
          refine ⟨this.1, fun p hp => ?_⟩
          have h5 := this.2 p (by simpa using hp)
          refine ⟨h5.1, ?_⟩
          have h6 := h5.2
          omega
      · cases h
    · cases h
end Go.Proofs.YtihkkjflfdbkkaaGreatDoor
/- Type, Fits, Reach. -/
namespace Go.Proofs.YtihkkjflfdbkkaaGreatDoor
open Go.ChangeShapes Go.WideShapes Go.ChangeAt Go.RowKit

theorem typeC (b : Int) (s : Bool) (w : World) : Calls Tryz.prog 77 #[.agg #[.int .i64 b, .bool s]] w fun e w' => e = .returned (.bool (tyB b s)) ∧ Below w.heap.size w w' := by
  go_enter Tryz.func77, Tryz.ntmps77
  go_wp2
  all_goals (go_ret; refine ⟨retB ?_, Below.alloc (Below.refl _ _) (Nat.le_refl _) _⟩)
  all_goals (unfold tyB; rw [Bool.eq_iff_iff]; simp_all)
  all_goals omega
theorem fitsC (b : Int) (s : Bool) (v : Int) (w : World) : Calls Tryz.prog 76 #[.agg #[.int .i64 b, .bool s], .int .i64 v] w fun e w' => e = .returned (.bool (fitB b s v)) ∧ Below w.heap.size w w' := by
  have HB := Lib.hid (Below.alloc (Below.refl w.heap.size w) (Nat.le_refl _) (.cells #[.int .i64 b, .bool s] 113))
  have HS : Hid (w.heap.size < (w.alloc (.cells #[.int .i64 b, .bool s] 113)).heap.size) := Lib.hid (by simp)
  have HC := Lib.hid (heap_alloc_new w (.cells #[.int .i64 b, .bool s] 113))
  go_enter Tryz.func76, Tryz.ntmps76
  go_wp2_with fail
  refine (typeC b s _).mono ?_
  rintro e w1 ⟨rfl, hb⟩
  have HB1 := Lib.hid (HB.out.trans (hb.mono (Nat.le_of_lt HS.out)))
  have c0 : w1.cell? ⟨w.heap.size, 0, none⟩ = some (.int .i64 b) := by
    rw [hb.cell HS.out, cell_of_row _ _ _ _ _ _ HC.out]; rfl
  have c1 : w1.cell? ⟨w.heap.size, 1, none⟩ = some (.bool s) := by
    rw [hb.cell HS.out, cell_of_row _ _ _ _ _ _ HC.out]; rfl
  clear hb HB HS HC
  cases hty : tyB b s
  · have hf : fitB b s v = false := by unfold fitB; rw [hty]; rfl
    go_wp2
    go_ret
    exact ⟨retB hf.symm, HB1.out⟩
  · have h1 : 1 ≤ b ∧ b ≤ 32 ∧ (s = true → b = 16 ∨ b = 32) := by
      unfold tyB at hty; simp at hty; cases s <;> simp_all
    obtain ⟨h1, h2, h3⟩ := h1
    cases s
    · have hf : fitB b false v = (decide (0 ≤ v) && decide (v < 2 ^ b.toNat)) := by unfold fitB; rw [hty]; rfl
      have hp : (2 : Int) ^ b.toNat ≤ 2 ^ 32 := by
        have := Nat.pow_le_pow_right (n := 2) (by decide) (show b.toNat ≤ 32 by omega)
        exact_mod_cast this
      have hq : (0 : Int) < 2 ^ b.toNat := Int.pow_pos (by decide)
      have HWR : Hid (wrap64 (2 ^ b.toNat) = 2 ^ b.toNat) := Lib.hid (IntWalk.wrap64_in _ (by omega))
      have HF := Lib.hid hf
      clear hf hp hq
      go_wp2
      all_goals (go_ret; refine ⟨retB (Eq.trans ?_ HF.out.symm), HB1.out⟩)
      all_goals (have hwr := HWR.out; rw [Bool.eq_iff_iff]; simp_all)
      all_goals omega
    · rcases h3 rfl with rfl | rfl
      · have hf : fitB 16 true v = (decide (-32768 ≤ v) && decide (v < 32768)) := by unfold fitB; rw [hty]; rfl
        skip
        go_wp2
        all_goals (go_ret; refine ⟨retB (Eq.trans ?_ hf.symm), HB1.out⟩)
        all_goals (rw [Bool.eq_iff_iff]; simp_all)
        all_goals omega
      · have hf : fitB 32 true v = (decide (-2147483648 ≤ v) && decide (v < 2147483648)) := by unfold fitB; rw [hty]; rfl
        skip
        go_wp2
        all_goals (go_ret; refine ⟨retB (Eq.trans ?_ hf.symm), HB1.out⟩)
        all_goals (rw [Bool.eq_iff_iff]; simp_all)
        all_goals omega

theorem mul_small (a b : Int) (h1 : 0 ≤ a) (h2 : a ≤ 1073741824) (h3 : 0 ≤ b) (h4 : b ≤ 1073741824) : 0 ≤ a * b ∧ a * b ≤ 1152921504606846976 :=
  ⟨Int.mul_nonneg h1 h3, Int.le_trans (Int.mul_le_mul h2 h4 h3 (by decide)) (by decide)⟩
set_option maxRecDepth 100000 in
theorem reachC (v : VarD) (o : Option Addr) (cap B : Nat) (w : World) (hin : Row B o 3 (dimAt w) v.dims) (hB : B ≤ w.heap.size) :
    Calls Tryz.prog 152 #[.agg #[.int .i64 v.scope, .int .i64 v.slot, .int .i64 v.who, .int .i64 v.type, .slice o v.dims.length cap]] w fun e w' => e = .returned (.int .i64 (reachL v)) ∧ Below w.heap.size w w' := by
  have HIN := Lib.hid hin
  have hn : v.dims.length ≤ 140737488355328 := hin.1
  have HBB := Lib.hid hB
  clear hin hB
  obtain ⟨sc, sl, wh, ty, dims⟩ := v
  simp only at HIN hn ⊢
  by_cases hbad : 4 < dims.length ∨ sl < 0 ∨ 1073741824 < sl
  · have hv : reachL ⟨sc, sl, wh, ty, dims⟩ = 0 := if_pos hbad
    have HV := Lib.hid hv
    clear hv
    go_enter Tryz.func152, Tryz.ntmps152
    go_wp2
    all_goals first | (exfalso; omega) | (go_ret; exact ⟨retI HV.out.symm, Below.alloc (Below.refl _ _) (Nat.le_refl _) _⟩)
  · have HV : Hid (reachR dims (sl + 1) = reachL ⟨sc, sl, wh, ty, dims⟩) := Lib.hid (if_neg hbad).symm
    generalize reachL ⟨sc, sl, wh, ty, dims⟩ = R at HV
    have h1 : ¬ 4 < dims.length := fun h => hbad (.inl h)
    have h2 : ¬ sl < 0 := fun h => hbad (.inr (.inl h))
    have h3 : ¬ 1073741824 < sl := fun h => hbad (.inr (.inr h))
    clear hbad
    have hs1 : IntKind.i64.wrap (sl + 1) = sl + 1 := IntWalk.i64_in _ (by omega)
    have HB : Hid (Below w.heap.size w (w.alloc (.cells #[.int .i64 sc, .int .i64 sl, .int .i64 wh, .int .i64 ty, .slice o dims.length cap] 72))) := Lib.hid (Below.alloc (Below.refl _ _) (Nat.le_refl _) _)
    go_enter Tryz.func152, Tryz.ntmps152
    go_wp2
    go_loopw [3, 26] (fun a i wr => ∃ (k : Nat) (x : Int), i = .int .i64 k ∧ k ≤ dims.length ∧ a = .int .i64 x ∧ 0 ≤ x ∧ x ≤ 1073741825 + k * 1152921504606846976 ∧ Hid (reachR (dims.drop k) x = R) ∧ Hid (Below w.heap.size w wr)) (fun _ i _ => dims.length - (intOf i).toNat)
    case atStart => exact ⟨0, sl + 1, rfl, by omega, rfl, by omega, by omega, HV, HB⟩
    case round =>
      clear HV HB
      obtain ⟨k, x, rfl, hk, rfl, hx0, hx1, HR, HBR⟩ := hrel
      by_cases hlt : k < dims.length
      · obtain ⟨g, off, rfl, hg, e0, e1, e2⟩ := HIN.out.cell hlt
        have HDR : Hid (dims.drop k = dims[k] :: dims.drop (k + 1)) := Lib.hid (List.drop_eq_getElem_cons hlt)
        obtain ⟨⟨I, L, S⟩, hd⟩ : ∃ d, dims[k] = d := ⟨_, rfl⟩
        rw [hd] at e0 e1 e2 HDR
        simp only at e0 e1 e2
        have hgw : g < w.heap.size := Nat.lt_of_lt_of_le hg HBB.out
        have c0 := (HBR.out.cell (p := ⟨g, off + k * 3, none⟩) hgw).trans e0
        have c1 := (HBR.out.cell (p := ⟨g, off + k * 3 + 1, none⟩) hgw).trans e1
        have c2 := (HBR.out.cell (p := ⟨g, off + k * 3 + 2, none⟩) hgw).trans e2
        clear e0 e1 e2 hd
        have hsz := HBR.out.size
        by_cases hb : L < 1 ∨ 1073741825 < L ∨ S < 0 ∨ 1073741824 < S
        · have HZ : Hid (R = 0) := Lib.hid (by rw [← HR.out, HDR.out]; exact if_pos hb)
          clear HR HDR
          go_wp2
          all_goals first | (exfalso; omega) | (go_ret; exact ⟨retI HZ.out.symm, HBR.out.alloc hsz _⟩)
        · have hm := mul_small (L - 1) S (by omega) (by omega) (by omega) (by omega)
          have HN : Hid (reachR (dims.drop (k + 1)) (x + (L - 1) * S) = R) := Lib.hid (by rw [← HR.out, HDR.out]; exact (if_neg hb).symm)
          have i1 : ¬ L < 1 := fun h => hb (.inl h)
          have i2 : ¬ 1073741825 < L := fun h => hb (.inr (.inl h))
          have i3 : ¬ S < 0 := fun h => hb (.inr (.inr (.inl h)))
          have i4 : ¬ 1073741824 < S := fun h => hb (.inr (.inr (.inr h)))
          have j1 : IntKind.i64.wrap (L - 1) = L - 1 := IntWalk.i64_in _ (by omega)
          have j2 : IntKind.i64.wrap ((L - 1) * S) = (L - 1) * S := IntWalk.i64_in _ (by omega)
          have j3 : IntKind.i64.wrap (x + (L - 1) * S) = x + (L - 1) * S := IntWalk.i64_in _ (by omega)
          have HM := Lib.hid hm
          clear hm hb HR HDR
          go_wp2
          go_round
          case rel =>
            have hm := HM.out
            exact ⟨k + 1, x + (L - 1) * S, by go_num, by omega, by go_num, by omega, by go_num, HN, Lib.hid (HBR.out.alloc hsz _)⟩
          case measure => simp [intOf]; omega
      · obtain rfl : k = dims.length := by omega
        have HX : Hid (x = R) := Lib.hid (by have h := HR.out; rw [List.drop_length] at h; exact h)
        go_wp2
        go_ret
        exact ⟨retI HX.out, HBR.out⟩
end Go.Proofs.YtihkkjflfdbkkaaGreatDoor
/- The checker's small questions. -/
namespace Go.Proofs.YtihkkjflfdbkkaaGreatDoor
open Go.ChangeShapes Go.WideShapes Go.ChangeAt Go.RowKit
set_option linter.unusedVariables false
set_option linter.unusedSimpArgs false

theorem partsOfC (op : Int) (w : World) : Calls Tryz.prog 114 #[.int .i64 op] w fun e w' => e = .returned (.int .i64 (partsOf op)) ∧ w = w' := by
  have HP : Hid (∀ n : Nat, partsOf op = n → ((partsOf op : Nat) : Int) = n) := Lib.hid fun n h => by rw [h]
  go_enter Tryz.func114, Tryz.ntmps114
  go_wp2
  all_goals (go_ret; refine ⟨retI ?_, rfl⟩)
  all_goals (unfold partsOf; repeat' split)
  all_goals first | rfl | omega | (exfalso; simp only [beq_iff_eq, beq_eq_false_iff_ne, ne_eq] at *; omega)
theorem proctypeC {B p : Nat} {h : MH} {m : ModelD} (n : Int) (w : World) (hk : Ck B w p h m) : Calls Tryz.prog 117 #[.pointer (some ⟨p, 0, none⟩), .int .i64 n] w fun e w' => e = .returned (.bool (ptypeB m n)) ∧ w = w' := by
  have c4 := hk.c4
  have c5 := hk.c5
  have hl := hk.md.procs.1
  clear hk
  go_enter Tryz.func117, Tryz.ntmps117
  go_wp2
  all_goals (go_ret; refine ⟨retB ?_, rfl⟩)
  all_goals (unfold ptypeB; rw [Bool.eq_iff_iff]; simp_all)
  all_goals omega
theorem isExprC {B p : Nat} {h : MH} {m : ModelD} (n : Int) (w : World) (hk : Ck B w p h m) : Calls Tryz.prog 148 #[.pointer (some ⟨p, 0, none⟩), .int .i64 n] w fun e w' => e = .returned (.bool (isExprB m n)) ∧ w = w' := by
  have c6 := hk.c6
  have hl := hk.md.exprs.1
  clear hk
  go_enter Tryz.func148, Tryz.ntmps148
  go_wp2
  all_goals (go_ret; refine ⟨retB ?_, rfl⟩)
  all_goals (unfold isExprB; rw [Bool.eq_iff_iff]; simp_all)
  all_goals omega
theorem opAt_get {m : ModelD} {n : Int} {x : ExprD} (h : m.exprs[n.toNat]? = some x) : opAt m n = x.op := by unfold opAt; rw [h]; rfl
theorem isVarC {B p : Nat} {h : MH} {m : ModelD} (n : Int) (w : World) (hk : Ck B w p h m) : Calls Tryz.prog 149 #[.pointer (some ⟨p, 0, none⟩), .int .i64 n] w fun e w' => e = .returned (.bool (isVarB m n)) ∧ w = w' := by
  have HK := Lib.hid hk
  have c6 := hk.c6
  have hl := hk.md.exprs.1
  clear hk
  cases hx : isExprB m n
  · have hv : isVarB m n = false := by unfold isVarB; rw [hx]; rfl
    have HV := Lib.hid hv
    have HX := Lib.hid hx
    clear hv hx
    go_enter Tryz.func149, Tryz.ntmps149
    go_wp2_with fail
    refine (isExprC n w HK.out).mono ?_
    rintro e w' ⟨rfl, rfl⟩
    rw [HX.out]
    go_wp2
    go_ret
    exact ⟨retB HV.out.symm, rfl⟩
  · have hb : 0 ≤ n ∧ n < m.exprs.length := by unfold isExprB at hx; simpa using hx
    obtain ⟨k, rfl⟩ : ∃ k : Nat, n = k := ⟨n.toNat, by omega⟩
    have hk : k < m.exprs.length := by omega
    obtain ⟨g, off, ho, hg, he⟩ := HK.out.md.exprs.cell hk
    have hv : isVarB m (k : Int) = decide (m.exprs[k].op = 2) := by
      unfold isVarB
      rw [hx, opAt_get (x := m.exprs[k]) (by rw [Int.toNat_natCast]; exact List.getElem?_eq_getElem hk)]
      rfl
    have HV := Lib.hid hv
    have HX := Lib.hid hx
    have c0 := he.c0
    obtain ⟨op, hop⟩ : ∃ op, m.exprs[k].op = op := ⟨_, rfl⟩
    rw [hop] at c0 HV
    rw [ho] at c6
    have h1 : (k : Int) < m.exprs.length := by omega
    clear hv hx hb he ho hop
    go_enter Tryz.func149, Tryz.ntmps149
    go_wp2_with fail
    refine (isExprC k w HK.out).mono ?_
    rintro e w' ⟨rfl, rfl⟩
    rw [HX.out]
    go_wp2
    all_goals (go_ret; refine ⟨retB ?_, rfl⟩)
    all_goals (rw [HV.out])
    all_goals (rw [Bool.eq_iff_iff]; simp)
end Go.Proofs.YtihkkjflfdbkkaaGreatDoor
