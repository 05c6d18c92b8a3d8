/- Which models may be run, as functions of data. -/
import Derived.Test.YtofdfaopabmfoaaM01
namespace Go.Proofs.Ytofdfaopabmfoaa

/-- May a type be? -/
def tyB (b : Int) (s : Bool) : Bool := decide (1 ≤ b) && decide (b ≤ 32) && (!s || decide (b = 16) || decide (b = 32))
/-- Is a number one of a type? -/
def fitB (b : Int) (s : Bool) (v : Int) : Bool :=
  tyB b s && (if s then decide (-2 ^ (b.toNat - 1) ≤ v) && decide (v < 2 ^ (b.toNat - 1)) else decide (0 ≤ v) && decide (v < 2 ^ b.toNat))
def reachR : List DimD → Int → Int
  | [], a => a
  | d :: r, a => if d.len < 1 ∨ 1073741825 < d.len ∨ d.stride < 0 ∨ 1073741824 < d.stride then 0 else reachR r (a + (d.len - 1) * d.stride)
def reachL (v : VarD) : Int := if 4 < v.dims.length ∨ v.slot < 0 ∨ 1073741824 < v.slot then 0 else reachR v.dims (v.slot + 1)

def fitZ (x : (Int × Bool) × Int) : Bool := fitB x.1.1 x.1.2 x.2
def globalsL (m : ModelD) : Int × Bool := if 128 < m.globals.length ∨ m.init.length ≠ m.globals.length then (-1, false) else idxB (bad fitZ (m.globals.zip m.init))
def tyP (t : Int × Bool) : Bool := tyB t.1 t.2
def shapeB (s : ShapeD) : Bool := !(decide (s.room < 0 ∨ 16 < s.room ∨ s.fields.length < 1 ∨ 8 < s.fields.length)) && s.fields.all tyP
def chanB (m : ModelD) (s : Int) : Bool := decide (0 ≤ s ∧ s < m.shapes.length)
def channelsL (m : ModelD) : Int × Bool := if 32 < m.shapes.length ∨ 32 < m.chans.length then (-1, false) else match bad shapeB m.shapes with
  | some i => (i, false)
  | none => idxB (bad (chanB m) m.chans)

def ptypeB (m : ModelD) (n : Int) : Bool := decide (0 ≤ n ∧ n < m.procs.length ∧ n ≠ m.claim)
def dimB (d : DimD) : Bool := !(decide (d.len < 1 ∨ 128 < d.len ∨ d.stride < 0 ∨ 128 < d.stride))
def varHeadB (v : VarD) : Bool := !(decide (v.scope < 0 ∨ 2 < v.scope ∨ v.slot < 0 ∨ 128 < v.slot ∨ 4 < v.dims.length))
def varTailB (m : ModelD) (v : VarD) : Bool := if v.scope = 2 then ptypeB m v.type else decide (v.who = -1 ∧ v.type = -1)
def varB (m : ModelD) (v : VarD) : Bool := varHeadB v && v.dims.all dimB && varTailB m v
def isExprB (m : ModelD) (x : Int) : Bool := decide (0 ≤ x ∧ x < m.exprs.length)
def opAt (m : ModelD) (x : Int) : Int := (m.exprs[x.toNat]?.map (·.op)).getD 0
def isVarB (m : ModelD) (x : Int) : Bool := isExprB m x && decide (opAt m x = 2)
def fieldB (m : ModelD) (x : Int × Int) : Bool := isExprB m x.1 && decide (-1 ≤ x.2 ∧ x.2 ≤ 1) && (!(decide (x.2 = 0)) || isVarB m x.1)
def fieldsB (m : ModelD) (args mat : List Int) : Bool := !(decide (args.length < 1 ∨ 8 < args.length ∨ mat.length ≠ args.length)) && (args.zip mat).all (fieldB m)
def partsOf (op : Int) : Nat := if op = 24 then 3 else if 6 ≤ op ∧ op ≤ 23 then 2 else if (3 ≤ op ∧ op ≤ 5) ∨ (25 ≤ op ∧ op ≤ 30) ∨ (36 ≤ op ∧ op ≤ 38) then 1 else 0
def abcL (x : ExprD) : List Int := [x.a, x.b, x.c]
def restB (x : ExprD) : Bool := ((abcL x).drop (partsOf x.op)).all (fun q => decide (q = -1))
def locsAt (m : ModelD) (n : Int) : Nat := (m.procs[n.toNat]?.map (·.locs.length)).getD 0
def paramsAt (m : ModelD) (n : Int) : Int := (m.procs[n.toNat]?.map (·.params)).getD 0
def atB (m : ModelD) (x : ExprD) : Bool := !(!(ptypeB m x.n) || decide (x.args.length = 0)) && x.args.all (fun q => decide (0 ≤ q ∧ q < locsAt m x.n))
def kindB (m : ModelD) (x : ExprD) : Bool :=
  if x.op = 1 then fitB 32 true x.n else if x.op = 2 then varB m x.v else if x.op = 30 then decide (x.n = 0 ∨ x.n = 1) && fieldsB m x.args x.mat
  else if x.op = 38 then atB m x else if x.op = 39 then ptypeB m x.n && decide ((x.args.length : Int) = paramsAt m x.n) else true
def exprB (m : ModelD) (x : ExprD) : Bool := decide (1 ≤ x.op ∧ x.op ≤ 39) && restB x && kindB m x
/-- All parts, the Who, the indexes. -/
def moreL (x : ExprD) : List Int := if x.op = 2 then (if x.v.scope = 2 then [x.v.who] else []) ++ x.v.dims.map (·.i) else if x.op = 30 ∨ x.op = 39 then x.args else []
def partsL (x : ExprD) : List Int := (abcL x).take (partsOf x.op) ++ moreL x
def takePart (i : Nat) (s : List Bool × Bool) (p : Int) : List Bool × Bool := if p < 0 ∨ (i : Int) ≤ p ∨ s.1.getD p.toNat false = true then (s.1, false) else (s.1.set p.toNat true, s.2)
def takeAll (i : Nat) (t : List Bool) (l : List Int) : List Bool × Bool := l.foldl (takePart i) (t, true)
def exprsGo (m : ModelD) : List ExprD → Nat → List Bool → Int × Bool
  | [], _, _ => (0, true)
  | x :: r, i, t => if exprB m x = true then (if (takeAll i t (partsL x)).2 = true then exprsGo m r (i + 1) (takeAll i t (partsL x)).1 else (i, false)) else (i, false)
def exprsHead (m : ModelD) : Bool := decide (m.procs.length < 1 ∨ 16 < m.procs.length ∨ m.claim < -1 ∨ (m.procs.length : Int) ≤ m.claim ∨ 4096 < m.exprs.length)
def expressionsL (m : ModelD) : Int × Bool := if exprsHead m = true then (-1, false) else exprsGo m m.exprs 0 (List.replicate m.exprs.length false)

def frameHeadB (p : ProcD) : Bool := !(decide (128 < p.frame.length ∨ p.init.length ≠ p.frame.length ∨ p.params < 0 ∨ (p.frame.length : Int) < p.params))
def frameTailB (m : ModelD) (p : ProcD) : Bool := decide (0 ≤ p.active ∧ p.active ≤ 16 ∧ 1 ≤ p.prio ∧ p.prio ≤ 255 ∧ -1 ≤ p.provided ∧ p.provided < m.exprs.length)
def frameB (m : ModelD) (p : ProcD) : Bool := frameHeadB p && (p.frame.zip p.init).all fitZ && frameTailB m p
def placesHeadB (p : ProcD) : Bool := !(decide (p.locs.length < 1 ∨ 256 < p.locs.length ∨ p.start < 0 ∨ (p.locs.length : Int) ≤ p.start ∨ p.final < 0 ∨ (p.locs.length : Int) ≤ p.final))
def toB (n : Nat) (t : TransD) : Bool := decide (0 ≤ t.to ∧ t.to < n)
def locHeadB (p : ProcD) (i : Nat) (l : LocD) : Bool := !(decide (8 < l.esc.length ∨ (l.dstep = true ∧ l.atomic = true) ∨ ((i : Int) = p.final ∧ (0 < l.out.length ∨ 0 < l.esc.length))))
def escB (n : Nat) (l : List TransD) : Bool := decide (l.length ≠ 0) && l.all (toB n)
def locB (p : ProcD) (i : Nat) (l : LocD) : Bool := locHeadB p i l && l.out.all (toB p.locs.length) && l.esc.all (escB p.locs.length)
def locB' (p : ProcD) (x : LocD × Nat) : Bool := locB p x.2 x.1
def manyL (l : LocD) : Nat := l.out.length + (l.esc.map List.length).sum
def manyP (p : ProcD) : Nat := (p.locs.map manyL).sum
def placesB (p : ProcD) : Bool := placesHeadB p && p.locs.zipIdx.all (locB' p) && decide (manyP p ≤ 1024)
def looksLocB (l : LocD) : Bool := !(decide (0 < l.esc.length) || l.atomic || l.dstep)
def looksOnB (p : ProcD) : Bool := p.locs.all looksLocB && decide (p.frame.length = 0 ∧ p.params = 0 ∧ p.active = 0 ∧ p.provided = -1)
def procB (m : ModelD) (x : ProcD × Nat) : Bool := frameB m x.1 && placesB x.1 && (!(decide ((x.2 : Int) = m.claim)) || looksOnB x.1)
def procsL (m : ModelD) : Int × Bool := idxB (bad (procB m) m.procs.zipIdx)
def activeS (m : ModelD) : Int := (m.procs.map (·.active)).sum
def activeL (m : ModelD) : Int × Bool := (-1, decide (activeS m ≤ 16))

def scopeAt (m : ModelD) (x : Int) : Int := (m.exprs[x.toNat]?.map (·.v.scope)).getD 0
def settableB (m : ModelD) (x : Int) : Bool := isVarB m x && decide (scopeAt m x ≠ 2)
def recvB (m : ModelD) (x : Int × Int) : Bool := !(decide (x.2 = 0)) || settableB m x.1
def receivesB (m : ModelD) (s : StmtD) : Bool := fieldsB m s.args s.mat && (s.args.zip s.mat).all (recvB m)
/-- What a kind asks: hasA, hasB, mostN, least, most, matches, text. -/
structure Ask where
  hasA : Bool
  hasB : Bool
  mostN : Int
  least : Int
  most : Int
  matches_ : Bool
  text : Bool
def askOf (m : ModelD) (k : Int) : Option Ask :=
  if k = 1 ∨ k = 3 then some ⟨true, false, 0, 0, 0, false, false⟩ else if k = 2 then some ⟨true, true, 0, 0, 0, false, false⟩ else if k = 4 then some ⟨false, false, 0, 0, -1, false, true⟩
  else if k = 5 then some ⟨true, false, 1, 1, 8, false, false⟩ else if k = 6 then some ⟨true, false, 3, 1, 8, true, false⟩ else if k = 7 ∨ k = 8 then some ⟨false, false, 0, 0, 0, false, false⟩
  else if k = 9 then some ⟨true, false, (m.shapes.length : Int) - 1, 0, 0, false, false⟩ else none
def askAB (m : ModelD) (s : StmtD) (q : Ask) : Bool := !(decide (q.hasA ≠ decide (s.a ≠ -1)) || (q.hasA && !isExprB m s.a) || decide (q.hasB ≠ decide (s.b ≠ -1)) || (q.hasB && !isExprB m s.b))
def askN (s : StmtD) (q : Ask) : Bool := !(decide (s.n < 0 ∨ q.mostN < s.n ∨ (s.args.length : Int) < q.least ∨ (0 ≤ q.most ∧ q.most < (s.args.length : Int)) ∨ (q.matches_ = false ∧ 0 < s.mat.length) ∨ (q.text = false ∧ s.text.size ≠ 0) ∨ 256 < s.text.size))
def stmtB (m : ModelD) (s : StmtD) : Bool := match askOf m s.kind with
  | none => false
  | some q => askAB m s q && askN s q && s.args.all (isExprB m) && (!(decide (s.kind = 2 ∨ s.kind = 9)) || settableB m s.a) && (!q.matches_ || receivesB m s)
def claimsB (k : Int) : Bool := decide (k = 1 ∨ k = 3 ∨ k = 7 ∨ k = 8)
def frameAt (m : ModelD) (n : Int) : Nat := (m.procs[n.toNat]?.map (·.frame.length)).getD 0
def roomL (m : ModelD) (proc : Nat) (v : VarD) : Int := if v.scope = 1 then frameAt m proc else if v.scope = 2 then frameAt m v.type else m.globals.length
def liesB (m : ModelD) (proc : Nat) (v : VarD) : Bool := !(decide (v.scope = 1 ∧ (proc : Int) = m.claim)) && decide (reachL v ≤ roomL m proc v)
/-- May an expression be used, by itself? -/
def useB (m : ModelD) (proc : Nat) (x : ExprD) : Bool := if x.op = 39 then false else if x.op = 31 then decide ((proc : Int) ≠ m.claim) else if x.op = 2 then liesB m proc x.v else true
/-- What is left is looked at, the last one first. -/
def usesF (m : ModelD) (proc : Nat) : Nat → List Int → List Int → Bool × List Int
  | 0, seen, _ => (false, seen)
  | f + 1, seen, left => match left.getLast? with
    | none => (true, seen)
    | some q => if seen[q.toNat]? = some ((proc : Int) + 1) then usesF m proc f seen left.dropLast else match m.exprs[q.toNat]? with
      | none => (false, seen)
      | some x => if useB m proc x = true then usesF m proc f (seen.set q.toNat (proc + 1)) (left.dropLast ++ partsL x) else (false, seen.set q.toNat (proc + 1))
def usesL (m : ModelD) (proc : Nat) (seen : List Int) (top : Int) : Bool × List Int := usesF m proc 70000 seen [top]
/-- One behind the other, till one does not hold. -/
def stopF {σ α : Type} (f : σ → α → Bool × σ) : List α → σ → Bool × σ
  | [], s => (true, s)
  | x :: r, s => if (f s x).1 = true then stopF f r (f s x).2 else (false, (f s x).2)
def argsAt (m : ModelD) (x : Int) : List Int := (m.exprs[x.toNat]?.map (·.args)).getD []
def topL (m : ModelD) (proc : Nat) (whole : Bool) (x : Int) : List Int := if x < 0 then [] else if whole = true ∧ opAt m x = 39 ∧ (proc : Int) ≠ m.claim then argsAt m x else [x]
def topsL (m : ModelD) (proc : Nat) (s : StmtD) : List Int := topL m proc (decide (s.kind = 1)) s.a ++ topL m proc (decide (s.kind = 2)) s.b ++ s.args
def usedByL (m : ModelD) (proc : Nat) (seen : List Int) (s : StmtD) : Bool × List Int := stopF (usesL m proc) (topsL m proc s) seen
def wayL (m : ModelD) (proc : Nat) (seen : List Int) (t : TransD) : Bool × List Int := if (stmtB m t.s && (!(decide ((proc : Int) = m.claim)) || claimsB t.s.kind)) = true then usedByL m proc seen t.s else (false, seen)
def waysL (m : ModelD) (proc : Nat) (seen : List Int) (l : List TransD) : Bool × List Int := stopF (wayL m proc) l seen
def locL (m : ModelD) (proc : Nat) (seen : List Int) (l : LocD) : Bool × List Int := stopF (waysL m proc) (l.out :: l.esc) seen
def procL (m : ModelD) (seen : List Int) (x : ProcD × Nat) : Bool × List Int :=
  if (stopF (locL m x.2) x.1.locs seen).1 = true then (if 0 ≤ x.1.provided then usesL m x.2 (stopF (locL m x.2) x.1.locs seen).2 x.1.provided else (true, (stopF (locL m x.2) x.1.locs seen).2)) else (false, (stopF (locL m x.2) x.1.locs seen).2)
def statGo (m : ModelD) : List (ProcD × Nat) → List Int → Int × Bool
  | [], _ => (0, true)
  | x :: r, s => if (procL m s x).1 = true then statGo m r (procL m s x).2 else (x.2, false)
def statementsL (m : ModelD) : Int × Bool := statGo m m.procs.zipIdx (List.replicate m.exprs.length 0)
def checkL (m : ModelD) : Int × Int × Int :=
  if (globalsL m).2 = false then (40, 1, (globalsL m).1) else if (channelsL m).2 = false then (40, 2, (channelsL m).1) else if (expressionsL m).2 = false then (40, 3, (expressionsL m).1)
  else if (procsL m).2 = false then (40, 4, (procsL m).1) else if (activeL m).2 = false then (40, 5, (activeL m).1) else if (statementsL m).2 = false then (40, 6, (statementsL m).1) else (0, 0, 0)

/-- What the third part gives. -/
theorem exprsGo_ok {m : ModelD} : ∀ (l : List ExprD) (i : Nat) (t : List Bool), (exprsGo m l i t).2 = true → ∀ k (hk : k < l.length), exprB m l[k] = true ∧ ∀ p ∈ partsL l[k], 0 ≤ p ∧ p < ((i + k : Nat) : Int)
  | [], _, _, _, k, hk => by simp at hk
  | x :: r, i, t, h, k, hk => by
    unfold exprsGo at h
    split at h
    · rename_i h1
      split at h
      · rename_i h2
        cases k with
        | zero =>
          refine ⟨h1, fun p hp => ?_⟩
          have key : ∀ (l : List Int) (s : List Bool × Bool), (l.foldl (takePart i) s).2 = true → s.2 = true ∧ ∀ p ∈ l, 0 ≤ p ∧ p < (i : Int) := by
            intro l
            induction l with
            | nil => intro s h; exact ⟨h, fun p hp => by cases hp⟩
            | cons q r ih =>
              intro s h
              rw [List.foldl_cons] at h
              obtain ⟨h3, h4⟩ := ih _ h
              unfold takePart at h3
              split at h3
              · cases h3
              · rename_i h5
                refine ⟨h3, fun p hp => ?_⟩
                rcases List.mem_cons.1 hp with rfl | hp
                · omega
                · exact h4 p hp
          have := (key (partsL x) (t, true) h2).2 p (by simpa using hp)
          simpa using this
        | succ k =>
          have := exprsGo_ok r (i + 1) _ h k (by simpa using hk)
          refine ⟨this.1, fun p hp => ?_⟩
          have h5 := this.2 p (by simpa using hp)
          refine ⟨h5.1, ?_⟩
          have h6 := h5.2
          omega
      · cases h
    · cases h
end Go.Proofs.Ytofdfaopabmfoaa
/- What a proctype uses: how much is left to be looked at. -/
namespace Go.Proofs.Ytofdfaopabmfoaa

/-- How many parts are still handed over, at most. -/
def toGo (m : ModelD) (proc : Nat) (seen : List Int) : Nat := ((m.exprs.zip seen).map fun z => if z.2 = (proc : Int) + 1 then 0 else (partsL z.1).length).sum
def partsN (l : List ExprD) : Nat := (l.map fun x => (partsL x).length).sum

theorem toGo_le (m : ModelD) (proc : Nat) (seen : List Int) : toGo m proc seen ≤ partsN m.exprs := by
  unfold toGo partsN
  generalize m.exprs = l
  induction l generalizing seen with
  | nil => simp
  | cons x r ih =>
    cases seen with
    | nil => simp
    | cons s t =>
      have := ih t
      simp only [List.zip_cons_cons, List.map_cons, List.sum_cons]
      split <;> omega
theorem toGo_set {m : ModelD} {proc q : Nat} {seen : List Int} {x : ExprD} {v : Int} (hx : m.exprs[q]? = some x) (hs : seen[q]? = some v) (hv : v ≠ (proc : Int) + 1) :
    toGo m proc (seen.set q ((proc : Int) + 1)) + (partsL x).length = toGo m proc seen := by
  unfold toGo
  generalize m.exprs = l at hx
  induction l generalizing seen q with
  | nil => simp at hx
  | cons y r ih =>
    cases seen with
    | nil => simp at hs
    | cons s t =>
      cases q with
      | zero =>
        simp only [List.getElem?_cons_zero, Option.some.injEq] at hx hs
        subst hx hs
        simp only [List.set_cons_zero, List.zip_cons_cons, List.map_cons, List.sum_cons, if_pos, if_neg hv]
        omega
      | succ q =>
        simp only [List.getElem?_cons_succ] at hx hs
        have := ih hs hx
        simp only [List.set_cons_succ, List.zip_cons_cons, List.map_cons, List.sum_cons]
        omega

theorem takeAll_count {i : Nat} : ∀ (l : List Int) (s : List Bool × Bool), i ≤ s.1.length → (l.foldl (takePart i) s).2 = true → s.2 = true ∧ (l.foldl (takePart i) s).1.count true = s.1.count true + l.length ∧ (l.foldl (takePart i) s).1.length = s.1.length := by
  intro l
  induction l with
  | nil => intro s _ h; exact ⟨h, by simp, rfl⟩
  | cons q r ih =>
    intro s hi h
    rw [List.foldl_cons] at h ⊢
    have hlen : (takePart i s q).1.length = s.1.length := by unfold takePart; split <;> simp
    obtain ⟨h1, h2, h3⟩ := ih _ (by rw [hlen]; exact hi) h
    rw [h2, h3]
    unfold takePart at h1 ⊢
    split at h1
    · cases h1
    · rename_i hq
      rw [if_neg hq]
      have hg : s.1.getD q.toNat false = false := by
        cases hg : s.1.getD q.toNat false
        · rfl
        · exact absurd (.inr (.inr hg)) hq
      have hl : q.toNat < s.1.length := by
        have h5 : ¬ (q < 0 ∨ (i : Int) ≤ q) := fun h => hq (by rcases h with h | h; exact .inl h; exact .inr (.inl h))
        omega
      have hf : s.1[q.toNat] = false := by
        rw [List.getD_eq_getElem?_getD, List.getElem?_eq_getElem hl] at hg
        exact hg
      refine ⟨h1, ?_, by simp⟩
      rw [List.count_set hl, hf]
      simp
      omega
theorem exprsGo_count {m : ModelD} : ∀ (l : List ExprD) (i : Nat) (t : List Bool), i + l.length ≤ t.length → (exprsGo m l i t).2 = true → partsN l + t.count true ≤ t.length
  | [], _, t, _, _ => by have := List.count_le_length (a := true) (l := t); simp [partsN]; omega
  | x :: r, i, t, hi, h => by
    rw [List.length_cons] at hi
    unfold exprsGo at h
    split at h
    · split at h
      · rename_i h2
        obtain ⟨-, h4, h5⟩ := takeAll_count (partsL x) (t, true) (by simp only; omega) h2
        have := exprsGo_count r (i + 1) _ (by unfold takeAll; rw [h5]; simp only; omega) h
        unfold takeAll at this
        rw [h4, h5] at this
        simp only at this
        have e : partsN (x :: r) = (partsL x).length + partsN r := by unfold partsN; simp
        rw [e]
        omega
      · cases h
    · cases h
/-- What the third part gives, whole. -/
structure EX (m : ModelD) : Prop where
  le : m.exprs.length ≤ 4096
  ok : ∀ (k : Nat) (x : ExprD), m.exprs[k]? = some x → exprB m x = true ∧ ∀ p ∈ partsL x, 0 ≤ p ∧ p < (k : Int)
  sum : partsN m.exprs ≤ 4096
theorem EX.of {m : ModelD} (h : (expressionsL m).2 = true) : EX m := by
  unfold expressionsL at h
  split at h
  · cases h
  · rename_i hh
    have hl : m.exprs.length ≤ 4096 := by
      unfold exprsHead at hh
      rw [decide_eq_true_eq] at hh
      omega
    refine ⟨hl, fun k x hx => ?_, ?_⟩
    · obtain ⟨hk, rfl⟩ := List.getElem?_eq_some_iff.1 hx
      have := exprsGo_ok _ _ _ h k hk
      rw [Nat.zero_add] at this
      exact this
    · have := exprsGo_count _ _ _ (by rw [List.length_replicate]; omega) h
      rw [List.length_replicate] at this
      omega
theorem usesF_nil {m : ModelD} {proc f : Nat} {seen : List Int} : usesF m proc (f + 1) seen [] = (true, seen) := rfl
theorem usesF_seen {m : ModelD} {proc f q : Nat} {seen l : List Int} (h : seen[q]? = some ((proc : Int) + 1)) : usesF m proc (f + 1) seen (l ++ [(q : Int)]) = usesF m proc f seen l := by
  rw [usesF, List.getLast?_concat]
  simp [h]
theorem usesF_no {m : ModelD} {proc f q : Nat} {seen l : List Int} {x : ExprD} (h : seen[q]? ≠ some ((proc : Int) + 1)) (hx : m.exprs[q]? = some x) (hu : useB m proc x = false) : usesF m proc (f + 1) seen (l ++ [(q : Int)]) = (false, seen.set q ((proc : Int) + 1)) := by
  rw [usesF, List.getLast?_concat]
  simp [h, hx, hu]
theorem usesF_yes {m : ModelD} {proc f q : Nat} {seen l : List Int} {x : ExprD} (h : seen[q]? ≠ some ((proc : Int) + 1)) (hx : m.exprs[q]? = some x) (hu : useB m proc x = true) : usesF m proc (f + 1) seen (l ++ [(q : Int)]) = usesF m proc f (seen.set q ((proc : Int) + 1)) (l ++ partsL x) := by
  rw [usesF, List.getLast?_concat]
  simp [h, hx, hu]
end Go.Proofs.Ytofdfaopabmfoaa
