/- What a proctype uses: how much is left to be looked at. -/
import Derived.Test.YtihkkjflfdbkkaaGreatDoorM02
import Derived.Test.YtihkkjflfdbkkaaGreatDoorM01
namespace Go.Proofs.YtihkkjflfdbkkaaGreatDoor

/-- How many parts are still handed over, at most. -/
def toGo (m : ModelD) (proc : Nat) (seen : List Int) : Nat := ((m.exprs.zip seen).map fun z => if z.2 = (proc : Int) + 1 then 0 else (partsL z.1).length).sum
def partsN (l : List ExprD) : Nat := (l.map fun x => (partsL x).length).sum

theorem toGo_le (m : ModelD) (proc : Nat) (seen : List Int) : toGo m proc seen ≤ partsN m.exprs := by
  unfold toGo partsN
  generalize m.exprs = l
  induction l generalizing seen with
  | nil => simp
  | cons x r ih =>
    cases seen with
    | nil => simp
    | cons s t =>
      have := ih t
      simp only [List.zip_cons_cons, List.map_cons, List.sum_cons]
      split <;> omega
theorem toGo_set {m : ModelD} {proc q : Nat} {seen : List Int} {x : ExprD} {v : Int} (hx : m.exprs[q]? = some x) (hs : seen[q]? = some v) (hv : v ≠ (proc : Int) + 1) :
    toGo m proc (seen.set q ((proc : Int) + 1)) + (partsL x).length = toGo m proc seen := by
  unfold toGo
  generalize m.exprs = l at hx
  induction l generalizing seen q with
  | nil => simp at hx
  | cons y r ih =>
    cases seen with
    | nil => simp at hs
    | cons s t =>
      cases q with
      | zero =>
        simp only [List.getElem?_cons_zero, Option.some.injEq] at hx hs
        subst hx hs
        simp only [List.set_cons_zero, List.zip_cons_cons, List.map_cons, List.sum_cons, if_pos, if_neg hv]
        omega
      | succ q =>
        simp only [List.getElem?_cons_succ] at hx hs
        have := ih hs hx
        simp only [List.set_cons_succ, List.zip_cons_cons, List.map_cons, List.sum_cons]
        omega

theorem takeAll_count {i : Nat} : ∀ (l : List Int) (s : List Bool × Bool), i ≤ s.1.length → (l.foldl (takePart i) s).2 = true → s.2 = true ∧ (l.foldl (takePart i) s).1.count true = s.1.count true + l.length ∧ (l.foldl (takePart i) s).1.length = s.1.length := by
  intro l
  induction l with
  | nil => intro s _ h; exact ⟨h, by simp, rfl⟩
  | cons q r ih =>
    intro s hi h
    rw [List.foldl_cons] at h ⊢
    have hlen : (takePart i s q).1.length = s.1.length := by unfold takePart; split <;> simp
    obtain ⟨h1, h2, h3⟩ := ih _ (by rw [hlen]; exact hi) h
    rw [h2, h3]
    unfold takePart at h1 ⊢
    split at h1
    · cases h1
    · rename_i hq
      rw [if_neg hq]
      have hg : s.1.getD q.toNat false = false := by
        cases hg : s.1.getD q.toNat false
        · rfl
        · exact absurd (.inr (.inr hg)) hq
      have hl : q.toNat < s.1.length := by
        have h5 : ¬ (q < 0 ∨ (i : Int) ≤ q) := fun h => hq (by rcases h with h | h; exact .inl h; exact .inr (.inl h))
        omega
      have hf : s.1[q.toNat] = false := by
        rw [List.getD_eq_getElem?_getD, List.getElem?_eq_getElem hl] at hg
        exact hg
      refine ⟨h1, ?_, by simp⟩
      rw [List.count_set hl, hf]
      simp
      omega
theorem exprsGo_count {m : ModelD} : ∀ (l : List ExprD) (i : Nat) (t : List Bool), i + l.length ≤ t.length → (exprsGo m l i t).2 = true → partsN l + t.count true ≤ t.length
  | [], _, t, _, _ => by have := List.count_le_length (a := true) (l := t); simp [partsN]; omega
  | x :: r, i, t, hi, h => by
    rw [List.length_cons] at hi
    unfold exprsGo at h
    split at h
    · split at h
      · rename_i h2
        obtain ⟨-, h4, h5⟩ := takeAll_count (partsL x) (t, true) (by simp only; omega) h2
        have := exprsGo_count r (i + 1) _ (by unfold takeAll; rw [h5]; simp only; omega) h
        unfold takeAll at this
        rw [h4, h5] at this
        simp only at this
        have e : partsN (x :: r) = (partsL x).length + partsN r := by unfold partsN; simp
        rw [e]
        omega
      · cases h
    · cases h
/-- What the third part gives, whole. -/
structure EX (m : ModelD) : Prop where
  le : m.exprs.length ≤ 4096
  ok : ∀ (k : Nat) (x : ExprD), m.exprs[k]? = some x → exprB m x = true ∧ ∀ p ∈ partsL x, 0 ≤ p ∧ p < (k : Int)
  sum : partsN m.exprs ≤ 4096
theorem EX.of {m : ModelD} (h : (expressionsL m).2 = true) : EX m := by
  unfold expressionsL at h
  split at h
  · cases h
  · rename_i hh
    have hl : m.exprs.length ≤ 4096 := by
      unfold exprsHead at hh
      rw [decide_eq_true_eq] at hh
      omega
    refine ⟨hl, fun k x hx => ?_, ?_⟩
    · obtain ⟨hk, rfl⟩ := List.getElem?_eq_some_iff.1 hx
      have := exprsGo_ok _ _ _ h k hk
      rw [Nat.zero_add] at this
      exact this
    · have := exprsGo_count _ _ _ (by rw [List.length_replicate]; omega) h
      rw [List.length_replicate] at this
      omega
theorem usesF_nil {m : ModelD} {proc f : Nat} {seen : List Int} : usesF m proc (f + 1) seen [] = (true, seen) := rfl
theorem usesF_seen {m : ModelD} {proc f q : Nat} {seen l : List Int} (h : seen[q]? = some ((proc : Int) + 1)) : usesF m proc (f + 1) seen (l ++ [(q : Int)]) = usesF m proc f seen l := by
  rw [usesF, List.getLast?_concat]
  simp [h]
theorem usesF_no {m : ModelD} {proc f q : Nat} {seen l : List Int} {x : ExprD} (h : seen[q]? ≠ some ((proc : Int) + 1)) (hx : m.exprs[q]? = some x) (hu : useB m proc x = false) : usesF m proc (f + 1) seen (l ++ [(q : Int)]) = (false, seen.set q ((proc : Int) + 1)) := by
  rw [usesF, List.getLast?_concat]
  simp [h, hx, hu]
theorem usesF_yes {m : ModelD} {proc f q : Nat} {seen l : List Int} {x : ExprD} (h : seen[q]? ≠ some ((proc : Int) + 1)) (hx : m.exprs[q]? = some x) (hu : useB m proc x = true) : usesF m proc (f + 1) seen (l ++ [(q : Int)]) = usesF m proc f (seen.set q ((proc : Int) + 1)) (l ++ partsL x) := by
  rw [usesF, List.getLast?_concat]
  simp [h, hx, hu]
end Go.Proofs.YtihkkjflfdbkkaaGreatDoor
/- The document's answer to which models may be run, as functions of data near its words; and that they are the program's. -/
namespace Go.Proofs.YtihkkjflfdbkkaaGreatDoor
set_option linter.unusedVariables false
set_option linter.unusedSimpArgs false

def belowB (n : Int) (l : List Int) : Bool := l.all (fun q => decide (0 ≤ q ∧ q < n))
def ddimB (n : Int) (d : DimD) : Bool := decide (0 ≤ d.i ∧ d.i < n) && dimB d
def dvtB (m : ModelD) (n : Int) (v : VarD) : Bool := if v.scope = 2 then decide (0 ≤ v.who ∧ v.who < n) && ptypeB m v.type else decide (v.who = -1 ∧ v.type = -1)
def dvarB (m : ModelD) (n : Int) (v : VarD) : Bool := varHeadB v && dvtB m n v && v.dims.all (ddimB n)
def dfieldB (m : ModelD) (x : Int × Int) : Bool := decide (-1 ≤ x.2 ∧ x.2 ≤ 1) && (!(decide (x.2 = 0)) || decide (opAt m x.1 = 2))
def dmatB (m : ModelD) (n : Int) (args mat : List Int) : Bool := belowB n args && decide (1 ≤ args.length ∧ args.length ≤ 8 ∧ mat.length = args.length) && (args.zip mat).all (dfieldB m)
def dpartB (n : Int) (k : Nat) (x : Int × Nat) : Bool := if x.2 < k then decide (0 ≤ x.1 ∧ x.1 < n) else decide (x.1 = -1)
def dheadB (n : Int) (x : ExprD) : Bool := (abcL x).zipIdx.all (dpartB n (partsOf x.op))
def dkindB (m : ModelD) (n : Int) (x : ExprD) : Bool :=
  if x.op = 1 then decide (-2147483648 ≤ x.n ∧ x.n ≤ 2147483647) else if x.op = 2 then dvarB m n x.v else if x.op = 30 then dmatB m n x.args x.mat && decide (x.n = 0 ∨ x.n = 1)
  else if x.op = 38 then ptypeB m x.n && decide (1 ≤ x.args.length) && belowB (locsAt m x.n) x.args else if x.op = 39 then ptypeB m x.n && belowB n x.args && decide ((x.args.length : Int) = paramsAt m x.n) else true
def dexprB (m : ModelD) (n : Int) (x : ExprD) : Bool := decide (1 ≤ x.op ∧ x.op ≤ 39) && dheadB n x && dkindB m n x

theorem below_mono {n k : Int} {l : List Int} (h : belowB n l = true) (hk : n ≤ k) : belowB k l = true := by
  unfold belowB at h ⊢
  rw [List.all_eq_true] at h ⊢
  intro q hq
  have := h q hq
  simp only [decide_eq_true_eq] at this ⊢
  omega
theorem below_app {n : Int} {a b : List Int} : belowB n (a ++ b) = (belowB n a && belowB n b) := by unfold belowB; rw [List.all_append]
theorem ptypeB_of {m : ModelD} {n : Int} : ptypeB m n = true ↔ 0 ≤ n ∧ n < m.procs.length ∧ n ≠ m.claim := by unfold ptypeB; rw [decide_eq_true_eq]
theorem head_is (n : Int) (x : ExprD) : dheadB n x = (restB x && belowB n ((abcL x).take (partsOf x.op))) := by
  unfold dheadB restB belowB abcL dpartB
  have h : partsOf x.op = 0 ∨ partsOf x.op = 1 ∨ partsOf x.op = 2 ∨ partsOf x.op = 3 := by
    unfold partsOf
    repeat' split
    all_goals simp
  rcases h with h | h | h | h <;> rw [h] <;> rw [Bool.eq_iff_iff] <;> simp [List.zipIdx] <;> (try omega)
theorem var_is (m : ModelD) (n : Int) (v : VarD) : dvarB m n v = (varB m v && belowB n ((if v.scope = 2 then [v.who] else []) ++ v.dims.map (·.i))) := by
  unfold dvarB dvtB varB varTailB ddimB
  rw [below_app]
  have e : v.dims.all (fun d => decide (0 ≤ d.i ∧ d.i < n) && dimB d) = (belowB n (v.dims.map (·.i)) && v.dims.all dimB) := by
    unfold belowB
    induction v.dims with
    | nil => rfl
    | cons d r ih =>
      simp only [List.all_cons, List.map_cons, ih]
      cases decide (0 ≤ d.i ∧ d.i < n) <;> cases dimB d <;> cases (List.map (fun x => x.i) r).all (fun q => decide (0 ≤ q ∧ q < n)) <;> rfl
  rw [e]
  by_cases h : v.scope = 2
  · simp only [if_pos h]
    have e2 : belowB n [v.who] = decide (0 ≤ v.who ∧ v.who < n) := by unfold belowB; simp
    rw [e2]
    cases varHeadB v <;> cases decide (0 ≤ v.who ∧ v.who < n) <;> cases ptypeB m v.type <;> cases belowB n (v.dims.map (·.i)) <;> cases v.dims.all dimB <;> rfl
  · simp only [if_neg h]
    have e2 : belowB n [] = true := rfl
    rw [e2]
    cases varHeadB v <;> cases decide (v.who = -1 ∧ v.type = -1) <;> cases belowB n (v.dims.map (·.i)) <;> cases v.dims.all dimB <;> rfl
theorem zip_all {m : ModelD} {n : Int} (hn : n ≤ m.exprs.length) : ∀ (args mat : List Int), mat.length = args.length → belowB n args = true → (args.zip mat).all (dfieldB m) = (args.zip mat).all (fieldB m)
  | [], _, _, _ => rfl
  | a :: r, [], h, _ => by simp at h
  | a :: r, q :: s, h, hb => by
    have hb' : (0 ≤ a ∧ a < n) ∧ belowB n r = true := by
      unfold belowB at hb ⊢
      simpa using hb
    simp only [List.zip_cons_cons, List.all_cons, zip_all hn r s (by simpa using h) hb'.2]
    congr 1
    unfold dfieldB fieldB isVarB
    have e : isExprB m a = true := by unfold isExprB; rw [decide_eq_true_eq]; omega
    simp only [e, Bool.true_and]
theorem mat_is {m : ModelD} {n : Int} (hn : n ≤ m.exprs.length) (args mat : List Int) : dmatB m n args mat = (fieldsB m args mat && belowB n args) := by
  unfold dmatB fieldsB
  cases hb : belowB n args
  · simp
  · by_cases h : 1 ≤ args.length ∧ args.length ≤ 8 ∧ mat.length = args.length
    · rw [decide_eq_true h, decide_eq_false (by omega), zip_all hn args mat h.2.2 hb]
      simp
    · rw [decide_eq_false h, decide_eq_true (by omega)]
      simp
theorem fit32 (v : Int) : fitB 32 true v = decide (-2147483648 ≤ v ∧ v ≤ 2147483647) := by
  have e : fitB 32 true v = (decide (-2147483648 ≤ v) && decide (v < 2147483648)) := by unfold fitB; rfl
  rw [e, Bool.eq_iff_iff]
  simp
  omega
theorem kind_is {m : ModelD} {n : Int} (hn : n ≤ m.exprs.length) (x : ExprD) : dkindB m n x = (kindB m x && belowB n (moreL x)) := by
  unfold dkindB kindB moreL
  by_cases h1 : x.op = 1
  · simp [h1, fit32, belowB]
  by_cases h2 : x.op = 2
  · simp only [if_neg h1, if_pos h2]
    exact var_is m n x.v
  by_cases h3 : x.op = 30
  · simp only [if_neg h1, if_neg h2, if_pos h3, if_pos (Or.inl h3 : x.op = 30 ∨ x.op = 39)]
    rw [mat_is hn]
    cases fieldsB m x.args x.mat <;> cases belowB n x.args <;> cases decide (x.n = 0 ∨ x.n = 1) <;> rfl
  by_cases h4 : x.op = 38
  · have h5 : ¬ (x.op = 30 ∨ x.op = 39) := by omega
    simp only [if_neg h1, if_neg h2, if_neg h3, if_pos h4, if_neg h5]
    have e2 : belowB n [] = true := rfl
    rw [e2]
    unfold atB belowB
    have e3 : decide (1 ≤ x.args.length) = !(decide (x.args.length = 0)) := by
      rw [Bool.eq_iff_iff]; simp only [decide_eq_true_eq, Bool.not_eq_true', decide_eq_false_iff_not]; omega
    rw [e3]
    cases ptypeB m x.n <;> cases decide (x.args.length = 0) <;> cases x.args.all (fun q => decide (0 ≤ q ∧ q < locsAt m x.n)) <;> rfl
  by_cases h6 : x.op = 39
  · simp only [if_neg h1, if_neg h2, if_neg h3, if_neg h4, if_pos h6, if_pos (Or.inr h6 : x.op = 30 ∨ x.op = 39)]
    cases ptypeB m x.n <;> cases belowB n x.args <;> cases decide ((x.args.length : Int) = paramsAt m x.n) <;> rfl
  · have h5 : ¬ (x.op = 30 ∨ x.op = 39) := by omega
    simp only [if_neg h1, if_neg h2, if_neg h3, if_neg h4, if_neg h6, if_neg h5]
    rfl
theorem expr_is {m : ModelD} {n : Int} (hn : n ≤ m.exprs.length) (x : ExprD) : dexprB m n x = (exprB m x && belowB n (partsL x)) := by
  unfold dexprB exprB partsL
  rw [head_is, kind_is hn, below_app]
  cases decide (1 ≤ x.op ∧ x.op ≤ 39) <;> cases restB x <;> cases kindB m x <;> cases belowB n ((abcL x).take (partsOf x.op)) <;> cases belowB n (moreL x) <;> rfl
theorem take_no {i : Nat} : ∀ (l : List Int) (s : List Bool), (l.foldl (takePart i) (s, false)).2 = false
  | [], s => rfl
  | p :: r, s => by
    rw [List.foldl_cons]
    unfold takePart
    split
    · exact take_no r s
    · exact take_no r _
theorem take_bad {i : Nat} {l : List Int} {s : List Bool × Bool} (h : s.2 = false) : (l.foldl (takePart i) s).2 = false := by
  obtain ⟨a, b⟩ := s
  simp only at h
  subst h
  exact take_no l a
theorem take_below {i : Nat} : ∀ (l : List Int) (s : List Bool × Bool), (l.foldl (takePart i) s).2 = true → belowB i l = true
  | [], s, _ => rfl
  | p :: r, s, h => by
    rw [List.foldl_cons] at h
    have h1 := take_below r _ h
    unfold belowB at h1 ⊢
    rw [List.all_cons, h1, Bool.and_true, decide_eq_true_eq]
    cases h2 : (takePart i s p).2
    · rw [take_bad h2] at h
      cases h
    · unfold takePart at h2
      split at h2
      · cases h2
      · omega

/-! ### What a proctype uses -/
def duseB (m : ModelD) (pr : Nat) (x : ExprD) (run : Bool) : Bool :=
  !(decide (x.op = 39) && !run) && !(decide ((pr : Int) = m.claim) && decide (x.op = 31 ∨ x.op = 39 ∨ (x.op = 2 ∧ x.v.scope = 1))) && !(decide (x.op = 2 ∧ roomL m pr x.v < reachL x.v))
def usesD (m : ModelD) (pr : Nat) : Nat → Int → Bool → Bool
  | 0, _, _ => false
  | f + 1, k, run => match m.exprs[k.toNat]? with
    | none => false
    | some x => duseB m pr x run && (partsL x).all (fun q => usesD m pr f q false)
theorem uses_more {m : ModelD} (hx : EX m) {pr : Nat} : ∀ (f : Nat) (k : Int) (run : Bool), k.toNat < f → usesD m pr f k run = usesD m pr (k.toNat + 1) k run
  | 0, k, run, h => by omega
  | f + 1, k, run, h => by
    rw [usesD, usesD]
    cases hk : m.exprs[k.toNat]? with
    | none => rfl
    | some x =>
      simp only
      congr 1
      rw [Bool.eq_iff_iff, List.all_eq_true, List.all_eq_true]
      refine forall_congr' fun q => forall_congr' fun hq => ?_
      have h1 := (hx.ok _ _ hk).2 q hq
      rw [uses_more hx f q false (by omega), uses_more hx k.toNat q false (by omega)]
termination_by f => f
/-- Any fuel that is enough. -/
def okU (m : ModelD) (pr : Nat) (k : Int) : Bool := usesD m pr (k.toNat + 1) k false
theorem use_is (m : ModelD) (pr : Nat) (x : ExprD) : duseB m pr x false = useB m pr x := by
  unfold duseB useB liesB
  by_cases h1 : x.op = 39
  · simp [h1]
  by_cases h2 : x.op = 31
  · simp [h1, h2]
  by_cases h3 : x.op = 2
  · simp [h1, h2, h3]
    by_cases h4 : x.v.scope = 1 <;> by_cases h5 : (pr : Int) = m.claim <;> simp [h4, h5]
    all_goals rw [Bool.eq_iff_iff]; simp
  · simp [h1, h2, h3]
theorem ok_step {m : ModelD} (hx : EX m) {pr : Nat} {k : Nat} {x : ExprD} (h : m.exprs[k]? = some x) : okU m pr k = (useB m pr x && (partsL x).all (okU m pr)) := by
  unfold okU
  rw [usesD]
  simp only [Int.toNat_natCast, h, use_is]
  congr 1
  rw [Bool.eq_iff_iff, List.all_eq_true, List.all_eq_true]
  refine forall_congr' fun q => forall_congr' fun hq => ?_
  have h1 := (hx.ok _ _ h).2 q hq
  rw [uses_more hx k q false (by omega)]
/-- All that is marked may be used, and so may its parts be. -/
structure Shut (m : ModelD) (pr : Nat) (seen left : List Int) : Prop where
  len : seen.length = m.exprs.length
  le : ∀ v ∈ seen, v ≤ (pr : Int) + 1
  shut : ∀ (q : Nat) (x : ExprD), seen[q]? = some ((pr : Int) + 1) → m.exprs[q]? = some x → useB m pr x = true ∧ ∀ p ∈ partsL x, seen[p.toNat]? = some ((pr : Int) + 1) ∨ p ∈ left
theorem Shut.ok {m : ModelD} (hx : EX m) {pr : Nat} {seen : List Int} (h : Shut m pr seen []) : ∀ (q : Nat), seen[q]? = some ((pr : Int) + 1) → okU m pr q = true
  | q, hq => by
    have hl : q < m.exprs.length := by
      obtain ⟨h1, -⟩ := List.getElem?_eq_some_iff.1 hq
      rw [← h.len]; exact h1
    have he := List.getElem?_eq_getElem hl
    rw [ok_step hx he]
    obtain ⟨h1, h2⟩ := h.shut q _ hq he
    rw [h1, Bool.true_and, List.all_eq_true]
    intro p hp
    have hb := (hx.ok _ _ he).2 p hp
    rcases h2 p hp with h3 | h3
    · have e : p = (p.toNat : Int) := by omega
      rw [e]
      exact Shut.ok hx h p.toNat h3
    · cases h3
termination_by q => q
decreasing_by omega
/-- Where nothing is refused: the end is shut, and has all that was left. -/
theorem usesF_shut {m : ModelD} (hx : EX m) {pr : Nat} : ∀ (f : Nat) (seen left : List Int), Shut m pr seen left → (∀ q ∈ left, 0 ≤ q) → (usesF m pr f seen left).1 = true →
    Shut m pr (usesF m pr f seen left).2 [] ∧ (∀ q : Nat, seen[q]? = some ((pr : Int) + 1) → (usesF m pr f seen left).2[q]? = some ((pr : Int) + 1)) ∧ ∀ q ∈ left, (usesF m pr f seen left).2[q.toNat]? = some ((pr : Int) + 1)
  | 0, seen, left, _, _, h => by simp [usesF] at h
  | f + 1, seen, left, hs, h0, h => by
    rcases List.eq_nil_or_concat left with rfl | ⟨l, q, rfl⟩
    · rw [usesF_nil]
      exact ⟨hs, fun _ h => h, fun q hq => by cases hq⟩
    have hq0 : 0 ≤ q := h0 q (by simp)
    obtain ⟨k, rfl⟩ : ∃ k : Nat, q = k := ⟨q.toNat, by omega⟩
    rw [List.concat_eq_append] at hs h h0 ⊢
    by_cases hk : seen[k]? = some ((pr : Int) + 1)
    · rw [usesF_seen hk] at h ⊢
      have ih := usesF_shut hx f seen l ⟨hs.len, hs.le, fun q x h1 h2 => ⟨(hs.shut q x h1 h2).1, fun p hp => by
        rcases (hs.shut q x h1 h2).2 p hp with h3 | h3
        · exact .inl h3
        · rcases List.mem_append.1 h3 with h4 | h4
          · exact .inr h4
          · rw [List.mem_singleton] at h4
            subst h4
            exact .inl (by simpa using hk)⟩⟩ (fun q hq => h0 q (by simp [hq])) h
      refine ⟨ih.1, ih.2.1, fun q hq => ?_⟩
      rcases List.mem_append.1 hq with h4 | h4
      · exact ih.2.2 q h4
      · rw [List.mem_singleton] at h4
        subst h4
        exact ih.2.1 k hk
    · cases hx2 : m.exprs[k]? with
      | none =>
        rw [usesF, List.getLast?_concat] at h
        simp [hk, hx2] at h
      | some x =>
        cases hu : useB m pr x
        · rw [usesF_no hk hx2 hu] at h
          cases h
        · rw [usesF_yes hk hx2 hu] at h ⊢
          have hkl : k < seen.length := by
            rw [hs.len]
            exact (List.getElem?_eq_some_iff.1 hx2).1
          have hset : (seen.set k ((pr : Int) + 1))[k]? = some ((pr : Int) + 1) := by rw [List.getElem?_set_self hkl]
          have hkeep : ∀ q : Nat, seen[q]? = some ((pr : Int) + 1) → (seen.set k ((pr : Int) + 1))[q]? = some ((pr : Int) + 1) := fun q hq => by
            by_cases e : k = q
            · subst e; exact hset
            · rw [List.getElem?_set_ne e]; exact hq
          have ih := usesF_shut hx f (seen.set k ((pr : Int) + 1)) (l ++ partsL x) ⟨by rw [List.length_set]; exact hs.len, fun v hv => by
            rcases List.mem_or_eq_of_mem_set hv with h3 | h3
            · exact hs.le v h3
            · omega, fun q y h1 h2 => by
            by_cases e : k = q
            · subst e
              rw [hx2] at h2
              injection h2 with h2
              subst h2
              exact ⟨hu, fun p hp => .inr (List.mem_append_right _ hp)⟩
            · rw [List.getElem?_set_ne e] at h1
              refine ⟨(hs.shut q y h1 h2).1, fun p hp => ?_⟩
              rcases (hs.shut q y h1 h2).2 p hp with h3 | h3
              · exact .inl (hkeep _ h3)
              · rcases List.mem_append.1 h3 with h4 | h4
                · exact .inr (List.mem_append_left _ h4)
                · rw [List.mem_singleton] at h4
                  subst h4
                  exact .inl (by simpa using hset)⟩ (fun q hq => by
            rcases List.mem_append.1 hq with h4 | h4
            · exact h0 q (by simp [h4])
            · exact ((hx.ok _ _ hx2).2 q h4).1) h
          refine ⟨ih.1, fun q hq => ih.2.1 q (hkeep q hq), fun q hq => ?_⟩
          rcases List.mem_append.1 hq with h4 | h4
          · exact ih.2.2 q (List.mem_append_left _ h4)
          · rw [List.mem_singleton] at h4
            subst h4
            exact ih.2.1 k hset
/-- Where all may be used, nothing is refused. -/
theorem usesF_yes_all {m : ModelD} (hx : EX m) {pr : Nat} : ∀ (f : Nat) (seen left : List Int), seen.length = m.exprs.length → (∀ q ∈ left, 0 ≤ q) → left.all (okU m pr) = true → left.length + toGo m pr seen < f → (usesF m pr f seen left).1 = true
  | 0, _, _, _, _, _, h => by omega
  | f + 1, seen, left, hl, h0, ha, hf => by
    rcases List.eq_nil_or_concat left with rfl | ⟨l, q, rfl⟩
    · rw [usesF_nil]
    have hq0 : 0 ≤ q := h0 q (by simp)
    obtain ⟨k, rfl⟩ : ∃ k : Nat, q = k := ⟨q.toNat, by omega⟩
    rw [List.concat_eq_append] at ha h0 hf ⊢
    rw [List.all_append, Bool.and_eq_true] at ha
    rw [List.length_append] at hf
    simp only [List.length_cons, List.length_nil] at hf
    by_cases hk : seen[k]? = some ((pr : Int) + 1)
    · rw [usesF_seen hk]
      exact usesF_yes_all hx f seen l hl (fun q hq => h0 q (by simp [hq])) ha.1 (by omega)
    · have hok : okU m pr k = true := by simpa using ha.2
      cases hx2 : m.exprs[k]? with
      | none =>
        unfold okU at hok
        rw [usesD] at hok
        simp [hx2] at hok
      | some x =>
        rw [ok_step hx hx2, Bool.and_eq_true] at hok
        rw [usesF_yes hk hx2 hok.1]
        have hkl : k < seen.length := by
          rw [hl]
          exact (List.getElem?_eq_some_iff.1 hx2).1
        have hs := List.getElem?_eq_getElem hkl
        have ht := toGo_set (proc := pr) hx2 hs (fun e => hk (by rw [hs, e]))
        refine usesF_yes_all hx f _ _ (by rw [List.length_set]; exact hl) (fun q hq => ?_) ?_ ?_
        · rcases List.mem_append.1 hq with h4 | h4
          · exact h0 q (by simp [h4])
          · exact ((hx.ok _ _ hx2).2 q h4).1
        · rw [List.all_append, ha.1, hok.2]; rfl
        · rw [List.length_append]; omega
/-- One walk. -/
theorem usesL_is {m : ModelD} (hx : EX m) {pr : Nat} {seen : List Int} (hs : Shut m pr seen []) {q : Int} (hq : 0 ≤ q) : (usesL m pr seen q).1 = okU m pr q ∧ ((usesL m pr seen q).1 = true → Shut m pr (usesL m pr seen q).2 []) := by
  unfold usesL
  have h1 := usesF_shut hx 70000 seen [q] ⟨hs.len, hs.le, fun a x h1 h2 => ⟨(hs.shut a x h1 h2).1, fun p hp => by
    rcases (hs.shut a x h1 h2).2 p hp with h3 | h3
    · exact .inl h3
    · cases h3⟩⟩ (fun a ha => by rw [List.mem_singleton] at ha; omega)
  refine ⟨?_, fun h => (h1 h).1⟩
  rw [Bool.eq_iff_iff]
  constructor
  · intro h
    obtain ⟨h2, -, h3⟩ := h1 h
    have h4 := h2.ok hx _ (h3 q (by simp))
    rw [show ((q.toNat : Nat) : Int) = q by omega] at h4
    exact h4
  · intro h
    refine usesF_yes_all hx 70000 seen [q] hs.len (fun a ha => by rw [List.mem_singleton] at ha; omega) (by simp [h]) ?_
    have := toGo_le m pr seen
    have := hx.sum
    simp only [List.length_cons, List.length_nil]
    omega
theorem stop_is {σ α : Type} (I : σ → Prop) (f : σ → α → Bool × σ) (P : α → Bool) : ∀ (l : List α) (s : σ), (∀ x ∈ l, ∀ s, I s → (f s x).1 = P x ∧ ((f s x).1 = true → I (f s x).2)) → I s → (stopF f l s).1 = l.all P ∧ ((stopF f l s).1 = true → I (stopF f l s).2)
  | [], s, _, hs => ⟨rfl, fun _ => hs⟩
  | x :: r, s, h, hs => by
    obtain ⟨h1, h2⟩ := h x (by simp) s hs
    unfold stopF
    cases hx : (f s x).1
    · simp only [Bool.false_eq_true, if_false, List.all_cons]
      rw [← h1, hx]
      exact ⟨rfl, fun h => by cases h⟩
    · simp only [if_true, List.all_cons]
      rw [← h1, hx, Bool.true_and]
      exact stop_is I f P r _ (fun y hy => h y (by simp [hy])) (h2 hx)
end Go.Proofs.YtihkkjflfdbkkaaGreatDoor
/- A model that lies below a place lies below a later one. -/
namespace Go.Proofs.YtihkkjflfdbkkaaGreatDoor
open Go.ChangeShapes Go.WideShapes Go.ChangeAt Go.RowKit
section
variable {B B' : Nat} {w : World} (hB : B ≤ B')
include hB
theorem Row.lift {α : Type} {o : Option Addr} {k : Nat} {R R' : Nat → Nat → α → Prop} {l : List α} (h : Row B o k R l) (hR : ∀ g a x, g < B → R g a x → R' g a x) : Row B' o k R' l := (h.mono hR).up hB
theorem Sli.lift {α : Type} {g a k : Nat} {R R' : Nat → Nat → α → Prop} {l : List α} (h : Sli B w g a k R l) (hR : ∀ g a x, g < B → R g a x → R' g a x) : Sli B' w g a k R' l := by
  obtain ⟨o, c, h1, h2⟩ := h
  exact ⟨o, c, h1, h2.lift hB hR⟩
theorem varAt.lift {g a : Nat} {x : VarD} (h : varAt B w g a x) : varAt B' w g a x := ⟨h.c0, h.c1, h.c2, h.c3, h.dims.lift hB fun _ _ _ _ h => h⟩
theorem exprAt.lift {g a : Nat} {x : ExprD} (h : exprAt B w g a x) : exprAt B' w g a x := ⟨h.c0, h.c1, h.c2, h.c3, h.c4, h.v.lift hB, h.args.lift hB fun _ _ _ _ h => h, h.mat.lift hB fun _ _ _ _ h => h⟩
theorem stmtAt.lift {g a : Nat} {x : StmtD} (h : stmtAt B w g a x) : stmtAt B' w g a x := ⟨h.c0, h.c1, h.c2, h.c3, h.args.lift hB fun _ _ _ _ h => h, h.mat.lift hB fun _ _ _ _ h => h, h.c6⟩
theorem transAt.lift {g a : Nat} {x : TransD} (h : transAt B w g a x) : transAt B' w g a x := ⟨h.s.lift hB, h.c7, h.c8⟩
theorem escAt.lift {g a : Nat} {x : List TransD} (h : escAt B w g a x) : escAt B' w g a x := Sli.lift hB h fun _ _ _ _ h => h.lift hB
theorem locAt.lift {g a : Nat} {x : LocD} (h : locAt B w g a x) : locAt B' w g a x := ⟨h.out.lift hB fun _ _ _ _ h => h.lift hB, h.esc.lift hB fun _ _ _ _ h => h.lift hB, h.c2, h.c3, h.c4, h.c5, h.c6⟩
theorem procAt.lift {g a : Nat} {x : ProcD} (h : procAt B w g a x) : procAt B' w g a x := ⟨h.c0, h.c1, h.frame.lift hB fun _ _ _ _ h => h, h.init.lift hB fun _ _ _ _ h => h, h.locs.lift hB fun _ _ _ _ h => h.lift hB, h.c5, h.c6, h.c7, h.c8, h.c9⟩
theorem shapeAt.lift {g a : Nat} {x : ShapeD} (h : shapeAt B w g a x) : shapeAt B' w g a x := ⟨h.c0, h.fields.lift hB fun _ _ _ _ h => h⟩
theorem MD.lift {h : MH} {m : ModelD} (hm : MD B w h m) : MD B' w h m :=
  ⟨hm.globals.lift hB fun _ _ _ _ h => h, hm.init.lift hB fun _ _ _ _ h => h, hm.shapes.lift hB fun _ _ _ _ h => h.lift hB, hm.chans.lift hB fun _ _ _ _ h => h, hm.procs.lift hB fun _ _ _ _ h => h.lift hB, hm.exprs.lift hB fun _ _ _ _ h => h.lift hB⟩
end
end Go.Proofs.YtihkkjflfdbkkaaGreatDoor
