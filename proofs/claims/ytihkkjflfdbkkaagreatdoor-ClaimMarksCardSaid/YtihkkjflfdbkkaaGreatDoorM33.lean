/- The document's answer to which models may be run, the last parts: that it is the program's. -/
import Derived.Test.YtihkkjflfdbkkaaGreatDoorM04
namespace Go.Proofs.YtihkkjflfdbkkaaGreatDoor
set_option linter.unusedVariables false
set_option linter.unusedSimpArgs false

theorem parts39 {x : ExprD} (h : x.op = 39) : partsL x = x.args := by
  unfold partsL moreL
  have e : partsOf x.op = 0 := by rw [h]; rfl
  rw [e, if_neg (by omega), if_pos (.inr h)]
  rfl
def dtopB (m : ModelD) (pr : Nat) (run : Bool) (k : Int) : Bool := usesD m pr (k.toNat + 1) k run
theorem top_is {m : ModelD} (hx : EX m) {pr : Nat} (run : Bool) {k : Int} (hk : isExprB m k = true) : (topL m pr run k).all (okU m pr) = dtopB m pr run k := by
  have hb : 0 ≤ k ∧ k < m.exprs.length := by unfold isExprB at hk; simpa using hk
  obtain ⟨n, rfl⟩ : ∃ n : Nat, k = n := ⟨k.toNat, by omega⟩
  have hl : n < m.exprs.length := by omega
  have he := List.getElem?_eq_getElem hl
  obtain ⟨y, hy⟩ : ∃ y, m.exprs[n] = y := ⟨_, rfl⟩
  rw [hy] at he
  have hop : opAt m n = y.op := by unfold opAt; simp [he]
  have hargs : argsAt m n = y.args := by unfold argsAt; simp [he]
  have e1 : dtopB m pr run n = (duseB m pr y run && (partsL y).all (okU m pr)) := by
    unfold dtopB
    rw [usesD]
    simp only [Int.toNat_natCast, he]
    congr 1
    rw [Bool.eq_iff_iff, List.all_eq_true, List.all_eq_true]
    refine forall_congr' fun q => forall_congr' fun hq => ?_
    have h1 := (hx.ok _ _ he).2 q hq
    unfold okU
    rw [uses_more hx n q false (by omega)]
  have e2 : okU m pr n = (duseB m pr y false && (partsL y).all (okU m pr)) := by rw [ok_step hx he, use_is]
  unfold topL
  rw [if_neg (by omega), hop, hargs, e1]
  by_cases h : run = true ∧ y.op = 39 ∧ (pr : Int) ≠ m.claim
  · rw [if_pos h, parts39 h.2.1]
    unfold duseB
    simp [h.1, h.2.1, h.2.2]
  · rw [if_neg h]
    simp only [List.all_cons, List.all_nil, Bool.and_true]
    rw [e2]
    congr 1
    unfold duseB
    cases run
    · rfl
    · by_cases h39 : y.op = 39
      · have : (pr : Int) = m.claim := Classical.byContradiction fun h2 => h ⟨rfl, h39, h2⟩
        simp [h39, this]
      · simp [h39]
def dwayB (m : ModelD) (pr : Nat) (s : StmtD) : Bool :=
  stmtB m s && (!(decide ((pr : Int) = m.claim)) || claimsB s.kind) && (decide (s.a < 0) || dtopB m pr (decide (s.kind = 1)) s.a) && (decide (s.b < 0) || dtopB m pr (decide (s.kind = 2)) s.b) && s.args.all (okU m pr)
theorem stmt_ab {m : ModelD} {s : StmtD} (h : stmtB m s = true) : (0 ≤ s.a → isExprB m s.a = true) ∧ (0 ≤ s.b → isExprB m s.b = true) ∧ s.args.all (isExprB m) = true := by
  unfold stmtB at h
  split at h
  · cases h
  · rename_i q hq
    simp only [Bool.and_eq_true] at h
    obtain ⟨⟨⟨⟨h1, h2⟩, h3⟩, h4⟩, h5⟩ := h
    unfold askAB at h1
    simp only [Bool.not_eq_true', Bool.or_eq_false_iff, decide_eq_false_iff_not, Bool.and_eq_false_iff, Bool.not_eq_false'] at h1
    obtain ⟨⟨⟨a1, a2⟩, b1⟩, b2⟩ := h1
    refine ⟨fun h0 => ?_, fun h0 => ?_, h3⟩
    · have : q.hasA = true := by
        have h6 : q.hasA = decide (s.a ≠ -1) := Classical.byContradiction a1
        rw [h6, decide_eq_true_eq]; omega
      rcases a2 with h7 | h7
      · rw [this] at h7; cases h7
      · exact h7
    · have : q.hasB = true := by
        have h6 : q.hasB = decide (s.b ≠ -1) := Classical.byContradiction b1
        rw [h6, decide_eq_true_eq]; omega
      rcases b2 with h7 | h7
      · rw [this] at h7; cases h7
      · exact h7
theorem isExpr_le {m : ModelD} {k : Int} (h : isExprB m k = true) : 0 ≤ k ∧ k < m.exprs.length := by unfold isExprB at h; simpa using h
theorem top_le {m : ModelD} (hx : EX m) {pr : Nat} {run : Bool} {k : Int} (hk : 0 ≤ k → isExprB m k = true) : ∀ q ∈ topL m pr run k, 0 ≤ q := by
  unfold topL
  split
  · intro q hq; cases hq
  · rename_i h0
    have hb := isExpr_le (hk (by omega))
    split
    · rename_i h1
      intro q hq
      have he := List.getElem?_eq_getElem (show k.toNat < m.exprs.length by omega)
      have hop : opAt m k = m.exprs[k.toNat].op := by unfold opAt; simp [he]
      have hargs : argsAt m k = m.exprs[k.toNat].args := by unfold argsAt; simp [he]
      rw [hop] at h1
      rw [hargs, ← parts39 h1.2.1] at hq
      exact ((hx.ok _ _ he).2 q hq).1
    · intro q hq
      rw [List.mem_singleton] at hq
      omega
theorem top_or {m : ModelD} (hx : EX m) {pr : Nat} {run : Bool} {k : Int} (hk : 0 ≤ k → isExprB m k = true) : (topL m pr run k).all (okU m pr) = (decide (k < 0) || dtopB m pr run k) := by
  by_cases h : k < 0
  · unfold topL; rw [if_pos h]; simp [h]
  · rw [top_is hx run (hk (by omega))]; simp [h]
theorem way_is {m : ModelD} (hx : EX m) {pr : Nat} {seen : List Int} (hs : Shut m pr seen []) (t : TransD) : (wayL m pr seen t).1 = dwayB m pr t.s ∧ ((wayL m pr seen t).1 = true → Shut m pr (wayL m pr seen t).2 []) := by
  unfold wayL dwayB
  cases hc : (stmtB m t.s && (!(decide ((pr : Int) = m.claim)) || claimsB t.s.kind))
  · simp
  · have h1 : stmtB m t.s = true := by rw [Bool.and_eq_true] at hc; exact hc.1
    obtain ⟨ha, hb, hc⟩ := stmt_ab h1
    simp only [if_true, Bool.true_and]
    unfold usedByL
    have key := stop_is (fun s => Shut m pr s []) (usesL m pr) (okU m pr) (topsL m pr t.s) seen (fun q hq s hs => usesL_is hx hs (by
      unfold topsL at hq
      rw [List.mem_append, List.mem_append] at hq
      rcases hq with (hq | hq) | hq
      · exact top_le hx ha q hq
      · exact top_le hx hb q hq
      · rw [List.all_eq_true] at hc
        exact (isExpr_le (hc q hq)).1)) hs
    refine ⟨?_, key.2⟩
    rw [key.1]
    unfold topsL
    rw [List.all_append, List.all_append, top_or hx ha, top_or hx hb]
def dlocB (m : ModelD) (pr : Nat) (l : LocD) : Bool := (l.out :: l.esc).all (fun w => w.all (fun t => dwayB m pr t.s))
theorem loc_is {m : ModelD} (hx : EX m) {pr : Nat} {seen : List Int} (hs : Shut m pr seen []) (l : LocD) : (locL m pr seen l).1 = dlocB m pr l ∧ ((locL m pr seen l).1 = true → Shut m pr (locL m pr seen l).2 []) :=
  stop_is (fun s => Shut m pr s []) (waysL m pr) (fun w => w.all (fun t => dwayB m pr t.s)) _ _ (fun w _ s hs => stop_is (fun s => Shut m pr s []) (wayL m pr) (fun t => dwayB m pr t.s) w s (fun t _ s hs => way_is hx hs t) hs) hs
def dprocB (m : ModelD) (x : ProcD × Nat) : Bool := x.1.locs.all (dlocB m x.2) && (decide (x.1.provided < 0) || okU m x.2 x.1.provided)
theorem proc_is {m : ModelD} (hx : EX m) {seen : List Int} (x : ProcD × Nat) (hs : Shut m x.2 seen []) : (procL m seen x).1 = dprocB m x ∧ ((procL m seen x).1 = true → Shut m x.2 (procL m seen x).2 []) := by
  have key := stop_is (fun s => Shut m x.2 s []) (locL m x.2) (dlocB m x.2) x.1.locs seen (fun l _ s hs => loc_is hx hs l) hs
  unfold procL dprocB
  rw [← key.1]
  cases h : (stopF (locL m x.2) x.1.locs seen).1
  · simp
  · have h2 := key.2 h
    simp only [if_true, Bool.true_and]
    by_cases h0 : 0 ≤ x.1.provided
    · rw [if_pos h0]
      have := usesL_is hx h2 h0
      rw [decide_eq_false (by omega), Bool.false_or]
      exact this
    · rw [if_neg h0, decide_eq_true (by omega)]
      exact ⟨rfl, fun _ => h2⟩
def dstatGo (m : ModelD) : List (ProcD × Nat) → Int × Bool
  | [] => (0, true)
  | x :: r => if dprocB m x = true then dstatGo m r else (x.2, false)
theorem stat_is {m : ModelD} (hx : EX m) : ∀ (l : List ProcD) (k : Nat) (seen : List Int), seen.length = m.exprs.length → (∀ v ∈ seen, v ≤ (k : Int)) → statGo m (l.zipIdx k) seen = dstatGo m (l.zipIdx k)
  | [], k, seen, _, _ => rfl
  | p :: r, k, seen, hl, hv => by
    rw [List.zipIdx_cons]
    unfold statGo dstatGo
    have hs : Shut m (p, k).2 seen [] := ⟨hl, fun v h => by have := hv v h; show v ≤ (k : Int) + 1; omega, fun q x h => by
      have h1 := hv _ (List.mem_of_getElem? h)
      exfalso
      have h2 : ((k : Int) + 1) ≤ k := h1
      omega⟩
    have key := proc_is hx (p, k) hs
    rw [← key.1]
    cases h : (procL m seen (p, k)).1
    · rfl
    · have h3 := key.2 h
      simp only [if_true]
      exact stat_is hx r (k + 1) _ h3.len (fun v hv => by have h4 := h3.le v hv; have h5 : v ≤ (k : Int) + 1 := h4; omega)
theorem statements_is {m : ModelD} (hx : EX m) : statementsL m = dstatGo m m.procs.zipIdx := by
  unfold statementsL
  exact stat_is hx m.procs 0 _ (by simp) (fun v hv => by rw [List.eq_of_mem_replicate hv]; simp)

/-! ### The tables -/
def dtabHead (p : ProcD) : Bool := !(decide (128 < p.frame.length ∨ p.init.length ≠ p.frame.length ∨ p.params < 0 ∨ (p.frame.length : Int) < p.params ∨ p.locs.length < 1 ∨ 256 < p.locs.length))
def dtabTail (m : ModelD) (p : ProcD) : Bool := decide (0 ≤ p.start ∧ p.start < p.locs.length ∧ 0 ≤ p.final ∧ p.final < p.locs.length ∧ 0 ≤ p.active ∧ p.active ≤ 16 ∧ 1 ≤ p.prio ∧ p.prio ≤ 255 ∧ -1 ≤ p.provided ∧ p.provided < m.exprs.length)
def dtabClaim (p : ProcD) : Bool := decide (p.frame.length = 0 ∧ p.active ≤ 0 ∧ p.provided < 0)
def dtabLoc (p : ProcD) (cl : Bool) (x : LocD × Nat) : Bool := locHeadB p x.2 x.1 && (!cl || looksLocB x.1) && x.1.out.all (toB p.locs.length) && x.1.esc.all (escB p.locs.length)
def dtableB (m : ModelD) (x : ProcD × Nat) : Bool :=
  dtabHead x.1 && (x.1.frame.zip x.1.init).all fitZ && dtabTail m x.1 && (!(decide ((x.2 : Int) = m.claim)) || dtabClaim x.1) && x.1.locs.zipIdx.all (dtabLoc x.1 (decide ((x.2 : Int) = m.claim))) && decide (manyP x.1 ≤ 1024)
theorem zip_fst {p : ProcD} {cl : Bool} : ∀ (l : List LocD) (k : Nat), (l.zipIdx k).all (dtabLoc p cl) = ((l.zipIdx k).all (locB' p) && (!cl || l.all looksLocB))
  | [], k => by simp
  | a :: r, k => by
    rw [List.zipIdx_cons, List.all_cons, List.all_cons, List.all_cons, zip_fst r (k + 1)]
    have e : dtabLoc p cl (a, k) = (locB' p (a, k) && (!cl || looksLocB a)) := by
      unfold dtabLoc locB' locB
      cases locHeadB p k a <;> cases cl <;> cases looksLocB a <;> cases a.out.all (toB p.locs.length) <;> cases a.esc.all (escB p.locs.length) <;> rfl
    rw [e]
    cases locB' p (a, k) <;> cases cl <;> cases looksLocB a <;> cases (r.zipIdx (k + 1)).all (locB' p) <;> cases r.all looksLocB <;> rfl
theorem table_is (m : ModelD) (x : ProcD × Nat) : dtableB m x = procB m x := by
  unfold dtableB procB frameB placesB looksOnB
  rw [zip_fst]
  have e1 : (dtabHead x.1 && dtabTail m x.1) = (frameHeadB x.1 && frameTailB m x.1 && placesHeadB x.1) := by
    unfold dtabHead dtabTail frameHeadB frameTailB placesHeadB
    rw [Bool.eq_iff_iff]
    simp only [Bool.and_eq_true, Bool.not_eq_true', decide_eq_false_iff_not, decide_eq_true_eq]
    omega
  have e2 : frameHeadB x.1 = true → frameTailB m x.1 = true → dtabClaim x.1 = decide (x.1.frame.length = 0 ∧ x.1.params = 0 ∧ x.1.active = 0 ∧ x.1.provided = -1) := by
    intro h1 h2
    unfold frameHeadB at h1
    unfold frameTailB at h2
    unfold dtabClaim
    simp only [Bool.not_eq_true', decide_eq_false_iff_not, decide_eq_true_eq] at h1 h2
    rw [Bool.eq_iff_iff]
    simp only [decide_eq_true_eq]
    omega
  generalize dtabClaim x.1 = q1 at *
  generalize decide (x.1.frame.length = 0 ∧ x.1.params = 0 ∧ x.1.active = 0 ∧ x.1.provided = -1) = q2 at *
  generalize dtabHead x.1 = a1 at *
  generalize dtabTail m x.1 = a2 at *
  generalize frameHeadB x.1 = b1 at *
  generalize frameTailB m x.1 = b2 at *
  generalize placesHeadB x.1 = b3 at *
  generalize (x.1.frame.zip x.1.init).all fitZ = b4 at *
  generalize decide ((x.2 : Int) = m.claim) = b5 at *
  generalize x.1.locs.zipIdx.all (locB' x.1) = b6 at *
  generalize x.1.locs.all looksLocB = b7 at *
  generalize decide (manyP x.1 ≤ 1024) = b8 at *
  cases b1 <;> cases b2 <;> cases b3 <;> cases a1 <;> cases a2 <;> simp_all
  all_goals (cases b4 <;> cases b5 <;> cases q2 <;> cases b6 <;> cases b7 <;> cases b8 <;> simp_all)
end Go.Proofs.YtihkkjflfdbkkaaGreatDoor
