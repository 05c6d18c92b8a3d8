/- Layer 14's Eval, Slot and Chan, for every Env. -/
import Derived.Test.YtbeikhgjkbnldaaDoorM29
namespace Go.Proofs.YtbeikhgjkbnldaaDoor
open Go.ChangeShapes Go.WideShapes Go.ChangeAt Go.RowKit
set_option linter.unusedVariables false
set_option linter.unusedSimpArgs false

def evE (E : EnvD) : Int → Int × Int := evalF E E.m.exprs.length
def exprNo (E : EnvD) (x : Int) : ExprD := E.m.exprs[x.toNat]?.getD ⟨0, 0, 0, 0, 0, ⟨0, 0, 0, 0, []⟩, [], []⟩
def envEval (E : EnvD) (x : Int) : Int × Int := if envE E x ≠ 0 then (0, envE E x) else evE E x
def envChan (E : EnvD) (x : Int) : Int × Int := if envE E x ≠ 0 then (0, envE E x) else rchanB E (evE E) x
def envSlot (E : EnvD) (x : Int) : Int × Int × Int := if envE E x ≠ 0 then (0, 0, envE E x) else rslotB E (evE E) (exprNo E x)

theorem var_facts {E : EnvD} (hok : Ok E) {p : Nat} {x : ExprD} (hx : E.m.exprs[p]? = some x) (h2 : x.op = 2) : VarF x.v ∧ (x.v.scope = 2 → 0 ≤ x.v.who ∧ x.v.who < p) ∧ ∀ d ∈ x.v.dims, 0 ≤ d.i ∧ d.i < p := by
  obtain ⟨hxb, hps⟩ := (good_ex hok).ok p x hx
  unfold exprB at hxb
  simp only [Bool.and_eq_true, decide_eq_true_eq] at hxb
  obtain ⟨-, hkind⟩ := hxb
  have hv : varB E.m x.v = true := by
    unfold kindB at hkind
    rw [if_neg (by omega), if_pos h2] at hkind
    exact hkind
  have hm : moreL x = (if x.v.scope = 2 then [x.v.who] else []) ++ x.v.dims.map (·.i) := if_pos h2
  refine ⟨VarF.of hv, fun hs => hps _ (List.mem_append_right _ ?_), fun d hd => hps _ (List.mem_append_right _ ?_)⟩
  · rw [hm, if_pos hs]
    exact List.mem_append_left _ (List.mem_cons_self ..)
  · rw [hm]
    exact List.mem_append_right _ (List.mem_map_of_mem hd)

set_option maxHeartbeats 2000000 in
set_option maxRecDepth 100000 in
theorem eEvalC {B : Nat} {h : MH} {hs : SH} {ao : Option Addr} {ac : Nat} {E : EnvD} (x : Int) (w : World) (hB : B ≤ w.heap.size) (hd : ED B w h hs ao E) :
    Calls Tryd.prog 8 #[.agg (eCells h hs ao ac E), .int .i64 x] w fun e w' => e = .returned (.tuple #[.int .i64 (envEval E x).1, .int .i64 (envEval E x).2]) ∧ Below w.heap.size w w' := by
  have HX := Lib.hid (Bx.new w (eCells h hs ao ac E) 39)
  have HD := Lib.hid (hd.below (HX.out.bel.mono hB))
  have HBB := Lib.hid hB
  have HCK := Lib.hid (echeckC (ac := ac) x _ (Nat.le_trans hB HX.out.bel.size) HD.out)
  clear hd
  unfold eCells at HX HCK ⊢
  go_enter Tryd.func8, Tryd.ntmps8
  go_wp2_with fail
  refine HCK.out.mono ?_
  rintro e W1 ⟨rfl, hb1⟩
  have HX1 := Lib.hid (HX.out.below hb1)
  have HD1 := Lib.hid (HD.out.below (hb1.mono (Nat.le_trans HBB.out HX.out.bel.size)))
  clear hb1 HCK HX
  obtain ⟨er, her⟩ : ∃ q, envE E x = q := ⟨_, rfl⟩
  rw [her]
  by_cases h0 : er = 0
  · have hd0 : (er != 0) = false := by rw [bne_eq_false_iff_eq]; exact h0
    subst h0
    obtain ⟨hok, hx0, hxl⟩ := envE_ok her
    have HV : Hid (envEval E x = evE E x) := Lib.hid (by unfold envEval; rw [her, if_neg (by simp)])
    have HE := Lib.hid (evalC (B := B) (pe := w.heap.size) (h := h) (hs := hs) (ao := ao) (ac := ac) hok x W1 hx0 hxl (Ek.of (T := 39) HX1.out.box HBB.out HD1.out))
    clear hok
    go_wp2_with fail
    refine HE.out.mono ?_
    rintro e W2 ⟨rfl, hb2⟩
    have HB2 := Lib.hid (HX1.out.bel.trans (hb2.mono HX1.out.bel.size))
    clear hb2 HE
    go_wp2_with fail
    go_ret2
    exact ⟨ret2 (by rw [HV.out]; rfl) (by rw [HV.out]; rfl), HB2.out⟩
  · have hd0 : (er != 0) = true := by rw [bne_iff_ne]; exact h0
    have HV : Hid (envEval E x = (0, er)) := Lib.hid (by unfold envEval; rw [her, if_pos h0])
    go_wp2_with fail
    go_ret2
    exact ⟨ret2 (by rw [HV.out]) (by rw [HV.out]), HX1.out.bel⟩

set_option maxHeartbeats 2000000 in
set_option maxRecDepth 100000 in
theorem eChanC {B : Nat} {h : MH} {hs : SH} {ao : Option Addr} {ac : Nat} {E : EnvD} (x : Int) (w : World) (hB : B ≤ w.heap.size) (hd : ED B w h hs ao E) :
    Calls Tryd.prog 12 #[.agg (eCells h hs ao ac E), .int .i64 x] w fun e w' => e = .returned (.tuple #[.int .i64 (envChan E x).1, .int .i64 (envChan E x).2]) ∧ Below w.heap.size w w' := by
  have HX := Lib.hid (Bx.new w (eCells h hs ao ac E) 39)
  have HD := Lib.hid (hd.below (HX.out.bel.mono hB))
  have HBB := Lib.hid hB
  have HCK := Lib.hid (echeckC (ac := ac) x _ (Nat.le_trans hB HX.out.bel.size) HD.out)
  clear hd
  unfold eCells at HX HCK ⊢
  go_enter Tryd.func12, Tryd.ntmps12
  go_wp2_with fail
  refine HCK.out.mono ?_
  rintro e W1 ⟨rfl, hb1⟩
  have HX1 := Lib.hid (HX.out.below hb1)
  have HD1 := Lib.hid (HD.out.below (hb1.mono (Nat.le_trans HBB.out HX.out.bel.size)))
  clear hb1 HCK HX
  obtain ⟨er, her⟩ : ∃ q, envE E x = q := ⟨_, rfl⟩
  rw [her]
  by_cases h0 : er = 0
  · have hd0 : (er != 0) = false := by rw [bne_eq_false_iff_eq]; exact h0
    subst h0
    obtain ⟨hok, hx0, hxl⟩ := envE_ok her
    have HV : Hid (envChan E x = rchanB E (evE E) x) := Lib.hid (by unfold envChan; rw [her, if_neg (by simp)])
    have HE := Lib.hid (chanC x W1 (Ek.of (T := 39) (ac := ac) HX1.out.box HBB.out HD1.out) (evalC hok) hx0 hxl)
    clear hok
    go_wp2_with fail
    refine HE.out.mono ?_
    rintro e W2 ⟨rfl, hb2⟩
    have HB2 := Lib.hid (HX1.out.bel.trans (hb2.mono HX1.out.bel.size))
    clear hb2 HE
    go_wp2_with fail
    go_ret2
    exact ⟨ret2 (by rw [HV.out]; rfl) (by rw [HV.out]; rfl), HB2.out⟩
  · have hd0 : (er != 0) = true := by rw [bne_iff_ne]; exact h0
    have HV : Hid (envChan E x = (0, er)) := Lib.hid (by unfold envChan; rw [her, if_pos h0])
    go_wp2_with fail
    go_ret2
    exact ⟨ret2 (by rw [HV.out]) (by rw [HV.out]), HX1.out.bel⟩

set_option maxHeartbeats 2000000 in
set_option maxRecDepth 100000 in
theorem eSlotC {B : Nat} {h : MH} {hs : SH} {ao : Option Addr} {ac : Nat} {E : EnvD} (x : Int) (w : World) (hB : B ≤ w.heap.size) (hd : ED B w h hs ao E) :
    Calls Tryd.prog 9 #[.agg (eCells h hs ao ac E), .int .i64 x] w fun e w' => e = .returned (.tuple #[.int .i64 (envSlot E x).1, .int .i64 (envSlot E x).2.1, .int .i64 (envSlot E x).2.2]) ∧ Below w.heap.size w w' := by
  have HX := Lib.hid (Bx.new w (eCells h hs ao ac E) 39)
  have HD := Lib.hid (hd.below (HX.out.bel.mono hB))
  have HBB := Lib.hid hB
  have HCK := Lib.hid (echeckC (ac := ac) x _ (Nat.le_trans hB HX.out.bel.size) HD.out)
  clear hd
  unfold eCells at HX HCK ⊢
  go_enter Tryd.func9, Tryd.ntmps9
  go_wp2_with fail
  refine HCK.out.mono ?_
  rintro e W1 ⟨rfl, hb1⟩
  have HX1 := Lib.hid (HX.out.below hb1)
  have HD1 := Lib.hid (HD.out.below (hb1.mono (Nat.le_trans HBB.out HX.out.bel.size)))
  clear hb1 HCK HX
  obtain ⟨er, her⟩ : ∃ q, envE E x = q := ⟨_, rfl⟩
  rw [her]
  by_cases h0 : er = 0
  · have hd0 : (er != 0) = false := by rw [bne_eq_false_iff_eq]; exact h0
    subst h0
    obtain ⟨hok, hx0, hxl⟩ := envE_ok her
    obtain ⟨k, rfl⟩ : ∃ k : Nat, x = k := ⟨x.toNat, by omega⟩
    obtain ⟨xx, hxx⟩ : ∃ y, E.m.exprs[k]? = some y := ⟨_, List.getElem?_eq_getElem (by omega)⟩
    have hvf := fun h2 => var_facts hok hxx h2
    have hkl : (k : Int) < E.m.exprs.length := hxl
    have HV : Hid (envSlot E k = rslotB E (evE E) xx) := Lib.hid (by unfold envSlot exprNo; rw [her, if_neg (by simp), Int.toNat_natCast, hxx]; rfl)
    have HE := Lib.hid (slotC W1 (Ek.of (T := 39) (ac := ac) HX1.out.box HBB.out HD1.out) hok (evalC hok) hxx (fun h2 => (hvf h2).1) (fun h2 hs => by have := (hvf h2).2.1 hs; omega) (fun h2 d hd => by have := (hvf h2).2.2 d hd; omega))
    clear hok hvf
    go_wp2_with fail
    refine HE.out.mono ?_
    rintro e W2 ⟨rfl, hb2⟩
    have HB2 := Lib.hid (HX1.out.bel.trans (hb2.mono HX1.out.bel.size))
    clear hb2 HE
    go_wp2_with fail
    go_ret3
    refine ⟨?_, HB2.out⟩
    rw [HV.out]; rfl
  · have hd0 : (er != 0) = true := by rw [bne_iff_ne]; exact h0
    have HV : Hid (envSlot E x = (0, 0, er)) := Lib.hid (by unfold envSlot; rw [her, if_pos h0])
    go_wp2_with fail
    go_ret3
    exact ⟨ret3 HV.out, HX1.out.bel⟩
end Go.Proofs.YtbeikhgjkbnldaaDoor
/- What is reckoned fits; what is a truth is 0 or 1. -/
namespace Go.Proofs.YtbeikhgjkbnldaaDoor
open Go.ChangeShapes Go.WideShapes Go.ChangeAt Go.RowKit

/-- What a good model gives. -/
structure GF (m : ModelD) : Prop where
  globals : m.init.length = m.globals.length ∧ ∀ z ∈ m.globals.zip m.init, fitZ z = true
  shapes : ∀ s ∈ m.shapes, shapeB s = true
  procs : ∀ z ∈ m.procs.zipIdx, procB m z = true
theorem good_gf {m : ModelD} (h : goodB m = true) : GF m := by
  unfold goodB checkL at h
  rw [decide_eq_true_eq] at h
  by_cases h1 : (globalsL m).2 = false
  · rw [if_pos h1] at h; simp at h
  rw [if_neg h1] at h
  by_cases h2 : (channelsL m).2 = false
  · rw [if_pos h2] at h; simp at h
  rw [if_neg h2] at h
  by_cases h3 : (expressionsL m).2 = false
  · rw [if_pos h3] at h; simp at h
  rw [if_neg h3] at h
  by_cases h4 : (procsL m).2 = false
  · rw [if_pos h4] at h; simp at h
  clear h h3
  refine ⟨?_, ?_, ?_⟩
  · unfold globalsL at h1
    split at h1
    · simp at h1
    · rename_i h5
      refine ⟨by omega, ?_⟩
      cases hb : bad fitZ (m.globals.zip m.init) with
      | none => exact bad_all hb
      | some i => rw [hb] at h1; simp [idxB] at h1
  · unfold channelsL at h2
    split at h2
    · simp at h2
    · cases hb : bad shapeB m.shapes with
      | none => exact bad_all hb
      | some i => rw [hb] at h2; simp at h2
  · unfold procsL at h4
    cases hb : bad (procB m) m.procs.zipIdx with
    | none => exact bad_all hb
    | some i => rw [hb] at h4; simp [idxB] at h4

def inR (v : Int) : Prop := -2147483648 ≤ v ∧ v ≤ 4294967295
theorem fit_inR {b v : Int} {s : Bool} (h : fitB b s v = true) : inR v := by
  unfold fitB tyB at h
  simp only [Bool.and_eq_true, decide_eq_true_eq] at h
  obtain ⟨⟨⟨h1, h2⟩, -⟩, h3⟩ := h
  obtain ⟨H, p1, p2, p3, p4⟩ := val.pows b h1 h2
  rw [p1, p2] at h3
  unfold inR
  cases s
  · simp at h3; omega
  · simp at h3; omega
theorem fitsL_inR {t : List (Int × Bool)} {l : List Int} (h : fitsL t l = true) : ∀ v ∈ l, inR v := by
  unfold fitsL at h
  simp only [Bool.and_eq_true, decide_eq_true_eq] at h
  obtain ⟨h1, h2⟩ := h
  intro v hv
  obtain ⟨i, hi, rfl⟩ := List.mem_iff_getElem.1 hv
  have h3 : (t[i]'(by omega), l[i]) ∈ t.zip l := by
    rw [List.mem_iff_getElem]
    exact ⟨i, by simp; omega, by simp⟩
  have h4 := List.all_eq_true.1 h2 _ h3
  unfold fitZ at h4
  exact fit_inR h4
theorem may_globals {m : ModelD} {s : StateD} (h : mayB m s = true) : fitsL m.globals s.globals = true ∧ s.chans.length ≤ 32 ∧ s.procs.length ≤ 16 := by
  unfold mayB mayHeadB at h
  simp only [Bool.and_eq_true, decide_eq_true_eq] at h
  exact h.1.1.1
theorem may_tail {m : ModelD} {s : StateD} (h : mayB m s = true) : 0 ≤ s.last ∧ s.last < 16 := by
  unfold mayB mayTailB at h
  simp only [Bool.and_eq_true, decide_eq_true_eq] at h
  have := h.2.1
  omega
theorem may_frame {m : ModelD} {s : StateD} (h : mayB m s = true) {p : ProcessD} (hp : p ∈ s.procs) : ∃ t, m.procs[p.type.toNat]? = some t ∧ fitsL t.frame p.frame = true ∧ 0 ≤ p.loc ∧ p.loc < t.locs.length ∧ 0 ≤ p.type := by
  unfold mayB at h
  simp only [Bool.and_eq_true] at h
  have h3 := List.all_eq_true.1 h.1.2 p hp
  unfold procMayB procHeadB procFB at h3
  simp only [Bool.and_eq_true, decide_eq_true_eq] at h3
  obtain ⟨⟨h4, h5, _⟩, h6⟩ := h3
  split at h6
  · rename_i t ht
    simp only [Bool.and_eq_true, decide_eq_true_eq] at h6
    exact ⟨t, ht, h6.2, h6.1.1, h6.1.2.1, h4⟩
  · cases h6
theorem slotsL_inR {E : EnvD} (hok : Ok E) (pid : Int) : ∀ v ∈ slotsL E pid, inR v := by
  unfold slotsL
  split
  · exact fitsL_inR (may_globals hok.may).1
  · cases hp : E.s.procs[pid.toNat]? with
    | none => simp
    | some p =>
      obtain ⟨t, -, h, -⟩ := may_frame hok.may (List.mem_of_getElem? hp)
      simpa using fitsL_inR h
theorem slotVal_inR {E : EnvD} (hok : Ok E) (pid slot : Int) : inR (slotVal E pid slot) := by
  unfold slotVal
  rw [List.getD_eq_getElem?_getD]
  cases hv : (slotsL E pid)[slot.toNat]? with
  | none => simp [inR]
  | some v => simpa using slotsL_inR hok pid v (List.mem_of_getElem? hv)
theorem inR_small {v : Int} (h : -2147483648 ≤ v ∧ v ≤ 2147483647) : inR v := ⟨h.1, by omega⟩
def bit (v : Int) : Prop := v = 0 ∨ v = 1
theorem bit_truth (b : Bool) : bit (truthI b) := by cases b <;> simp [bit, truthI]
theorem bit_b2i (b : Bool) : bit (val.b2i b) := by cases b <;> simp [bit, val.b2i]
theorem bit_inR {v : Int} (h : bit v) : inR v := by rcases h with h | h <;> simp [inR, h]
theorem two_inR (op a b : Int) : inR (val.two op a b).1 ∧ (13 ≤ op ∧ op ≤ 18 → bit (val.two op a b).1) := by
  have r1 := val.wrap32_range a
  have r2 := val.wrap32_range b
  by_cases h0 : op < 6 ∨ 21 < op
  · rw [val.two_else op a b h0]
    exact ⟨by simp [inR], fun h => by omega⟩
  have hc : op = 6 ∨ op = 7 ∨ op = 8 ∨ op = 9 ∨ op = 10 ∨ op = 11 ∨ op = 12 ∨ op = 13 ∨ op = 14 ∨ op = 15 ∨ op = 16 ∨ op = 17 ∨ op = 18 ∨ op = 19 ∨ op = 20 ∨ op = 21 := by omega
  rcases hc with rfl | rfl | rfl | rfl | rfl | rfl | rfl | rfl | rfl | rfl | rfl | rfl | rfl | rfl | rfl | rfl
  · rw [val.two_6]; exact ⟨inR_small (val.wrap32_range _), by omega⟩
  · by_cases hz : wrap32 b = 0
    · rw [val.two_7z _ _ hz]; exact ⟨by simp [inR], by omega⟩
    · rw [val.two_7 _ _ hz]; exact ⟨inR_small (val.wrap32_range _), by omega⟩
  · by_cases hz : wrap32 b = 0
    · rw [val.two_8z _ _ hz]; exact ⟨by simp [inR], by omega⟩
    · rw [val.two_8 _ _ hz]; exact ⟨inR_small (by have := val.tmod_range (wrap32 a) (wrap32 b) r2 hz; omega), by omega⟩
  · rw [val.two_9]; exact ⟨inR_small (val.wrap32_range _), by omega⟩
  · rw [val.two_10]; exact ⟨inR_small (val.wrap32_range _), by omega⟩
  · rw [val.two_11]; exact ⟨inR_small (val.wrap32_range _), by omega⟩
  · rw [val.two_12]; exact ⟨inR_small (val.wrap32_range _), by omega⟩
  · rw [val.two_13]; exact ⟨bit_inR (bit_b2i _), fun _ => bit_b2i _⟩
  · rw [val.two_14]; exact ⟨bit_inR (bit_b2i _), fun _ => bit_b2i _⟩
  · rw [val.two_15]; exact ⟨bit_inR (bit_b2i _), fun _ => bit_b2i _⟩
  · rw [val.two_16]; exact ⟨bit_inR (bit_b2i _), fun _ => bit_b2i _⟩
  · rw [val.two_17]; exact ⟨bit_inR (bit_b2i _), fun _ => bit_b2i _⟩
  · rw [val.two_18]; exact ⟨bit_inR (bit_b2i _), fun _ => bit_b2i _⟩
  · rw [val.two_19]; exact ⟨inR_small (val.and_range _ _ r1 r2), by omega⟩
  · rw [val.two_20]; exact ⟨inR_small (val.xor_range _ _ r1 r2), by omega⟩
  · rw [val.two_21]; exact ⟨inR_small (val.or_range _ _ r1 r2), by omega⟩
theorem one_inR (op a : Int) : inR (val.one op a).1 ∧ (op = 4 → bit (val.one op a).1) := by
  have r1 := val.wrap32_range a
  by_cases h0 : op < 3 ∨ 5 < op
  · rw [val.one_else op a h0]; exact ⟨by simp [inR], by omega⟩
  have hc : op = 3 ∨ op = 4 ∨ op = 5 := by omega
  rcases hc with rfl | rfl | rfl
  · rw [val.one_3]; exact ⟨inR_small (val.wrap32_range _), by omega⟩
  · rw [val.one_4]; exact ⟨bit_inR (bit_b2i _), fun _ => bit_b2i _⟩
  · rw [val.one_5]; exact ⟨by unfold inR; omega, by omega⟩
theorem mem_zipIdx {α : Type} {l : List α} {i : Nat} {x : α} (h : l[i]? = some x) : (x, i) ∈ l.zipIdx := by
  rw [List.mem_iff_getElem?]
  exact ⟨i, by rw [List.getElem?_zipIdx, h]; simp⟩
theorem chan_small {E : EnvD} (hok : Ok E) (n : Int) : ((chanNo E n).queue.length : Int) ≤ 16 := by
  unfold chanNo
  cases hc : E.s.chans[(n - 1).toNat]? with
  | none => simp
  | some c =>
    have h1 := hok.may
    unfold mayB at h1
    simp only [Bool.and_eq_true] at h1
    have h3 := List.all_eq_true.1 h1.1.1.2 c (List.mem_of_getElem? hc)
    unfold chanMayB chanFB at h3
    simp only [Bool.and_eq_true] at h3
    obtain ⟨-, h6⟩ := h3
    split at h6
    · rename_i s hs
      simp only [Bool.and_eq_true, decide_eq_true_eq] at h6
      have h7 := (good_gf hok.good).shapes s (List.mem_of_getElem? hs)
      unfold shapeB at h7
      simp only [Bool.and_eq_true, Bool.not_eq_true', decide_eq_false_iff_not] at h7
      have h8 := h7.1
      have h9 := h6.1
      simp only [Option.getD_some]
      omega
    · cases h6
theorem loc_small {E : EnvD} (hok : Ok E) {p : ProcessD} (hp : p ∈ E.s.procs) : 0 ≤ p.loc ∧ p.loc < 256 := by
  obtain ⟨t, ht, -, h1, h2, -⟩ := may_frame hok.may hp
  have h3 := (good_gf hok.good).procs _ (mem_zipIdx ht)
  unfold procB placesB placesHeadB at h3
  simp only [Bool.and_eq_true, Bool.not_eq_true', decide_eq_false_iff_not] at h3
  have h4 := h3.1.2.1.1
  omega
/-- The opcodes of truths. -/
def truthOp (op : Int) : Prop := (13 ≤ op ∧ op ≤ 18) ∨ op = 4 ∨ op = 22 ∨ op = 23 ∨ (26 ≤ op ∧ op ≤ 30) ∨ op = 34 ∨ op = 35 ∨ op = 36 ∨ op = 38
def Bd (op : Int) (r : Int × Int) : Prop := r.2 = 0 → inR r.1 ∧ (truthOp op → bit r.1)
theorem Bd.bad {op a b : Int} (h : b ≠ 0) : Bd op (a, b) := fun h2 => absurd h2 h
theorem Bd.of {op v : Int} (h1 : inR v) (h2 : truthOp op → bit v) : Bd op (v, 0) := fun _ => ⟨h1, h2⟩
theorem Bd.bit {op v : Int} (h : bit v) : Bd op (v, 0) := Bd.of (bit_inR h) fun _ => h
theorem evalB_bd {E : EnvD} (hok : Ok E) {ev : Int → Int × Int} (hev : ∀ i, (ev i).2 = 0 → inR (ev i).1) {x : ExprD} (hx : exprB E.m x = true) : Bd x.op (evalB E ev x) := by
  unfold exprB at hx
  simp only [Bool.and_eq_true, decide_eq_true_eq] at hx
  obtain ⟨⟨hop, -⟩, hkind⟩ := hx
  unfold evalB
  by_cases h1 : x.op = 1
  · rw [if_pos h1]
    unfold kindB at hkind
    rw [if_pos h1] at hkind
    exact Bd.of (fit_inR hkind) (fun h => by unfold truthOp at h; omega)
  rw [if_neg h1]
  by_cases h2 : x.op = 2
  · rw [if_pos h2]
    split
    · rename_i h3; exact Bd.bad h3
    · exact Bd.of (slotVal_inR hok _ _) (fun h => by unfold truthOp at h; omega)
  rw [if_neg h2]
  by_cases h3 : 3 ≤ x.op ∧ x.op ≤ 5
  · rw [if_pos h3]
    split
    · rename_i h4; exact Bd.bad h4
    · obtain ⟨h4, h5⟩ := one_inR x.op (ev x.a).1
      exact fun _ => ⟨h4, fun h => h5 (by unfold truthOp at h; omega)⟩
  rw [if_neg h3]
  by_cases h4 : 22 ≤ x.op ∧ x.op ≤ 24
  · rw [if_pos h4]
    unfold chosenB
    split
    · rename_i h5; exact Bd.bad h5
    · split
      · exact Bd.bit (.inl rfl)
      · split
        · exact Bd.bit (.inr rfl)
        · split
          · rename_i h8
            split
            · rename_i h9; exact Bd.bad h9
            · rename_i h9; exact Bd.of (hev _ (by omega)) (fun h => by unfold truthOp at h; omega)
          · split
            · rename_i h9; exact Bd.bad h9
            · rename_i h9
              split
              · exact Bd.of (hev _ (by omega)) (fun h => by unfold truthOp at h; omega)
              · exact Bd.bit (bit_truth _)
  rw [if_neg h4]
  by_cases h5 : 25 ≤ x.op ∧ x.op ≤ 29
  · rw [if_pos h5]
    unfold rroomB
    split
    · rename_i h6; exact Bd.bad h6
    · unfold roomOp
      split
      · exact Bd.bit (bit_truth _)
      · split
        · exact Bd.bit (bit_truth _)
        · split
          · exact Bd.bit (bit_truth _)
          · split
            · exact Bd.bit (bit_truth _)
            · have := chan_small hok (rchanB E ev x.a).1
              exact Bd.of (by unfold inR; omega) (fun h => by unfold truthOp at h; omega)
  rw [if_neg h5]
  by_cases h6 : x.op = 30
  · rw [if_pos h6]
    unfold rpollB
    split
    · rename_i h7; exact Bd.bad h7
    · split
      · exact Bd.bad (by omega)
      · split
        · rename_i h7; exact Bd.bad h7
        · exact Bd.bit (bit_truth _)
  rw [if_neg h6]
  by_cases h7 : 31 ≤ x.op ∧ x.op ≤ 35
  · rw [if_pos h7]
    unfold knownB
    have hm := may_globals hok.may
    have ht := may_tail hok.may
    have hp := hok.pid
    split
    · exact Bd.of (by unfold inR; omega) (fun h => by unfold truthOp at h; omega)
    · split
      · exact Bd.of (by unfold inR; omega) (fun h => by unfold truthOp at h; omega)
      · split
        · exact Bd.of (by unfold inR; omega) (fun h => by unfold truthOp at h; omega)
        · split
          · exact Bd.bit (bit_truth _)
          · exact Bd.bit (bit_truth _)
  rw [if_neg h7]
  by_cases h8 : 36 ≤ x.op ∧ x.op ≤ 38
  · rw [if_pos h8]
    split
    · rename_i h9; exact Bd.bad h9
    · unfold askedB
      split
      · exact Bd.bit (bit_truth _)
      · split
        · exact Bd.bad (by omega)
        · rename_i p hp
          have hmem : p ∈ E.s.procs := by
            split at hp
            · cases hp
            · exact List.mem_of_getElem? hp
          have hl := loc_small hok hmem
          split
          · exact Bd.of (by unfold inR; omega) (fun h => by unfold truthOp at h; omega)
          · split
            · exact Bd.bad (by omega)
            · exact Bd.bit (bit_truth _)
  rw [if_neg h8]
  by_cases h9 : x.op = 39
  · rw [if_pos h9]; exact Bd.bad (by omega)
  rw [if_neg h9]
  split
  · rename_i h10; exact Bd.bad h10
  · split
    · rename_i h10; exact Bd.bad h10
    · obtain ⟨h10, h11⟩ := two_inR x.op (ev x.a).1 (ev x.b).1
      exact fun _ => ⟨h10, fun h => h11 (by unfold truthOp at h; omega)⟩
theorem evalF_inR {E : EnvD} (hok : Ok E) : ∀ (f : Nat) (i : Int), (evalF E f i).2 = 0 → inR (evalF E f i).1
  | 0, i => fun _ => by simp [evalF, inR]
  | f + 1, i => by
    unfold evalF
    cases hx : E.m.exprs[i.toNat]? with
    | none => intro _; simp [inR]
    | some x =>
      obtain ⟨hi, hx'⟩ := List.getElem?_eq_some_iff.1 hx
      exact fun h => (evalB_bd hok (evalF_inR hok f) ((good_ex hok).ok i.toNat x hx).1 h).1
end Go.Proofs.YtbeikhgjkbnldaaDoor
