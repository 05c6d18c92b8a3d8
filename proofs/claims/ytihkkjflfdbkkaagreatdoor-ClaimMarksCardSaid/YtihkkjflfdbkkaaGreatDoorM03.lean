/- Variables and fields. -/
import Derived.Test.YtihkkjflfdbkkaaGreatDoorM02
namespace Go.Proofs.YtihkkjflfdbkkaaGreatDoor
open Go.ChangeShapes Go.WideShapes Go.ChangeAt Go.RowKit
set_option linter.unusedVariables false
set_option linter.unusedSimpArgs false

/-- A box, and what stands below it. -/
structure Bx (w : World) (cs : Array Value) (T : TypeId) (W : World) : Prop where
  box : W.heap[w.heap.size]? = some (.cells cs T (0, 0))
  bel : Below w.heap.size w W
theorem Bx.new (w : World) (cs : Array Value) (T : TypeId) : Bx w cs T (w.alloc (.cells cs T)) := ⟨heap_alloc_new w _, ball _⟩
theorem Bx.below {w W W' : World} {cs : Array Value} {T : TypeId} (h : Bx w cs T W) (hb : Below W.heap.size W W') : Bx w cs T W' := ⟨(hb.block _ (lt_of_block h.box)).trans h.box, h.bel.trans (hb.mono h.bel.size)⟩
theorem Bx.cell {w W : World} {cs : Array Value} {T : TypeId} (h : Bx w cs T W) {i : Nat} {v : Value} (hv : cs[i]? = some v) : W.cell? ⟨w.heap.size, i, none⟩ = some v := (cell_of_row _ _ _ _ _ _ h.box).trans hv
theorem Ck.bx {B p : Nat} {w W : World} {h : MH} {m : ModelD} {cs : Array Value} {T : TypeId} (hk : Ck B w p h m) (hx : Bx w cs T W) : Ck B W p h m := hk.below hx.bel

set_option maxRecDepth 100000 in
theorem variableC {B p : Nat} {h : MH} {m : ModelD} (v : VarD) (o : Option Addr) (cap : Nat) (w : World) (hk : Ck B w p h m) (hin : Row B o 3 (dimAt w) v.dims) :
    Calls Tryz.prog 115 #[.pointer (some ⟨p, 0, none⟩), .agg #[.int .i64 v.scope, .int .i64 v.slot, .int .i64 v.who, .int .i64 v.type, .slice o v.dims.length cap]] w fun e w' => e = .returned (.bool (varB m v)) ∧ Below w.heap.size w w' := by
  have HK := Lib.hid hk
  have HIN := Lib.hid hin
  have hn : v.dims.length ≤ 140737488355328 := hin.1
  have HX := Lib.hid (Bx.new w #[.int .i64 v.scope, .int .i64 v.slot, .int .i64 v.who, .int .i64 v.type, .slice o v.dims.length cap] 72)
  clear hin hk
  obtain ⟨sc, sl, wh, ty, dims⟩ := v
  simp only at HIN hn HX ⊢
  by_cases hbad : sc < 0 ∨ 2 < sc ∨ sl < 0 ∨ 128 < sl ∨ 4 < dims.length
  · have hv : varB m ⟨sc, sl, wh, ty, dims⟩ = false := by unfold varB varHeadB; rw [decide_eq_true (by exact hbad)]; rfl
    have HV := Lib.hid hv
    clear hv
    go_enter Tryz.func115, Tryz.ntmps115
    go_wp2
    all_goals first | (exfalso; omega) | (go_ret; exact ⟨retB HV.out.symm, HX.out.bel⟩)
  · have hv : varB m ⟨sc, sl, wh, ty, dims⟩ = (dims.all dimB && varTailB m ⟨sc, sl, wh, ty, dims⟩) := by unfold varB varHeadB; rw [decide_eq_false (by exact hbad)]; simp
    have HV := Lib.hid hv
    clear hv
    have h1 : ¬ sc < 0 := fun h => hbad (.inl h)
    have h2 : ¬ 2 < sc := fun h => hbad (.inr (.inl h))
    have h3 : ¬ sl < 0 := fun h => hbad (.inr (.inr (.inl h)))
    have h4 : ¬ 128 < sl := fun h => hbad (.inr (.inr (.inr (.inl h))))
    have h5 : ¬ 4 < dims.length := fun h => hbad (.inr (.inr (.inr (.inr h))))
    clear hbad
    go_enter Tryz.func115, Tryz.ntmps115
    go_wp2
    go_loopw [34] (fun i wr => ∃ (k : Nat), i = .int .i64 k ∧ k ≤ dims.length ∧ Hid (∀ j (hj : j < dims.length), j < k → dimB dims[j] = true) ∧ Hid (Bx w #[.int .i64 sc, .int .i64 sl, .int .i64 wh, .int .i64 ty, .slice o dims.length cap] 72 wr)) (fun i _ => dims.length - (intOf i).toNat)
    case atStart => exact ⟨0, rfl, by omega, Lib.hid fun j _ h => by omega, HX⟩
    case round =>
      obtain ⟨k, rfl, hk, HD, HB⟩ := hrel
      have hk0 : (0 : Int) ≤ k := by omega
      have hsz := HB.out.bel.size
      by_cases hlt : k < dims.length
      · have hlti : (k : Int) < dims.length := by omega
        obtain ⟨g, off, rfl, hg, e0, e1, e2⟩ := HIN.out.cell hlt
        have hgw : g < w.heap.size := by have := HK.out.le; have := HK.out.lt; omega
        obtain ⟨⟨I, L, S⟩, hd⟩ : ∃ d, dims[k] = d := ⟨_, rfl⟩
        rw [hd] at e0 e1 e2
        simp only at e0 e1 e2
        have c0 := (HB.out.bel.cell (p := ⟨g, off + k * 3, none⟩) hgw).trans e0
        have c1 := (HB.out.bel.cell (p := ⟨g, off + k * 3 + 1, none⟩) hgw).trans e1
        have c2 := (HB.out.bel.cell (p := ⟨g, off + k * 3 + 2, none⟩) hgw).trans e2
        have HDD := Lib.hid hd
        clear e0 e1 e2 hd
        have HB1 : ∀ o, Hid (Bx w #[.int .i64 sc, .int .i64 sl, .int .i64 wh, .int .i64 ty, .slice (some ⟨g, off, none⟩) dims.length cap] 72 (wr.alloc o)) := fun o => Lib.hid (HB.out.below (ball o))
        have HBB := Lib.hid HB1
        clear HB1
        by_cases hb : L < 1 ∨ 128 < L ∨ S < 0 ∨ 128 < S
        · have HZ : Hid (varB m ⟨sc, sl, wh, ty, dims⟩ = false) := Lib.hid (by rw [HV.out, all_bad hlt (by rw [HDD.out]; unfold dimB; rw [decide_eq_true (by exact hb)]; rfl)]; rfl)
          go_wp2
          all_goals first | (exfalso; omega) | (go_ret; exact ⟨retB HZ.out.symm, (HBB.out _).out.bel⟩)
        · have i1 : ¬ L < 1 := fun h => hb (.inl h)
          have i2 : ¬ 128 < L := fun h => hb (.inr (.inl h))
          have i3 : ¬ S < 0 := fun h => hb (.inr (.inr (.inl h)))
          have i4 : ¬ 128 < S := fun h => hb (.inr (.inr (.inr h)))
          have HDK : Hid (dimB dims[k] = true) := Lib.hid (by rw [HDD.out]; unfold dimB; rw [decide_eq_false (by exact hb)]; rfl)
          clear hb
          go_wp2
          go_roundw
          case rel => exact ⟨k + 1, by go_num, by omega, Lib.hid fun j hj hjk => by
            by_cases e : j = k
            · subst e; exact HDK.out
            · exact HD.out j hj (by omega), HBB.out _⟩
          case measure => simp [intOf]; omega
      · have hlti : ¬ (k : Int) < dims.length := by omega
        have HA : Hid (varB m ⟨sc, sl, wh, ty, dims⟩ = varTailB m ⟨sc, sl, wh, ty, dims⟩) := Lib.hid (by rw [HV.out, all_of fun j hj => HD.out j hj (by omega)]; rfl)
        have c0 : wr.cell? ⟨w.heap.size, 0, none⟩ = some (.int .i64 sc) := HB.out.cell rfl
        have c2 : wr.cell? ⟨w.heap.size, 2, none⟩ = some (.int .i64 wh) := HB.out.cell rfl
        have c3 : wr.cell? ⟨w.heap.size, 3, none⟩ = some (.int .i64 ty) := HB.out.cell rfl
        have HKR := Lib.hid (HK.out.bx HB.out)
        have HBE := Lib.hid HB.out.bel
        by_cases hr : sc = 2
        · have HT : Hid (varTailB m ⟨sc, sl, wh, ty, dims⟩ = ptypeB m ty) := Lib.hid (if_pos hr)
          have hr1 : (sc == 2) = true := by simp [hr]
          clear hr
          go_wp2_with fail
          refine (proctypeC ty wr HKR.out).mono ?_
          rintro e w' ⟨rfl, rfl⟩
          go_wp2_with fail
          go_ret
          exact ⟨retB (by rw [HA.out, HT.out]), HBE.out⟩
        · have HT : Hid (varTailB m ⟨sc, sl, wh, ty, dims⟩ = decide (wh = -1 ∧ ty = -1)) := Lib.hid (if_neg hr)
          have hr1 : (sc == 2) = false := by simp [hr]
          clear hr
          by_cases hw : wh = -1
          · by_cases ht : ty = -1
            · have HF : Hid (varB m ⟨sc, sl, wh, ty, dims⟩ = true) := Lib.hid (by rw [HA.out, HT.out]; simp [hw, ht])
              have hw1 : (wh == -1) = true := by simp [hw]
              have ht1 : (ty == -1) = true := by simp [ht]
              clear hw ht HA HT
              go_wp2_with fail
              go_ret
              exact ⟨retB HF.out.symm, HBE.out⟩
            · have HF : Hid (varB m ⟨sc, sl, wh, ty, dims⟩ = false) := Lib.hid (by rw [HA.out, HT.out]; simp [ht])
              have hw1 : (wh == -1) = true := by simp [hw]
              have ht1 : (ty == -1) = false := by simp [ht]
              clear hw ht HA HT
              go_wp2_with fail
              go_ret
              exact ⟨retB HF.out.symm, HBE.out⟩
          · have HF : Hid (varB m ⟨sc, sl, wh, ty, dims⟩ = false) := Lib.hid (by rw [HA.out, HT.out]; simp [hw])
            have hw1 : (wh == -1) = false := by simp [hw]
            clear hw HA HT
            go_wp2_with fail
            go_ret
            exact ⟨retB HF.out.symm, HBE.out⟩

set_option maxHeartbeats 1000000 in
set_option maxRecDepth 100000 in
theorem fieldsC {B p : Nat} {h : MH} {m : ModelD} (args mat : List Int) (o1 o2 : Option Addr) (cap1 cap2 : Nat) (w : World) (hk : Ck B w p h m) (h1 : Row B o1 1 (intAt w) args) (h2 : Row B o2 1 (intAt w) mat) :
    Calls Tryz.prog 116 #[.pointer (some ⟨p, 0, none⟩), .slice o1 args.length cap1, .slice o2 mat.length cap2] w fun e w' => e = .returned (.bool (fieldsB m args mat)) ∧ w = w' := by
  have HK := Lib.hid hk
  have H1 := Lib.hid h1
  have H2 := Lib.hid h2
  have n1 := h1.1
  have n2 := h2.1
  clear h1 h2 hk
  by_cases hbad : args.length < 1 ∨ 8 < args.length ∨ mat.length ≠ args.length
  · have hv : fieldsB m args mat = false := by unfold fieldsB; rw [decide_eq_true (by exact hbad)]; rfl
    have HV := Lib.hid hv
    clear hv
    by_cases hd : args.length < 1 ∨ 8 < args.length
    · clear hbad
      go_enter Tryz.func116, Tryz.ntmps116
      go_wp2
      all_goals first | (exfalso; omega) | (go_ret; exact ⟨retB HV.out.symm, rfl⟩)
    · have h3 : ¬ args.length < 1 := fun h => hd (.inl h)
      have h4 : ¬ 8 < args.length := fun h => hd (.inr h)
      have h5 : ((mat.length : Int) != (args.length : Int)) = true := by rw [bne_iff_ne]; omega
      clear hd hbad
      go_enter Tryz.func116, Tryz.ntmps116
      go_wp2
      all_goals first | (exfalso; omega) | (go_ret; exact ⟨retB HV.out.symm, rfl⟩)
  · have HV : Hid (fieldsB m args mat = (args.zip mat).all (fieldB m)) := Lib.hid (by unfold fieldsB; rw [decide_eq_false (by exact hbad)]; simp)
    have h3 : ¬ args.length < 1 := fun h => hbad (.inl h)
    have h4 : ¬ 8 < args.length := fun h => hbad (.inr (.inl h))
    have HL : Hid (mat.length = args.length) := Lib.hid (by omega)
    have h5 : ((mat.length : Int) != (args.length : Int)) = false := by simp; omega
    have h6 : (mat.length : Int) ≤ args.length := by omega
    have h7 : (args.length : Int) ≤ mat.length := by omega
    clear hbad
    go_enter Tryz.func116, Tryz.ntmps116
    go_wp2
    go_loop [26] (fun i => ∃ (k : Nat), i = .int .i64 k ∧ k ≤ args.length ∧ Hid (∀ j (hj : j < (args.zip mat).length), j < k → fieldB m (args.zip mat)[j] = true)) (fun i => args.length - (intOf i).toNat)
    case atStart => exact ⟨0, rfl, by omega, Lib.hid fun j _ h => by omega⟩
    case round =>
      obtain ⟨k, rfl, hk, HD⟩ := hrel
      have hk0 : (0 : Int) ≤ k := by omega
      by_cases hlt : k < args.length
      · have hlti : (k : Int) < args.length := by omega
        have hltm : k < mat.length := by have := HL.out; omega
        have hltmi : (k : Int) < mat.length := by omega
        obtain ⟨g, off, rfl, hg, e0⟩ := H1.out.cell hlt
        obtain ⟨g2, off2, rfl, hg2, e2⟩ := H2.out.cell hltm
        have hz : k < (args.zip mat).length := by rw [List.length_zip]; omega
        have HZ : Hid ((args.zip mat)[k] = (args[k], mat[k])) := Lib.hid List.getElem_zip
        obtain ⟨x, hx⟩ : ∃ x, args[k] = x := ⟨_, rfl⟩
        obtain ⟨q, hq⟩ : ∃ q, mat[k] = q := ⟨_, rfl⟩
        rw [hx, hq] at HZ
        have c0 : w.cell? ⟨g, off + k, none⟩ = some (.int .i64 x) := by have := e0; unfold intAt at this; rw [Nat.mul_one, hx] at this; exact this
        have c2 : w.cell? ⟨g2, off2 + k, none⟩ = some (.int .i64 q) := by have := e2; unfold intAt at this; rw [Nat.mul_one, hq] at this; exact this
        have HZL := Lib.hid hz
        have HBAD : Hid (fieldB m (x, q) = false → fieldsB m args mat = false) := Lib.hid fun h => by rw [HV.out, all_bad hz (by rw [HZ.out]; exact h)]
        have HGO : Hid (fieldB m (x, q) = true → ∀ j (hj : j < (args.zip mat).length), j < k + 1 → fieldB m (args.zip mat)[j] = true) := Lib.hid fun h j hj hjk => by
          by_cases e : j = k
          · subst e; rw [HZ.out]; exact h
          · exact HD.out j hj (by omega)
        clear e0 e2 hz hx hq hg hg2 HZ
        go_wp2_with fail
        refine (isExprC x w HK.out).mono ?_
        rintro e w' ⟨rfl, rfl⟩
        obtain ⟨b1, hb1⟩ : ∃ b, isExprB m x = b := ⟨_, rfl⟩
        rw [hb1]
        have HE := Lib.hid hb1
        clear hb1
        cases b1
        · have HF := Lib.hid (HBAD.out (by unfold fieldB; rw [HE.out]; rfl))
          go_wp2_with fail
          go_ret
          exact ⟨retB HF.out.symm, rfl⟩
        · by_cases hq : -1 ≤ q ∧ q ≤ 1
          · have hq1 : ¬ q < -1 := by omega
            have hq2 : ¬ 1 < q := by omega
            by_cases hq0 : q = 0
            · have hq3 : (q == 0) = true := by simp [hq0]
              have HQ := Lib.hid (And.intro hq hq0)
              clear hq hq0
              go_wp2_with fail
              refine (isVarC x w HK.out).mono ?_
              rintro e w' ⟨rfl, rfl⟩
              obtain ⟨b2, hb2⟩ : ∃ b, isVarB m x = b := ⟨_, rfl⟩
              rw [hb2]
              have HE2 := Lib.hid hb2
              clear hb2
              cases b2
              · have HF := Lib.hid (HBAD.out (by unfold fieldB; rw [HE.out, HE2.out]; simp [HQ.out.2]))
                go_wp2_with fail
                go_ret
                exact ⟨retB HF.out.symm, rfl⟩
              · have HF := Lib.hid (HGO.out (by unfold fieldB; rw [HE.out, HE2.out]; simp [HQ.out.2]))
                go_wp2_with fail
                go_round
                case rel => exact ⟨k + 1, by go_num, by omega, HF⟩
                case measure => simp [intOf]; omega
            · have hq3 : (q == 0) = false := by simp [hq0]
              have HF := Lib.hid (HGO.out (by unfold fieldB; rw [HE.out]; simp [hq0]; exact hq))
              clear hq hq0
              go_wp2_with fail
              go_round
              case rel => exact ⟨k + 1, by go_num, by omega, HF⟩
              case measure => simp [intOf]; omega
          · have HF := Lib.hid (HBAD.out (by unfold fieldB; rw [HE.out, decide_eq_false (by exact hq)]; simp))
            go_wp2_with fail
            all_goals first | (exfalso; omega) | (go_ret; exact ⟨retB HF.out.symm, rfl⟩)
      · have hlti : ¬ (k : Int) < args.length := by omega
        have HF : Hid (fieldsB m args mat = true) := Lib.hid (by rw [HV.out]; exact all_of fun j hj => HD.out j hj (by rw [List.length_zip] at hj; omega))
        go_wp2_with fail
        go_ret
        exact ⟨retB HF.out.symm, rfl⟩
end Go.Proofs.YtihkkjflfdbkkaaGreatDoor
/- The document's Type, Fits, Reach. -/
namespace Go.Proofs.YtihkkjflfdbkkaaGreatDoor
open Go.ChangeShapes Go.WideShapes Go.ChangeAt Go.RowKit
set_option linter.unusedVariables false
set_option linter.unusedSimpArgs false

theorem typeH (b : Int) (s : Bool) (w : World) : Calls Tryz.prog 113 #[.agg #[.int .i64 b, .bool s]] w fun e w' => e = .returned (.bool (tyB b s)) ∧ Below w.heap.size w w' := by
  go_enter Tryz.func113, Tryz.ntmps113
  go_wp2
  all_goals (go_ret; refine ⟨retB ?_, Below.alloc (Below.refl _ _) (Nat.le_refl _) _⟩)
  all_goals (unfold tyB; rw [Bool.eq_iff_iff]; simp_all)
  all_goals omega

theorem two_step (k : Nat) : (2 : Int) * 2 ^ k = 2 ^ (k + 1) := by rw [Int.pow_succ]; omega
theorem pow_small (k : Nat) (h : k ≤ 32) : (2 : Int) ^ k ≤ 4294967296 ∧ 0 < (2 : Int) ^ k := by
  refine ⟨?_, Int.pow_pos (by decide)⟩
  have h1 := Nat.pow_le_pow_right (n := 2) (by decide) h
  have h2 : (2 : Int) ^ k ≤ 2 ^ 32 := by exact_mod_cast h1
  have h3 : (2 : Int) ^ 32 = 4294967296 := by decide
  omega

set_option maxRecDepth 100000 in
theorem fitsH (b : Int) (s : Bool) (v : Int) (w : World) : Calls Tryz.prog 72 #[.agg #[.int .i64 b, .bool s], .int .i64 v] w fun e w' => e = .returned (.bool (fitB b s v)) ∧ Below w.heap.size w w' := by
  have HB := Lib.hid (Below.alloc (Below.refl w.heap.size w) (Nat.le_refl _) (.cells #[.int .i64 b, .bool s] 113))
  have HS : Hid (w.heap.size < (w.alloc (.cells #[.int .i64 b, .bool s] 113)).heap.size) := Lib.hid (by simp)
  have HC := Lib.hid (heap_alloc_new w (.cells #[.int .i64 b, .bool s] 113))
  go_enter Tryz.func72, Tryz.ntmps72
  go_wp2_with fail
  refine (typeH b s _).mono ?_
  rintro e w1 ⟨rfl, hb⟩
  have HB1 := Lib.hid (HB.out.trans (hb.mono (Nat.le_of_lt HS.out)))
  have c0 : w1.cell? ⟨w.heap.size, 0, none⟩ = some (.int .i64 b) := by
    rw [hb.cell HS.out, cell_of_row _ _ _ _ _ _ HC.out]; rfl
  have c1 : w1.cell? ⟨w.heap.size, 1, none⟩ = some (.bool s) := by
    rw [hb.cell HS.out, cell_of_row _ _ _ _ _ _ HC.out]; rfl
  clear hb HB HS HC
  cases hty : tyB b s
  · have hf : fitB b s v = false := by unfold fitB; rw [hty]; rfl
    go_wp2
    go_ret
    exact ⟨retB hf.symm, HB1.out⟩
  · have h1 : 1 ≤ b ∧ b ≤ 32 ∧ (s = true → b = 16 ∨ b = 32) := by
      unfold tyB at hty; simp at hty; cases s <;> simp_all
    obtain ⟨h1, h2, h3⟩ := h1
    obtain ⟨n, rfl⟩ : ∃ n : Nat, b = n := ⟨b.toNat, by omega⟩
    cases s
    · have hf : fitB n false v = (decide (0 ≤ v) && decide (v < 2 ^ n)) := by unfold fitB; rw [hty]; rfl
      have HF := Lib.hid hf
      clear hf
      go_wp2
      go_loop [6, 8] (fun m i => ∃ k : Nat, i = .int .i64 k ∧ k ≤ n ∧ m = .int .i64 (2 ^ k)) (fun _ i => n - (intOf i).toNat)
      case atStart => exact ⟨0, rfl, by omega, rfl⟩
      case round =>
        obtain ⟨k, rfl, hk, rfl⟩ := hrel
        by_cases hlt : k < n
        · have HW := Lib.hid (two_step k)
          have hp := pow_small (k + 1) (by omega)
          have hi : IntKind.i64.wrap (2 * 2 ^ k) = 2 ^ (k + 1) := by rw [HW.out]; exact IntWalk.i64_in _ (by omega)
          clear hp
          go_wp2
          go_round
          case rel => exact ⟨k + 1, by go_num, by omega, by go_num⟩
          case measure => simp [intOf]; omega
        · obtain rfl : k = n := by omega
          go_wp2
          all_goals (go_ret; refine ⟨retB (Eq.trans ?_ HF.out.symm), HB1.out⟩)
          all_goals (rw [Bool.eq_iff_iff]; simp_all)
          all_goals omega
    · obtain ⟨m, rfl⟩ : ∃ m : Nat, n = m + 1 := ⟨n - 1, by omega⟩
      have hf : fitB (m + 1 : Nat) true v = (decide (-2 ^ m ≤ v) && decide (v < 2 ^ m)) := by unfold fitB; rw [hty]; rfl
      have HF := Lib.hid hf
      have hsub : IntKind.i64.wrap (((m + 1 : Nat) : Int) - 1) = m := by rw [IntWalk.i64_in _ (by omega)]; omega
      clear hf hty
      go_wp2
      go_loop [6, 8] (fun p i => ∃ k : Nat, i = .int .i64 k ∧ k ≤ m ∧ p = .int .i64 (2 ^ k)) (fun _ i => m - (intOf i).toNat)
      case atStart => exact ⟨0, rfl, by omega, rfl⟩
      case round =>
        obtain ⟨k, rfl, hk, rfl⟩ := hrel
        by_cases hlt : k < m
        · have HW := Lib.hid (two_step k)
          have hp := pow_small (k + 1) (by omega)
          have hi : IntKind.i64.wrap (2 * 2 ^ k) = 2 ^ (k + 1) := by rw [HW.out]; exact IntWalk.i64_in _ (by omega)
          clear hp
          go_wp2
          go_round
          case rel => exact ⟨k + 1, by go_num, by omega, by go_num⟩
          case measure => simp [intOf]; omega
        · obtain rfl : k = m := by omega
          have hp := pow_small k (by omega)
          have hn : IntKind.i64.wrap (-(2 ^ k)) = -2 ^ k := IntWalk.i64_in _ (by omega)
          clear hp
          go_wp2
          all_goals (go_ret; refine ⟨retB (Eq.trans ?_ HF.out.symm), HB1.out⟩)
          all_goals (rw [Bool.eq_iff_iff]; simp_all)
          all_goals omega
set_option maxRecDepth 100000 in
theorem reachH (v : VarD) (o : Option Addr) (cap B : Nat) (w : World) (hin : Row B o 3 (dimAt w) v.dims) (hB : B ≤ w.heap.size) (hmx : ∀ d ∈ v.dims, d.len ≤ 9223372036854775807) :
    Calls Tryz.prog 129 #[.agg #[.int .i64 v.scope, .int .i64 v.slot, .int .i64 v.who, .int .i64 v.type, .slice o v.dims.length cap]] w fun e w' => e = .returned (.int .i64 (reachL v)) ∧ Below w.heap.size w w' := by
  have HIN := Lib.hid hin
  have hn : v.dims.length ≤ 140737488355328 := hin.1
  have HBB := Lib.hid hB
  have HX := Lib.hid (Bx.new w #[.int .i64 v.scope, .int .i64 v.slot, .int .i64 v.who, .int .i64 v.type, .slice o v.dims.length cap] 72)
  have HMX := Lib.hid hmx
  clear hin hB hmx
  obtain ⟨sc, sl, wh, ty, dims⟩ := v
  simp only at HIN hn HX HMX ⊢
  by_cases hbad : 4 < dims.length ∨ sl < 0 ∨ 1073741824 < sl
  · have hv : reachL ⟨sc, sl, wh, ty, dims⟩ = 0 := if_pos hbad
    have HV := Lib.hid hv
    clear hv
    go_enter Tryz.func129, Tryz.ntmps129
    go_wp2
    all_goals first | (exfalso; omega) | (go_ret; exact ⟨retI HV.out.symm, HX.out.bel⟩)
  · have HV : Hid (reachR dims (sl + 1) = reachL ⟨sc, sl, wh, ty, dims⟩) := Lib.hid (if_neg hbad).symm
    generalize reachL ⟨sc, sl, wh, ty, dims⟩ = R at HV
    have h1 : ¬ 4 < dims.length := fun h => hbad (.inl h)
    have h2 : ¬ sl < 0 := fun h => hbad (.inr (.inl h))
    have h3 : ¬ 1073741824 < sl := fun h => hbad (.inr (.inr h))
    clear hbad
    have hs1 : IntKind.i64.wrap (sl + 1) = sl + 1 := IntWalk.i64_in _ (by omega)
    go_enter Tryz.func129, Tryz.ntmps129
    go_wp2
    go_loopw [3, 4] (fun a i wr => ∃ (k : Nat) (x : Int), i = .int .i64 k ∧ k ≤ dims.length ∧ a = .int .i64 x ∧ 0 ≤ x ∧ x ≤ 1073741825 + k * 1152921504606846976 ∧ Hid (reachR (dims.drop k) x = R) ∧ Hid (Bx w #[.int .i64 sc, .int .i64 sl, .int .i64 wh, .int .i64 ty, .slice o dims.length cap] 72 wr)) (fun _ i _ => dims.length - (intOf i).toNat)
    case atStart => exact ⟨0, sl + 1, rfl, by omega, rfl, by omega, by omega, HV, HX⟩
    case round =>
      clear HV HX
      obtain ⟨k, x, rfl, hk, rfl, hx0, hx1, HR, HBX⟩ := hrel
      have c4 : wr.cell? ⟨w.heap.size, 4, none⟩ = some (.slice o dims.length cap) := HBX.out.cell rfl
      have HBA : Hid (∀ o', Bx w #[.int .i64 sc, .int .i64 sl, .int .i64 wh, .int .i64 ty, .slice o dims.length cap] 72 (wr.alloc o')) := Lib.hid fun o' => HBX.out.below (ball o')
      by_cases hlt : k < dims.length
      · obtain ⟨g, off, rfl, hg, e0, e1, e2⟩ := HIN.out.cell hlt
        have HDR : Hid (dims.drop k = dims[k] :: dims.drop (k + 1)) := Lib.hid (List.drop_eq_getElem_cons hlt)
        obtain ⟨⟨I, L, S⟩, hd⟩ : ∃ d, dims[k] = d := ⟨_, rfl⟩
        rw [hd] at e0 e1 e2 HDR
        simp only at e0 e1 e2
        have hL9 : L ≤ 9223372036854775807 := by
          have h := HMX.out dims[k] (List.getElem_mem hlt)
          rw [hd] at h
          exact h
        have hgw : g < w.heap.size := Nat.lt_of_lt_of_le hg HBB.out
        have c0 := (HBX.out.bel.cell (p := ⟨g, off + k * 3, none⟩) hgw).trans e0
        have c1 := (HBX.out.bel.cell (p := ⟨g, off + k * 3 + 1, none⟩) hgw).trans e1
        have c2 := (HBX.out.bel.cell (p := ⟨g, off + k * 3 + 2, none⟩) hgw).trans e2
        clear e0 e1 e2 hd
        by_cases hb : L < 1 ∨ 1073741825 < L ∨ S < 0 ∨ 1073741824 < S
        · have j0 : 1 ≤ L → IntKind.i64.wrap (L - 1) = L - 1 := fun h => IntWalk.i64_in _ (by omega)
          have HZ : Hid (R = 0) := Lib.hid (by rw [← HR.out, HDR.out]; exact if_pos hb)
          clear HR HDR
          by_cases hL1 : L < 1
          · go_wp2
            go_ret
            exact ⟨retI HZ.out.symm, (HBA.out _).bel⟩
          have j1 := j0 (by omega)
          clear j0
          go_wp2
          all_goals first | (exfalso; omega) | (go_ret; exact ⟨retI HZ.out.symm, (HBA.out _).bel⟩)
        · have hm := mul_small (L - 1) S (by omega) (by omega) (by omega) (by omega)
          have HN : Hid (reachR (dims.drop (k + 1)) (x + (L - 1) * S) = R) := Lib.hid (by rw [← HR.out, HDR.out]; exact (if_neg hb).symm)
          have i1 : ¬ L < 1 := fun h => hb (.inl h)
          have i2 : ¬ 1073741824 < L - 1 := fun h => hb (.inr (.inl (by omega)))
          have i3 : ¬ S < 0 := fun h => hb (.inr (.inr (.inl h)))
          have i4 : ¬ 1073741824 < S := fun h => hb (.inr (.inr (.inr h)))
          have j1 : IntKind.i64.wrap (L - 1) = L - 1 := IntWalk.i64_in _ (by omega)
          have j2 : IntKind.i64.wrap ((L - 1) * S) = (L - 1) * S := IntWalk.i64_in _ (by omega)
          have j3 : IntKind.i64.wrap (x + (L - 1) * S) = x + (L - 1) * S := IntWalk.i64_in _ (by omega)
          have HM := Lib.hid hm
          clear hm hb HR HDR
          go_wp2
          go_roundw
          case rel =>
            have hm := HM.out
            exact ⟨k + 1, x + (L - 1) * S, by go_num, by omega, by go_num, by omega, by go_num, HN, Lib.hid (HBA.out _)⟩
          case measure => simp [intOf]; omega
      · obtain rfl : k = dims.length := by omega
        have HXR : Hid (x = R) := Lib.hid (by have h := HR.out; rw [List.drop_length] at h; exact h)
        go_wp2
        go_ret
        exact ⟨retI HXR.out, HBX.out.bel⟩
end Go.Proofs.YtihkkjflfdbkkaaGreatDoor
