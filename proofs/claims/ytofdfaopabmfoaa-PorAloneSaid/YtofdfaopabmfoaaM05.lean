/- Variables and fields. -/
import Derived.Test.YtofdfaopabmfoaaM04
namespace Go.Proofs.Ytofdfaopabmfoaa
open Go.ChangeShapes Go.WideShapes Go.ChangeAt Go.RowKit
set_option linter.unusedVariables false
set_option linter.unusedSimpArgs false

/-- A box, and what stands below it. -/
structure Bx (w : World) (cs : Array Value) (T : TypeId) (W : World) : Prop where
  box : W.heap[w.heap.size]? = some (.cells cs T (0, 0))
  bel : Below w.heap.size w W
theorem Bx.new (w : World) (cs : Array Value) (T : TypeId) : Bx w cs T (w.alloc (.cells cs T)) := ⟨heap_alloc_new w _, ball _⟩
theorem Bx.below {w W W' : World} {cs : Array Value} {T : TypeId} (h : Bx w cs T W) (hb : Below W.heap.size W W') : Bx w cs T W' := ⟨(hb.block _ (lt_of_block h.box)).trans h.box, h.bel.trans (hb.mono h.bel.size)⟩
theorem Bx.cell {w W : World} {cs : Array Value} {T : TypeId} (h : Bx w cs T W) {i : Nat} {v : Value} (hv : cs[i]? = some v) : W.cell? ⟨w.heap.size, i, none⟩ = some v := (cell_of_row _ _ _ _ _ _ h.box).trans hv
theorem Ck.bx {B p : Nat} {w W : World} {h : MH} {m : ModelD} {cs : Array Value} {T : TypeId} (hk : Ck B w p h m) (hx : Bx w cs T W) : Ck B W p h m := hk.below hx.bel

set_option maxRecDepth 100000 in
theorem variableC {B p : Nat} {h : MH} {m : ModelD} (v : VarD) (o : Option Addr) (cap : Nat) (w : World) (hk : Ck B w p h m) (hin : Row B o 3 (dimAt w) v.dims) :
    Calls Try.prog 57 #[.pointer (some ⟨p, 0, none⟩), .agg #[.int .i64 v.scope, .int .i64 v.slot, .int .i64 v.who, .int .i64 v.type, .slice o v.dims.length cap]] w fun e w' => e = .returned (.bool (varB m v)) ∧ Below w.heap.size w w' := by
  have HK := Lib.hid hk
  have HIN := Lib.hid hin
  have hn : v.dims.length ≤ 140737488355328 := hin.1
  have HX := Lib.hid (Bx.new w #[.int .i64 v.scope, .int .i64 v.slot, .int .i64 v.who, .int .i64 v.type, .slice o v.dims.length cap] 55)
  clear hin hk
  obtain ⟨sc, sl, wh, ty, dims⟩ := v
  simp only at HIN hn HX ⊢
  by_cases hbad : sc < 0 ∨ 2 < sc ∨ sl < 0 ∨ 128 < sl ∨ 4 < dims.length
  · have hv : varB m ⟨sc, sl, wh, ty, dims⟩ = false := by unfold varB varHeadB; rw [decide_eq_true (by exact hbad)]; rfl
    have HV := Lib.hid hv
    clear hv
    go_enter Try.func57, Try.ntmps57
    go_wp2
    all_goals first | (exfalso; omega) | (go_ret; exact ⟨retB HV.out.symm, HX.out.bel⟩)
  · have hv : varB m ⟨sc, sl, wh, ty, dims⟩ = (dims.all dimB && varTailB m ⟨sc, sl, wh, ty, dims⟩) := by unfold varB varHeadB; rw [decide_eq_false (by exact hbad)]; simp
    have HV := Lib.hid hv
    clear hv
    have h1 : ¬ sc < 0 := fun h => hbad (.inl h)
    have h2 : ¬ 2 < sc := fun h => hbad (.inr (.inl h))
    have h3 : ¬ sl < 0 := fun h => hbad (.inr (.inr (.inl h)))
    have h4 : ¬ 128 < sl := fun h => hbad (.inr (.inr (.inr (.inl h))))
    have h5 : ¬ 4 < dims.length := fun h => hbad (.inr (.inr (.inr (.inr h))))
    clear hbad
    go_enter Try.func57, Try.ntmps57
    go_wp2
    go_loopw [34] (fun i wr => ∃ (k : Nat), i = .int .i64 k ∧ k ≤ dims.length ∧ Hid (∀ j (hj : j < dims.length), j < k → dimB dims[j] = true) ∧ Hid (Bx w #[.int .i64 sc, .int .i64 sl, .int .i64 wh, .int .i64 ty, .slice o dims.length cap] 55 wr)) (fun i _ => dims.length - (intOf i).toNat)
    case atStart => exact ⟨0, rfl, by omega, Lib.hid fun j _ h => by omega, HX⟩
    case round =>
      obtain ⟨k, rfl, hk, HD, HB⟩ := hrel
      have hk0 : (0 : Int) ≤ k := by omega
      have hsz := HB.out.bel.size
      by_cases hlt : k < dims.length
      · have hlti : (k : Int) < dims.length := by omega
        obtain ⟨g, off, rfl, hg, e0, e1, e2⟩ := HIN.out.cell hlt
        have hgw : g < w.heap.size := by have := HK.out.le; have := HK.out.lt; omega
        obtain ⟨⟨I, L, S⟩, hd⟩ : ∃ d, dims[k] = d := ⟨_, rfl⟩
        rw [hd] at e0 e1 e2
        simp only at e0 e1 e2
        have c0 := (HB.out.bel.cell (p := ⟨g, off + k * 3, none⟩) hgw).trans e0
        have c1 := (HB.out.bel.cell (p := ⟨g, off + k * 3 + 1, none⟩) hgw).trans e1
        have c2 := (HB.out.bel.cell (p := ⟨g, off + k * 3 + 2, none⟩) hgw).trans e2
        have HDD := Lib.hid hd
        clear e0 e1 e2 hd
        have HB1 : ∀ o, Hid (Bx w #[.int .i64 sc, .int .i64 sl, .int .i64 wh, .int .i64 ty, .slice (some ⟨g, off, none⟩) dims.length cap] 55 (wr.alloc o)) := fun o => Lib.hid (HB.out.below (ball o))
        have HBB := Lib.hid HB1
        clear HB1
        by_cases hb : L < 1 ∨ 128 < L ∨ S < 0 ∨ 128 < S
        · have HZ : Hid (varB m ⟨sc, sl, wh, ty, dims⟩ = false) := Lib.hid (by rw [HV.out, all_bad hlt (by rw [HDD.out]; unfold dimB; rw [decide_eq_true (by exact hb)]; rfl)]; rfl)
          go_wp2
          all_goals first | (exfalso; omega) | (go_ret; exact ⟨retB HZ.out.symm, (HBB.out _).out.bel⟩)
        · have i1 : ¬ L < 1 := fun h => hb (.inl h)
          have i2 : ¬ 128 < L := fun h => hb (.inr (.inl h))
          have i3 : ¬ S < 0 := fun h => hb (.inr (.inr (.inl h)))
          have i4 : ¬ 128 < S := fun h => hb (.inr (.inr (.inr h)))
          have HDK : Hid (dimB dims[k] = true) := Lib.hid (by rw [HDD.out]; unfold dimB; rw [decide_eq_false (by exact hb)]; rfl)
          clear hb
          go_wp2
          go_roundw
          case rel => exact ⟨k + 1, by go_num, by omega, Lib.hid fun j hj hjk => by
            by_cases e : j = k
            · subst e; exact HDK.out
            · exact HD.out j hj (by omega), HBB.out _⟩
          case measure => simp [intOf]; omega
      · have hlti : ¬ (k : Int) < dims.length := by omega
        have HA : Hid (varB m ⟨sc, sl, wh, ty, dims⟩ = varTailB m ⟨sc, sl, wh, ty, dims⟩) := Lib.hid (by rw [HV.out, all_of fun j hj => HD.out j hj (by omega)]; rfl)
        have c0 : wr.cell? ⟨w.heap.size, 0, none⟩ = some (.int .i64 sc) := HB.out.cell rfl
        have c2 : wr.cell? ⟨w.heap.size, 2, none⟩ = some (.int .i64 wh) := HB.out.cell rfl
        have c3 : wr.cell? ⟨w.heap.size, 3, none⟩ = some (.int .i64 ty) := HB.out.cell rfl
        have HKR := Lib.hid (HK.out.bx HB.out)
        have HBE := Lib.hid HB.out.bel
        by_cases hr : sc = 2
        · have HT : Hid (varTailB m ⟨sc, sl, wh, ty, dims⟩ = ptypeB m ty) := Lib.hid (if_pos hr)
          have hr1 : (sc == 2) = true := by simp [hr]
          clear hr
          go_wp2_with fail
          refine (proctypeC ty wr HKR.out).mono ?_
          rintro e w' ⟨rfl, rfl⟩
          go_wp2_with fail
          go_ret
          exact ⟨retB (by rw [HA.out, HT.out]), HBE.out⟩
        · have HT : Hid (varTailB m ⟨sc, sl, wh, ty, dims⟩ = decide (wh = -1 ∧ ty = -1)) := Lib.hid (if_neg hr)
          have hr1 : (sc == 2) = false := by simp [hr]
          clear hr
          by_cases hw : wh = -1
          · by_cases ht : ty = -1
            · have HF : Hid (varB m ⟨sc, sl, wh, ty, dims⟩ = true) := Lib.hid (by rw [HA.out, HT.out]; simp [hw, ht])
              have hw1 : (wh == -1) = true := by simp [hw]
              have ht1 : (ty == -1) = true := by simp [ht]
              clear hw ht HA HT
              go_wp2_with fail
              go_ret
              exact ⟨retB HF.out.symm, HBE.out⟩
            · have HF : Hid (varB m ⟨sc, sl, wh, ty, dims⟩ = false) := Lib.hid (by rw [HA.out, HT.out]; simp [ht])
              have hw1 : (wh == -1) = true := by simp [hw]
              have ht1 : (ty == -1) = false := by simp [ht]
              clear hw ht HA HT
              go_wp2_with fail
              go_ret
              exact ⟨retB HF.out.symm, HBE.out⟩
          · have HF : Hid (varB m ⟨sc, sl, wh, ty, dims⟩ = false) := Lib.hid (by rw [HA.out, HT.out]; simp [hw])
            have hw1 : (wh == -1) = false := by simp [hw]
            clear hw HA HT
            go_wp2_with fail
            go_ret
            exact ⟨retB HF.out.symm, HBE.out⟩

set_option maxHeartbeats 1000000 in
set_option maxRecDepth 100000 in
theorem fieldsC {B p : Nat} {h : MH} {m : ModelD} (args mat : List Int) (o1 o2 : Option Addr) (cap1 cap2 : Nat) (w : World) (hk : Ck B w p h m) (h1 : Row B o1 1 (intAt w) args) (h2 : Row B o2 1 (intAt w) mat) :
    Calls Try.prog 58 #[.pointer (some ⟨p, 0, none⟩), .slice o1 args.length cap1, .slice o2 mat.length cap2] w fun e w' => e = .returned (.bool (fieldsB m args mat)) ∧ w = w' := by
  have HK := Lib.hid hk
  have H1 := Lib.hid h1
  have H2 := Lib.hid h2
  have n1 := h1.1
  have n2 := h2.1
  clear h1 h2 hk
  by_cases hbad : args.length < 1 ∨ 8 < args.length ∨ mat.length ≠ args.length
  · have hv : fieldsB m args mat = false := by unfold fieldsB; rw [decide_eq_true (by exact hbad)]; rfl
    have HV := Lib.hid hv
    clear hv
    by_cases hd : args.length < 1 ∨ 8 < args.length
    · clear hbad
      go_enter Try.func58, Try.ntmps58
      go_wp2
      all_goals first | (exfalso; omega) | (go_ret; exact ⟨retB HV.out.symm, rfl⟩)
    · have h3 : ¬ args.length < 1 := fun h => hd (.inl h)
      have h4 : ¬ 8 < args.length := fun h => hd (.inr h)
      have h5 : ((mat.length : Int) != (args.length : Int)) = true := by rw [bne_iff_ne]; omega
      clear hd hbad
      go_enter Try.func58, Try.ntmps58
      go_wp2
      all_goals first | (exfalso; omega) | (go_ret; exact ⟨retB HV.out.symm, rfl⟩)
  · have HV : Hid (fieldsB m args mat = (args.zip mat).all (fieldB m)) := Lib.hid (by unfold fieldsB; rw [decide_eq_false (by exact hbad)]; simp)
    have h3 : ¬ args.length < 1 := fun h => hbad (.inl h)
    have h4 : ¬ 8 < args.length := fun h => hbad (.inr (.inl h))
    have HL : Hid (mat.length = args.length) := Lib.hid (by omega)
    have h5 : ((mat.length : Int) != (args.length : Int)) = false := by simp; omega
    have h6 : (mat.length : Int) ≤ args.length := by omega
    have h7 : (args.length : Int) ≤ mat.length := by omega
    clear hbad
    go_enter Try.func58, Try.ntmps58
    go_wp2
    go_loop [26] (fun i => ∃ (k : Nat), i = .int .i64 k ∧ k ≤ args.length ∧ Hid (∀ j (hj : j < (args.zip mat).length), j < k → fieldB m (args.zip mat)[j] = true)) (fun i => args.length - (intOf i).toNat)
    case atStart => exact ⟨0, rfl, by omega, Lib.hid fun j _ h => by omega⟩
    case round =>
      obtain ⟨k, rfl, hk, HD⟩ := hrel
      have hk0 : (0 : Int) ≤ k := by omega
      by_cases hlt : k < args.length
      · have hlti : (k : Int) < args.length := by omega
        have hltm : k < mat.length := by have := HL.out; omega
        have hltmi : (k : Int) < mat.length := by omega
        obtain ⟨g, off, rfl, hg, e0⟩ := H1.out.cell hlt
        obtain ⟨g2, off2, rfl, hg2, e2⟩ := H2.out.cell hltm
        have hz : k < (args.zip mat).length := by rw [List.length_zip]; omega
        have HZ : Hid ((args.zip mat)[k] = (args[k], mat[k])) := Lib.hid List.getElem_zip
        obtain ⟨x, hx⟩ : ∃ x, args[k] = x := ⟨_, rfl⟩
        obtain ⟨q, hq⟩ : ∃ q, mat[k] = q := ⟨_, rfl⟩
        rw [hx, hq] at HZ
        have c0 : w.cell? ⟨g, off + k, none⟩ = some (.int .i64 x) := by have := e0; unfold intAt at this; rw [Nat.mul_one, hx] at this; exact this
        have c2 : w.cell? ⟨g2, off2 + k, none⟩ = some (.int .i64 q) := by have := e2; unfold intAt at this; rw [Nat.mul_one, hq] at this; exact this
        have HZL := Lib.hid hz
        have HBAD : Hid (fieldB m (x, q) = false → fieldsB m args mat = false) := Lib.hid fun h => by rw [HV.out, all_bad hz (by rw [HZ.out]; exact h)]
        have HGO : Hid (fieldB m (x, q) = true → ∀ j (hj : j < (args.zip mat).length), j < k + 1 → fieldB m (args.zip mat)[j] = true) := Lib.hid fun h j hj hjk => by
          by_cases e : j = k
          · subst e; rw [HZ.out]; exact h
          · exact HD.out j hj (by omega)
        clear e0 e2 hz hx hq hg hg2 HZ
        go_wp2_with fail
        refine (isExprC x w HK.out).mono ?_
        rintro e w' ⟨rfl, rfl⟩
        obtain ⟨b1, hb1⟩ : ∃ b, isExprB m x = b := ⟨_, rfl⟩
        rw [hb1]
        have HE := Lib.hid hb1
        clear hb1
        cases b1
        · have HF := Lib.hid (HBAD.out (by unfold fieldB; rw [HE.out]; rfl))
          go_wp2_with fail
          go_ret
          exact ⟨retB HF.out.symm, rfl⟩
        · by_cases hq : -1 ≤ q ∧ q ≤ 1
          · have hq1 : ¬ q < -1 := by omega
            have hq2 : ¬ 1 < q := by omega
            by_cases hq0 : q = 0
            · have hq3 : (q == 0) = true := by simp [hq0]
              have HQ := Lib.hid (And.intro hq hq0)
              clear hq hq0
              go_wp2_with fail
              refine (isVarC x w HK.out).mono ?_
              rintro e w' ⟨rfl, rfl⟩
              obtain ⟨b2, hb2⟩ : ∃ b, isVarB m x = b := ⟨_, rfl⟩
              rw [hb2]
              have HE2 := Lib.hid hb2
              clear hb2
              cases b2
              · have HF := Lib.hid (HBAD.out (by unfold fieldB; rw [HE.out, HE2.out]; simp [HQ.out.2]))
                go_wp2_with fail
                go_ret
                exact ⟨retB HF.out.symm, rfl⟩
              · have HF := Lib.hid (HGO.out (by unfold fieldB; rw [HE.out, HE2.out]; simp [HQ.out.2]))
                go_wp2_with fail
                go_round
                case rel => exact ⟨k + 1, by go_num, by omega, HF⟩
                case measure => simp [intOf]; omega
            · have hq3 : (q == 0) = false := by simp [hq0]
              have HF := Lib.hid (HGO.out (by unfold fieldB; rw [HE.out]; simp [hq0]; exact hq))
              clear hq hq0
              go_wp2_with fail
              go_round
              case rel => exact ⟨k + 1, by go_num, by omega, HF⟩
              case measure => simp [intOf]; omega
          · have HF := Lib.hid (HBAD.out (by unfold fieldB; rw [HE.out, decide_eq_false (by exact hq)]; simp))
            go_wp2_with fail
            all_goals first | (exfalso; omega) | (go_ret; exact ⟨retB HF.out.symm, rfl⟩)
      · have hlti : ¬ (k : Int) < args.length := by omega
        have HF : Hid (fieldsB m args mat = true) := Lib.hid (by rw [HV.out]; exact all_of fun j hj => HD.out j hj (by rw [List.length_zip] at hj; omega))
        go_wp2_with fail
        go_ret
        exact ⟨retB HF.out.symm, rfl⟩
end Go.Proofs.Ytofdfaopabmfoaa
