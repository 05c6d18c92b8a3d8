/- One step of the reckoning. -/
import Derived.Test.YtbhgdlfndamklaaGreatDoorM20
namespace Go.Proofs.YtbhgdlfndamklaaGreatDoor
open Go.ChangeShapes Go.WideShapes Go.ChangeAt Go.RowKit
set_option linter.unusedVariables false
set_option linter.unusedSimpArgs false

theorem evalB_num {E : EnvD} {ev : Int → Int × Int} {x : ExprD} (h : x.op = 1) : evalB E ev x = (x.n, 0) := by
  unfold evalB
  rw [if_pos (by omega)]
theorem evalB_var {E : EnvD} {ev : Int → Int × Int} {x : ExprD} (h : x.op = 2) : evalB E ev x = if (rslotB E ev x).2.2 ≠ 0 then (0, (rslotB E ev x).2.2) else (slotVal E (rslotB E ev x).1 (rslotB E ev x).2.1, 0) := by
  unfold evalB
  rw [if_neg (by omega), if_pos (by omega)]
theorem evalB_one {E : EnvD} {ev : Int → Int × Int} {x : ExprD} (h : 3 ≤ x.op ∧ x.op ≤ 5) : evalB E ev x = if (ev x.a).2 ≠ 0 then (0, (ev x.a).2) else val.one x.op (ev x.a).1 := by
  unfold evalB
  rw [if_neg (by omega), if_neg (by omega), if_pos (by omega)]
theorem evalB_cho {E : EnvD} {ev : Int → Int × Int} {x : ExprD} (h : 22 ≤ x.op ∧ x.op ≤ 24) : evalB E ev x = chosenB ev x := by
  unfold evalB
  rw [if_neg (by omega), if_neg (by omega), if_neg (by omega), if_pos (by omega)]
theorem evalB_roo {E : EnvD} {ev : Int → Int × Int} {x : ExprD} (h : 25 ≤ x.op ∧ x.op ≤ 29) : evalB E ev x = rroomB E ev x := by
  unfold evalB
  rw [if_neg (by omega), if_neg (by omega), if_neg (by omega), if_neg (by omega), if_pos (by omega)]
theorem evalB_pol {E : EnvD} {ev : Int → Int × Int} {x : ExprD} (h : x.op = 30) : evalB E ev x = rpollB E ev x := by
  unfold evalB
  rw [if_neg (by omega), if_neg (by omega), if_neg (by omega), if_neg (by omega), if_neg (by omega), if_pos (by omega)]
theorem evalB_kno {E : EnvD} {ev : Int → Int × Int} {x : ExprD} (h : 31 ≤ x.op ∧ x.op ≤ 35) : evalB E ev x = (knownB E x.op, 0) := by
  unfold evalB
  rw [if_neg (by omega), if_neg (by omega), if_neg (by omega), if_neg (by omega), if_neg (by omega), if_neg (by omega), if_pos (by omega)]
theorem evalB_ask {E : EnvD} {ev : Int → Int × Int} {x : ExprD} (h : 36 ≤ x.op ∧ x.op ≤ 38) : evalB E ev x = if (ev x.a).2 ≠ 0 then (0, (ev x.a).2) else askedB E x (ev x.a).1 := by
  unfold evalB
  rw [if_neg (by omega), if_neg (by omega), if_neg (by omega), if_neg (by omega), if_neg (by omega), if_neg (by omega), if_neg (by omega), if_pos (by omega)]
theorem evalB_run {E : EnvD} {ev : Int → Int × Int} {x : ExprD} (h : x.op = 39) : evalB E ev x = (0, 42) := by
  unfold evalB
  rw [if_neg (by omega), if_neg (by omega), if_neg (by omega), if_neg (by omega), if_neg (by omega), if_neg (by omega), if_neg (by omega), if_neg (by omega), if_pos (by omega)]
theorem evalB_two {E : EnvD} {ev : Int → Int × Int} {x : ExprD} (h : 6 ≤ x.op ∧ x.op ≤ 21) : evalB E ev x = if (ev x.a).2 ≠ 0 then (0, (ev x.a).2) else if (ev x.b).2 ≠ 0 then (0, (ev x.b).2) else val.two x.op (ev x.a).1 (ev x.b).1 := by
  unfold evalB
  rw [if_neg (by omega), if_neg (by omega), if_neg (by omega), if_neg (by omega), if_neg (by omega), if_neg (by omega), if_neg (by omega), if_neg (by omega), if_neg (by omega)]
theorem dims_reach {ev : Int → Int × Int} : ∀ (l : List DimD) (a b : Int), (∀ d ∈ l, 1 ≤ d.len ∧ d.len ≤ 128 ∧ 0 ≤ d.stride ∧ d.stride ≤ 128) → 0 ≤ a → a + 1 ≤ b → (dimsF ev l a).2 = 0 → 0 ≤ (dimsF ev l a).1 ∧ (dimsF ev l a).1 + 1 ≤ reachR l b
  | [], a, b, _, h0, h1, _ => ⟨h0, h1⟩
  | d :: r, a, b, hd, h0, h1, h2 => by
    have hd0 := hd d (List.mem_cons_self ..)
    have hr : reachR (d :: r) b = reachR r (b + (d.len - 1) * d.stride) := (if_neg (by omega) : (if d.len < 1 ∨ 1073741825 < d.len ∨ d.stride < 0 ∨ 1073741824 < d.stride then 0 else reachR r (b + (d.len - 1) * d.stride)) = _)
    rw [hr]
    unfold dimsF at h2 ⊢
    split at h2
    · rename_i hh
      exact absurd h2 hh
    · rename_i hh
      rw [if_neg hh]
      split at h2
      · simp at h2
      · rename_i hj
        rw [if_neg hj]
        have hm0 : 0 ≤ (ev d.i).1 * d.stride := Int.mul_nonneg (by omega) (by omega)
        have hm1 : (ev d.i).1 * d.stride ≤ (d.len - 1) * d.stride := Int.mul_le_mul_of_nonneg_right (by omega) (by omega)
        exact dims_reach r _ _ (fun q hq => hd q (List.mem_cons_of_mem _ hq)) (by omega) (by omega) h2
theorem pid_range {E : EnvD} {ev : Int → Int × Int} {v : VarD} (hok : Ok E) (h : (pidB E ev v).2 = 0) : (pidB E ev v).1 < E.s.procs.length := by
  have h0 := hok.pid
  unfold pidB at h ⊢
  split
  · rename_i h1
    rw [if_pos h1] at h
    split
    · rename_i h3
      rw [if_pos h3] at h
      simp at h
    · exact h0.2
  · rename_i h1
    rw [if_neg h1] at h
    split
    · rename_i h2
      rw [if_pos h2] at h
      split
      · rename_i h3
        rw [if_pos h3] at h
        exact absurd h h3
      · rename_i h3
        rw [if_neg h3] at h
        split
        · rename_i h4
          rw [if_pos h4] at h
          simp at h
        · rename_i h4
          show (ev v.who).1 < _
          omega
    · show (-1 : Int) < _
      omega
theorem slot_range {E : EnvD} {ev : Int → Int × Int} {x : ExprD} (hok : Ok E) (hv : VarF x.v) (h : (rslotB E ev x).2.2 = 0) : (rslotB E ev x).1 < E.s.procs.length ∧ ∃ k : Nat, (rslotB E ev x).2.1 = k ∧ k < (slotsL E (rslotB E ev x).1).length := by
  unfold rslotB at h ⊢
  split at h
  · simp at h
  · rename_i h1
    rw [if_neg h1]
    split at h
    · rename_i h2
      exact absurd h h2
    · rename_i h2
      rw [if_neg h2]
      split at h
      · simp at h
      · rename_i h3
        rw [if_neg h3]
        split at h
        · rename_i h4
          exact absurd h h4
        · rename_i h4
          rw [if_neg h4]
          have h5 := dims_reach (ev := ev) x.v.dims x.v.slot (x.v.slot + 1) hv.d hv.t0 (Int.le_refl _) (by simpa using h4)
          have h6 : reachL x.v = reachR x.v.dims (x.v.slot + 1) := by
            unfold reachL
            have := hv.t0; have := hv.t1; have := hv.n
            rw [if_neg (by omega)]
          refine ⟨pid_range hok (by simpa using h2), ((dimsF ev x.v.dims x.v.slot).1).toNat, ?_, ?_⟩
          · show (dimsF ev x.v.dims x.v.slot).1 = _
            omega
          · show _ < (slotsL E (pidB E ev x.v).1).length
            omega

end Go.Proofs.YtbhgdlfndamklaaGreatDoor
/- One step of the reckoning. -/
namespace Go.Proofs.YtbhgdlfndamklaaGreatDoor
open Go.ChangeShapes Go.WideShapes Go.ChangeAt Go.RowKit
set_option linter.unusedVariables false
set_option linter.unusedSimpArgs false

set_option maxHeartbeats 4000000 in
set_option maxRecDepth 100000 in
theorem eval_num {B pe : Nat} {h : MH} {hs : SH} {ao : Option Addr} {ac : Nat} {E : EnvD} {ev : Int → Int × Int} {p : Nat} {x : ExprD} (w : World) (hk : Ek B w pe h hs ao ac E) (hok : Ok E) (he : EvC B pe h hs ao ac E ev p) (hx : E.m.exprs[p]? = some x) (hop : x.op = 1) :
    Calls Tryz.prog 21 #[.pointer (some ⟨pe, 0, none⟩), .int .i64 p] w fun e w' => e = .returned (.tuple #[.int .i64 (evalB E ev x).1, .int .i64 (evalB E ev x).2]) ∧ Below w.heap.size w w' := by
  have HK := Lib.hid hk
  have HO := Lib.hid hok
  have HE := Lib.hid he
  have HXG := Lib.hid hx
  have HV := Lib.hid (evalB_num (E := E) (ev := ev) hop)
  have c6 := hk.ck.c6
  have hel := hk.ck.md.exprs.1
  obtain ⟨g, off, ho, hg, hxa⟩ := hk.ck.md.exprs.get hx
  have hpl : p < E.m.exprs.length := (List.getElem?_eq_some_iff.1 hx).1
  have hpi : (p : Int) < E.m.exprs.length := by omega
  have hp0 : (0 : Int) ≤ p := by omega
  rw [ho] at c6
  have x2 := hxa.c2
  have x3 := hxa.c3
  have x4 := hxa.c4
  have hB : B ≤ w.heap.size := hk.leW
  have HXA := Lib.hid (fun W (hb : Below w.heap.size w W) => exprAt.below (hb.mono hB) hg hxa)
  have a6 : ∀ o, (w.alloc o).cell? ⟨pe, 6, none⟩ = some (.slice (some ⟨g, off, none⟩) E.m.exprs.length h.ec) := fun o => Lib.cell?_alloc_some o c6
  clear hk hok he hx hxa ho
  go_enter Tryz.func21, Tryz.ntmps21
  go_wp2_with fail
  clear a6 c6
  have HWW := PS3.start w pe x
  have z0 : ((w.alloc (Obj.cells #[Value.pointer (some ⟨pe, 0, none⟩)] 81)).alloc (Obj.cells #[Value.int .i64 0, Value.int .i64 0, Value.int .i64 0] 106)).cell? ⟨g, off + p * 12 + 2, none⟩ = some (.int .i64 x.a) := Lib.cell?_alloc_some _ (Lib.cell?_alloc_some _ x2)
  have z1 : ((w.alloc (Obj.cells #[Value.pointer (some ⟨pe, 0, none⟩)] 81)).alloc (Obj.cells #[Value.int .i64 0, Value.int .i64 0, Value.int .i64 0] 106)).cell? ⟨g, off + p * 12 + 3, none⟩ = some (.int .i64 x.b) := Lib.cell?_alloc_some _ (Lib.cell?_alloc_some _ x3)
  have z2 : ((w.alloc (Obj.cells #[Value.pointer (some ⟨pe, 0, none⟩)] 81)).alloc (Obj.cells #[Value.int .i64 0, Value.int .i64 0, Value.int .i64 0] 106)).cell? ⟨g, off + p * 12 + 4, none⟩ = some (.int .i64 x.c) := Lib.cell?_alloc_some _ (Lib.cell?_alloc_some _ x4)
  have hsz : ((w.alloc (Obj.cells #[Value.pointer (some ⟨pe, 0, none⟩)] 81)).alloc (Obj.cells #[Value.int .i64 0, Value.int .i64 0, Value.int .i64 0] 106)).heap.size = w.heap.size + 2 := by simp
  generalize (w.alloc (Obj.cells #[Value.pointer (some ⟨pe, 0, none⟩)] 81)).alloc (Obj.cells #[Value.int .i64 0, Value.int .i64 0, Value.int .i64 0] 106) = W2 at z0 z1 z2 hsz HWW ⊢
  clear x2 x3 x4
  have HPS := Lib.hid HWW
  clear HWW
  have y0 : ∀ o, (W2.alloc o).cell? ⟨g, off + p * 12 + 2, none⟩ = some (.int .i64 x.a) := fun o => Lib.cell?_alloc_some o z0
  have y1 : ∀ o, (W2.alloc o).cell? ⟨g, off + p * 12 + 3, none⟩ = some (.int .i64 x.b) := fun o => Lib.cell?_alloc_some o z1
  have y2 : ∀ o, (W2.alloc o).cell? ⟨g, off + p * 12 + 4, none⟩ = some (.int .i64 x.c) := fun o => Lib.cell?_alloc_some o z2
  go_region
  clear y0 y1 y2 z0 z1 z2
  generalize (W2.alloc (Obj.cells #[Value.int .i64 x.a, Value.int .i64 x.b, Value.int .i64 x.c] 107)).drew = W3 at HPS ⊢
  clear hsz
  have x0 := (HXA.out W3 HPS.out.bel).c0
  have xe : W3.cell? ⟨w.heap.size, 0, none⟩ = some (.pointer (some ⟨pe, 0, none⟩)) := HPS.out.ce
  have HK3 := Lib.hid (HK.out.below HPS.out.bel)
  rw [hop] at x0
  have x1 := (HXA.out W3 HPS.out.bel).c1
  go_wp2_with fail
  go_ret2
  exact ⟨ret2 (by rw [HV.out]) (by rw [HV.out]), HPS.out.bel⟩

set_option maxHeartbeats 4000000 in
set_option maxRecDepth 100000 in
theorem eval_var {B pe : Nat} {h : MH} {hs : SH} {ao : Option Addr} {ac : Nat} {E : EnvD} {ev : Int → Int × Int} {p : Nat} {x : ExprD} (w : World) (hk : Ek B w pe h hs ao ac E) (hok : Ok E) (he : EvC B pe h hs ao ac E ev p) (hx : E.m.exprs[p]? = some x) (hop : x.op = 2) (hvf : VarF x.v) (hwho : x.v.scope = 2 → 0 ≤ x.v.who ∧ x.v.who < p) (hd : ∀ d ∈ x.v.dims, 0 ≤ d.i ∧ d.i < p) :
    Calls Tryz.prog 21 #[.pointer (some ⟨pe, 0, none⟩), .int .i64 p] w fun e w' => e = .returned (.tuple #[.int .i64 (evalB E ev x).1, .int .i64 (evalB E ev x).2]) ∧ Below w.heap.size w w' := by
  have HK := Lib.hid hk
  have HO := Lib.hid hok
  have HE := Lib.hid he
  have HXG := Lib.hid hx
  have HV := Lib.hid (evalB_var (E := E) (ev := ev) hop)
  have HVF := Lib.hid hvf
  have HWH := Lib.hid hwho
  have HD := Lib.hid hd
  clear hvf hwho hd
  have c6 := hk.ck.c6
  have hel := hk.ck.md.exprs.1
  obtain ⟨g, off, ho, hg, hxa⟩ := hk.ck.md.exprs.get hx
  have hpl : p < E.m.exprs.length := (List.getElem?_eq_some_iff.1 hx).1
  have hpi : (p : Int) < E.m.exprs.length := by omega
  have hp0 : (0 : Int) ≤ p := by omega
  rw [ho] at c6
  have x2 := hxa.c2
  have x3 := hxa.c3
  have x4 := hxa.c4
  have hB : B ≤ w.heap.size := hk.leW
  have HXA := Lib.hid (fun W (hb : Below w.heap.size w W) => exprAt.below (hb.mono hB) hg hxa)
  have a6 : ∀ o, (w.alloc o).cell? ⟨pe, 6, none⟩ = some (.slice (some ⟨g, off, none⟩) E.m.exprs.length h.ec) := fun o => Lib.cell?_alloc_some o c6
  clear hk hok he hx hxa ho
  go_enter Tryz.func21, Tryz.ntmps21
  go_wp2_with fail
  clear a6 c6
  have HWW := PS3.start w pe x
  have z0 : ((w.alloc (Obj.cells #[Value.pointer (some ⟨pe, 0, none⟩)] 81)).alloc (Obj.cells #[Value.int .i64 0, Value.int .i64 0, Value.int .i64 0] 106)).cell? ⟨g, off + p * 12 + 2, none⟩ = some (.int .i64 x.a) := Lib.cell?_alloc_some _ (Lib.cell?_alloc_some _ x2)
  have z1 : ((w.alloc (Obj.cells #[Value.pointer (some ⟨pe, 0, none⟩)] 81)).alloc (Obj.cells #[Value.int .i64 0, Value.int .i64 0, Value.int .i64 0] 106)).cell? ⟨g, off + p * 12 + 3, none⟩ = some (.int .i64 x.b) := Lib.cell?_alloc_some _ (Lib.cell?_alloc_some _ x3)
  have z2 : ((w.alloc (Obj.cells #[Value.pointer (some ⟨pe, 0, none⟩)] 81)).alloc (Obj.cells #[Value.int .i64 0, Value.int .i64 0, Value.int .i64 0] 106)).cell? ⟨g, off + p * 12 + 4, none⟩ = some (.int .i64 x.c) := Lib.cell?_alloc_some _ (Lib.cell?_alloc_some _ x4)
  have hsz : ((w.alloc (Obj.cells #[Value.pointer (some ⟨pe, 0, none⟩)] 81)).alloc (Obj.cells #[Value.int .i64 0, Value.int .i64 0, Value.int .i64 0] 106)).heap.size = w.heap.size + 2 := by simp
  generalize (w.alloc (Obj.cells #[Value.pointer (some ⟨pe, 0, none⟩)] 81)).alloc (Obj.cells #[Value.int .i64 0, Value.int .i64 0, Value.int .i64 0] 106) = W2 at z0 z1 z2 hsz HWW ⊢
  clear x2 x3 x4
  have HPS := Lib.hid HWW
  clear HWW
  have y0 : ∀ o, (W2.alloc o).cell? ⟨g, off + p * 12 + 2, none⟩ = some (.int .i64 x.a) := fun o => Lib.cell?_alloc_some o z0
  have y1 : ∀ o, (W2.alloc o).cell? ⟨g, off + p * 12 + 3, none⟩ = some (.int .i64 x.b) := fun o => Lib.cell?_alloc_some o z1
  have y2 : ∀ o, (W2.alloc o).cell? ⟨g, off + p * 12 + 4, none⟩ = some (.int .i64 x.c) := fun o => Lib.cell?_alloc_some o z2
  go_region
  clear y0 y1 y2 z0 z1 z2
  generalize (W2.alloc (Obj.cells #[Value.int .i64 x.a, Value.int .i64 x.b, Value.int .i64 x.c] 107)).drew = W3 at HPS ⊢
  clear hsz
  have x0 := (HXA.out W3 HPS.out.bel).c0
  have xe : W3.cell? ⟨w.heap.size, 0, none⟩ = some (.pointer (some ⟨pe, 0, none⟩)) := HPS.out.ce
  have HK3 := Lib.hid (HK.out.below HPS.out.bel)
  rw [hop] at x0
  have HS := Lib.hid (slotC W3 HK3.out HO.out HE.out HXG.out (fun _ => HVF.out) (fun _ => HWH.out) (fun _ => HD.out))
  have HSR := Lib.hid (slot_range (ev := ev) HO.out HVF.out)
  obtain ⟨⟨q, s, er⟩, hq⟩ : ∃ r, rslotB E ev x = r := ⟨_, rfl⟩
  rw [hq] at HS HV HSR
  simp only at HS HV HSR
  clear hq
  go_wp2_with fail
  refine HS.out.mono ?_
  rintro e W4 ⟨rfl, hb4⟩
  have HP4 := Lib.hid (HPS.out.below hb4)
  clear hb4 x0 xe HS
  by_cases h0 : er = 0
  · have hd0 : (er != 0) = false := by rw [bne_eq_false_iff_eq]; exact h0
    subst h0
    obtain ⟨hqr, k, rfl, hkl⟩ := HSR.out rfl
    have xe : W4.cell? ⟨w.heap.size, 0, none⟩ = some (.pointer (some ⟨pe, 0, none⟩)) := HP4.out.ce
    go_wp2_with fail
    refine (slotsC q W4 (HK.out.below HP4.out.bel) hqr).mono ?_
    rintro e W5 ⟨so, sc, hsr, rfl, rfl⟩
    have hsl := hsr.1
    obtain ⟨g1, off1, ho1, hg1, e1⟩ := hsr.cell hkl
    subst ho1
    unfold intAt at e1
    rw [Nat.mul_one] at e1
    have hkz : (0 : Int) ≤ k := by omega
    have hki : (k : Int) < (slotsL E q).length := by omega
    obtain ⟨u, hu⟩ : ∃ u, (slotsL E q)[k] = u := ⟨_, rfl⟩
    rw [hu] at e1
    have HR : Hid (evalB E ev x = (u, 0)) := Lib.hid (by rw [HV.out, if_neg (by simp)]; unfold slotVal; rw [Int.toNat_natCast, getD_at hkl, hu])
    clear hsr hu
    go_wp2_with fail
    go_ret2
    exact ⟨ret2 (by rw [HR.out]) (by rw [HR.out]), HP4.out.bel⟩
  · have hd0 : (er != 0) = true := by rw [bne_iff_ne]; exact h0
    have HR : Hid (evalB E ev x = (0, er)) := Lib.hid (by rw [HV.out, if_pos h0])
    go_wp2_with fail
    go_ret2
    exact ⟨ret2 (by rw [HR.out]) (by rw [HR.out]), HP4.out.bel⟩

set_option maxHeartbeats 4000000 in
set_option maxRecDepth 100000 in
theorem eval_run {B pe : Nat} {h : MH} {hs : SH} {ao : Option Addr} {ac : Nat} {E : EnvD} {ev : Int → Int × Int} {p : Nat} {x : ExprD} (w : World) (hk : Ek B w pe h hs ao ac E) (hok : Ok E) (he : EvC B pe h hs ao ac E ev p) (hx : E.m.exprs[p]? = some x) (hop : x.op = 39) :
    Calls Tryz.prog 21 #[.pointer (some ⟨pe, 0, none⟩), .int .i64 p] w fun e w' => e = .returned (.tuple #[.int .i64 (evalB E ev x).1, .int .i64 (evalB E ev x).2]) ∧ Below w.heap.size w w' := by
  have HK := Lib.hid hk
  have HO := Lib.hid hok
  have HE := Lib.hid he
  have HXG := Lib.hid hx
  have HV := Lib.hid (evalB_run (E := E) (ev := ev) hop)
  have c6 := hk.ck.c6
  have hel := hk.ck.md.exprs.1
  obtain ⟨g, off, ho, hg, hxa⟩ := hk.ck.md.exprs.get hx
  have hpl : p < E.m.exprs.length := (List.getElem?_eq_some_iff.1 hx).1
  have hpi : (p : Int) < E.m.exprs.length := by omega
  have hp0 : (0 : Int) ≤ p := by omega
  rw [ho] at c6
  have x2 := hxa.c2
  have x3 := hxa.c3
  have x4 := hxa.c4
  have hB : B ≤ w.heap.size := hk.leW
  have HXA := Lib.hid (fun W (hb : Below w.heap.size w W) => exprAt.below (hb.mono hB) hg hxa)
  have a6 : ∀ o, (w.alloc o).cell? ⟨pe, 6, none⟩ = some (.slice (some ⟨g, off, none⟩) E.m.exprs.length h.ec) := fun o => Lib.cell?_alloc_some o c6
  clear hk hok he hx hxa ho
  go_enter Tryz.func21, Tryz.ntmps21
  go_wp2_with fail
  clear a6 c6
  have HWW := PS3.start w pe x
  have z0 : ((w.alloc (Obj.cells #[Value.pointer (some ⟨pe, 0, none⟩)] 81)).alloc (Obj.cells #[Value.int .i64 0, Value.int .i64 0, Value.int .i64 0] 106)).cell? ⟨g, off + p * 12 + 2, none⟩ = some (.int .i64 x.a) := Lib.cell?_alloc_some _ (Lib.cell?_alloc_some _ x2)
  have z1 : ((w.alloc (Obj.cells #[Value.pointer (some ⟨pe, 0, none⟩)] 81)).alloc (Obj.cells #[Value.int .i64 0, Value.int .i64 0, Value.int .i64 0] 106)).cell? ⟨g, off + p * 12 + 3, none⟩ = some (.int .i64 x.b) := Lib.cell?_alloc_some _ (Lib.cell?_alloc_some _ x3)
  have z2 : ((w.alloc (Obj.cells #[Value.pointer (some ⟨pe, 0, none⟩)] 81)).alloc (Obj.cells #[Value.int .i64 0, Value.int .i64 0, Value.int .i64 0] 106)).cell? ⟨g, off + p * 12 + 4, none⟩ = some (.int .i64 x.c) := Lib.cell?_alloc_some _ (Lib.cell?_alloc_some _ x4)
  have hsz : ((w.alloc (Obj.cells #[Value.pointer (some ⟨pe, 0, none⟩)] 81)).alloc (Obj.cells #[Value.int .i64 0, Value.int .i64 0, Value.int .i64 0] 106)).heap.size = w.heap.size + 2 := by simp
  generalize (w.alloc (Obj.cells #[Value.pointer (some ⟨pe, 0, none⟩)] 81)).alloc (Obj.cells #[Value.int .i64 0, Value.int .i64 0, Value.int .i64 0] 106) = W2 at z0 z1 z2 hsz HWW ⊢
  clear x2 x3 x4
  have HPS := Lib.hid HWW
  clear HWW
  have y0 : ∀ o, (W2.alloc o).cell? ⟨g, off + p * 12 + 2, none⟩ = some (.int .i64 x.a) := fun o => Lib.cell?_alloc_some o z0
  have y1 : ∀ o, (W2.alloc o).cell? ⟨g, off + p * 12 + 3, none⟩ = some (.int .i64 x.b) := fun o => Lib.cell?_alloc_some o z1
  have y2 : ∀ o, (W2.alloc o).cell? ⟨g, off + p * 12 + 4, none⟩ = some (.int .i64 x.c) := fun o => Lib.cell?_alloc_some o z2
  go_region
  clear y0 y1 y2 z0 z1 z2
  generalize (W2.alloc (Obj.cells #[Value.int .i64 x.a, Value.int .i64 x.b, Value.int .i64 x.c] 107)).drew = W3 at HPS ⊢
  clear hsz
  have x0 := (HXA.out W3 HPS.out.bel).c0
  have xe : W3.cell? ⟨w.heap.size, 0, none⟩ = some (.pointer (some ⟨pe, 0, none⟩)) := HPS.out.ce
  have HK3 := Lib.hid (HK.out.below HPS.out.bel)
  rw [hop] at x0
  go_wp2_with fail
  go_ret2
  exact ⟨ret2 (by rw [HV.out]) (by rw [HV.out]), HPS.out.bel⟩

end Go.Proofs.YtbhgdlfndamklaaGreatDoor
/- One step of the reckoning. -/
namespace Go.Proofs.YtbhgdlfndamklaaGreatDoor
open Go.ChangeShapes Go.WideShapes Go.ChangeAt Go.RowKit
set_option linter.unusedVariables false
set_option linter.unusedSimpArgs false

set_option maxHeartbeats 4000000 in
set_option maxRecDepth 100000 in
theorem eval_one {B pe : Nat} {h : MH} {hs : SH} {ao : Option Addr} {ac : Nat} {E : EnvD} {ev : Int → Int × Int} {p : Nat} {x : ExprD} (w : World) (hk : Ek B w pe h hs ao ac E) (hok : Ok E) (he : EvC B pe h hs ao ac E ev p) (hx : E.m.exprs[p]? = some x) (hop : 3 ≤ x.op ∧ x.op ≤ 5) (ha : 0 ≤ x.a ∧ x.a < p) :
    Calls Tryz.prog 21 #[.pointer (some ⟨pe, 0, none⟩), .int .i64 p] w fun e w' => e = .returned (.tuple #[.int .i64 (evalB E ev x).1, .int .i64 (evalB E ev x).2]) ∧ Below w.heap.size w w' := by
  have HK := Lib.hid hk
  have HO := Lib.hid hok
  have HE := Lib.hid he
  have HXG := Lib.hid hx
  have HV := Lib.hid (evalB_one (E := E) (ev := ev) hop)
  have HA := Lib.hid ha
  clear ha
  have c6 := hk.ck.c6
  have hel := hk.ck.md.exprs.1
  obtain ⟨g, off, ho, hg, hxa⟩ := hk.ck.md.exprs.get hx
  have hpl : p < E.m.exprs.length := (List.getElem?_eq_some_iff.1 hx).1
  have hpi : (p : Int) < E.m.exprs.length := by omega
  have hp0 : (0 : Int) ≤ p := by omega
  rw [ho] at c6
  have x2 := hxa.c2
  have x3 := hxa.c3
  have x4 := hxa.c4
  have hB : B ≤ w.heap.size := hk.leW
  have HXA := Lib.hid (fun W (hb : Below w.heap.size w W) => exprAt.below (hb.mono hB) hg hxa)
  have a6 : ∀ o, (w.alloc o).cell? ⟨pe, 6, none⟩ = some (.slice (some ⟨g, off, none⟩) E.m.exprs.length h.ec) := fun o => Lib.cell?_alloc_some o c6
  clear hk hok he hx hxa ho
  go_enter Tryz.func21, Tryz.ntmps21
  go_wp2_with fail
  clear a6 c6
  have HWW := PS3.start w pe x
  have z0 : ((w.alloc (Obj.cells #[Value.pointer (some ⟨pe, 0, none⟩)] 81)).alloc (Obj.cells #[Value.int .i64 0, Value.int .i64 0, Value.int .i64 0] 106)).cell? ⟨g, off + p * 12 + 2, none⟩ = some (.int .i64 x.a) := Lib.cell?_alloc_some _ (Lib.cell?_alloc_some _ x2)
  have z1 : ((w.alloc (Obj.cells #[Value.pointer (some ⟨pe, 0, none⟩)] 81)).alloc (Obj.cells #[Value.int .i64 0, Value.int .i64 0, Value.int .i64 0] 106)).cell? ⟨g, off + p * 12 + 3, none⟩ = some (.int .i64 x.b) := Lib.cell?_alloc_some _ (Lib.cell?_alloc_some _ x3)
  have z2 : ((w.alloc (Obj.cells #[Value.pointer (some ⟨pe, 0, none⟩)] 81)).alloc (Obj.cells #[Value.int .i64 0, Value.int .i64 0, Value.int .i64 0] 106)).cell? ⟨g, off + p * 12 + 4, none⟩ = some (.int .i64 x.c) := Lib.cell?_alloc_some _ (Lib.cell?_alloc_some _ x4)
  have hsz : ((w.alloc (Obj.cells #[Value.pointer (some ⟨pe, 0, none⟩)] 81)).alloc (Obj.cells #[Value.int .i64 0, Value.int .i64 0, Value.int .i64 0] 106)).heap.size = w.heap.size + 2 := by simp
  generalize (w.alloc (Obj.cells #[Value.pointer (some ⟨pe, 0, none⟩)] 81)).alloc (Obj.cells #[Value.int .i64 0, Value.int .i64 0, Value.int .i64 0] 106) = W2 at z0 z1 z2 hsz HWW ⊢
  clear x2 x3 x4
  have HPS := Lib.hid HWW
  clear HWW
  have y0 : ∀ o, (W2.alloc o).cell? ⟨g, off + p * 12 + 2, none⟩ = some (.int .i64 x.a) := fun o => Lib.cell?_alloc_some o z0
  have y1 : ∀ o, (W2.alloc o).cell? ⟨g, off + p * 12 + 3, none⟩ = some (.int .i64 x.b) := fun o => Lib.cell?_alloc_some o z1
  have y2 : ∀ o, (W2.alloc o).cell? ⟨g, off + p * 12 + 4, none⟩ = some (.int .i64 x.c) := fun o => Lib.cell?_alloc_some o z2
  go_region
  clear y0 y1 y2 z0 z1 z2
  generalize (W2.alloc (Obj.cells #[Value.int .i64 x.a, Value.int .i64 x.b, Value.int .i64 x.c] 107)).drew = W3 at HPS ⊢
  clear hsz
  have x0 := (HXA.out W3 HPS.out.bel).c0
  have xe : W3.cell? ⟨w.heap.size, 0, none⟩ = some (.pointer (some ⟨pe, 0, none⟩)) := HPS.out.ce
  have HK3 := Lib.hid (HK.out.below HPS.out.bel)
  have HPA := Lib.hid (partC 0 W3 (by omega) HK.out HE.out HPS.out HA.out.1 HA.out.2)
  rw [show part3 0 x = x.a from rfl] at HPA
  obtain ⟨⟨v, er⟩, hev⟩ : ∃ q, ev x.a = q := ⟨_, rfl⟩
  rw [hev] at HPA HV
  simp only at HPA HV
  clear hev
  have HOP : Hid (∀ W, PS3 w pe x (put3 0 v (0, 0, 0)) W → W.cell? ⟨g, off + p * 12, none⟩ = some (.int .i64 x.op) ∧ W.cell? ⟨w.heap.size + 1, 0, none⟩ = some (.int .i64 v)) := Lib.hid fun W hp => ⟨(HXA.out W hp.bel).c0, hp.c0⟩
  have hcs : x.op = 3 ∨ x.op = 4 ∨ x.op = 5 := by omega
  clear hop
  rcases hcs with e | e | e
  all_goals (
    rw [e] at x0 HV HOP
    go_wp2_with fail
    refine HPA.out.mono ?_
    rintro e W4 ⟨rfl, hp4⟩
    have HP4 := Lib.hid hp4
    clear hp4 x0 xe
    by_cases h0 : er = 0
    · have hd0 : (er != 0) = false := by rw [bne_eq_false_iff_eq]; exact h0
      subst h0
      obtain ⟨x0, c0⟩ := HOP.out W4 HP4.out
      go_wp2_with fail
      go_region_law (
        go_simp
        go_at_call 43
        refine (val.one_any _ v W4.drew).mono ?_
        rintro e W5 ⟨rfl, hb5⟩
        have HP5 := Lib.hid ((HP4.out.below (Below.refl _ _).drew).below hb5)
        clear hb5)
      all_goals (
        clear x0 c0
        go_wp2_with fail
        go_ret2
        exact ⟨ret2 (by rw [HV.out, if_neg (by simp)]) (by rw [HV.out, if_neg (by simp)]), HP5.out.bel⟩)
    · have hd0 : (er != 0) = true := by rw [bne_iff_ne]; exact h0
      have HR : Hid (evalB E ev x = (0, er)) := Lib.hid (by rw [HV.out, if_pos h0])
      go_wp2_with fail
      go_ret2
      exact ⟨ret2 (by rw [HR.out]) (by rw [HR.out]), HP4.out.bel⟩)

set_option maxHeartbeats 4000000 in
set_option maxRecDepth 100000 in
theorem eval_cho {B pe : Nat} {h : MH} {hs : SH} {ao : Option Addr} {ac : Nat} {E : EnvD} {ev : Int → Int × Int} {p : Nat} {x : ExprD} (w : World) (hk : Ek B w pe h hs ao ac E) (hok : Ok E) (he : EvC B pe h hs ao ac E ev p) (hx : E.m.exprs[p]? = some x) (hop : 22 ≤ x.op ∧ x.op ≤ 24) (ha : 0 ≤ x.a ∧ x.a < p) (hb : 0 ≤ x.b ∧ x.b < p) (hc : x.op = 24 → 0 ≤ x.c ∧ x.c < p) :
    Calls Tryz.prog 21 #[.pointer (some ⟨pe, 0, none⟩), .int .i64 p] w fun e w' => e = .returned (.tuple #[.int .i64 (evalB E ev x).1, .int .i64 (evalB E ev x).2]) ∧ Below w.heap.size w w' := by
  have HK := Lib.hid hk
  have HO := Lib.hid hok
  have HE := Lib.hid he
  have HXG := Lib.hid hx
  have HV := Lib.hid (evalB_cho (E := E) (ev := ev) hop)
  have HA := Lib.hid ha
  clear ha
  have HBB := Lib.hid hb
  clear hb
  have HCC := Lib.hid hc
  clear hc
  have c6 := hk.ck.c6
  have hel := hk.ck.md.exprs.1
  obtain ⟨g, off, ho, hg, hxa⟩ := hk.ck.md.exprs.get hx
  have hpl : p < E.m.exprs.length := (List.getElem?_eq_some_iff.1 hx).1
  have hpi : (p : Int) < E.m.exprs.length := by omega
  have hp0 : (0 : Int) ≤ p := by omega
  rw [ho] at c6
  have x2 := hxa.c2
  have x3 := hxa.c3
  have x4 := hxa.c4
  have hB : B ≤ w.heap.size := hk.leW
  have HXA := Lib.hid (fun W (hb : Below w.heap.size w W) => exprAt.below (hb.mono hB) hg hxa)
  have a6 : ∀ o, (w.alloc o).cell? ⟨pe, 6, none⟩ = some (.slice (some ⟨g, off, none⟩) E.m.exprs.length h.ec) := fun o => Lib.cell?_alloc_some o c6
  clear hk hok he hx hxa ho
  go_enter Tryz.func21, Tryz.ntmps21
  go_wp2_with fail
  clear a6 c6
  have HWW := PS3.start w pe x
  have z0 : ((w.alloc (Obj.cells #[Value.pointer (some ⟨pe, 0, none⟩)] 81)).alloc (Obj.cells #[Value.int .i64 0, Value.int .i64 0, Value.int .i64 0] 106)).cell? ⟨g, off + p * 12 + 2, none⟩ = some (.int .i64 x.a) := Lib.cell?_alloc_some _ (Lib.cell?_alloc_some _ x2)
  have z1 : ((w.alloc (Obj.cells #[Value.pointer (some ⟨pe, 0, none⟩)] 81)).alloc (Obj.cells #[Value.int .i64 0, Value.int .i64 0, Value.int .i64 0] 106)).cell? ⟨g, off + p * 12 + 3, none⟩ = some (.int .i64 x.b) := Lib.cell?_alloc_some _ (Lib.cell?_alloc_some _ x3)
  have z2 : ((w.alloc (Obj.cells #[Value.pointer (some ⟨pe, 0, none⟩)] 81)).alloc (Obj.cells #[Value.int .i64 0, Value.int .i64 0, Value.int .i64 0] 106)).cell? ⟨g, off + p * 12 + 4, none⟩ = some (.int .i64 x.c) := Lib.cell?_alloc_some _ (Lib.cell?_alloc_some _ x4)
  have hsz : ((w.alloc (Obj.cells #[Value.pointer (some ⟨pe, 0, none⟩)] 81)).alloc (Obj.cells #[Value.int .i64 0, Value.int .i64 0, Value.int .i64 0] 106)).heap.size = w.heap.size + 2 := by simp
  generalize (w.alloc (Obj.cells #[Value.pointer (some ⟨pe, 0, none⟩)] 81)).alloc (Obj.cells #[Value.int .i64 0, Value.int .i64 0, Value.int .i64 0] 106) = W2 at z0 z1 z2 hsz HWW ⊢
  clear x2 x3 x4
  have HPS := Lib.hid HWW
  clear HWW
  have y0 : ∀ o, (W2.alloc o).cell? ⟨g, off + p * 12 + 2, none⟩ = some (.int .i64 x.a) := fun o => Lib.cell?_alloc_some o z0
  have y1 : ∀ o, (W2.alloc o).cell? ⟨g, off + p * 12 + 3, none⟩ = some (.int .i64 x.b) := fun o => Lib.cell?_alloc_some o z1
  have y2 : ∀ o, (W2.alloc o).cell? ⟨g, off + p * 12 + 4, none⟩ = some (.int .i64 x.c) := fun o => Lib.cell?_alloc_some o z2
  go_region
  clear y0 y1 y2 z0 z1 z2
  generalize (W2.alloc (Obj.cells #[Value.int .i64 x.a, Value.int .i64 x.b, Value.int .i64 x.c] 107)).drew = W3 at HPS ⊢
  clear hsz
  have x0 := (HXA.out W3 HPS.out.bel).c0
  have xe : W3.cell? ⟨w.heap.size, 0, none⟩ = some (.pointer (some ⟨pe, 0, none⟩)) := HPS.out.ce
  have HK3 := Lib.hid (HK.out.below HPS.out.bel)
  have HC := Lib.hid (chosenC W3 HK.out HE.out HPS.out hop HA.out HBB.out HCC.out)
  have hcs : x.op = 22 ∨ x.op = 23 ∨ x.op = 24 := by omega
  clear hop
  unfold partV at HC
  rcases hcs with e | e | e
  all_goals (
    rw [e] at x0 HC
    go_wp2_with fail
    refine HC.out.mono ?_
    rintro e W4 ⟨rfl, hb4⟩
    have HB4 := Lib.hid hb4
    clear hb4 x0 xe HC
    go_wp2_with fail
    go_ret2
    exact ⟨ret2 (by rw [HV.out]) (by rw [HV.out]), HB4.out⟩)

end Go.Proofs.YtbhgdlfndamklaaGreatDoor
/- One step of the reckoning. -/
namespace Go.Proofs.YtbhgdlfndamklaaGreatDoor
open Go.ChangeShapes Go.WideShapes Go.ChangeAt Go.RowKit
set_option linter.unusedVariables false
set_option linter.unusedSimpArgs false

set_option maxHeartbeats 4000000 in
set_option maxRecDepth 100000 in
theorem eval_roo {B pe : Nat} {h : MH} {hs : SH} {ao : Option Addr} {ac : Nat} {E : EnvD} {ev : Int → Int × Int} {p : Nat} {x : ExprD} (w : World) (hk : Ek B w pe h hs ao ac E) (hok : Ok E) (he : EvC B pe h hs ao ac E ev p) (hx : E.m.exprs[p]? = some x) (hop : 25 ≤ x.op ∧ x.op ≤ 29) (ha : 0 ≤ x.a ∧ x.a < p) :
    Calls Tryz.prog 21 #[.pointer (some ⟨pe, 0, none⟩), .int .i64 p] w fun e w' => e = .returned (.tuple #[.int .i64 (evalB E ev x).1, .int .i64 (evalB E ev x).2]) ∧ Below w.heap.size w w' := by
  have HK := Lib.hid hk
  have HO := Lib.hid hok
  have HE := Lib.hid he
  have HXG := Lib.hid hx
  have HV := Lib.hid (evalB_roo (E := E) (ev := ev) hop)
  have HA := Lib.hid ha
  clear ha
  have c6 := hk.ck.c6
  have hel := hk.ck.md.exprs.1
  obtain ⟨g, off, ho, hg, hxa⟩ := hk.ck.md.exprs.get hx
  have hpl : p < E.m.exprs.length := (List.getElem?_eq_some_iff.1 hx).1
  have hpi : (p : Int) < E.m.exprs.length := by omega
  have hp0 : (0 : Int) ≤ p := by omega
  rw [ho] at c6
  have x2 := hxa.c2
  have x3 := hxa.c3
  have x4 := hxa.c4
  have hB : B ≤ w.heap.size := hk.leW
  have HXA := Lib.hid (fun W (hb : Below w.heap.size w W) => exprAt.below (hb.mono hB) hg hxa)
  have a6 : ∀ o, (w.alloc o).cell? ⟨pe, 6, none⟩ = some (.slice (some ⟨g, off, none⟩) E.m.exprs.length h.ec) := fun o => Lib.cell?_alloc_some o c6
  clear hk hok he hx hxa ho
  go_enter Tryz.func21, Tryz.ntmps21
  go_wp2_with fail
  clear a6 c6
  have HWW := PS3.start w pe x
  have z0 : ((w.alloc (Obj.cells #[Value.pointer (some ⟨pe, 0, none⟩)] 81)).alloc (Obj.cells #[Value.int .i64 0, Value.int .i64 0, Value.int .i64 0] 106)).cell? ⟨g, off + p * 12 + 2, none⟩ = some (.int .i64 x.a) := Lib.cell?_alloc_some _ (Lib.cell?_alloc_some _ x2)
  have z1 : ((w.alloc (Obj.cells #[Value.pointer (some ⟨pe, 0, none⟩)] 81)).alloc (Obj.cells #[Value.int .i64 0, Value.int .i64 0, Value.int .i64 0] 106)).cell? ⟨g, off + p * 12 + 3, none⟩ = some (.int .i64 x.b) := Lib.cell?_alloc_some _ (Lib.cell?_alloc_some _ x3)
  have z2 : ((w.alloc (Obj.cells #[Value.pointer (some ⟨pe, 0, none⟩)] 81)).alloc (Obj.cells #[Value.int .i64 0, Value.int .i64 0, Value.int .i64 0] 106)).cell? ⟨g, off + p * 12 + 4, none⟩ = some (.int .i64 x.c) := Lib.cell?_alloc_some _ (Lib.cell?_alloc_some _ x4)
  have hsz : ((w.alloc (Obj.cells #[Value.pointer (some ⟨pe, 0, none⟩)] 81)).alloc (Obj.cells #[Value.int .i64 0, Value.int .i64 0, Value.int .i64 0] 106)).heap.size = w.heap.size + 2 := by simp
  generalize (w.alloc (Obj.cells #[Value.pointer (some ⟨pe, 0, none⟩)] 81)).alloc (Obj.cells #[Value.int .i64 0, Value.int .i64 0, Value.int .i64 0] 106) = W2 at z0 z1 z2 hsz HWW ⊢
  clear x2 x3 x4
  have HPS := Lib.hid HWW
  clear HWW
  have y0 : ∀ o, (W2.alloc o).cell? ⟨g, off + p * 12 + 2, none⟩ = some (.int .i64 x.a) := fun o => Lib.cell?_alloc_some o z0
  have y1 : ∀ o, (W2.alloc o).cell? ⟨g, off + p * 12 + 3, none⟩ = some (.int .i64 x.b) := fun o => Lib.cell?_alloc_some o z1
  have y2 : ∀ o, (W2.alloc o).cell? ⟨g, off + p * 12 + 4, none⟩ = some (.int .i64 x.c) := fun o => Lib.cell?_alloc_some o z2
  go_region
  clear y0 y1 y2 z0 z1 z2
  generalize (W2.alloc (Obj.cells #[Value.int .i64 x.a, Value.int .i64 x.b, Value.int .i64 x.c] 107)).drew = W3 at HPS ⊢
  clear hsz
  have x0 := (HXA.out W3 HPS.out.bel).c0
  have xe : W3.cell? ⟨w.heap.size, 0, none⟩ = some (.pointer (some ⟨pe, 0, none⟩)) := HPS.out.ce
  have HK3 := Lib.hid (HK.out.below HPS.out.bel)
  have HC := Lib.hid (roomC W3 HK3.out HO.out HE.out (HXA.out W3 HPS.out.bel) hg hop HA.out.1 HA.out.2)
  have hcs : x.op = 25 ∨ x.op = 26 ∨ x.op = 27 ∨ x.op = 28 ∨ x.op = 29 := by omega
  clear hop
  rcases hcs with e | e | e | e | e
  all_goals (
    rw [e] at x0
    go_wp2_with fail
    refine HC.out.mono ?_
    rintro e W4 ⟨rfl, hb4⟩
    have HB4 := Lib.hid (HPS.out.bel.trans (hb4.mono HPS.out.bel.size))
    clear hb4 x0 xe HC
    go_wp2_with fail
    go_ret2
    exact ⟨ret2 (by rw [HV.out]) (by rw [HV.out]), HB4.out⟩)

set_option maxHeartbeats 4000000 in
set_option maxRecDepth 100000 in
theorem eval_pol {B pe : Nat} {h : MH} {hs : SH} {ao : Option Addr} {ac : Nat} {E : EnvD} {ev : Int → Int × Int} {p : Nat} {x : ExprD} (w : World) (hk : Ek B w pe h hs ao ac E) (hok : Ok E) (he : EvC B pe h hs ao ac E ev p) (hx : E.m.exprs[p]? = some x) (hop : x.op = 30) (ha : 0 ≤ x.a ∧ x.a < p) (hn : x.args.length ≤ 8) (hm : x.mat.length = x.args.length) (hin : ∀ q ∈ x.args, 0 ≤ q ∧ q < p) :
    Calls Tryz.prog 21 #[.pointer (some ⟨pe, 0, none⟩), .int .i64 p] w fun e w' => e = .returned (.tuple #[.int .i64 (evalB E ev x).1, .int .i64 (evalB E ev x).2]) ∧ Below w.heap.size w w' := by
  have HK := Lib.hid hk
  have HO := Lib.hid hok
  have HE := Lib.hid he
  have HXG := Lib.hid hx
  have HV := Lib.hid (evalB_pol (E := E) (ev := ev) hop)
  have HA := Lib.hid ha
  clear ha
  have HN := Lib.hid (And.intro hn hm)
  have HIN := Lib.hid hin
  clear hn hm hin
  have c6 := hk.ck.c6
  have hel := hk.ck.md.exprs.1
  obtain ⟨g, off, ho, hg, hxa⟩ := hk.ck.md.exprs.get hx
  have hpl : p < E.m.exprs.length := (List.getElem?_eq_some_iff.1 hx).1
  have hpi : (p : Int) < E.m.exprs.length := by omega
  have hp0 : (0 : Int) ≤ p := by omega
  rw [ho] at c6
  have x2 := hxa.c2
  have x3 := hxa.c3
  have x4 := hxa.c4
  have hB : B ≤ w.heap.size := hk.leW
  have HXA := Lib.hid (fun W (hb : Below w.heap.size w W) => exprAt.below (hb.mono hB) hg hxa)
  have a6 : ∀ o, (w.alloc o).cell? ⟨pe, 6, none⟩ = some (.slice (some ⟨g, off, none⟩) E.m.exprs.length h.ec) := fun o => Lib.cell?_alloc_some o c6
  clear hk hok he hx hxa ho
  go_enter Tryz.func21, Tryz.ntmps21
  go_wp2_with fail
  clear a6 c6
  have HWW := PS3.start w pe x
  have z0 : ((w.alloc (Obj.cells #[Value.pointer (some ⟨pe, 0, none⟩)] 81)).alloc (Obj.cells #[Value.int .i64 0, Value.int .i64 0, Value.int .i64 0] 106)).cell? ⟨g, off + p * 12 + 2, none⟩ = some (.int .i64 x.a) := Lib.cell?_alloc_some _ (Lib.cell?_alloc_some _ x2)
  have z1 : ((w.alloc (Obj.cells #[Value.pointer (some ⟨pe, 0, none⟩)] 81)).alloc (Obj.cells #[Value.int .i64 0, Value.int .i64 0, Value.int .i64 0] 106)).cell? ⟨g, off + p * 12 + 3, none⟩ = some (.int .i64 x.b) := Lib.cell?_alloc_some _ (Lib.cell?_alloc_some _ x3)
  have z2 : ((w.alloc (Obj.cells #[Value.pointer (some ⟨pe, 0, none⟩)] 81)).alloc (Obj.cells #[Value.int .i64 0, Value.int .i64 0, Value.int .i64 0] 106)).cell? ⟨g, off + p * 12 + 4, none⟩ = some (.int .i64 x.c) := Lib.cell?_alloc_some _ (Lib.cell?_alloc_some _ x4)
  have hsz : ((w.alloc (Obj.cells #[Value.pointer (some ⟨pe, 0, none⟩)] 81)).alloc (Obj.cells #[Value.int .i64 0, Value.int .i64 0, Value.int .i64 0] 106)).heap.size = w.heap.size + 2 := by simp
  generalize (w.alloc (Obj.cells #[Value.pointer (some ⟨pe, 0, none⟩)] 81)).alloc (Obj.cells #[Value.int .i64 0, Value.int .i64 0, Value.int .i64 0] 106) = W2 at z0 z1 z2 hsz HWW ⊢
  clear x2 x3 x4
  have HPS := Lib.hid HWW
  clear HWW
  have y0 : ∀ o, (W2.alloc o).cell? ⟨g, off + p * 12 + 2, none⟩ = some (.int .i64 x.a) := fun o => Lib.cell?_alloc_some o z0
  have y1 : ∀ o, (W2.alloc o).cell? ⟨g, off + p * 12 + 3, none⟩ = some (.int .i64 x.b) := fun o => Lib.cell?_alloc_some o z1
  have y2 : ∀ o, (W2.alloc o).cell? ⟨g, off + p * 12 + 4, none⟩ = some (.int .i64 x.c) := fun o => Lib.cell?_alloc_some o z2
  go_region
  clear y0 y1 y2 z0 z1 z2
  generalize (W2.alloc (Obj.cells #[Value.int .i64 x.a, Value.int .i64 x.b, Value.int .i64 x.c] 107)).drew = W3 at HPS ⊢
  clear hsz
  have x0 := (HXA.out W3 HPS.out.bel).c0
  have xe : W3.cell? ⟨w.heap.size, 0, none⟩ = some (.pointer (some ⟨pe, 0, none⟩)) := HPS.out.ce
  have HK3 := Lib.hid (HK.out.below HPS.out.bel)
  rw [hop] at x0
  have HC := Lib.hid (pollC W3 HK3.out HO.out HE.out (HXA.out W3 HPS.out.bel) hg HA.out.1 HA.out.2 HN.out.1 HN.out.2 HIN.out)
  go_wp2_with fail
  refine HC.out.mono ?_
  rintro e W4 ⟨rfl, hb4⟩
  have HB4 := Lib.hid (HPS.out.bel.trans (hb4.mono HPS.out.bel.size))
  clear hb4 x0 xe HC
  go_wp2_with fail
  go_ret2
  exact ⟨ret2 (by rw [HV.out]) (by rw [HV.out]), HB4.out⟩

end Go.Proofs.YtbhgdlfndamklaaGreatDoor
