/- The document's Alone. -/
import Derived.Test.YtofdfaopabmfoaaM44
import Derived.Test.YtofdfaopabmfoaaM38
namespace Go.Proofs.Ytofdfaopabmfoaa
open Go.ChangeShapes Go.WideShapes Go.ChangeAt Go.RowKit
set_option linter.unusedVariables false
set_option linter.unusedSimpArgs false

/-- The boxes, and a row of numbers. -/
structure YJ (w0 : World) (CS SS : Array Value) (h : MH) (m : ModelD) (hs : SH) (s : StateD) (v : Value) (l : List Int) (W : World) : Prop where
  ys : Ys w0 CS SS h m hs s W
  own : W.ownsRow (w0.heap.size + 1 + 1) 3 1 v l.length (iCells l)
section
variable {w0 W W1 : World} {CS SS : Array Value} {h : MH} {m : ModelD} {hs : SH} {s : StateD} {v v1 : Value} {l k : List Int} {o : Obj}
theorem YJ.below (j : YJ w0 CS SS h m hs s v l W) (hb : Below W.heap.size W W1) : YJ w0 CS SS h m hs s v l W1 := ⟨j.ys.below hb, owns_below j.own hb⟩
theorem YJ.base (j : YJ w0 CS SS h m hs s v l W) : w0.heap.size + 1 + 1 ≤ W.heap.size := lt_of_block j.ys.sx.box
theorem YJ.put0 (j : YJ w0 CS SS h m hs s v l W) (hg : W.grownBy W1 v.ownBlock) (ho : W1.ownsRow (w0.heap.size + 1 + 1) 3 1 v1 (l.length + k.length) (iCells l ++ iCells k)) : YJ w0 CS SS h m hs s v1 (l ++ k) W1 := by
  have hb := j.base
  have hr : ∀ k, v.ownBlock = some k → w0.heap.size + 1 + 1 ≤ k := fun k hk => (j.own.lt k hk).1
  have hB : Below w0.heap.size W W1 := (Below.refl _ _).grown hg (by omega) (fun k hk => by have := hr k hk; omega)
  exact ⟨⟨⟨j.ys.mx.eq, ⟨obj_grown2 j.own j.ys.mx.bx.box (by decide) hg, j.ys.mx.bx.bel.trans hB⟩, j.ys.mx.md.below hB⟩, j.ys.es, ⟨obj_grown2 j.own j.ys.sx.box (by decide) hg, j.ys.sx.bel.trans hB⟩, j.ys.sd.below hB⟩,
    by rw [List.length_append, iCells_app]; exact ho⟩
theorem YJ.put (j : YJ w0 CS SS h m hs s v l W) (hg : (W.alloc o).grownBy W1 v.ownBlock) (ho : W1.ownsRow (w0.heap.size + 1 + 1) 3 1 v1 (l.length + k.length) (iCells l ++ iCells k)) : YJ w0 CS SS h m hs s v1 (l ++ k) W1 := (j.below (ball o)).put0 hg ho
end
def dAloneP (w : World) (L : List Int) (e : Ending) (W : World) : Prop := Below w.heap.size w W ∧ ∃ o c, e = .returned (.slice o L.length c) ∧ Row W.heap.size o 1 (intAt W) L

set_option maxRecDepth 100000 in
set_option maxHeartbeats 8000000 in
theorem dAloneH {h : MH} {m : ModelD} {hs : SH} {s : StateD} (hgm : GM m) (hsa : SArgsB m) (hmay : mayB m s = true) (pids : List Int) (no : Option Addr) (nc : Nat) (w : World) (hd : MD w.heap.size w h m) (hsd : SD w.heap.size w hs s) (hl : Row w.heap.size no 15 (intAt w) pids) :
    Calls Try.prog 12 #[mV h m, sV hs s, .slice no pids.length nc] w (dAloneP w (aloneL m s pids)) := by
  obtain ⟨CS, hCS⟩ : ∃ c, c = mCells h m := ⟨_, rfl⟩
  obtain ⟨SS, hSS⟩ : ∃ c, c = sCells hs s := ⟨_, rfl⟩
  have HX := Lib.hid (Ys.new hd hCS hsd hSS)
  have HDS := Lib.hid (fun (i k : Nat) (p : ProcD) (hp : m.procs[i]? = some p) (l : LocD) (hl : p.locs[k]? = some l) (W : World) (hd : MD W.heap.size W h m) => dSafeH hgm hsa i k p hp l hl W hd)
  have HPL := Lib.hid hl
  have HMAY := Lib.hid hmay
  have hn16 := may_few hmay
  have lp := hl.1
  have l4 := hd.procs.1
  have ls := hsd.procs.1
  obtain ⟨i5, hi5, hy0, hy1, hy2⟩ := held.info_parts held.info_int
  have HI5 := Lib.hid (And.intro hi5 (And.intro hy0 (And.intro hy1 hy2)))
  unfold mV sV
  unfold mV at HDS
  rw [← hCS] at HDS ⊢
  rw [← hSS]
  clear hd hCS hsd hSS hl hgm hsa hmay hi5 hy0 hy1 hy2
  go_enter Try.func12, Try.ntmps12
  go_upto_region 1 with fail
  generalize (w.alloc (.cells CS 29)).alloc (.cells SS 46) = W1 at HX ⊢
  have HJ0 : Hid (YJ w CS SS h m hs s (.slice none 0 0) (aloneT m s pids 0) W1) := Lib.hid ⟨HX.out, World.ownsRow_nil _ _ _ _⟩
  clear HX
  go_wp2_with fail
  go_loopw [7, 8] (fun ov iv W => ∃ (q : Nat) (v : Value), iv = .int .i64 q ∧ v = ov ∧ q ≤ s.procs.length ∧ Hid (YJ w CS SS h m hs s v (aloneT m s pids q) W)) (fun ov iv _ => s.procs.length - (intOf iv).toNat)
  case atStart => exact ⟨0, _, rfl, rfl, by omega, HJ0⟩
  case round =>
    clear HJ0
    obtain ⟨q, v, rfl, rfl, hq, HJ⟩ := hrel
    have hq0 : (0 : Int) ≤ q := by omega
    have s2 : wr.cell? ⟨w.heap.size + 1, 2, none⟩ = some (.slice hs.po s.procs.length hs.pc) := HJ.out.ys.sx.cell (by rw [HJ.out.ys.es]; rfl)
    by_cases hlq : q < s.procs.length
    · have hlqi : (q : Int) < s.procs.length := by omega
      obtain ⟨pr, hpr⟩ : ∃ pr, s.procs[q]? = some pr := ⟨_, List.getElem?_eq_getElem hlq⟩
      obtain ⟨gs, offs, hso, hgs, hat⟩ := HJ.out.ys.sd.procs.get hpr
      obtain ⟨p, l, hpp, hpl, ht0, ht1, hl0, hl1, hsafe⟩ := may_at HMAY.out hpr
      obtain ⟨tn, htn⟩ : ∃ t : Nat, pr.type = t := ⟨pr.type.toNat, by omega⟩
      obtain ⟨ln, hln⟩ : ∃ t : Nat, pr.loc = t := ⟨pr.loc.toNat, by omega⟩
      rw [htn, Int.toNat_natCast] at hpp
      rw [hln, Int.toNat_natCast] at hpl
      have d0 := hat.c0
      have d1 := hat.c1
      rw [htn] at d0
      rw [hln] at d1
      have HPP := Lib.hid hpp
      have HLL := Lib.hid hpl
      have HAB : Hid (aloneB m s pids q = (safeLB m p l && goesB pids q)) := Lib.hid (by unfold aloneB; rw [hsafe])
      rw [hso] at s2
      have m0 := HJ.out.ys.mx.c0
      have m1 := HJ.out.ys.mx.c1
      have m2 := HJ.out.ys.mx.c2
      have m3 := HJ.out.ys.mx.c3
      have m4 := HJ.out.ys.mx.c4
      have m5 := HJ.out.ys.mx.c5
      have m6 := HJ.out.ys.mx.c6
      clear hso hgs hat hpp hpl hsafe htn hln ht0 ht1 hl0 hl1 hpr
      go_wp2_with fail
      go_still_tail 13, (by kernel_rfl)
      change wpList _ _ _ _ _ wr.drew
      have HJ2 := Lib.hid (HJ.out.below (Below.refl _ _).drew)
      generalize wr.drew = W9 at HJ2 ⊢
      have h9 := HDS.out tn ln p HPP.out l HLL.out W9 HJ2.out.ys.mx.here
      rw [HJ2.out.ys.mx.eq] at h9
      unfold mCells at h9
      have HC := Lib.hid h9
      clear m0 m1 m2 m3 m4 m5 m6 d0 d1 s2 h9 HJ
      go_wp2_with fail
      refine HC.out.mono ?_
      rintro e W10 ⟨rfl, hb10⟩
      have HJ3 := Lib.hid (HJ2.out.below hb10)
      clear hb10 HC HJ2
      obtain ⟨z, hz⟩ : ∃ z, safeLB m p l = z := ⟨_, rfl⟩
      rw [hz] at HAB ⊢
      clear hz
      go_wp2_with fail
      have HPW : Hid (Row w.heap.size no 15 (intAt W10) pids) := Lib.hid (HPL.out.mono fun _ _ _ hg => intAt.below HJ3.out.ys.sx.bel hg)
      go_loopw [10, 11] (fun gv kv W => ∃ k : Nat, kv = .int .i64 k ∧ k ≤ pids.length ∧ gv = .bool (goesB (pids.take k) q) ∧ W10 = W) (fun gv kv _ => pids.length - (intOf kv).toNat)
      case atStart => exact ⟨0, rfl, by omega, rfl, rfl⟩
      case round =>
        obtain ⟨k, rfl, hk, rfl, hww⟩ := hrel
        subst hww
        have hk0 : (0 : Int) ≤ k := by omega
        obtain ⟨u, hu⟩ : ∃ u, goesB (pids.take k) q = u := ⟨_, rfl⟩
        rw [hu]
        have HU := Lib.hid hu
        clear hu
        by_cases hlt : k < pids.length
        · have hlti : (k : Int) < pids.length := by omega
          obtain ⟨gn, offn, hno, hgn, hpc⟩ := HPW.out.cell hlt
          obtain ⟨x, hx⟩ : ∃ q, pids[k] = q := ⟨_, rfl⟩
          rw [hx] at hpc
          have c0 : W10.cell? ⟨gn, offn + k * 15, none⟩ = some (.int .i64 x) := hpc
          have HSU : Hid (goesB (pids.take (k + 1)) q = (u || decide (x = (q : Int)))) := Lib.hid (by rw [goesB_succ hlt, HU.out, hx])
          have HS : Hid (∀ n : Nat, Value.slice no n nc = Value.slice (some ⟨gn, offn, none⟩) n nc) := Lib.hid fun n => by rw [hno]
          rw [HS.out]
          clear hno hgn hpc hx
          cases u
          · obtain ⟨y, hy⟩ : ∃ y, (x == (q : Int)) = y := ⟨_, rfl⟩
            have HW : Hid (Value.bool y = Value.bool (goesB (pids.take (k + 1)) q)) := Lib.hid (by rw [HSU.out, ← hy]; rfl)
            go_wp2_with fail
            go_roundw
            case rel => exact ⟨k + 1, by go_num, by omega, HW.out, by first | trivial | rfl⟩
            case measure => simp [intOf]; omega
          · have HW : Hid (Value.bool true = Value.bool (goesB (pids.take (k + 1)) q)) := Lib.hid (by rw [HSU.out]; rfl)
            go_wp2_with fail
            go_roundw
            case rel => exact ⟨k + 1, by go_num, by omega, HW.out, by first | trivial | rfl⟩
            case measure => simp [intOf]; omega
        · have hlti : ¬ (k : Int) < pids.length := by omega
          have HGE : Hid (goesB pids q = u) := Lib.hid (by have h1 := HU.out; rw [List.take_of_length_le (by omega)] at h1; exact h1)
          rw [HGE.out] at HAB
          cases hzu : (z && u)
          · have HNO := Lib.hid (aloneT_no (m := m) (s := s) (pids := pids) (k := q) (by rw [HAB.out, hzu]))
            have HJN : Hid (YJ w CS SS h m hs s v (aloneT m s pids (q + 1)) W10) := Lib.hid (by rw [HNO.out]; exact HJ3.out)
            cases z
            · go_wp2_with fail
              go_roundw
              case rel => exact ⟨q + 1, _, by go_num, rfl, by omega, HJN⟩
              case measure => simp [intOf]; omega
            · cases u
              · go_wp2_with fail
                go_roundw
                case rel => exact ⟨q + 1, _, by go_num, rfl, by omega, HJN⟩
                case measure => simp [intOf]; omega
              · cases hzu
          · have HYE := Lib.hid (aloneT_yes (m := m) (s := s) (pids := pids) (k := q) (by rw [HAB.out, hzu]))
            have hll := Nat.le_trans (aloneT_len m s pids q) hq
            cases z
            · cases hzu
            cases u
            · cases hzu
            clear hzu
            go_wp2_with (at_builtin; refine wpList_append_own _ rfl _ _ 25 rfl (w.heap.size + 1 + 1) 3 i5 (.int .i64 0) 1 8 Try.underlying25 HI5.out.1 HI5.out.2.1 HI5.out.2.2.1 HI5.out.2.2.2 rfl (by decide) v (aloneT m s pids q).length (iCells (aloneT m s pids q)) rfl (HJ3.out.own.alloc _) ⟨W10.heap.size, 0, none⟩ 1 1 (iCells [(q : Int)]) rfl rfl (one_int _ _) (iCells_one [(q : Int)]) (by unfold maxLen; (try simp); omega) (by (try simp); omega) (by simp; have := HJ3.out.base; omega) ?_)
            intro v1 w1 hown hgrow _
            have HJN := Lib.hid (HJ3.out.put hgrow hown)
            rw [← HYE.out] at HJN
            clear hown hgrow hll
            go_wp2_with fail
            go_roundw
            case rel => exact ⟨q + 1, _, by go_num, rfl, by omega, HJN⟩
            case measure => simp [intOf]; omega
    · have hlqi : ¬ (q : Int) < s.procs.length := by omega
      have hqn : q = s.procs.length := by omega
      have hll := Nat.le_trans (aloneT_len m s pids q) hq
      obtain ⟨oR, cR, hv, hrow⟩ := ints_row HJ.out.own (by omega)
      have HV := Lib.hid hv
      have HROW := Lib.hid hrow
      have HFL : Hid (aloneT m s pids q = aloneL m s pids) := Lib.hid (by rw [hqn]; rfl)
      rw [HV.out]
      clear hv hrow hqn hll
      go_wp2_with fail
      go_ret
      refine ⟨HJ.out.ys.sx.bel, oR, cR, ?_, ?_⟩
      · rw [← HFL.out]; rfl
      · rw [← HFL.out]; exact HROW.out
end Go.Proofs.Ytofdfaopabmfoaa
