/- The document's answer: at which places a process may go alone. -/
import Derived.Test.YtofdfaopabmfoaaM34
import Derived.Test.YtofdfaopabmfoaaM37
import Derived.Test.YtofdfaopabmfoaaM31
import Derived.Test.YtofdfaopabmfoaaM26
namespace Go.Proofs.Ytofdfaopabmfoaa
open Go.ChangeShapes Go.WideShapes Go.ChangeAt Go.RowKit
set_option linter.unusedVariables false
set_option linter.unusedSimpArgs false

/-- No statement has too many arguments for a machine. -/
def SArgsB (m : ModelD) : Prop := ∀ p ∈ m.procs, ∀ l ∈ p.locs, ∀ t ∈ l.out, t.s.args.length ≤ 17592186044416
/-- The boxes of a model, a proctype and a place. -/
structure Pl3 (w : World) (CS PS LS : Array Value) (h : MH) (m : ModelD) (W : World) : Prop where
  mx : Mx w w.heap.size CS h m W
  pb : Bq w (w.heap.size + 1) PS 40 W
  lb : Bq w (w.heap.size + 1 + 1) LS 67 W
theorem Pl3.below {w W W' : World} {CS PS LS : Array Value} {h : MH} {m : ModelD} (k : Pl3 w CS PS LS h m W) (hb : Below W.heap.size W W') : Pl3 w CS PS LS h m W' := ⟨k.mx.below hb, k.pb.below hb, k.lb.below hb⟩
theorem Pl3.new {w : World} {CS PS LS : Array Value} {h : MH} {m : ModelD} (hd : MD w.heap.size w h m) (hC : CS = mCells h m) : Pl3 w CS PS LS h m (((w.alloc (.cells CS 29)).alloc (.cells PS 40)).alloc (.cells LS 67)) :=
  ⟨((Mx.new hd hC).below (ball _)).below (ball _), (Bq.below ⟨new_at (by simp), (Mx.new hd hC).bx.bel.alloc (by simp) _⟩ (ball _)), ⟨new_at (by simp), ((Mx.new hd hC).bx.bel.alloc (by simp) _).alloc (by simp; omega) _⟩⟩
/-- A place's cells. -/
structure LC7 (W : World) (g a : Nat) (l : LocD) (oo eo : Option Addr) (oc ec : Nat) : Prop where
  c0 : W.cell? ⟨g, a, none⟩ = some (.slice oo l.out.length oc)
  c1 : W.cell? ⟨g, a + 1, none⟩ = some (.slice eo l.esc.length ec)
  c2 : W.cell? ⟨g, a + 2, none⟩ = some (.bool l.atomic)
  c3 : W.cell? ⟨g, a + 3, none⟩ = some (.bool l.dstep)
  c4 : W.cell? ⟨g, a + 4, none⟩ = some (.bool l.fin)
  c5 : W.cell? ⟨g, a + 5, none⟩ = some (.bool l.accept)
  c6 : W.cell? ⟨g, a + 6, none⟩ = some (.bool l.progress)
theorem locAt.lc7 {B g a : Nat} {w : World} {l : LocD} (h : locAt B w g a l) : ∃ oo eo oc ec, LC7 w g a l oo eo oc ec ∧ Row B oo 9 (transAt B w) l.out ∧ Row B eo 1 (escAt B w) l.esc := by
  obtain ⟨oo, oc, c0, hO⟩ := h.out
  obtain ⟨eo, ec, c1, hE⟩ := h.esc
  exact ⟨oo, eo, oc, ec, ⟨c0, c1, h.c2, h.c3, h.c4, h.c5, h.c6⟩, hO, hE⟩
theorem LC7.below {B g a : Nat} {w W : World} {l : LocD} {oo eo : Option Addr} {oc ec : Nat} (h : LC7 w g a l oo eo oc ec) (hg : g < B) (hb : Below B w W) : LC7 W g a l oo eo oc ec :=
  ⟨(hb.cell hg).trans h.c0, (hb.cell hg).trans h.c1, (hb.cell hg).trans h.c2, (hb.cell hg).trans h.c3, (hb.cell hg).trans h.c4, (hb.cell hg).trans h.c5, (hb.cell hg).trans h.c6⟩

set_option maxRecDepth 100000 in
set_option maxHeartbeats 8000000 in
theorem dSafeH {h : MH} {m : ModelD} (hgm : GM m) (hsa : SArgsB m) (i k : Nat) (p : ProcD) (hp : m.procs[i]? = some p) (l : LocD) (hl : p.locs[k]? = some l) (w : World) (hd : MD w.heap.size w h m) :
    Calls Try.prog 9 #[mV h m, .int .i64 i, .int .i64 k] w fun e w' => e = .returned (.bool (safeLB m p l)) ∧ Below w.heap.size w w' := by
  obtain ⟨CS, hCS⟩ : ∃ c, c = mCells h m := ⟨_, rfl⟩
  have hi := (List.getElem?_eq_some_iff.1 hp).1
  have hii : (i : Int) < m.procs.length := by omega
  have hi0 : (0 : Int) ≤ i := by omega
  have hk := (List.getElem?_eq_some_iff.1 hl).1
  have hki : (k : Int) < p.locs.length := by omega
  have hk0 : (0 : Int) ≤ k := by omega
  have hlm : l ∈ p.locs := List.mem_of_getElem? hl
  have HST := Lib.hid (fun (t : TransD) (ht : t ∈ l.out) => hgm.stmt hp hlm ht)
  have HTO := Lib.hid (fun (t : TransD) (ht : t ∈ l.out) => hgm.to hp hlm ht)
  have HSA := Lib.hid (fun (t : TransD) (ht : t ∈ l.out) => hsa p (List.mem_of_getElem? hp) l hlm t ht)
  have HESC := Lib.hid (fun (x : LocD) (hx : x ∈ p.locs) => hgm.esc hp hx)
  have HEX := Lib.hid hgm.ex
  have l4 := hd.procs.1
  obtain ⟨g, off, ho, hg, he⟩ := hd.procs.get hp
  have HX0 := Lib.hid (Mx.new hd hCS)
  have c4 := HX0.out.c4
  rw [ho] at c4
  obtain ⟨fo, fc, io, ic, lo, lc, hpc0, -, -, hrl⟩ := he.pcH
  have hpc := hpc0.below hg (ball (.cells CS 29))
  have e0 := hpc.c0
  have e1 := hpc.c1
  have e2 := hpc.c2
  have e3 := hpc.c3
  have e4 := hpc.c4
  have e5 := hpc.c5
  have e6 := hpc.c6
  have e7 := hpc.c7
  have e8 := hpc.c8
  have e9 := hpc.c9
  have ll := hrl.1
  obtain ⟨gl, offl, rfl, hgl, hallL⟩ := hrl.every (by omega)
  have hatl : locAt w.heap.size w gl (offl + k * 7) l := by
    have := hallL k hk
    have e : p.locs[k] = l := by rw [List.getElem?_eq_getElem hk] at hl; injection hl
    rw [e] at this; exact this
  have HLOCS : Hid (∀ W, Below w.heap.size w W → ∀ (j : Nat) (x : LocD), p.locs[j]? = some x → locAt w.heap.size W gl (offl + j * 7) x) := Lib.hid fun W hb j x hx => by
    obtain ⟨hj, rfl⟩ := List.getElem?_eq_some_iff.1 hx
    exact (hallL j hj).below hb hgl
  obtain ⟨oo, eo, oc, ec, hl7, hrO, hrE⟩ := hatl.lc7
  have hb2 : Below w.heap.size w ((w.alloc (.cells CS 29)).alloc (.cells (pCells p fo io (some ⟨gl, offl, none⟩) fc ic lc) 40)) := (ball _).alloc (by simp) _
  have hl72 := hl7.below hgl hb2
  unfold pCells at hl72
  have a0 := hl72.c0
  have a1 := hl72.c1
  have a2 := hl72.c2
  have a3 := hl72.c3
  have a4 := hl72.c4
  have a5 := hl72.c5
  have a6 := hl72.c6
  have HO := Lib.hid hrO
  have lo' := hrO.1
  have le' := hrE.1
  have HX := Lib.hid (Pl3.new (PS := pCells p fo io (some ⟨gl, offl, none⟩) fc ic lc) (LS := lCells l oo eo oc ec) hd hCS)
  have HH := Lib.hid (head_is4 p l)
  have HNO := Lib.hid (safe_head (m := m) (p := p) (l := l))
  have HYES := Lib.hid (safe_body (m := m) (p := p) (l := l))
  unfold pCells lCells at HX
  have HGB : Hid (gl < w.heap.size) := Lib.hid hgl
  have HMV : Hid (mV h m = .agg CS) := Lib.hid (by rw [hCS]; rfl)
  rw [HMV.out]
  clear hrl hallL hatl hd hCS hl7 hl72 hb2 hgl hlm hl hp hgm hsa HX0 hpc hpc0 he ho hrO hrE
  go_enter Try.func9, Try.ntmps9
  go_upto_region 3 with fail
  generalize ((w.alloc (.cells CS 29)).alloc (.cells #[.string p.name, .int .i64 p.params, .slice fo p.frame.length fc, .slice io p.init.length ic, .slice (some ⟨gl, offl, none⟩) p.locs.length lc, .int .i64 p.start, .int .i64 p.final, .int .i64 p.active, .int .i64 p.prio, .int .i64 p.provided] 40)).alloc (.cells #[.slice oo l.out.length oc, .slice eo l.esc.length ec, .bool l.atomic, .bool l.dstep, .bool l.fin, .bool l.accept, .bool l.progress] 67) = W1 at HX ⊢
  clear e0 e1 e2 e3 e4 e5 e6 e7 e8 e9 a0 a1 a2 a3 a4 a5 a6 c4 hg
  obtain ⟨PS, hPS⟩ : ∃ c, c = pCells p fo io (some ⟨gl, offl, none⟩) fc ic lc := ⟨_, rfl⟩
  obtain ⟨LS, hLS⟩ : ∃ c, c = lCells l oo eo oc ec := ⟨_, rfl⟩
  have HX1 : Hid (Pl3 w CS PS LS h m W1) := Lib.hid (by rw [hPS, hLS]; exact HX.out)
  have HP4 : Hid (∀ W, Pl3 w CS PS LS h m W → W.cell? ⟨w.heap.size + 1, 4, none⟩ = some (.slice (some ⟨gl, offl, none⟩) p.locs.length lc)) := Lib.hid fun W k => k.pb.cell (by rw [hPS]; rfl)
  have HP9 : Hid (∀ W, Pl3 w CS PS LS h m W → W.cell? ⟨w.heap.size + 1, 9, none⟩ = some (.int .i64 p.provided)) := Lib.hid fun W k => k.pb.cell (by rw [hPS]; rfl)
  have HL0 : Hid (∀ W, Pl3 w CS PS LS h m W → W.cell? ⟨w.heap.size + 1 + 1, 0, none⟩ = some (.slice oo l.out.length oc)) := Lib.hid fun W k => k.lb.cell (by rw [hLS]; rfl)
  have HL1 : Hid (∀ W, Pl3 w CS PS LS h m W → W.cell? ⟨w.heap.size + 1 + 1, 1, none⟩ = some (.slice eo l.esc.length ec)) := Lib.hid fun W k => k.lb.cell (by rw [hLS]; rfl)
  have HMK := Lib.hid (fun W => dMarkedH l oo eo oc ec W)
  have HLI := Lib.hid (lo_info l oo eo oc ec hLS)
  rw [← hLS] at HMK
  clear HX hPS hLS
  go_wp2_with (refine wpList_load_row rfl _ _ rfl _ rfl _ LS _ _ HX1.out.lb.box Try.underlying67 rfl HLI.out ?_)
  refine (HMK.out W1).mono ?_
  rintro e W2 ⟨rfl, hb2⟩
  have HX2 := Lib.hid (HX1.out.below hb2)
  clear hb2 HX1 HMK
  have f0 := HL0.out _ HX2.out
  have f1 := HL1.out _ HX2.out
  have f9 := HP9.out _ HX2.out
  obtain ⟨u, hu⟩ : ∃ u, markB l = u := ⟨_, rfl⟩
  rw [hu] at HH ⊢
  clear hu
  cases u
  rotate_left
  · have HZ := Lib.hid (HNO.out (by rw [HH.out]; simp))
    go_wp2_with fail
    go_ret
    exact ⟨retB HZ.out.symm, HX2.out.lb.bel⟩
  by_cases h0 : l.out.length = 0
  · have hb : ((l.out.length : Int) == 0) = true := by rw [beq_iff_eq]; omega
    have HZ := Lib.hid (HNO.out (by rw [HH.out, decide_eq_false (by omega)]; rfl))
    clear h0
    go_wp2_with fail
    go_ret
    exact ⟨retB HZ.out.symm, HX2.out.lb.bel⟩
  have hb0 : ((l.out.length : Int) == 0) = false := by rw [beq_eq_false_iff_ne]; omega
  by_cases h1 : 0 < l.esc.length
  · have h1i : (0 : Int) < l.esc.length := by omega
    have HZ := Lib.hid (HNO.out (by rw [HH.out, decide_eq_false (p := l.esc.length = 0) (by omega)]; simp))
    go_wp2_with fail
    go_ret
    exact ⟨retB HZ.out.symm, HX2.out.lb.bel⟩
  have h1i : ¬ (0 : Int) < l.esc.length := by omega
  by_cases hp0 : 0 ≤ p.provided
  · have HZ := Lib.hid (HNO.out (by rw [HH.out, decide_eq_false (p := p.provided < 0) (by omega)]; simp))
    go_wp2_with fail
    go_ret
    exact ⟨retB HZ.out.symm, HX2.out.lb.bel⟩
  have HZ0 := Lib.hid (HYES.out (by rw [HH.out, decide_eq_true (by omega), decide_eq_true (by omega), decide_eq_true (by omega)]; rfl))
  have hpn : ¬ 0 ≤ p.provided := hp0
  have h1n : ¬ 0 < l.esc.length := h1
  clear hp0 HNO HYES HH h1 h0
  go_wp2_with fail
  clear f0 f1 f9 hpn h1n h1i hb0
  go_loopw [10] (fun iv W => ∃ j : Nat, iv = .int .i64 j ∧ j ≤ l.out.length ∧ Hid (∀ i (hi : i < l.out.length), i < j → outB m p l.out[i] = true) ∧ Hid (Pl3 w CS PS LS h m W)) (fun iv _ => l.out.length - (intOf iv).toNat)
  case atStart => exact ⟨0, rfl, by omega, Lib.hid fun j _ h => by omega, HX2⟩
  case round =>
    clear HX2
    obtain ⟨j, rfl, hj, HJ, HX⟩ := hrel
    have hj0 : (0 : Int) ≤ j := by omega
    have f0 := HL0.out _ HX.out
    by_cases hlt : j < l.out.length
    · have hlti : (j : Int) < l.out.length := by omega
      obtain ⟨gt, offt, hto, hgt, htr⟩ := HO.out.cell hlt
      obtain ⟨t, ht⟩ : ∃ t, l.out[j] = t := ⟨_, rfl⟩
      rw [ht] at htr
      have htm : t ∈ l.out := by rw [← ht]; exact List.getElem_mem hlt
      have HSB := Lib.hid (HST.out t htm)
      have HSM := Lib.hid (HSA.out t htm)
      have htb := HTO.out t htm
      obtain ⟨n, hn⟩ : ∃ n : Nat, t.to = n := ⟨t.to.toNat, by omega⟩
      have hnl : n < p.locs.length := by omega
      obtain ⟨x, hx⟩ : ∃ x, p.locs[n]? = some x := ⟨_, List.getElem?_eq_getElem hnl⟩
      have HOUT : Hid (outB m p t = (ownS m t.s && toLB m x)) := Lib.hid (by unfold outB; rw [hn, Int.toNat_natCast, hx])
      have HTL : Hid (toLB m x = (!markB x && !(meetsB m && recvLB x))) := Lib.hid rfl
      have HXL := Lib.hid (fun W hb => HLOCS.out W hb n x hx)
      have HX8 := Lib.hid (HESC.out x (List.mem_of_getElem? hx))
      have HTT : Hid (∀ W, Below w.heap.size w W → transAt w.heap.size W gt (offt + j * 9) t) := Lib.hid fun W hb => htr.below hb hgt
      have HBAD : Hid (outB m p t = false → safeLB m p l = false) := Lib.hid fun h => by rw [HZ0.out]; exact all_bad hlt (by rw [ht]; exact h)
      have HGO : Hid (outB m p t = true → ∀ i (hi : i < l.out.length), i < j + 1 → outB m p l.out[i] = true) := Lib.hid fun h i hi hij => by
        by_cases e : i = j
        · subst e; rw [ht]; exact h
        · exact HJ.out i hi (by omega)
      have hn0 : (0 : Int) ≤ n := by omega
      have hnli : (n : Int) < p.locs.length := by omega
      have HNE := Lib.hid hn
      have HF0 : Hid (∀ W, Pl3 w CS PS LS h m W → W.cell? ⟨w.heap.size + 1 + 1, 0, none⟩ = some (.slice (some ⟨gt, offt, none⟩) l.out.length oc)) := Lib.hid fun W k => by rw [← hto]; exact HL0.out W k
      have HS : Hid (∀ n : Nat, Value.slice oo n oc = Value.slice (some ⟨gt, offt, none⟩) n oc) := Lib.hid fun n => by rw [hto]
      have HGT : Hid (gt < w.heap.size) := Lib.hid hgt
      rw [HS.out]
      clear f0 hto hgt htr ht htm htb hn hx HJ
      have f0 := HF0.out _ HX.out
      have hta := HTT.out _ HX.out.mx.bx.bel
      obtain ⟨ao, ac, y4, hra⟩ := hta.s.args
      obtain ⟨mo, mc, y5, -⟩ := hta.s.mat
      have y0 := hta.s.c0
      have y1 := hta.s.c1
      have y2 := hta.s.c2
      have y3 := hta.s.c3
      have y6 := hta.s.c6
      have HRA := Lib.hid hra
      have m0 := HX.out.mx.c0
      have m1 := HX.out.mx.c1
      have m2 := HX.out.mx.c2
      have m3 := HX.out.mx.c3
      have m4 := HX.out.mx.c4
      have m5 := HX.out.mx.c5
      have m6 := HX.out.mx.c6
      clear hta hra
      go_wp2_with fail
      go_still_tail 7, (by kernel_rfl)
      change wpList _ _ _ _ _ wr.drew
      have HXD := Lib.hid (HX.out.below (Below.refl _ _).drew)
      have HRD : Hid (Row wr.drew.heap.size ao 1 (intAt wr.drew) t.s.args) := Lib.hid ((HRA.out.mono fun _ _ _ hg => intAt.below ((Below.refl _ _).drew) hg).up HX.out.mx.bx.bel.size)
      generalize wr.drew = W9 at HXD HRD ⊢
      have h9 := dStatementH HEX.out t.s HSB.out HSM.out ao mo ac mc W9 HXD.out.mx.here HRD.out
      rw [HMV.out, HXD.out.mx.eq] at h9
      unfold mCells stCells at h9
      have HC := Lib.hid h9
      clear m0 m1 m2 m3 m4 m5 m6 y0 y1 y2 y3 y4 y5 y6 f0 h9 HX HRD
      go_wp2_with fail
      refine HC.out.mono ?_
      rintro e W10 ⟨rfl, hb10⟩
      have HX10 := Lib.hid (HXD.out.below hb10)
      clear hb10 HC HXD
      obtain ⟨u1, hu1⟩ : ∃ u, ownS m t.s = u := ⟨_, rfl⟩
      rw [hu1] at HOUT ⊢
      clear hu1
      have hxa := HXL.out _ HX10.out.mx.bx.bel
      obtain ⟨xo, xe, xoc, xec, x7, hxo, hxe⟩ := hxa.lc7
      have x0 := x7.c0
      have x1 := x7.c1
      have x2 := x7.c2
      have x3 := x7.c3
      have x4 := x7.c4
      have x5 := x7.c5
      have x6 := x7.c6
      have p4 := HP4.out _ HX10.out
      have f0 := HF0.out _ HX10.out
      have c7 := (HTT.out _ HX10.out.mx.bx.bel).c7
      rw [HNE.out] at c7
      have lxo := hxo.1
      have lxe := hxe.1
      clear hxa x7
      have HMK := Lib.hid (fun W => dMarkedH x xo xe xoc xec W)
      unfold lCells at HMK
      clear hxo hxe
      go_wp2_with fail
      go_still_tail 10, (by kernel_rfl)
      change wpList _ _ _ _ _ W10.drew
      have HX11 := Lib.hid (HX10.out.below (Below.refl _ _).drew)
      generalize W10.drew = W11 at HX11 ⊢
      clear x0 x1 x2 x3 x4 x5 x6 p4 f0 c7 lxo lxe HX10
      go_wp2_with fail
      refine (HMK.out W11).mono ?_
      rintro e W12 ⟨rfl, hb12⟩
      have HX12 := Lib.hid (HX11.out.below hb12)
      clear hb12 HX11 HMK
      obtain ⟨u2, hu2⟩ : ∃ u, markB x = u := ⟨_, rfl⟩
      rw [hu2] at HTL ⊢
      clear hu2
      have hxa := HXL.out _ HX12.out.mx.bx.bel
      obtain ⟨xo, xe, xoc, xec, x7, hxo, hxe⟩ := hxa.lc7
      have x0 := x7.c0
      have x1 := x7.c1
      have x2 := x7.c2
      have x3 := x7.c3
      have x4 := x7.c4
      have x5 := x7.c5
      have x6 := x7.c6
      have p4 := HP4.out _ HX12.out
      have f0 := HF0.out _ HX12.out
      have c7 := (HTT.out _ HX12.out.mx.bx.bel).c7
      rw [HNE.out] at c7
      have lxo := hxo.1
      have lxe := hxe.1
      have m0 := HX12.out.mx.c0
      have m1 := HX12.out.mx.c1
      have m2 := HX12.out.mx.c2
      have m3 := HX12.out.mx.c3
      have m4 := HX12.out.mx.c4
      have m5 := HX12.out.mx.c5
      have m6 := HX12.out.mx.c6
      have HXO := Lib.hid hxo
      have HXE := Lib.hid hxe
      clear hxa x7 hxo hxe
      go_wp2_with fail
      go_still_tail 11, (by kernel_rfl)
      change wpList _ _ _ _ _ W12.drew
      have HX13 := Lib.hid (HX12.out.below (Below.refl _ _).drew)
      have HRO : Hid (Row W12.drew.heap.size xo 9 (transAt W12.drew.heap.size W12.drew) x.out) := Lib.hid ((HXO.out.lift' HX12.out.mx.bx.bel.size (fun _ _ _ hg h => transAt.below ((Below.refl _ _).drew) (Nat.lt_of_lt_of_le hg HX12.out.mx.bx.bel.size) (h.lift HX12.out.mx.bx.bel.size))))
      have HRE : Hid (Row W12.drew.heap.size xe 1 (escAt W12.drew.heap.size W12.drew) x.esc) := Lib.hid ((HXE.out.lift' HX12.out.mx.bx.bel.size (fun _ _ _ hg h => escAt.below ((Below.refl _ _).drew) (Nat.lt_of_lt_of_le hg HX12.out.mx.bx.bel.size) (escAt.lift HX12.out.mx.bx.bel.size h))))
      generalize W12.drew = W13 at HX13 HRO HRE ⊢
      have h9 := dReceivesH x xo xe xoc xec W13 HX13.out.mx.here HRO.out HRE.out HX8.out
      rw [HMV.out, HX13.out.mx.eq] at h9
      unfold mCells lCells at h9
      have HC := Lib.hid h9
      clear m0 m1 m2 m3 m4 m5 m6 x0 x1 x2 x3 x4 x5 x6 p4 f0 c7 lxo lxe HX12 h9 HXO HXE HRO HRE
      go_wp2_with fail
      refine HC.out.mono ?_
      rintro e W14 ⟨rfl, hb14⟩
      have HX14 := Lib.hid (HX13.out.below hb14)
      clear hb14 HX13 HC
      obtain ⟨u3, hu3⟩ : ∃ u, (meetsB m && recvLB x) = u := ⟨_, rfl⟩
      rw [hu3] at HTL ⊢
      clear hu3
      rw [HTL.out] at HOUT
      cases hf : (u1 && (!u2 && !u3))
      · have HZ := Lib.hid (HBAD.out (by rw [HOUT.out, hf]))
        cases u1
        · go_wp2_with fail
          go_ret
          exact ⟨retB HZ.out.symm, HX14.out.lb.bel⟩
        cases u2
        · cases u3
          · cases hf
          · go_wp2_with fail
            go_ret
            exact ⟨retB HZ.out.symm, HX14.out.lb.bel⟩
        · go_wp2_with fail
          go_ret
          exact ⟨retB HZ.out.symm, HX14.out.lb.bel⟩
      · have HZ := Lib.hid (HGO.out (by rw [HOUT.out, hf]))
        cases u1
        · cases hf
        cases u2
        rotate_left
        · cases hf
        cases u3
        rotate_left
        · cases hf
        go_wp2_with fail
        go_roundw
        case rel => exact ⟨j + 1, by go_num, by omega, HZ, HX14⟩
        case measure => simp [intOf]; omega
    · have hlti : ¬ (j : Int) < l.out.length := by omega
      have HZ : Hid (safeLB m p l = true) := Lib.hid (by rw [HZ0.out]; exact all_of fun i hi => HJ.out i hi (by omega))
      go_wp2_with fail
      go_ret
      exact ⟨retB HZ.out.symm, HX.out.lb.bel⟩
end Go.Proofs.Ytofdfaopabmfoaa
