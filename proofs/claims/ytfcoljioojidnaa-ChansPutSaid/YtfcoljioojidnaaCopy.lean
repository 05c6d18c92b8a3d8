/- A state of one channel, copied. -/
import Derived.Test.YtfcoljioojidnaaQueue
namespace Go.Proofs.Ytfcoljioojidnaa
open Go.ChangeShapes Go.WideShapes Go.ChangeAt Go.RowKit
set_option linter.unusedVariables false
set_option linter.unusedSimpArgs false

theorem info27 : (Try.prog.info? 27).map (fun i => (i.zero, i.size, i.bytes)) = some (some (.agg #[.int .i64 0, .slice none 0 0]), 2, 32) := by kernel_rfl
structure CP (w : World) (r : Int) (gs cs : Nat) (t : SL) (N : List SL) (P : List (List Int)) (W : World) : Prop where
  ba : W.heap[w.heap.size]? = some (.cells #[.slice none 0 0, .slice (some ⟨gs, 0, none⟩) 1 cs, .slice none 0 0, .int .i64 0, .int .i64 0, .int .i64 0] 53 (0, 0))
  br : W.heap[w.heap.size + 1]? = some (.cells #[.slice none 0 0, .slice none 0 0, .slice none 0 0, .int .i64 0, .int .i64 0, .int .i64 0] 53 (0, 0))
  bn : W.heap[w.heap.size + 1 + 1]? = some (.cells #[.slice none 0 0, .slice none 0 0, .slice none 0 0, .int .i64 0, .int .i64 0, .int .i64 0] 53 (0, 0))
  bc : W.heap[w.heap.size + 1 + 1 + 1]? = some (.cells #[.int .i64 r, slV t] 27 (0, 0))
  row : W.ownsRow w.heap.size 29 1 (slV t) P.length (N.map slV)
  len : N.length = P.length
  own : OwnZ W w.heap.size (N.zip P)
  bel : Below w.heap.size w W
theorem CP.below {w W W' : World} {r : Int} {gs cs : Nat} {t : SL} {N : List SL} {P : List (List Int)} (h : CP w r gs cs t N P W) (hb : Below W.heap.size W W') : CP w r gs cs t N P W' :=
  ⟨(hb.block _ (lt_of_block h.ba)).trans h.ba, (hb.block _ (lt_of_block h.br)).trans h.br, (hb.block _ (lt_of_block h.bn)).trans h.bn, (hb.block _ (lt_of_block h.bc)).trans h.bc, owns_below h.row hb, h.len, h.own.mono fun _ _ _ hh => owns_below hh hb, h.bel.trans (hb.mono h.bel.size)⟩
theorem CP.push {w W W' : World} {r : Int} {gs cs : Nat} {t t' u : SL} {N : List SL} {P : List (List Int)} {x : List Int} (h : CP w r gs cs t N P W)
    (ho : W'.ownsRow w.heap.size 29 1 (slV t') (P.length + 1) (N.map slV ++ [slV u])) (hg : W.grownBy W' (slV t).ownBlock) (hu : W.ownsRow w.heap.size 2 1 (slV u) x.length (intsV x)) :
    CP w r gs cs t' (N ++ [u]) (P ++ [x]) (W'.setCell ⟨w.heap.size + 1 + 1 + 1, 1, none⟩ (slV t')) := by
  have ha := obj_grown h.row h.ba (by decide) hg
  have hr := obj_grown h.row h.br (by decide) hg
  have hn := obj_grown h.row h.bn (by decide) hg
  have hc := obj_grown h.row h.bc (by decide) hg
  have hs : ∀ {v0 : Value} {e : TypeId} {n : Nat} {xs : List Value}, e ≠ 27 → W'.ownsRow w.heap.size e 1 v0 n xs → (W'.setCell ⟨w.heap.size + 1 + 1 + 1, 1, none⟩ (slV t')).ownsRow w.heap.size e 1 v0 n xs := fun he hh =>
    owns_set hh _ _ (owns_neObj hh hc he)
  refine ⟨?_, ?_, ?_, ?_, ?_, by simp [h.len], ?_, ?_⟩
  · rw [heap_setCell_other _ _ _ _ (by show w.heap.size ≠ w.heap.size + 1 + 1 + 1; omega)]
    exact ha
  · rw [heap_setCell_other _ _ _ _ (by show w.heap.size + 1 ≠ w.heap.size + 1 + 1 + 1; omega)]
    exact hr
  · rw [heap_setCell_other _ _ _ _ (by show w.heap.size + 1 + 1 ≠ w.heap.size + 1 + 1 + 1; omega)]
    exact hn
  · rw [heap_setCell_same _ _ _ _ _ _ hc]
    rfl
  · rw [List.map_append, List.length_append]
    exact hs (by decide) ho
  · rw [List.zip_append h.len]
    intro p hp
    rcases List.mem_append.1 hp with hp | hp
    · exact hs (by decide) (owns_grown (h.own p hp) h.row (by decide) hg)
    · simp only [List.zip_cons_cons, List.zip_nil_right, List.mem_singleton] at hp
      subst hp
      exact hs (by decide) (owns_grown hu h.row (by decide) hg)
  · exact (h.bel.grown hg h.bel.size (fun k hk => (h.row.lt k hk).1)).setCell (by show w.heap.size ≤ w.heap.size + 1 + 1 + 1; omega) _
theorem CP.start (w : World) (r : Int) (gs cs : Nat) : CP w r gs cs ⟨none, 0, 0⟩ [] [] ((((w.alloc (.cells #[.slice none 0 0, .slice (some ⟨gs, 0, none⟩) 1 cs, .slice none 0 0, .int .i64 0, .int .i64 0, .int .i64 0] 53)).alloc (.cells #[.slice none 0 0, .slice none 0 0, .slice none 0 0, .int .i64 0, .int .i64 0, .int .i64 0] 53)).alloc (.cells #[.slice none 0 0, .slice none 0 0, .slice none 0 0, .int .i64 0, .int .i64 0, .int .i64 0] 53)).alloc (.cells #[.int .i64 r, .slice none 0 0] 27)) := by
  have hb : ∀ (W : World) (o : Obj), Below W.heap.size W (W.alloc o) := fun W o => (Below.refl _ _).alloc (Nat.le_refl _) _
  have h1 := heap_alloc_new w (.cells #[.slice none 0 0, .slice (some ⟨gs, 0, none⟩) 1 cs, .slice none 0 0, .int .i64 0, .int .i64 0, .int .i64 0] 53)
  generalize hA : w.alloc (.cells #[.slice none 0 0, .slice (some ⟨gs, 0, none⟩) 1 cs, .slice none 0 0, .int .i64 0, .int .i64 0, .int .i64 0] 53) = A at h1 ⊢
  have hAs : A.heap.size = w.heap.size + 1 := by rw [← hA]; simp
  have hAb : Below w.heap.size w A := by rw [← hA]; exact hb _ _
  have h2 := heap_alloc_new A (.cells #[.slice none 0 0, .slice none 0 0, .slice none 0 0, .int .i64 0, .int .i64 0, .int .i64 0] 53)
  have hBb := hb A (.cells #[.slice none 0 0, .slice none 0 0, .slice none 0 0, .int .i64 0, .int .i64 0, .int .i64 0] 53)
  generalize hB : A.alloc (.cells #[.slice none 0 0, .slice none 0 0, .slice none 0 0, .int .i64 0, .int .i64 0, .int .i64 0] 53) = B at h2 hBb ⊢
  have hBs : B.heap.size = A.heap.size + 1 := by rw [← hB]; simp
  have h3 := heap_alloc_new B (.cells #[.slice none 0 0, .slice none 0 0, .slice none 0 0, .int .i64 0, .int .i64 0, .int .i64 0] 53)
  have hCb := hb B (.cells #[.slice none 0 0, .slice none 0 0, .slice none 0 0, .int .i64 0, .int .i64 0, .int .i64 0] 53)
  generalize hC : B.alloc (.cells #[.slice none 0 0, .slice none 0 0, .slice none 0 0, .int .i64 0, .int .i64 0, .int .i64 0] 53) = C at h3 hCb ⊢
  have hCs : C.heap.size = B.heap.size + 1 := by rw [← hC]; simp
  have h4 := heap_alloc_new C (.cells #[.int .i64 r, .slice none 0 0] 27)
  have hDb := hb C (.cells #[.int .i64 r, .slice none 0 0] 27)
  rw [hAs] at hBs h2
  rw [hBs] at hCs h3
  rw [hCs] at h4
  refine ⟨?_, ?_, ?_, h4, World.ownsRow_nil _ _ _ _, rfl, (fun p hp => by cases hp), ?_⟩
  · rw [hDb.block _ (by omega), hCb.block _ (by omega), hBb.block _ (by omega)]
    exact h1
  · rw [hDb.block _ (by omega), hCb.block _ (by omega)]
    exact h2
  · rw [hDb.block _ (by omega)]
    exact h3
  · exact ((hAb.trans (hBb.mono (by omega))).trans (hCb.mono (by omega))).trans (hDb.mono (by omega))

structure CF (w : World) (r : Int) (gs cs : Nat) (t : SL) (N : List SL) (P : List (List Int)) (gc cc : Nat) (W : World) : Prop where
  ba : W.heap[w.heap.size]? = some (.cells #[.slice none 0 0, .slice (some ⟨gs, 0, none⟩) 1 cs, .slice none 0 0, .int .i64 0, .int .i64 0, .int .i64 0] 53 (0, 0))
  br : W.heap[w.heap.size + 1]? = some (.cells #[.slice none 0 0, .slice none 0 0, .slice none 0 0, .int .i64 0, .int .i64 0, .int .i64 0] 53 (0, 0))
  bn : W.heap[w.heap.size + 1 + 1]? = some (.cells #[.slice none 0 0, .slice (some ⟨gc, 0, none⟩) 1 cc, .slice none 0 0, .int .i64 0, .int .i64 0, .int .i64 0] 53 (0, 0))
  out : W.ownsRow w.heap.size 27 2 (.slice (some ⟨gc, 0, none⟩) 1 cc) 1 [.int .i64 r, slV t]
  row : W.ownsRow w.heap.size 29 1 (slV t) P.length (N.map slV)
  len : N.length = P.length
  own : OwnZ W w.heap.size (N.zip P)
  bel : Below w.heap.size w W
theorem CP.chan {w W w2 : World} {r : Int} {gs cs gc cc : Nat} {t : SL} {N : List SL} {P : List (List Int)} (h : CP w r gs cs t N P W) (o : Obj)
    (ho : w2.ownsRow w.heap.size 27 2 (.slice (some ⟨gc, 0, none⟩) 1 cc) 1 [.int .i64 r, slV t]) (hg : (W.alloc o).grownBy w2 none) :
    CF w r gs cs t N P gc cc (w2.setCell ⟨w.heap.size + 1 + 1, 1, none⟩ (.slice (some ⟨gc, 0, none⟩) 1 cc)) := by
  have hb : Below W.heap.size W w2 := ((Below.refl _ _).alloc (Nat.le_refl _) o).grown hg (by simp) (fun k hk => by cases hk)
  have h2 := h.below hb
  have hs : ∀ {v0 : Value} {e : TypeId} {n size : Nat} {xs : List Value}, e ≠ 53 → w2.ownsRow w.heap.size e size v0 n xs → (w2.setCell ⟨w.heap.size + 1 + 1, 1, none⟩ (.slice (some ⟨gc, 0, none⟩) 1 cc)).ownsRow w.heap.size e size v0 n xs := fun he hh =>
    owns_set hh _ _ (owns_neObj hh h2.bn he)
  refine ⟨?_, ?_, ?_, hs (by decide) ho, hs (by decide) h2.row, h2.len, h2.own.mono fun _ _ _ hh => hs (by decide) hh, h2.bel.setCell (by show w.heap.size ≤ w.heap.size + 1 + 1; omega) _⟩
  · rw [heap_setCell_other _ _ _ _ (by show w.heap.size ≠ w.heap.size + 1 + 1; omega)]
    exact h2.ba
  · rw [heap_setCell_other _ _ _ _ (by show w.heap.size + 1 ≠ w.heap.size + 1 + 1; omega)]
    exact h2.br
  · rw [heap_setCell_same _ _ _ _ _ _ h2.bn]
    rfl
theorem grown_set {W X : World} {b : Nat} (h : W.grownBy X (some b)) (k : Nat) (v : Value) : W.grownBy (X.setCell ⟨b, k, none⟩ v) (some b) := by
  obtain ⟨h1, h2, h3, h4, h5⟩ := h
  exact ⟨h1, h2, h3, by simpa [World.setCell] using h4, fun i hi hne => (heap_setCell_other _ _ _ _ (by exact fun e => hne (by rw [e]))).trans (h5 i hi hne)⟩
theorem CF.last {w X X' : World} {r : Int} {gs cs gc cc : Nat} {t : SL} {N : List SL} {P : List (List Int)} (h : CF w r gs cs t N P gc cc X) (hg : X.grownBy X' (some (w.heap.size + 1))) :
    X'.cell? ⟨gc, 0, none⟩ = some (.int .i64 r) ∧ X'.cell? ⟨gc, 1, none⟩ = some (slV t) ∧ QB w.heap.size X' t N P ∧ Below w.heap.size w X' := by
  have hs : ∀ {v0 : Value} {e : TypeId} {n size : Nat} {xs : List Value}, e ≠ 53 → X.ownsRow w.heap.size e size v0 n xs → X'.ownsRow w.heap.size e size v0 n xs := fun he hh =>
    hh.kept hg (.inr (owns_neObj hh h.br he))
  have ho := hs (by decide) h.out
  have hz : OwnZ X' w.heap.size (N.zip P) := h.own.mono fun _ _ _ hh => hs (by decide) hh
  refine ⟨(World.ownsRow.cellAt ho 0 (by decide)).trans rfl, (World.ownsRow.cellAt ho 1 (by decide)).trans rfl, .ofOwns h.len (hs (by decide) h.row) (Owns.ofZ hz), ?_⟩
  exact h.bel.grown hg h.bel.size (fun k hk => by cases hk; omega)

set_option maxHeartbeats 4000000 in
set_option maxRecDepth 100000 in
theorem copy18 (r : Int) (s : SL) (L : List SL) (Q : List (List Int)) (gs cs : Nat) (w : World) (h0 : w.cell? ⟨gs, 0, none⟩ = some (.int .i64 r)) (h1 : w.cell? ⟨gs, 1, none⟩ = some (slV s)) (hq : QI w s L Q) (hl : L.length * 24 ≤ 140737488355328) (hl2 : ∀ q ∈ Q, q.length * 8 ≤ 140737488355328) :
    Calls Try.prog 18 #[.agg #[.slice none 0 0, .slice (some ⟨gs, 0, none⟩) 1 cs, .slice none 0 0, .int .i64 0, .int .i64 0, .int .i64 0]] w fun e w' => ∃ t M gc cc, e = .returned (.agg #[.slice none 0 0, .slice (some ⟨gc, 0, none⟩) 1 cc, .slice none 0 0, .int .i64 0, .int .i64 0, .int .i64 0]) ∧ w'.cell? ⟨gc, 0, none⟩ = some (.int .i64 r) ∧ w'.cell? ⟨gc, 1, none⟩ = some (slV t) ∧ QB w.heap.size w' t M Q ∧ Below w.heap.size w w' := by
  have HQ := Lib.hid hq
  have HL2 := Lib.hid hl2
  obtain ⟨so, sn, sc⟩ := s
  obtain rfl : sn = L.length := hq.n
  have HG := Lib.hid (And.intro (lt_of_block' h0) h1)
  have l0 : ∀ o1 o2 o3, (((w.alloc o1).alloc o2).alloc o3).cell? ⟨gs, 0, none⟩ = some (.int .i64 r) := fun o1 o2 o3 => Lib.cell?_alloc_some _ (Lib.cell?_alloc_some _ (Lib.cell?_alloc_some _ h0))
  have l1 : ∀ o1 o2 o3, (((w.alloc o1).alloc o2).alloc o3).cell? ⟨gs, 1, none⟩ = some (.slice so L.length sc) := fun o1 o2 o3 => Lib.cell?_alloc_some _ (Lib.cell?_alloc_some _ (Lib.cell?_alloc_some _ h1))
  clear hq hl2 h0 h1
  obtain ⟨i29, hi29, hz0, hsz, hby⟩ := info_parts info29
  have HI29 := Lib.hid (And.intro hi29 (And.intro hz0 (And.intro hsz hby)))
  clear hi29 hz0 hsz hby
  obtain ⟨i2, hi2, hz0, hsz, hby⟩ := info_parts info2
  have HI2 := Lib.hid (And.intro hi2 (And.intro hz0 (And.intro hsz hby)))
  clear hi2 hz0 hsz hby
  obtain ⟨i27, hi27, hz0, hsz, hby⟩ := info_parts info27
  have HI27 := Lib.hid (And.intro hi27 (And.intro hz0 (And.intro hsz hby)))
  clear hi27 hz0 hsz hby
  go_enter Try.func18, Try.ntmps18
  go_wp2_with fail
  refine wp_loop_rounds 3 ?_
  rw [rounds_succ]
  go_wp2_with fail
  have HST := Lib.hid (CP.start w r gs cs)
  generalize (((w.alloc (.cells #[.slice none 0 0, .slice (some ⟨gs, 0, none⟩) 1 cs, .slice none 0 0, .int .i64 0, .int .i64 0, .int .i64 0] 53)).alloc (.cells #[.slice none 0 0, .slice none 0 0, .slice none 0 0, .int .i64 0, .int .i64 0, .int .i64 0] 53)).alloc (.cells #[.slice none 0 0, .slice none 0 0, .slice none 0 0, .int .i64 0, .int .i64 0, .int .i64 0] 53)).alloc (.cells #[.int .i64 r, .slice none 0 0] 27) = X at HST ⊢
  clear l0 l1
  go_loopw [6] (fun kv wr => ∃ (k : Nat) (to : Option Addr) (tc : Nat) (N : List SL), kv = .int .i64 k ∧ k ≤ L.length ∧ Hid (CP w r gs cs ⟨to, k, tc⟩ N (Q.take k) wr)) (fun k _ => L.length - (intOf k).toNat)
  case atStart => exact ⟨0, none, 0, [], rfl, by omega, by rw [List.take_zero]; exact HST⟩
  case round =>
    obtain ⟨k, to, tc, N, rfl, hk, HI⟩ := hrel
    have hk0 : (0 : Int) ≤ k := by omega
    have a1 : wr.cell? ⟨w.heap.size, 1, none⟩ = some (.slice (some ⟨gs, 0, none⟩) 1 cs) := (cell_of_row _ _ _ _ _ _ HI.out.ba).trans rfl
    have a2 : wr.cell? ⟨gs, 1, none⟩ = some (.slice so L.length sc) := (HI.out.bel.cell HG.out.1).trans HG.out.2
    by_cases hlt : k < L.length
    · have hlti : (k : Int) < L.length := by omega
      have hkq : k < Q.length := by have := HQ.out.len; omega
      obtain ⟨g, off, rfl, hg, hcell⟩ := HQ.out.cell hlt
      obtain ⟨⟨mo, mn, mc⟩, hm⟩ : ∃ s, L[k] = s := ⟨_, rfl⟩
      obtain ⟨x, hx⟩ : ∃ x, Q[k] = x := ⟨_, rfl⟩
      have HMA : Hid (MsgAt w ⟨mo, mn, mc⟩ x) := Lib.hid (hm ▸ hx ▸ HQ.out.msg.2 k hlt hkq)
      have HXL : Hid (x.length * 8 ≤ 140737488355328) := Lib.hid (hx ▸ HL2.out _ (List.getElem_mem hkq))
      have HTK : Hid (Q.take k ++ [x] = Q.take (k + 1)) := Lib.hid (by rw [List.take_succ_eq_append_getElem hkq, hx])
      have HKL : Hid ((Q.take k).length = k) := Lib.hid (by rw [List.length_take]; omega)
      obtain rfl : mn = x.length := HMA.out.1
      have a3 : wr.cell? ⟨g, off + k, none⟩ = some (.slice mo x.length mc) := (HI.out.bel.cell hg).trans (hcell.trans (by rw [hm]; rfl))
      have HS1 : Hid (k + 1 ≤ maxLen) := Lib.hid (by unfold maxLen; omega)
      have HS2 : Hid ((k + 1) * 24 ≤ 140737488355328) := Lib.hid (by omega)
      clear hcell hm hx hg hkq
      cases mo with
      | none =>
        have hx0 : x.length = 0 := by
          rcases HMA.out.2 with h | ⟨_, _, h, _⟩
          · exact h
          · cases h
        obtain rfl := List.eq_nil_of_length_eq_zero hx0
        have a4 : ∀ o, (wr.alloc o).cell? ⟨w.heap.size + 1 + 1 + 1, 1, none⟩ = some (.slice to k tc) := fun o => Lib.cell?_alloc_some _ ((cell_of_row _ _ _ _ _ _ HI.out.bc).trans rfl)
        have a5 : wr.cell? ⟨w.heap.size + 1 + 1 + 1, 1, none⟩ = some (.slice to k tc) := (cell_of_row _ _ _ _ _ _ HI.out.bc).trans rfl
        have HU0 : Hid (wr.ownsRow w.heap.size 2 1 (slV ⟨none, 0, 0⟩) ([] : List Int).length (intsV [])) := Lib.hid (World.ownsRow_nil _ _ _ _)
        have HROW : Hid ((wr.alloc (Obj.cells #[Value.slice none 0 0] 29)).ownsRow w.heap.size 29 1 (.slice to k tc) k (N.map slV)) := Lib.hid (by
          have h := HI.out.row
          rw [HKL.out] at h
          exact h.alloc _)
        have HN := Lib.hid (new_one wr (Value.slice none 0 0) 29 wr.heap.size rfl)
        have HL1 : Hid (∀ v ∈ [Value.slice none 0 0], v.oneCell' = true) := Lib.hid (by simp [Value.oneCell'])
        have HL4 : Hid (w.heap.size ≤ (wr.alloc (Obj.cells #[Value.slice none 0 0] 29)).heap.size) := Lib.hid (by have := HI.out.bel.size; simp; omega)
        go_wp2_with (at_builtin; refine wpList_append_own _ rfl _ _ 25 rfl w.heap.size 29 i29 (.slice none 0 0) 1 24 Try.underlying25 HI29.out.1 HI29.out.2.1 HI29.out.2.2.1 HI29.out.2.2.2 rfl (by decide) _ _ _ rfl HROW.out ⟨wr.heap.size, 0, none⟩ 1 1 [Value.slice none 0 0] rfl rfl HN.out HL1.out HS1.out HS2.out HL4.out ?_)
        intro v2 w2 hown2 hgr2 _
        obtain ⟨o2, cc2, rfl, -⟩ := owns_sl hown2
        have HC2 : Hid (CP w r gs cs ⟨o2, k + 1, cc2⟩ (N ++ [⟨none, 0, 0⟩]) (Q.take (k + 1)) (w2.setCell ⟨w.heap.size + 1 + 1 + 1, 1, none⟩ (.slice o2 (k + 1) cc2))) := Lib.hid (by
          have h := (HI.out.below ((Below.refl _ _).alloc (Nat.le_refl _) (Obj.cells #[Value.slice none 0 0] 29))).push (t' := ⟨o2, k + 1, cc2⟩) (u := ⟨none, 0, 0⟩) (x := []) (by rw [HKL.out]; exact hown2) hgr2 (HU0.out.alloc _)
          rw [HTK.out] at h
          exact h)
        have hbc2 := obj_grown (HROW.out) ((Below.block (Below.alloc (Below.refl wr.heap.size wr) (Nat.le_refl _) (Obj.cells #[Value.slice none 0 0] 29)) _ (lt_of_block HI.out.bc)).trans HI.out.bc) (by decide) hgr2
        have d1 : w2.cell? ⟨w.heap.size + 1 + 1 + 1, 1, none⟩ = some (.slice to k tc) := (cell_of_row _ _ _ _ _ _ hbc2).trans rfl
        have d2 : w2.frozen? ⟨w.heap.size + 1 + 1 + 1, 1, none⟩ = false := frozen_of_row _ _ _ _ _ hbc2
        clear hown2 hgr2 hbc2 a1 a2
        simp only [slV]
        go_wp2_with fail
        go_roundw
        case rel => exact ⟨k + 1, o2, cc2, _, by go_num, by omega, HC2⟩
        case measure => simp [intOf]; omega
      | some a =>
        have hnew : Hid (∀ j u, (intsV x)[j]? = some u → wr.cell? (a.add j) = some u) := Lib.hid (by
          intro j u hj
          rcases HMA.out.2 with h | ⟨g, off, e, hI⟩
          · rw [List.eq_nil_of_length_eq_zero h] at hj; simp [intsV] at hj
          · cases e
            rw [Addr.add_lit]
            have hjl : j < x.length := by
              rcases Nat.lt_or_ge j x.length with h | h
              · exact h
              · rw [List.getElem?_eq_none (by simpa [intsV] using h)] at hj; cases hj
            rw [HI.out.bel.cell hI.1, hI.2 j hjl]
            simpa [intsV, hjl] using hj)
        have HZ1 : Hid (0 + x.length ≤ maxLen) := Lib.hid (by have := HXL.out; unfold maxLen; omega)
        have HZ2 : Hid ((0 + x.length) * 8 ≤ 140737488355328) := Lib.hid (by have := HXL.out; omega)
        have HZ3 : Hid (w.heap.size ≤ wr.heap.size) := Lib.hid HI.out.bel.size
        have HZ4 : Hid ((intsV x).length = x.length * 1) := Lib.hid (by simp [intsV])
        go_wp2_with (at_builtin; refine wpList_append_own _ rfl _ _ 29 rfl w.heap.size 2 i2 (.int .i64 0) 1 8 Try.underlying29 HI2.out.1 HI2.out.2.1 HI2.out.2.2.1 HI2.out.2.2.2 rfl (by decide) _ _ _ rfl (World.ownsRow_nil _ _ _ _) a x.length mc (intsV x) rfl HZ4.out hnew.out (intsV_one x) HZ1.out HZ2.out HZ3.out ?_)
        intro v1 w1 hown1 hgr1 _
        try simp only [Nat.zero_add, List.nil_append] at hown1
        obtain ⟨uo, uc, rfl, -⟩ := owns_sl hown1
        have hb1 : Below wr.heap.size wr w1 := (Below.refl _ _).grown hgr1 (Nat.le_refl _) (by intro k hk; simp [Value.ownBlock] at hk)
        have HC1 := Lib.hid (HI.out.below hb1)
        have HU1 := Lib.hid hown1
        have a4 : ∀ o, (w1.alloc o).cell? ⟨w.heap.size + 1 + 1 + 1, 1, none⟩ = some (.slice to k tc) := fun o => Lib.cell?_alloc_some _ ((cell_of_row _ _ _ _ _ _ HC1.out.bc).trans rfl)
        have a5 : w1.cell? ⟨w.heap.size + 1 + 1 + 1, 1, none⟩ = some (.slice to k tc) := (cell_of_row _ _ _ _ _ _ HC1.out.bc).trans rfl
        clear hown1 hgr1 hb1 a3
        simp only [slV]
        have HROW : Hid ((w1.alloc (Obj.cells #[Value.slice uo x.length uc] 29)).ownsRow w.heap.size 29 1 (.slice to k tc) k (N.map slV)) := Lib.hid (by
          have h := HC1.out.row
          rw [HKL.out] at h
          exact h.alloc _)
        have HN := Lib.hid (new_one w1 (Value.slice uo x.length uc) 29 w1.heap.size rfl)
        have HL1 : Hid (∀ v ∈ [Value.slice uo x.length uc], v.oneCell' = true) := Lib.hid (by simp [Value.oneCell'])
        have HL4 : Hid (w.heap.size ≤ (w1.alloc (Obj.cells #[Value.slice uo x.length uc] 29)).heap.size) := Lib.hid (by have := HC1.out.bel.size; simp; omega)
        go_wp2_with (at_builtin; refine wpList_append_own _ rfl _ _ 25 rfl w.heap.size 29 i29 (.slice none 0 0) 1 24 Try.underlying25 HI29.out.1 HI29.out.2.1 HI29.out.2.2.1 HI29.out.2.2.2 rfl (by decide) _ _ _ rfl HROW.out ⟨w1.heap.size, 0, none⟩ 1 1 [Value.slice uo x.length uc] rfl rfl HN.out HL1.out HS1.out HS2.out HL4.out ?_)
        intro v2 w2 hown2 hgr2 _
        obtain ⟨o2, cc2, rfl, -⟩ := owns_sl hown2
        have HC2 : Hid (CP w r gs cs ⟨o2, k + 1, cc2⟩ (N ++ [⟨uo, x.length, uc⟩]) (Q.take (k + 1)) (w2.setCell ⟨w.heap.size + 1 + 1 + 1, 1, none⟩ (.slice o2 (k + 1) cc2))) := Lib.hid (by
          have h := (HC1.out.below ((Below.refl _ _).alloc (Nat.le_refl _) (Obj.cells #[Value.slice uo x.length uc] 29))).push (t' := ⟨o2, k + 1, cc2⟩) (u := ⟨uo, x.length, uc⟩) (x := x) (by rw [HKL.out]; exact hown2) hgr2 (HU1.out.alloc _)
          rw [HTK.out] at h
          exact h)
        have hbc2 := obj_grown (HROW.out) ((Below.block (Below.alloc (Below.refl w1.heap.size w1) (Nat.le_refl _) (Obj.cells #[Value.slice uo x.length uc] 29)) _ (lt_of_block HC1.out.bc)).trans HC1.out.bc) (by decide) hgr2
        have d1 : w2.cell? ⟨w.heap.size + 1 + 1 + 1, 1, none⟩ = some (.slice to k tc) := (cell_of_row _ _ _ _ _ _ hbc2).trans rfl
        have d2 : w2.frozen? ⟨w.heap.size + 1 + 1 + 1, 1, none⟩ = false := frozen_of_row _ _ _ _ _ hbc2
        clear hown2 hgr2 hbc2 a1 a2
        simp only [slV]
        go_wp2_with fail
        go_roundw
        case rel => exact ⟨k + 1, o2, cc2, _, by go_num, by omega, HC2⟩
        case measure => simp [intOf]; omega
    · have hlti : ¬ (k : Int) < L.length := by omega
      obtain rfl : k = L.length := by omega
      have HTQ : Hid (Q.take L.length = Q) := Lib.hid (List.take_of_length_le (by have := HQ.out.len; omega))
      have b1 : wr.cell? ⟨w.heap.size + 1 + 1, 1, none⟩ = some (.slice none 0 0) := (cell_of_row _ _ _ _ _ _ HI.out.bn).trans rfl
      have b2 : wr.cell? ⟨w.heap.size + 1 + 1 + 1, 0, none⟩ = some (.int .i64 r) := (cell_of_row _ _ _ _ _ _ HI.out.bc).trans rfl
      have b3 : wr.cell? ⟨w.heap.size + 1 + 1 + 1, 1, none⟩ = some (.slice to L.length tc) := (cell_of_row _ _ _ _ _ _ HI.out.bc).trans rfl
      have HN : Hid (∀ j u, [Value.int .i64 r, .slice to L.length tc][j]? = some u → (wr.alloc (Obj.cells #[.int .i64 r, .slice to L.length tc] 27)).cell? ((⟨wr.heap.size, 0, none⟩ : Addr).add j) = some u) := Lib.hid fun j u hu => by
        rw [Addr.add_lit, cell_of_row _ _ _ _ _ _ (heap_alloc_new wr (Obj.cells #[.int .i64 r, .slice to L.length tc] 27))]
        simpa using hu
      have HL1 : Hid (∀ v ∈ [Value.int .i64 r, .slice to L.length tc], v.oneCell' = true) := Lib.hid (by simp [Value.oneCell'])
      have HL4 : Hid (w.heap.size ≤ (wr.alloc (Obj.cells #[.int .i64 r, .slice to L.length tc] 27)).heap.size) := Lib.hid (by have := HI.out.bel.size; simp; omega)
      go_wp2_with (at_builtin; refine wpList_append_own _ rfl _ _ 50 rfl w.heap.size 27 i27 (.agg #[.int .i64 0, .slice none 0 0]) 2 32 Try.underlying50 HI27.out.1 HI27.out.2.1 HI27.out.2.2.1 HI27.out.2.2.2 rfl (by decide) _ _ _ rfl (World.ownsRow_nil _ _ _ _) ⟨wr.heap.size, 0, none⟩ 1 1 [.int .i64 r, .slice to L.length tc] rfl rfl HN.out HL1.out (by decide) (by decide) HL4.out ?_)
      intro v2 w2 hown2 hgr2 _
      obtain ⟨gc, cc, rfl⟩ := Joins.ownsRow_form hown2 (by decide)
      have HCF := Lib.hid (HI.out.chan (gc := gc) (cc := cc) (Obj.cells #[.int .i64 r, .slice to L.length tc] 27) hown2 hgr2)
      rw [HTQ.out] at HCF
      have hbn : Below wr.heap.size wr w2 := ((Below.refl _ _).alloc (Nat.le_refl _) (Obj.cells #[.int .i64 r, .slice to L.length tc] 27)).grown hgr2 (by simp) (fun k hk => by cases hk)
      have hn2 := (hbn.block _ (lt_of_block HI.out.bn)).trans HI.out.bn
      have d1 : w2.cell? ⟨w.heap.size + 1 + 1, 1, none⟩ = some (.slice none 0 0) := (cell_of_row _ _ _ _ _ _ hn2).trans rfl
      have d2 : w2.frozen? ⟨w.heap.size + 1 + 1, 1, none⟩ = false := frozen_of_row _ _ _ _ _ hn2
      have e1 : (w2.setCell ⟨w.heap.size + 1 + 1, 1, none⟩ (.slice (some ⟨gc, 0, none⟩) 1 cc)).cell? ⟨w.heap.size, 1, none⟩ = some (.slice (some ⟨gs, 0, none⟩) 1 cs) := (cell_of_row _ _ _ _ _ _ HCF.out.ba).trans rfl
      clear hown2 hgr2 hbn hn2 a1 a2 b1 b2 b3
      go_wp2_with fail
      clear d1 d2 e1
      generalize w2.setCell ⟨w.heap.size + 1 + 1, 1, none⟩ (.slice (some ⟨gc, 0, none⟩) 1 cc) = X at HCF ⊢
      have a1 : X.cell? ⟨w.heap.size, 1, none⟩ = some (.slice (some ⟨gs, 0, none⟩) 1 cs) := (cell_of_row _ _ _ _ _ _ HCF.out.ba).trans rfl
      have a2 : X.cell? ⟨w.heap.size, 2, none⟩ = some (.slice none 0 0) := (cell_of_row _ _ _ _ _ _ HCF.out.ba).trans rfl
      have n0 : X.cell? ⟨w.heap.size + 1 + 1, 0, none⟩ = some (.slice none 0 0) := (cell_of_row _ _ _ _ _ _ HCF.out.bn).trans rfl
      have n1 : X.cell? ⟨w.heap.size + 1 + 1, 1, none⟩ = some (.slice (some ⟨gc, 0, none⟩) 1 cc) := (cell_of_row _ _ _ _ _ _ HCF.out.bn).trans rfl
      have n2 : X.cell? ⟨w.heap.size + 1 + 1, 2, none⟩ = some (.slice none 0 0) := (cell_of_row _ _ _ _ _ _ HCF.out.bn).trans rfl
      have n3 : X.cell? ⟨w.heap.size + 1 + 1, 3, none⟩ = some (.int .i64 0) := (cell_of_row _ _ _ _ _ _ HCF.out.bn).trans rfl
      have n4 : X.cell? ⟨w.heap.size + 1 + 1, 4, none⟩ = some (.int .i64 0) := (cell_of_row _ _ _ _ _ _ HCF.out.bn).trans rfl
      have n5 : X.cell? ⟨w.heap.size + 1 + 1, 5, none⟩ = some (.int .i64 0) := (cell_of_row _ _ _ _ _ _ HCF.out.bn).trans rfl
      have r0 : X.cell? ⟨w.heap.size + 1, 0, none⟩ = some (.slice none 0 0) := (cell_of_row _ _ _ _ _ _ HCF.out.br).trans rfl
      have r1 : X.cell? ⟨w.heap.size + 1, 1, none⟩ = some (.slice none 0 0) := (cell_of_row _ _ _ _ _ _ HCF.out.br).trans rfl
      have r2 : X.cell? ⟨w.heap.size + 1, 2, none⟩ = some (.slice none 0 0) := (cell_of_row _ _ _ _ _ _ HCF.out.br).trans rfl
      have r3 : X.cell? ⟨w.heap.size + 1, 3, none⟩ = some (.int .i64 0) := (cell_of_row _ _ _ _ _ _ HCF.out.br).trans rfl
      have r4 : X.cell? ⟨w.heap.size + 1, 4, none⟩ = some (.int .i64 0) := (cell_of_row _ _ _ _ _ _ HCF.out.br).trans rfl
      have r5 : X.cell? ⟨w.heap.size + 1, 5, none⟩ = some (.int .i64 0) := (cell_of_row _ _ _ _ _ _ HCF.out.br).trans rfl
      have f0 : X.frozen? ⟨w.heap.size + 1, 0, none⟩ = false := frozen_of_row _ _ _ _ _ HCF.out.br
      have f1 : X.frozen? ⟨w.heap.size + 1, 1, none⟩ = false := frozen_of_row _ _ _ _ _ HCF.out.br
      have f2 : X.frozen? ⟨w.heap.size + 1, 2, none⟩ = false := frozen_of_row _ _ _ _ _ HCF.out.br
      have f3 : X.frozen? ⟨w.heap.size + 1, 3, none⟩ = false := frozen_of_row _ _ _ _ _ HCF.out.br
      have f4 : X.frozen? ⟨w.heap.size + 1, 4, none⟩ = false := frozen_of_row _ _ _ _ _ HCF.out.br
      have f5 : X.frozen? ⟨w.heap.size + 1, 5, none⟩ = false := frozen_of_row _ _ _ _ _ HCF.out.br
      rw [rounds_succ]
      go_wp2_with fail
      refine wp_loop_rounds 2 ?_
      rw [rounds_succ]
      go_wp2_with fail
      refine bodyPost_ret (v := .agg #[.slice none 0 0, .slice (some ⟨gc, 0, none⟩) 1 cc, .slice none 0 0, .int .i64 0, .int .i64 0, .int .i64 0]) (by simp [results, Try.results18, go_sem, r0, r1, r2, r3, r4, r5, f0, f1, f2, f3, f4, f5]) rfl ?_
      have hgx : X.grownBy ((((((X.setCell ⟨w.heap.size + 1, 0, none⟩ (.slice none 0 0)).setCell ⟨w.heap.size + 1, 1, none⟩ (.slice (some ⟨gc, 0, none⟩) 1 cc)).setCell ⟨w.heap.size + 1, 2, none⟩ (.slice none 0 0)).setCell ⟨w.heap.size + 1, 3, none⟩ (.int .i64 0)).setCell ⟨w.heap.size + 1, 4, none⟩ (.int .i64 0)).setCell ⟨w.heap.size + 1, 5, none⟩ (.int .i64 0)) (some (w.heap.size + 1)) :=
        grown_set (grown_set (grown_set (grown_set (grown_set (grown_set (World.grownBy.refl X _) _ _) _ _) _ _) _ _) _ _) _ _
      exact ⟨_, _, gc, cc, rfl, HCF.out.last hgx⟩

set_option maxHeartbeats 4000000 in
set_option maxRecDepth 100000 in
theorem lcopied7 (r : Int) (s : SL) (L : List SL) (Q : List (List Int)) (w : World) (hq : QI w s L Q) (hl : L.length * 24 ≤ 140737488355328) (hl2 : ∀ q ∈ Q, q.length * 8 ≤ 140737488355328) :
    Calls Try.prog 7 #[chV r s] w fun e w' => ∃ t M, e = .returned (chV r t) ∧ QI w' t M Q ∧ Below w.heap.size w w' := by
  have HQ := Lib.hid hq
  have HL2 := Lib.hid hl2
  obtain ⟨so, sn, sc⟩ := s
  obtain rfl : sn = L.length := hq.n
  clear hq hl2
  have T2 := Lib.hid (take_two w (Obj.cells #[.int .i64 r, .slice so L.length sc] 27) (Obj.cells #[.int .i64 0, .slice none 0 0] 27))
  unfold chV slV
  simp only
  go_enter Try.func7, Try.ntmps7
  go_wp2_with fail
  have hWs : ((w.alloc (Obj.cells #[.int .i64 r, .slice so L.length sc] 27)).alloc (Obj.cells #[.int .i64 0, .slice none 0 0] 27)).heap.size = w.heap.size + 1 + 1 := by simp
  generalize (w.alloc (Obj.cells #[.int .i64 r, .slice so L.length sc] 27)).alloc (Obj.cells #[.int .i64 0, .slice none 0 0] 27) = W at T2 hWs ⊢
  have hn := heap_alloc_new W (Obj.cells #[.int .i64 r, .slice so L.length sc] 27)
  have hb0 : Below W.heap.size W (W.alloc (Obj.cells #[.int .i64 r, .slice so L.length sc] 27)) := (Below.refl _ _).alloc (Nat.le_refl _) _
  rw [hWs] at hn
  refine (copy18 r ⟨so, L.length, sc⟩ L Q (w.heap.size + 1 + 1) 1 _ ((cell_of_row _ _ _ _ _ _ hn).trans rfl) ((cell_of_row _ _ _ _ _ _ hn).trans rfl) ((HQ.out.below T2.out.2.2).below hb0) hl HL2.out).mono ?_
  rintro e w1 ⟨⟨t0, tn, tc⟩, M, gc, cc, rfl, h0, h1, hq1, hb1⟩
  have HQ1 := Lib.hid (hq1.low (B' := w.heap.size + 1 + 1) (by have := hb0.size; omega))
  have hB : Below W.heap.size W w1 := hb0.trans (hb1.mono hb0.size)
  have HB := Lib.hid (T2.out.2.2.trans (hB.mono T2.out.2.2.size))
  have hres := (hB.block _ (lt_of_block T2.out.2.1)).trans T2.out.2.1
  have s1 : w1.cell? ⟨w.heap.size + 1, 0, none⟩ = some (.int .i64 0) := (cell_of_row _ _ _ _ _ _ hres).trans rfl
  have s2 : w1.cell? ⟨w.heap.size + 1, 1, none⟩ = some (.slice none 0 0) := (cell_of_row _ _ _ _ _ _ hres).trans rfl
  have s3 : w1.frozen? ⟨w.heap.size + 1, 0, none⟩ = false := frozen_of_row _ _ _ _ _ hres
  have s4 : w1.frozen? ⟨w.heap.size + 1, 1, none⟩ = false := frozen_of_row _ _ _ _ _ hres
  have l0 : ∀ o, (w1.alloc o).cell? ⟨gc, 0, none⟩ = some (.int .i64 r) := fun o => Lib.cell?_alloc_some _ h0
  have l1 : ∀ o, (w1.alloc o).cell? ⟨gc, 1, none⟩ = some (.slice t0 tn tc) := fun o => Lib.cell?_alloc_some _ h1
  have HFIN : Hid (∀ o, (((w1.setCell ⟨w.heap.size + 1, 0, none⟩ (.int .i64 r)).setCell ⟨w.heap.size + 1, 1, none⟩ (.slice t0 tn tc)).alloc o).heap[w.heap.size + 1]? = some (.cells #[.int .i64 r, .slice t0 tn tc] 27 (0, 0))) := Lib.hid fun o => by
    have h := heap_setCell_same _ _ 1 _ _ (.slice t0 tn tc) (heap_setCell_same _ _ 0 _ _ (.int .i64 r) hres)
    exact (Below.block ((Below.refl _ _).alloc (Nat.le_refl _) o) _ (lt_of_block h)).trans h
  have hlt1 : w.heap.size + 1 < w1.heap.size := lt_of_block hres
  have hne1 : ¬ (w.heap.size + 1 = w1.heap.size) := by omega
  clear hn hb0 hq1 hb1 hB hres h0 h1 T2
  go_wp2_with fail
  have q1 : ∀ o, (((w1.setCell ⟨w.heap.size + 1, 0, none⟩ (.int .i64 r)).setCell ⟨w.heap.size + 1, 1, none⟩ (.slice t0 tn tc)).alloc o).cell? ⟨w.heap.size + 1, 0, none⟩ = some (.int .i64 r) := fun o => (cell_of_row _ _ _ _ _ _ (HFIN.out o)).trans rfl
  have q2 : ∀ o, (((w1.setCell ⟨w.heap.size + 1, 0, none⟩ (.int .i64 r)).setCell ⟨w.heap.size + 1, 1, none⟩ (.slice t0 tn tc)).alloc o).cell? ⟨w.heap.size + 1, 1, none⟩ = some (.slice t0 tn tc) := fun o => (cell_of_row _ _ _ _ _ _ (HFIN.out o)).trans rfl
  refine bodyPost_ret (v := .agg #[.int .i64 r, .slice t0 tn tc]) (by simp [results, Try.results7, go_sem, q1, q2]) rfl ?_
  refine ⟨⟨t0, tn, tc⟩, M, rfl, ?_, ?_⟩
  · exact (((HQ1.out.set (by omega) _).set (by omega) _).below ((Below.refl _ _).alloc (Nat.le_refl _) _)).q
  · exact ((HB.out.setCell (by show w.heap.size ≤ w.heap.size + 1; omega) _).setCell (by show w.heap.size ≤ w.heap.size + 1; omega) _).alloc (by simp [World.setCell]; omega) _
end Go.Proofs.Ytfcoljioojidnaa
