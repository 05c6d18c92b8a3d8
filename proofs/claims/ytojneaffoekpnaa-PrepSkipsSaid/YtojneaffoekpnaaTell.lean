/- What comes of a row is told. -/
import Derived.Test.YtojneaffoekpnaaUses
import Derived.Deep.RegionLaw
namespace Go.Proofs.Ytojneaffoekpnaa
open Go.ChangeShapes Go.WideShapes Go.ChangeAt Go.RowKit
set_option linter.unusedVariables false
set_option linter.unusedSimpArgs false

theorem StU.base {w W w' : World} {b r : Nat} {fl : Bool} {mo : Dic} {tv v : Value} {m : Int} {acc : List TK} (h : StU W w' b r fl mo tv m v acc) (hb : Below w.heap.size w W) : StU w w' b r fl mo tv m v acc := by
  refine ⟨h.own.mono hb.size, ⟨h.off.os.trans hb.os, h.off.tape.trans hb.tape, h.off.output.trans hb.output, Nat.le_trans hb.size h.off.size, fun k hk hne => ?_⟩, h.usr⟩
  exact (h.off.block k (Nat.lt_of_lt_of_le hk hb.size) hne).trans (hb.block k hk)

/-- What is known of a row that is done. -/
def DoneP (w : World) (b r : Nat) (fl : Bool) (mo : Dic) (tv : Value) (us : List TK) (e : Ending) (w' : World) : Prop :=
  ∃ v m, e = .returned v ∧ StU w w' b r fl mo tv m v us ∧ (us.length = 0 → v = .slice none 0 0)

theorem whole_enter (b g off n cap : Nat) (w : World) (R : Ending → World → Prop)
    (h : ∀ W, Below w.heap.size w W → W.cell? ⟨w.heap.size, 0, none⟩ = some (.pointer (some ⟨b, 0, none⟩)) → W.cell? ⟨w.heap.size + 1, 0, none⟩ = some (.func (.func 30) #[] #[.pointer (some ⟨w.heap.size, 0, none⟩), .pointer (some ⟨w.heap.size + 1, 0, none⟩)]) →
      Calls Try.prog 30 #[.slice (some ⟨g, off, none⟩) n cap, .int .i64 0, .pointer (some ⟨w.heap.size, 0, none⟩), .pointer (some ⟨w.heap.size + 1, 0, none⟩)] W fun e w' => (∃ v, e = .returned v) ∧ R e w') :
    Calls Try.prog 25 #[.pointer (some ⟨b, 0, none⟩), .slice (some ⟨g, off, none⟩) n cap] w R := by
  have hmf : ∀ (fn : Fn) (first cap : Array Value) (w : World), (Instr.makeFunc fn first cap).run Try.prog w = .ok (.func fn first cap) w := fun _ _ _ _ => rfl
  have HH := Lib.hid h
  clear h
  go_enter Try.func25, Try.ntmps25
  go_wp2_with fail
  obtain ⟨W, hW⟩ : ∃ W, (w.alloc (.cells #[.pointer (some ⟨b, 0, none⟩)] 37)).alloc (.cells #[.func (.func 30) #[] #[.pointer (some ⟨w.heap.size, 0, none⟩), .pointer (some ⟨w.heap.size + 1, 0, none⟩)]] 68) = W := ⟨_, rfl⟩
  have hB : Below w.heap.size w W := by rw [← hW]; exact ((Below.refl _ _).alloc (Nat.le_refl _) _).alloc (by simp) _
  have hp : W.cell? ⟨w.heap.size, 0, none⟩ = some (.pointer (some ⟨b, 0, none⟩)) := by
    rw [← hW]
    refine (World.cell?_alloc_past _ _ _ (by simp)).trans ?_
    exact (cell_of_row _ _ _ _ _ _ (heap_alloc_new _ _)).trans rfl
  have hq : W.cell? ⟨w.heap.size + 1, 0, none⟩ = some (.func (.func 30) #[] #[.pointer (some ⟨w.heap.size, 0, none⟩), .pointer (some ⟨w.heap.size + 1, 0, none⟩)]) := by
    have h := heap_alloc_new (w.alloc (.cells #[.pointer (some ⟨b, 0, none⟩)] 37)) (.cells #[.func (.func 30) #[] #[.pointer (some ⟨w.heap.size, 0, none⟩), .pointer (some ⟨w.heap.size + 1, 0, none⟩)]] 68)
    rw [World.size_alloc] at h
    rw [← hW]
    exact (cell_of_row _ _ _ _ _ _ h).trans rfl
  rw [hW]
  have HC := Lib.hid (HH.out W hB hp hq)
  clear hW hB hp hq
  refine HC.out.mono ?_
  rintro e w1 ⟨⟨v, rfl⟩, hr⟩
  have HR := Lib.hid hr
  clear hr
  go_wp2_with fail
  exact HR.out

theorem whole_uses (b r : Nat) (tv : Value) (z : ByteArray) (o : Option Addr) (cb : Nat) (body : List TK) (g off cap : Nat) (ts : List TK) (w : World)
    (hu : Usr w b r false 0 tv (some (z, o, body.length, cb))) (hbody : BodyAt w o body) (hbne : ∀ g off, o = some ⟨g, off, none⟩ → g ≠ b) (hbno : ∀ i (h : i < body.length), isUse (some (z, o, body.length, cb)) body[i] = false) (hb15 : body.length ≤ 15)
    (ht : Toks w g off ts) (hn : ts.length ≤ 500) (hcap : ts.length ≤ cap) (hgb : g ≠ b) (hrb : r ≠ b) :
    Calls Try.prog 25 #[.pointer (some ⟨b, 0, none⟩), .slice (some ⟨g, off, none⟩) ts.length cap] w (DoneP w b r false (some (z, o, body.length, cb)) tv (expand (some (z, o, body.length, cb)) body ts)) := by
  have hb0 : b < w.heap.size := lt_of_block hu.obj
  refine whole_enter b g off ts.length cap w _ fun W hB hp hq => ?_
  refine (uses_any b r tv z o cb body _ _ g off cap ts W (hu.below hB) (hbody.below hB) hbne hbno hb15 hp hq (ht.below hB) hn hcap hgb hrb (by omega) (by omega)).mono ?_
  rintro e w' ⟨v, m, rfl, hs, hz⟩
  exact ⟨⟨_, rfl⟩, v, m, rfl, hs.base hB, hz⟩

theorem whole_plain (b r : Nat) (fl : Bool) (n : Int) (tv : Value) (mo : Dic) (g off cap : Nat) (ts : List TK) (w : World) (hu : Usr w b r fl n tv mo) (hno : ∀ i (h : i < ts.length), isUse mo ts[i] = false) (ht : Toks w g off ts) (hn : ts.length ≤ 8192) (hcap : ts.length ≤ cap) :
    Calls Try.prog 25 #[.pointer (some ⟨b, 0, none⟩), .slice (some ⟨g, off, none⟩) ts.length cap] w (DoneP w b r fl mo tv ts) := by
  refine whole_enter b g off ts.length cap w _ fun W hB hp hq => ?_
  refine (done_any b r fl n tv mo _ _ g off cap ts 0 W (hu.below hB) hno hp (ht.below hB) hn hcap).mono ?_
  rintro e w' ⟨v, rfl, hr, hz⟩
  have hr2 := hr.base hB
  exact ⟨⟨_, rfl⟩, v, n, rfl, ⟨hr2.own, ⟨hr2.bel.os, hr2.bel.tape, hr2.bel.output, hr2.bel.size, fun k hk _ => hr2.bel.block k hk⟩, (hu.below hr2.bel)⟩, hz⟩

/-- The world behind what is told: the user's own block has turned, and no other. -/
def Told (w w' : World) (b : Nat) (fl : Bool) (r : Nat) (mo : Dic) (us : List TK) : Prop :=
  w.grownBy w' (some b) ∧ ∃ v m, w'.heap[b]? = some (.cells #[.bool fl, .map (some r), .int .i64 m, v] 49 (0, 0)) ∧ w'.heap[r]? = some (mapOf mo) ∧ w'.ownsRow w.heap.size 25 5 v us.length (cellsOf us)

theorem set_told {w w2 : World} {b r : Nat} {fl : Bool} {mo : Dic} {m : Int} {us : List TK} {v : Value} (hb : w2.heap[b]? = some (.cells #[.bool fl, .map (some r), .int .i64 m, .slice none 0 0] 49 (0, 0))) (hr : w2.heap[r]? = some (mapOf mo)) (hrb : r ≠ b) (hbw : b < w.heap.size) (h : w.grownBy w2 (some b)) (hv : w2.ownsRow w.heap.size 25 5 v us.length (cellsOf us)) :
    Told w (w2.setCell ⟨b, 3, none⟩ v) b fl r mo us := by
  have hs : (w2.setCell ⟨b, 3, none⟩ v).heap.size = w2.heap.size := by simp [World.setCell]
  refine ⟨⟨h.os, h.tape, h.output, by rw [hs]; exact h.size, fun k hk hkb => ?_⟩, v, m, ?_, ?_, ?_⟩
  · rw [heap_setCell_other _ _ _ _ (fun e => hkb (by rw [e]))]
    exact h.block k hk hkb
  · rw [heap_setCell_same _ _ _ _ _ _ hb]
    rfl
  · rw [heap_setCell_other _ _ _ _ (by show r ≠ b; exact hrb)]
    exact hr
  · refine hv.kept (row := some b) ⟨rfl, rfl, rfl, by rw [hs]; exact Nat.le_refl _, fun k hk hkb => heap_setCell_other _ _ _ _ fun e => hkb (by rw [e])⟩ ?_
    cases hvb : v.ownBlock with
    | none => exact .inl rfl
    | some g =>
      right
      have := (hv.lt g hvb).1
      intro e
      cases e
      omega

set_option maxRecDepth 100000 in
set_option maxHeartbeats 1600000 in
theorem tell_of (b r : Nat) (fl : Bool) (n : Int) (mo : Dic) (g off len cap : Nat) (us : List TK) (w : World) (hu : Usr w b r fl n (.slice none 0 0) mo) (hrb : r ≠ b) (hn : us.length ≤ 8192)
    (hw : Calls Try.prog 25 #[.pointer (some ⟨b, 0, none⟩), .slice (some ⟨g, off, none⟩) len cap] w.drew (DoneP w.drew b r fl mo (.slice none 0 0) us)) :
    Calls Try.prog 17 #[.pointer (some ⟨b, 0, none⟩), .slice (some ⟨g, off, none⟩) len cap] w fun e w' => e = .returned (.tuple #[]) ∧ Told w w' b fl r mo us := by
  have HU := Lib.hid hu
  have hb0 : b < w.heap.size := lt_of_block hu.obj
  have HW := Lib.hid hw
  have f3 : w.cell? ⟨b, 3, none⟩ = some (.slice none 0 0) := (cell_of_row _ _ _ _ _ _ hu.obj).trans rfl
  clear hu hw
  go_enter Try.func17, Try.ntmps17
  go_wp2_with fail
  go_region_law
    (first
      | (go_simp
         go_at_call 25
         refine HW.out.mono ?_
         rintro e w1 ⟨v, m, rfl, hs, hz⟩
         have HS := Lib.hid hs
         have HZ := Lib.hid hz
         clear hs hz
         have f13 : w1.cell? ⟨b, 3, none⟩ = some (.slice none 0 0) := (cell_of_row _ _ _ _ _ _ HS.out.usr.obj).trans rfl)
      | (refine step_append_row rfl (.tmp 8) (.tmp 11) rfl w1.heap.size w.heap.size (.slice none 0 0) v 0 [] (by simp [Act.eval, Act.put]) (World.ownsRow_nil _ _ _ _) us (by simp [Act.eval, Act.put]) HS.out.own HZ.out (by omega) (Nat.le_refl _) ?_
         intro v2 w2 hown2 hgrow2 _
         rw [Nat.zero_add, List.nil_append] at hown2
         have hb2 : Below w1.heap.size w1 w2 := ⟨hgrow2.os, hgrow2.tape, hgrow2.output, hgrow2.size, fun k hk => hgrow2.block k hk (by simp [Value.ownBlock])⟩
         have HS2 := Lib.hid (HS.out.below hb2)
         have HO2 := Lib.hid (hown2.mono (base' := w.heap.size) HS.out.off.size)
         clear hown2 hgrow2 hb2
         obtain ⟨o2, c2, rfl⟩ := any_form HO2.out
         have f23 : w2.cell? ⟨b, 3, none⟩ = some (.slice none 0 0) := (cell_of_row _ _ _ _ _ _ HS2.out.usr.obj).trans rfl
         have f24 : w2.frozen? ⟨b, 3, none⟩ = false := frozen_of_row _ _ _ _ _ HS2.out.usr.obj
         simp only [Act.put, List.setIfInBounds_toArray, List.set_cons_zero, List.set_cons_succ]))
  all_goals (
    have hle : ¬ (8192 : Int) < (us.length : Int) := by omega
    have HTD := Lib.hid (set_told (w := w) (us := us) HS2.out.usr.obj HS2.out.usr.mp hrb hb0 ⟨HS2.out.off.os, HS2.out.off.tape, HS2.out.off.output, HS2.out.off.size, HS2.out.off.block⟩ HO2.out)
    clear f3 f13
    go_wp2_with fail
    first | go_end0 | skip
    exact ⟨rfl, HTD.out⟩)
end Go.Proofs.Ytojneaffoekpnaa
