/- The directive that defines. -/
import Derived.Test.YtojneaffoekpnaaDef
namespace Go.Proofs.Ytojneaffoekpnaa
open Go.ChangeShapes Go.WideShapes Go.ChangeAt Go.RowKit
set_option linter.unusedVariables false
set_option linter.unusedSimpArgs false

def defineB : ByteArray := ⟨#[100, 101, 102, 105, 110, 101]⟩
set_option maxRecDepth 100000 in
set_option maxHeartbeats 1600000 in
theorem direct_def (mq b r : Nat) (n : Int) (tv : Value) (p : Int) (g off cap : Nat) (d t : TK) (body : List TK) (w : World) (hm0 : w.cell? ⟨mq, 0, none⟩ = some (.pointer (some ⟨b, 0, none⟩))) (hm1 : w.cell? ⟨mq, 1, none⟩ = some (.slice none 0 0)) (hu : Usr w b r false n tv none)
    (ht : Toks w g off (d :: t :: body)) (hcap : body.length + 2 ≤ cap) (hd1 : d.kind = 1) (hd2 : d.text = defineB) (hk : t.kind = 1) (hd : t.text ≠ definedB) (hbr : ∀ h : 0 < body.length, isMk body[0] ⟨#[40]⟩ = false) :
    Calls Try.prog 15 #[.pointer (some ⟨mq, 0, none⟩), .int .i64 p, .slice (some ⟨g, off, none⟩) (body.length + 1 + 1) cap] w fun e w' => e = .returned (.tuple #[]) ∧ w'.heap[r]? = some (mapOf (some (t.text, restA g (off + 5) (cap - 1), body.length, cap - 1 - 1))) ∧ w.grownBy w' (some r) := by
  have HU := Lib.hid hu
  have HM0 := Lib.hid hm0
  have h0 := ht.2 0 (by simp)
  simp only [Nat.zero_mul, Nat.add_zero, List.getElem_cons_zero] at h0
  obtain ⟨c0, c1, c2, c3, c4⟩ := h0
  rw [hd1] at c0
  rw [hd2] at c3
  unfold defineB at c3
  have ht2 : Toks w g (off + 5) (t :: body) := ⟨ht.1, fun i hi => by
    have h := ht.2 (i + 1) (by simpa using hi)
    have e : (d :: t :: body)[i + 1]'(by simpa using hi) = (t :: body)[i] := rfl
    rw [e, show off + (i + 1) * 5 = off + 5 + i * 5 by omega] at h
    exact h⟩
  have HKP := Lib.hid (keeps_nil mq w hm1)
  have HDF := Lib.hid fun k => define_any mq b r n tv p g (off + 5) (cap - 1) t body (w.drewN k) hm0 ⟨hu.obj, hu.mp⟩ ⟨ht2.1, ht2.2⟩ (by omega) hk hd hbr
  have hcap2 : ¬ cap = 1 := by omega
  have hcap3 : (1 : Int) ≤ cap := by omega
  have hln : ¬ ((body.length : Int) + 1 + 1 ≤ 0) := by omega
  clear hu ht ht2 hm0 hm1 hd1 hd2 hk hd hbr
  go_enter Try.func15, Try.ntmps15
  go_wp2_with (first
    | (go_at_call 16; refine HKP.out.mono ?_; rintro e w1 ⟨rfl, k, rfl⟩)
    | (go_at_call 23; refine (HDF.out _).mono ?_; rintro e w2 ⟨rfl, hw2, hg2⟩; have HW2 := Lib.hid (And.intro hw2 hg2); clear hw2 hg2))
  first | go_end0 | skip
  have hg := HW2.out.2
  exact ⟨rfl, HW2.out.1, ⟨hg.os, hg.tape, hg.output, hg.size, hg.block⟩⟩
end Go.Proofs.Ytojneaffoekpnaa
