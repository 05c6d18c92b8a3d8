/- The chapter's first example: it holds. -/
import Derived.Test.YtojneaffoekpnaaLTokR
import Derived.Test.YtojneaffoekpnaaLaw
namespace Go.Proofs.Ytojneaffoekpnaa
open Go.ChangeShapes Go.WideShapes Go.ChangeAt Go.RowKit
set_option linter.unusedVariables false
set_option linter.unusedSimpArgs false

def exU : ByteArray := ⟨#[35, 100, 101, 102, 105, 110, 101, 32, 78, 32, 51, 10, 78]⟩
def exN : ByteArray := ⟨#[78]⟩
def exK : ByteArray := ⟨#[51]⟩
def exTs : List lx.TK := [⟨4, 0, 1, ⟨#[35]⟩, 0⟩, ⟨1, 1, 1, defineB, 0⟩, ⟨1, 8, 1, exN, 0⟩, ⟨2, 10, 1, exK, 3⟩, ⟨1, 12, 2, exN, 0⟩, ⟨0, 13, 2, ⟨#[]⟩, 0⟩]
theorem ex_tok {k l c : Nat} {ts : List lx.TK} {e p : Nat} (r : lx.TR) (hr : lx.tokAt exU k = r) (hk : k < exU.size) (hb : lx.blankAt exU k = some (0, 0)) (he : r.er = 0) (hc : c ≠ 8191) (h : lx.Lx exU (k + r.size) l (c + 1) ts e p) : lx.Lx exU k l c (⟨r.kind, k, l, r.text, r.num⟩ :: ts) e p := by
  subst hr
  exact lx.Lx.tok k l c ts e p hk hb he hc h
theorem exLx : lx.Lx exU 0 1 0 exTs 0 0 := by
  refine ex_tok ⟨0, 4, ⟨#[35]⟩, 0, 1⟩ (by kernel_rfl) (by decide) (by kernel_rfl) rfl (by decide) ?_
  refine ex_tok ⟨0, 1, defineB, 0, 6⟩ (by kernel_rfl) (by decide) (by kernel_rfl) rfl (by decide) ?_
  refine lx.Lx.blank 7 1 2 1 0 _ 0 0 (by decide) (by kernel_rfl) (by decide) ?_
  refine ex_tok ⟨0, 1, exN, 0, 1⟩ (by kernel_rfl) (by decide) (by kernel_rfl) rfl (by decide) ?_
  refine lx.Lx.blank 9 1 3 1 0 _ 0 0 (by decide) (by kernel_rfl) (by decide) ?_
  refine ex_tok ⟨0, 2, exK, 3, 1⟩ (by kernel_rfl) (by decide) (by kernel_rfl) rfl (by decide) ?_
  refine lx.Lx.blank 11 1 4 1 1 _ 0 0 (by decide) (by kernel_rfl) (by decide) ?_
  refine ex_tok ⟨0, 1, exN, 0, 1⟩ (by kernel_rfl) (by decide) (by kernel_rfl) rfl (by decide) ?_
  exact lx.Lx.fin 13 2 5 (by decide)

def exS : TK := ⟨4, 0, 1, ⟨#[35]⟩, 0⟩
def exD : TK := ⟨1, 1, 1, defineB, 0⟩
def exZ : TK := ⟨1, 8, 1, exN, 0⟩
def exB : TK := ⟨2, 10, 1, exK, 3⟩
def exR : TK := ⟨1, 12, 2, exN, 0⟩
def exE : TK := ⟨0, 13, 2, ⟨#[]⟩, 0⟩
def exL : List TK := [exS, exD, exZ, exB, exR, exE]
theorem ex_row {w w' : World} {v : Value} (h : lx.Row w w' v exTs) : Row w w' v exL := ⟨h.own, h.bel⟩

theorem awake_any (w : World) : Calls Try.prog 9 #[] w fun e w' => e = .returned (.bool true) ∧ Below w.heap.size w w' := by
  have HT := Lib.hid (lx.tokensR exU w (by decide) exTs 0 0 exLx)
  unfold exU at HT
  go_enter Try.func9, Try.ntmps9
  go_wp2_with fail
  refine HT.out.mono ?_
  rintro e w1 ⟨v, rfl, hb, hrow, _⟩
  have hr := ex_row (hrow rfl)
  obtain ⟨g, cap, rfl, hg, hg2, hc⟩ := form_of hr.own (by decide)
  have hT := toks_of_own hr.own
  have HM := Lib.hid (once_any g 0 cap exS exD exZ [exB] [exR] exE exL rfl w1 hT
    ⟨by decide, by decide +kernel⟩ hc (by decide +kernel) rfl rfl rfl (by decide +kernel) (fun _ => (by decide +kernel : isMk exB ⟨#[40]⟩ = false)) (by decide +kernel) (by decide) (by decide +kernel) (by decide) (by decide +kernel) (by decide +kernel))
  have HB := Lib.hid hb
  clear hb hrow hr hT
  go_wp2_with fail
  refine HM.out.mono ?_
  rintro e w2 ⟨v2, rfl, hrow2⟩
  have hus : expand (some (exZ.text, none, 0, 0)) [exB] [exR] ++ [exE] = [moved exR exB, exE] := by kernel_rfl
  rw [hus] at hrow2
  obtain ⟨g2, cap2, rfl, hga, hgb, hc2⟩ := form_of hrow2.own (by decide)
  have hT2 := toks_of_own hrow2.own
  have c3 : w2.cell? ⟨g2, 3, none⟩ = some (.string exK) := by
    have h := (hT2.2 0 (by decide)).2.2.2.1
    simp only [Nat.zero_mul, Nat.zero_add] at h
    exact h
  have HB2 := Lib.hid (HB.out.trans (hrow2.bel.mono HB.out.size))
  clear hrow2 hT2 hus
  unfold exK at c3
  go_wp2_with fail
  go_ret
  exact ⟨rfl, HB2.out⟩
end Go.Proofs.Ytojneaffoekpnaa
