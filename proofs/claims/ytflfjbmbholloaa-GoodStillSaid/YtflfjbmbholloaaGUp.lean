/- A model that lies below a place lies below a later one. -/
import Derived.Test.YtflfjbmbholloaaDat
namespace Go.Proofs.Ytflfjbmbholloaa
open Go.ChangeShapes Go.WideShapes Go.ChangeAt Go.RowKit
section
variable {B B' : Nat} {w : World} (hB : B ≤ B')
include hB
theorem Row.lift {α : Type} {o : Option Addr} {k : Nat} {R R' : Nat → Nat → α → Prop} {l : List α} (h : Row B o k R l) (hR : ∀ g a x, g < B → R g a x → R' g a x) : Row B' o k R' l := (h.mono hR).up hB
theorem Sli.lift {α : Type} {g a k : Nat} {R R' : Nat → Nat → α → Prop} {l : List α} (h : Sli B w g a k R l) (hR : ∀ g a x, g < B → R g a x → R' g a x) : Sli B' w g a k R' l := by
  obtain ⟨o, c, h1, h2⟩ := h
  exact ⟨o, c, h1, h2.lift hB hR⟩
theorem varAt.lift {g a : Nat} {x : VarD} (h : varAt B w g a x) : varAt B' w g a x := ⟨h.c0, h.c1, h.c2, h.c3, h.dims.lift hB fun _ _ _ _ h => h⟩
theorem exprAt.lift {g a : Nat} {x : ExprD} (h : exprAt B w g a x) : exprAt B' w g a x := ⟨h.c0, h.c1, h.c2, h.c3, h.c4, h.v.lift hB, h.args.lift hB fun _ _ _ _ h => h, h.mat.lift hB fun _ _ _ _ h => h⟩
theorem stmtAt.lift {g a : Nat} {x : StmtD} (h : stmtAt B w g a x) : stmtAt B' w g a x := ⟨h.c0, h.c1, h.c2, h.c3, h.args.lift hB fun _ _ _ _ h => h, h.mat.lift hB fun _ _ _ _ h => h, h.c6⟩
theorem transAt.lift {g a : Nat} {x : TransD} (h : transAt B w g a x) : transAt B' w g a x := ⟨h.s.lift hB, h.c7, h.c8⟩
theorem escAt.lift {g a : Nat} {x : List TransD} (h : escAt B w g a x) : escAt B' w g a x := Sli.lift hB h fun _ _ _ _ h => h.lift hB
theorem locAt.lift {g a : Nat} {x : LocD} (h : locAt B w g a x) : locAt B' w g a x := ⟨h.out.lift hB fun _ _ _ _ h => h.lift hB, h.esc.lift hB fun _ _ _ _ h => h.lift hB, h.c2, h.c3, h.c4, h.c5, h.c6⟩
theorem procAt.lift {g a : Nat} {x : ProcD} (h : procAt B w g a x) : procAt B' w g a x := ⟨h.c0, h.c1, h.frame.lift hB fun _ _ _ _ h => h, h.init.lift hB fun _ _ _ _ h => h, h.locs.lift hB fun _ _ _ _ h => h.lift hB, h.c5, h.c6, h.c7, h.c8, h.c9⟩
theorem shapeAt.lift {g a : Nat} {x : ShapeD} (h : shapeAt B w g a x) : shapeAt B' w g a x := ⟨h.c0, h.fields.lift hB fun _ _ _ _ h => h⟩
theorem MD.lift {h : MH} {m : ModelD} (hm : MD B w h m) : MD B' w h m :=
  ⟨hm.globals.lift hB fun _ _ _ _ h => h, hm.init.lift hB fun _ _ _ _ h => h, hm.shapes.lift hB fun _ _ _ _ h => h.lift hB, hm.chans.lift hB fun _ _ _ _ h => h, hm.procs.lift hB fun _ _ _ _ h => h.lift hB, hm.exprs.lift hB fun _ _ _ _ h => h.lift hB⟩
end
end Go.Proofs.Ytflfjbmbholloaa
