/- What the row's list gives, and a world in which it is met. -/
import Derived.Test.YtifofhjfepkglaaDoorArgs
import Derived.Test.YtifofhjfepkglaaDoorCards
import Derived.Test.YtifofhjfepkglaaDoorTie
import Derived.Deep.DeepHandedRow
import Derived.Deep.DeepWitnessRowRef
import Derived.Lib.LaidIn
import Derived.Stop.LaidErr
import Derived.Lib.LaidTab
import Derived.Shelf.Vars
import Derived.LaidLaws
namespace Go.Proofs.YtifofhjfepkglaaDoor
open Go.ChangeShapes Go.WideShapes Go.ChangeAt Go.RowKit
set_option linter.unusedVariables false
set_option linter.unusedSimpArgs false

theorem own : ownKnob Tryd.prog.godebug = none := by kernel_rfl
theorem laidOut : laidOutB Tryd.prog = true := by kernel_rfl
theorem star : "*" ++ "errors.errorString" = "*errors.errorString" := by decide
theorem row106 (u : TypeId) (h : Tryd.prog.typeName? 3 u = some "*errors.errorString") : u = 106 :=
  typeName_ptr_named (nm := "errors.errorString") (by rw [star]; kernel_rfl) (by kernel_rfl) (by decide) u (by rw [star]; exact h)
abbrev laidL : List (String × DataW Unit) := Rows.trailTextsRow.laid
theorem env_of (W : World) (hL : laidMet Tryd.prog laidL W) (hsh : W.ShapedOpen Tryd.prog) : Env W := by
  obtain ⟨m, hm⟩ := cell_of_shapedOpen_int (P := Tryd.prog) (g := 0) (zero := #[.int .i64 0]) (t := 3) hsh (of_decide_eq_true (by kernel_rfl)) (by kernel_rfl) rfl (by kernel_rfl) (by kernel_rfl) Tryd.underlying3
  have htab : Lib.TabIs Tryd.prog W "internal/strconv.uint64pow10" .u64 Lib.pow10Tab :=
    Lib.tabIs_of_head (g := 3) (t := 99) (e := 75) (n := 20) (by kernel_rfl) (by kernel_rfl) Tryd.underlying99 Tryd.underlying75 (by kernel_rfl) (by kernel_rfl) hL.tail.tail
  obtain ⟨a4, t4, hv4, _, _, _⟩ := laid_sentinel (g := 2) (tp := 106) (te := 108) (ts := 9) hL.tail.tail.tail.tail (by kernel_rfl) (by kernel_rfl) Tryd.underlying42 row106 Tryd.underlying106 Tryd.underlying108 rfl rfl Tryd.underlying9 (by kernel_rfl) (by kernel_rfl)
  obtain ⟨a5, t5, hv5, _, _, _⟩ := laid_sentinel (g := 1) (tp := 106) (te := 108) (ts := 9) hL.tail.tail.tail.tail.tail (by kernel_rfl) (by kernel_rfl) Tryd.underlying42 row106 Tryd.underlying106 Tryd.underlying108 rfl rfl Tryd.underlying9 (by kernel_rfl) (by kernel_rfl)
  have c2 : W.cell? ⟨2, 0, none⟩ = some (.iface 106 (.pointer (some a4))) := World.var?_cell (by kernel_rfl) hv4 0
  have c1 : W.cell? ⟨1, 0, none⟩ = some (.iface 106 (.pointer (some a5))) := World.var?_cell (by kernel_rfl) hv5 0
  intro w' hb
  exact ⟨Joins.tab_stays (g := 3) (by kernel_rfl) htab hb (Nat.le_refl _), ⟨m, (hb.cell (World.block_lt_of_cell? W _ hm)).trans hm⟩, ⟨_, _, (hb.cell (World.block_lt_of_cell? W _ c1)).trans c1⟩, ⟨_, _, (hb.cell (World.block_lt_of_cell? W _ c2)).trans c2⟩⟩

/-! ### A world for the witness -/
def lit1 : DataW Unit → Value
  | .lit (.int k z) => .int k z
  | _ => undef
def row1 : DataW Unit → List Value
  | .agg l => l.map lit1
  | _ => []
def row2 : DataW Unit → List Value
  | .agg l => l.flatMap row1
  | _ => []
noncomputable def laidWorld (os : Os) : World :=
  let N := (World.settled Tryd.prog os).heap.size
  let w0 := World.holding Tryd.prog os ⟨#[.cells #[.string ⟨#[105, 110, 118, 97, 108, 105, 100, 32, 115, 121, 110, 116, 97, 120]⟩] 108, .cells #[.string ⟨#[118, 97, 108, 117, 101, 32, 111, 117, 116, 32, 111, 102, 32, 114, 97, 110, 103, 101]⟩] 108], #[], []⟩
  let put (h : Array Obj) (g : Nat) (cs : Array Value) : Array Obj := h.modify g fun
    | .cells _ t frozen => .cells cs t frozen
    | o => o
  let h1 := put w0.heap 1 #[.iface 106 (.pointer (some ⟨N, 0, none⟩))]
  let h2 := put h1 2 #[.iface 106 (.pointer (some ⟨N + 1, 0, none⟩))]
  let h3 := put h2 3 (row1 Rows.laid_internal_strconv_uint64pow10).toArray
  let h4 := put h3 4 (row1 Rows.laid_unicode_utf8_first).toArray
  let h5 := put h4 5 (row2 Rows.laid_unicode_utf8_acceptRanges).toArray
  let h6 := put h5 6 (row1 Rows.laid_math_bits_deBruijn32tab).toArray
  let h7 := put h6 7 (row1 Rows.laid_math_bits_deBruijn64tab).toArray
  { w0 with heap := h7 }
noncomputable abbrev N0 : Nat := (World.settled Tryd.prog default).heap.size
def args0 : Array Value := #[.agg #[.int .i64 0, .int .i64 0, .int .i64 0, .int .i64 0, .slice none 0 0, .int .i64 0, .int .i64 0, .int .i64 0], .string ⟨#[]⟩]
theorem laid_in (os : Os) : LaidIn Tryd.prog ((laidWorld os).forCall (fun _ _ => 0) ⟨#[], args0, []⟩).memory laidL [6, 7, 3, 5, 2, N0 + 1, 1, N0, 4] :=
  LaidIn.of_run [6, 7, 3, 5, 2, N0 + 1, 1, N0, 4] 8 (by kernel_rfl) (by kernel_rfl) (by kernel_rfl) (by kernel_rfl)
theorem laid_met (os : Os) : laidMet Tryd.prog laidL ((laidWorld os).forCall (fun _ _ => 0) ⟨#[], args0, []⟩).memory := (laid_in os).met
end Go.Proofs.YtifofhjfepkglaaDoor
