/- What the row's list gives, and a world in which it is met. -/
import Derived.Test.YtnoibjahliafpaaGreatDoorM25
import Derived.Test.YtnoibjahliafpaaGreatDoorCards
import Derived.Test.YtnoibjahliafpaaGreatDoorTie
import Derived.Deep.DeepHandedRow
import Derived.Deep.DeepWitnessRowRef
import Derived.Lib.LaidIn
import Derived.Stop.LaidErr
import Derived.Lib.LaidTab
import Derived.Shelf.Vars
import Derived.LaidLaws
import Derived.Lib.SmallJoins
set_option linter.unusedVariables false
set_option linter.unusedSimpArgs false
namespace Go.Proofs.YtnoibjahliafpaaGreatDoor
open Go.ChangeShapes Go.WideShapes Go.ChangeAt Go.RowKit
theorem own:ownKnob Tryz.prog.godebug=none:=by kernel_rfl
theorem laidOut:laidOutB Tryz.prog=true:=by kernel_rfl
theorem star: "*" ++ "errors.errorString"= "*errors.errorString":=by decide
theorem rowErr (u:TypeId) (h:Tryz.prog.typeName? 3 u=some "*errors.errorString"):u=212:=
 typeName_ptr_named (nm:= "errors.errorString") (by rw [star];kernel_rfl) (by kernel_rfl) (by decide) u (by rw [star];exact h)
abbrev laidL:List (String × DataW Unit):=[("math/bits.deBruijn32tab",Rows.laid_math_bits_deBruijn32tab),("math/bits.deBruijn64tab",Rows.laid_math_bits_deBruijn64tab),("internal/strconv.uint64pow10",Rows.laid_internal_strconv_uint64pow10),("strconv.ErrRange",Rows.laid_strconv_ErrRange),("strconv.ErrSyntax",Rows.laid_strconv_ErrSyntax)]
theorem tab_of (W:World) (hL:laidMet Tryz.prog laidL W):TabW W:=by
 have htab:Lib.TabIs Tryz.prog W "internal/strconv.uint64pow10" .u64 Lib.pow10Tab:=
  Lib.tabIs_of_head (g:=2) (t:=207) (e:=176) (n:=20) (by kernel_rfl) (by kernel_rfl) Tryz.underlying207 Tryz.underlying176 (by kernel_rfl) (by kernel_rfl) hL.tail.tail
 obtain ⟨a4,t4,hv4,_,_,_⟩:=laid_sentinel (g:=1) (tp:=212) (te:=214) (ts:=9) hL.tail.tail.tail (by kernel_rfl) (by kernel_rfl) Tryz.underlying125 rowErr Tryz.underlying212 Tryz.underlying214 rfl rfl Tryz.underlying9 (by kernel_rfl) (by kernel_rfl);obtain ⟨a5,t5,hv5,_,_,_⟩:=laid_sentinel (g:=0) (tp:=212) (te:=214) (ts:=9) hL.tail.tail.tail.tail (by kernel_rfl) (by kernel_rfl) Tryz.underlying125 rowErr Tryz.underlying212 Tryz.underlying214 rfl rfl Tryz.underlying9 (by kernel_rfl) (by kernel_rfl);have c2:W.cell? ⟨1,0,none⟩=some (.iface 212 (.pointer (some a4))):=World.var?_cell (by kernel_rfl) hv4 0;have c1:W.cell? ⟨0,0,none⟩=some (.iface 212 (.pointer (some a5))):=World.var?_cell (by kernel_rfl) hv5 0;intro w' hb;exact ⟨Joins.tab_stays (g:=2) (by kernel_rfl) htab hb (Nat.le_refl _),⟨_,_,(hb.cell (World.block_lt_of_cell? W _ c1)).trans c1⟩,⟨_,_,(hb.cell (World.block_lt_of_cell? W _ c2)).trans c2⟩⟩
def lit1:DataW Unit→Value
 | .lit (.int k z)=> .int k z
 | _=>undef
def row1:DataW Unit→List Value
 | .agg l=>l.map lit1
 | _=>[]
noncomputable def laidWorld (os:Os):World:=
 let N:=(World.settled Tryz.prog os).heap.size
 let w0:=World.holding Tryz.prog os ⟨#[.cells #[.string ⟨#[105,110,118,97,108,105,100,32,115,121,110,116,97,120]⟩] 214,.cells #[.string ⟨#[118,97,108,117,101,32,111,117,116,32,111,102,32,114,97,110,103,101]⟩] 214],#[],[]⟩
 let put (h:Array Obj) (g:Nat) (cs:Array Value):Array Obj:=h.modify g fun
  | .cells _ t frozen=> .cells cs t frozen
  | o=>o
 let h1:=put w0.heap 0 #[.iface 212 (.pointer (some ⟨N,0,none⟩))]
 let h2:=put h1 1 #[.iface 212 (.pointer (some ⟨N+1,0,none⟩))]
 let h3:=put h2 2 (row1 Rows.laid_internal_strconv_uint64pow10).toArray
 let h6:=put h3 3 (row1 Rows.laid_math_bits_deBruijn32tab).toArray
 let h7:=put h6 4 (row1 Rows.laid_math_bits_deBruijn64tab).toArray
 { w0 with heap:=h7 }
noncomputable abbrev N0:Nat:=(World.settled Tryz.prog default).heap.size
end Go.Proofs.YtnoibjahliafpaaGreatDoor
