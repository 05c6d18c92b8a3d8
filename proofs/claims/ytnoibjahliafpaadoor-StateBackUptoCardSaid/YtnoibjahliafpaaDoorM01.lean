/- A model as data, and how it lies in memory. -/
import Derived.Test.YtnoibjahliafpaaDoorRows
import Derived.WalkKit
import Derived.ProofKit
import Derived.Below
import Derived.Outline
import Derived.BigQuiet
import Derived.Deep.QuietTactic
import Derived.LoopN
import Derived.Lib.Hide
import Derived.Laws.Rows
import Derived.Lib.SmallJoins
import Derived.Lib.Walk
import Derived.Lib.SliceRun
import Derived.Laws.MakeOwn
import Derived.OwnWalk
import Derived.Deep.Cut
import Derived.Lib.ItoaNum
import Derived.Lib.AppendIntMem
import Derived.Laws.IdiomStrings
import Derived.Lib.ItoaLen
set_option linter.unusedVariables false
set_option linter.unusedSimpArgs false
namespace Go.Proofs.YtnoibjahliafpaaDoor
open Go.ChangeShapes Go.WideShapes Go.ChangeAt Go.RowKit
structure DimD where
 i:Int
 len:Int
 stride:Int
structure VarD where
 scope:Int
 slot:Int
 who:Int
 type:Int
 dims:List DimD
structure ExprD where
 op:Int
 n:Int
 a:Int
 b:Int
 c:Int
 v:VarD
 args:List Int
 mat:List Int
structure StmtD where
 kind:Int
 a:Int
 b:Int
 n:Int
 args:List Int
 mat:List Int
 text:ByteArray
structure TransD where
 s:StmtD
 to:Int
 line:Int
structure LocD where
 out:List TransD
 esc:List (List TransD)
 atomic:Bool
 dstep:Bool
 fin:Bool
 accept:Bool
 progress:Bool
structure ProcD where
 name:ByteArray
 params:Int
 frame:List (Int × Bool)
 init:List Int
 locs:List LocD
 start:Int
 final:Int
 active:Int
 prio:Int
 provided:Int
structure ShapeD where
 room:Int
 fields:List (Int × Bool)
structure ModelD where
 globals:List (Int × Bool)
 init:List Int
 shapes:List ShapeD
 chans:List Int
 procs:List ProcD
 claim:Int
 exprs:List ExprD
def Row {α:Type} (B:Nat) (o:Option Addr) (k:Nat) (R:Nat→Nat→α→Prop) (l:List α):Prop:=
 l.length≤140737488355328∧ (l.length=0∨∃g off,o=some ⟨g,off,none⟩∧g < B∧∀i (h:i < l.length),R g (off+i*k) l[i])
theorem Row.nil {α:Type} (B:Nat) (o:Option Addr) (k:Nat) (R:Nat→Nat→α→Prop):Row B o k R []:=⟨by simp,.inl rfl⟩
theorem Row.mono {α:Type} {B:Nat} {o:Option Addr} {k:Nat} {R R':Nat→Nat→α→Prop} {l:List α} (h:Row B o k R l) (hR:∀g a x,g < B→R g a x→R' g a x):Row B o k R' l:=
 ⟨h.1,h.2.imp id fun ⟨g,off,e,hg,hi⟩=>⟨g,off,e,hg,fun i hl=>hR g _ _ hg (hi i hl)⟩⟩
theorem Row.up {α:Type} {B B':Nat} {o:Option Addr} {k:Nat} {R:Nat→Nat→α→Prop} {l:List α} (h:Row B o k R l) (hB:B≤B'):Row B' o k R l:=
 ⟨h.1,h.2.imp id fun ⟨g,off,e,hg,hi⟩=>⟨g,off,e,by omega,hi⟩⟩
theorem Row.cell {α:Type} {B:Nat} {o:Option Addr} {k:Nat} {R:Nat→Nat→α→Prop} {l:List α} (h:Row B o k R l) {i:Nat} (hi:i < l.length):∃g off,o=some ⟨g,off,none⟩∧g < B∧R g (off+i*k) l[i]:=by
 rcases h.2 with h0 | ⟨g,off,e,hg,hc⟩
 · omega
 · exact ⟨g,off,e,hg,hc i hi⟩
theorem Row.get {α:Type} {B:Nat} {o:Option Addr} {k:Nat} {R:Nat→Nat→α→Prop} {l:List α} (h:Row B o k R l) {i:Nat} {x:α} (hx:l[i]? =some x):∃g off,o=some ⟨g,off,none⟩∧g < B∧R g (off+i*k) x:=by
 obtain ⟨hi,rfl⟩:=List.getElem?_eq_some_iff.1 hx;exact h.cell hi
def intAt (w:World) (g a:Nat) (x:Int):Prop:=w.cell? ⟨g,a,none⟩=some (.int .i64 x)
def boolAt (w:World) (g a:Nat) (x:Bool):Prop:=w.cell? ⟨g,a,none⟩=some (.bool x)
def strAt (w:World) (g a:Nat) (x:ByteArray):Prop:=w.cell? ⟨g,a,none⟩=some (.string x)
def tyAt (w:World) (g a:Nat) (t:Int × Bool):Prop:=w.cell? ⟨g,a,none⟩=some (.int .i64 t.1)∧w.cell? ⟨g,a+1,none⟩=some (.bool t.2)
def dimAt (w:World) (g a:Nat) (d:DimD):Prop:=w.cell? ⟨g,a,none⟩=some (.int .i64 d.i)∧w.cell? ⟨g,a+1,none⟩=some (.int .i64 d.len)∧w.cell? ⟨g,a+2,none⟩=some (.int .i64 d.stride)
def Sli {α:Type} (B:Nat) (w:World) (g a k:Nat) (R:Nat→Nat→α→Prop) (l:List α):Prop:=∃o c,w.cell? ⟨g,a,none⟩=some (.slice o l.length c)∧Row B o k R l
structure varAt (B:Nat) (w:World) (g a:Nat) (v:VarD):Prop where
 c0:w.cell? ⟨g,a,none⟩=some (.int .i64 v.scope)
 c1:w.cell? ⟨g,a+1,none⟩=some (.int .i64 v.slot)
 c2:w.cell? ⟨g,a+2,none⟩=some (.int .i64 v.who)
 c3:w.cell? ⟨g,a+3,none⟩=some (.int .i64 v.type)
 dims:Sli B w g (a+4) 3 (dimAt w) v.dims
structure exprAt (B:Nat) (w:World) (g a:Nat) (x:ExprD):Prop where
 c0:w.cell? ⟨g,a,none⟩=some (.int .i64 x.op)
 c1:w.cell? ⟨g,a+1,none⟩=some (.int .i64 x.n)
 c2:w.cell? ⟨g,a+2,none⟩=some (.int .i64 x.a)
 c3:w.cell? ⟨g,a+3,none⟩=some (.int .i64 x.b)
 c4:w.cell? ⟨g,a+4,none⟩=some (.int .i64 x.c)
 v:varAt B w g (a+5) x.v
 args:Sli B w g (a+10) 1 (intAt w) x.args
 mat:Sli B w g (a+11) 1 (intAt w) x.mat
structure stmtAt (B:Nat) (w:World) (g a:Nat) (s:StmtD):Prop where
 c0:w.cell? ⟨g,a,none⟩=some (.int .i64 s.kind)
 c1:w.cell? ⟨g,a+1,none⟩=some (.int .i64 s.a)
 c2:w.cell? ⟨g,a+2,none⟩=some (.int .i64 s.b)
 c3:w.cell? ⟨g,a+3,none⟩=some (.int .i64 s.n)
 args:Sli B w g (a+4) 1 (intAt w) s.args
 mat:Sli B w g (a+5) 1 (intAt w) s.mat
 c6:w.cell? ⟨g,a+6,none⟩=some (.string s.text)
structure transAt (B:Nat) (w:World) (g a:Nat) (t:TransD):Prop where
 s:stmtAt B w g a t.s
 c7:w.cell? ⟨g,a+7,none⟩=some (.int .i64 t.to)
 c8:w.cell? ⟨g,a+8,none⟩=some (.int .i64 t.line)
def escAt (B:Nat) (w:World) (g a:Nat) (l:List TransD):Prop:=Sli B w g a 9 (transAt B w) l
structure locAt (B:Nat) (w:World) (g a:Nat) (l:LocD):Prop where
 out:Sli B w g a 9 (transAt B w) l.out
 esc:Sli B w g (a+1) 1 (escAt B w) l.esc
 c2:w.cell? ⟨g,a+2,none⟩=some (.bool l.atomic)
 c3:w.cell? ⟨g,a+3,none⟩=some (.bool l.dstep)
 c4:w.cell? ⟨g,a+4,none⟩=some (.bool l.fin)
 c5:w.cell? ⟨g,a+5,none⟩=some (.bool l.accept)
 c6:w.cell? ⟨g,a+6,none⟩=some (.bool l.progress)
structure procAt (B:Nat) (w:World) (g a:Nat) (p:ProcD):Prop where
 c0:w.cell? ⟨g,a,none⟩=some (.string p.name)
 c1:w.cell? ⟨g,a+1,none⟩=some (.int .i64 p.params)
 frame:Sli B w g (a+2) 2 (tyAt w) p.frame
 init:Sli B w g (a+3) 1 (intAt w) p.init
 locs:Sli B w g (a+4) 7 (locAt B w) p.locs
 c5:w.cell? ⟨g,a+5,none⟩=some (.int .i64 p.start)
 c6:w.cell? ⟨g,a+6,none⟩=some (.int .i64 p.final)
 c7:w.cell? ⟨g,a+7,none⟩=some (.int .i64 p.active)
 c8:w.cell? ⟨g,a+8,none⟩=some (.int .i64 p.prio)
 c9:w.cell? ⟨g,a+9,none⟩=some (.int .i64 p.provided)
structure shapeAt (B:Nat) (w:World) (g a:Nat) (s:ShapeD):Prop where
 c0:w.cell? ⟨g,a,none⟩=some (.int .i64 s.room)
 fields:Sli B w g (a+1) 2 (tyAt w) s.fields
structure modelAt (B:Nat) (w:World) (g a:Nat) (m:ModelD):Prop where
 globals:Sli B w g a 2 (tyAt w) m.globals
 init:Sli B w g (a+1) 1 (intAt w) m.init
 shapes:Sli B w g (a+2) 2 (shapeAt B w) m.shapes
 chans:Sli B w g (a+3) 1 (intAt w) m.chans
 procs:Sli B w g (a+4) 10 (procAt B w) m.procs
 claim:w.cell? ⟨g,a+5,none⟩=some (.int .i64 m.claim)
 exprs:Sli B w g (a+6) 12 (exprAt B w) m.exprs
section
variable {B:Nat} {w w':World} (hb:Below B w w')
include hb
theorem intAt.below {g a:Nat} {x:Int} (hg:g < B) (h:intAt w g a x):intAt w' g a x:=(hb.cell hg).trans h
theorem boolAt.below {g a:Nat} {x:Bool} (hg:g < B) (h:boolAt w g a x):boolAt w' g a x:=(hb.cell hg).trans h
theorem strAt.below {g a:Nat} {x:ByteArray} (hg:g < B) (h:strAt w g a x):strAt w' g a x:=(hb.cell hg).trans h
theorem tyAt.below {g a:Nat} {x:Int × Bool} (hg:g < B) (h:tyAt w g a x):tyAt w' g a x:=⟨(hb.cell hg).trans h.1,(hb.cell hg).trans h.2⟩
theorem dimAt.below {g a:Nat} {x:DimD} (hg:g < B) (h:dimAt w g a x):dimAt w' g a x:=⟨(hb.cell hg).trans h.1,(hb.cell hg).trans h.2.1,(hb.cell hg).trans h.2.2⟩
theorem Sli.below {α:Type} {g a k:Nat} {R R':Nat→Nat→α→Prop} {l:List α} (hg:g < B) (h:Sli B w g a k R l) (hR:∀g a x,g < B→R g a x→R' g a x):Sli B w' g a k R' l:=by
 obtain ⟨o,c,h1,h2⟩:=h;exact ⟨o,c,(hb.cell hg).trans h1,h2.mono hR⟩
theorem varAt.below {g a:Nat} {x:VarD} (hg:g < B) (h:varAt B w g a x):varAt B w' g a x:=
 ⟨(hb.cell hg).trans h.c0,(hb.cell hg).trans h.c1,(hb.cell hg).trans h.c2,(hb.cell hg).trans h.c3,h.dims.below hb hg fun _ _ _ hg=>dimAt.below hb hg⟩
theorem exprAt.below {g a:Nat} {x:ExprD} (hg:g < B) (h:exprAt B w g a x):exprAt B w' g a x:=
 ⟨(hb.cell hg).trans h.c0,(hb.cell hg).trans h.c1,(hb.cell hg).trans h.c2,(hb.cell hg).trans h.c3,(hb.cell hg).trans h.c4,h.v.below hb hg,h.args.below hb hg fun _ _ _ hg=>intAt.below hb hg,h.mat.below hb hg fun _ _ _ hg=>intAt.below hb hg⟩
theorem stmtAt.below {g a:Nat} {x:StmtD} (hg:g < B) (h:stmtAt B w g a x):stmtAt B w' g a x:=
 ⟨(hb.cell hg).trans h.c0,(hb.cell hg).trans h.c1,(hb.cell hg).trans h.c2,(hb.cell hg).trans h.c3,h.args.below hb hg fun _ _ _ hg=>intAt.below hb hg,h.mat.below hb hg fun _ _ _ hg=>intAt.below hb hg,(hb.cell hg).trans h.c6⟩
theorem transAt.below {g a:Nat} {x:TransD} (hg:g < B) (h:transAt B w g a x):transAt B w' g a x:=
 ⟨h.s.below hb hg,(hb.cell hg).trans h.c7,(hb.cell hg).trans h.c8⟩
theorem escAt.below {g a:Nat} {x:List TransD} (hg:g < B) (h:escAt B w g a x):escAt B w' g a x:=Sli.below hb hg h fun _ _ _ hg=>transAt.below hb hg
theorem locAt.below {g a:Nat} {x:LocD} (hg:g < B) (h:locAt B w g a x):locAt B w' g a x:=
 ⟨h.out.below hb hg fun _ _ _ hg=>transAt.below hb hg,h.esc.below hb hg fun _ _ _ hg=>escAt.below hb hg,(hb.cell hg).trans h.c2,(hb.cell hg).trans h.c3,(hb.cell hg).trans h.c4,(hb.cell hg).trans h.c5,(hb.cell hg).trans h.c6⟩
theorem procAt.below {g a:Nat} {x:ProcD} (hg:g < B) (h:procAt B w g a x):procAt B w' g a x:=
 ⟨(hb.cell hg).trans h.c0,(hb.cell hg).trans h.c1,h.frame.below hb hg fun _ _ _ hg=>tyAt.below hb hg,h.init.below hb hg fun _ _ _ hg=>intAt.below hb hg,h.locs.below hb hg fun _ _ _ hg=>locAt.below hb hg,(hb.cell hg).trans h.c5,(hb.cell hg).trans h.c6,(hb.cell hg).trans h.c7,(hb.cell hg).trans h.c8,(hb.cell hg).trans h.c9⟩
theorem shapeAt.below {g a:Nat} {x:ShapeD} (hg:g < B) (h:shapeAt B w g a x):shapeAt B w' g a x:=
 ⟨(hb.cell hg).trans h.c0,h.fields.below hb hg fun _ _ _ hg=>tyAt.below hb hg⟩
end
structure MH where
 go:Option Addr
 gc:Nat
 io:Option Addr
 ic:Nat
 so:Option Addr
 sc:Nat
 co:Option Addr
 cc:Nat
 po:Option Addr
 pc:Nat
 eo:Option Addr
 ec:Nat
structure MD (B:Nat) (w:World) (h:MH) (m:ModelD):Prop where
 globals:Row B h.go 2 (tyAt w) m.globals
 init:Row B h.io 1 (intAt w) m.init
 shapes:Row B h.so 2 (shapeAt B w) m.shapes
 chans:Row B h.co 1 (intAt w) m.chans
 procs:Row B h.po 10 (procAt B w) m.procs
 exprs:Row B h.eo 12 (exprAt B w) m.exprs
theorem MD.below {B:Nat} {w w':World} {h:MH} {m:ModelD} (hm:MD B w h m) (hb:Below B w w'):MD B w' h m:=
 ⟨hm.globals.mono fun _ _ _ hg=>tyAt.below hb hg,hm.init.mono fun _ _ _ hg=>intAt.below hb hg,hm.shapes.mono fun _ _ _ hg=>shapeAt.below hb hg,hm.chans.mono fun _ _ _ hg=>intAt.below hb hg,hm.procs.mono fun _ _ _ hg=>procAt.below hb hg,hm.exprs.mono fun _ _ _ hg=>exprAt.below hb hg⟩
def mCells (h:MH) (m:ModelD):Array Value:=#[.slice h.go m.globals.length h.gc,.slice h.io m.init.length h.ic,.slice h.so m.shapes.length h.sc,.slice h.co m.chans.length h.cc,.slice h.po m.procs.length h.pc,.int .i64 m.claim,.slice h.eo m.exprs.length h.ec]
def mV (h:MH) (m:ModelD):Value:= .agg (mCells h m)
def kCells (h:MH) (m:ModelD) (sv lv:Value):Array Value:=#[.slice h.go m.globals.length h.gc,.slice h.io m.init.length h.ic,.slice h.so m.shapes.length h.sc,.slice h.co m.chans.length h.cc,.slice h.po m.procs.length h.pc,.int .i64 m.claim,.slice h.eo m.exprs.length h.ec,sv,lv]
structure Ck (B:Nat) (w:World) (p:Nat) (h:MH) (m:ModelD):Prop where
 c0:w.cell? ⟨p,0,none⟩=some (.slice h.go m.globals.length h.gc)
 c1:w.cell? ⟨p,1,none⟩=some (.slice h.io m.init.length h.ic)
 c2:w.cell? ⟨p,2,none⟩=some (.slice h.so m.shapes.length h.sc)
 c3:w.cell? ⟨p,3,none⟩=some (.slice h.co m.chans.length h.cc)
 c4:w.cell? ⟨p,4,none⟩=some (.slice h.po m.procs.length h.pc)
 c5:w.cell? ⟨p,5,none⟩=some (.int .i64 m.claim)
 c6:w.cell? ⟨p,6,none⟩=some (.slice h.eo m.exprs.length h.ec)
 le:B≤w.heap.size
 lt:p < w.heap.size
 md:MD B w h m
theorem Ck.below {B p:Nat} {w w':World} {h:MH} {m:ModelD} (hk:Ck B w p h m) (hb:Below w.heap.size w w'):Ck B w' p h m:=
 ⟨(hb.cell hk.lt).trans hk.c0,(hb.cell hk.lt).trans hk.c1,(hb.cell hk.lt).trans hk.c2,(hb.cell hk.lt).trans hk.c3,(hb.cell hk.lt).trans hk.c4,(hb.cell hk.lt).trans hk.c5,(hb.cell hk.lt).trans hk.c6,Nat.le_trans hk.le hb.size,Nat.lt_of_lt_of_le hk.lt hb.size,hk.md.below (hb.mono (hk.le))⟩
theorem Ck.drew {B p:Nat} {w:World} {h:MH} {m:ModelD} (hk:Ck B w p h m):Ck B w.drew p h m:=hk.below (Below.refl _ _).drew
theorem Ck.alloc {B p:Nat} {w:World} {h:MH} {m:ModelD} (hk:Ck B w p h m) (o:Obj):Ck B (w.alloc o) p h m:=hk.below ((Below.refl _ _).alloc (Nat.le_refl _) _)
theorem bdrew {B:Nat} {a w:World} (h:Below B a w) (n:Nat):Below B a (w.drewN n):=⟨h.os,h.tape,h.output,h.size,h.block⟩
theorem ball {w:World} (o:Obj):Below w.heap.size w (w.alloc o):=(Below.refl _ _).alloc (Nat.le_refl _) _
theorem ball' {B:Nat} {w0 w:World} (h:Below B w0 w) (o:Obj) (hB:B≤w0.heap.size):Below B w0 (w.alloc o):=h.alloc (Nat.le_trans hB h.size) _
def intOf:Value→Int
 | .int _ q=>q
 | _=>0
theorem retB {a b:Bool} (h:a=b):Ending.returned (.bool a)= .returned (.bool b):=by rw [h]
theorem retI {k:IntKind} {a b:Int} (h:a=b):Ending.returned (.int k a)= .returned (.int k b):=by rw [h]
theorem retIB {a b:Int} {c d:Bool} (h:a=b) (h2:c=d):Ending.returned (.tuple #[.int .i64 a,.bool c])= .returned (.tuple #[.int .i64 b,.bool d]):=by rw [h,h2]
theorem all_of {α:Type} {l:List α} {p:α→Bool} (h:∀j (hj:j < l.length),p l[j]=true):l.all p=true:=by
 rw [List.all_eq_true];intro x hx;obtain ⟨j,hj,rfl⟩:=List.mem_iff_getElem.1 hx;exact h j hj
theorem all_bad {α:Type} {l:List α} {p:α→Bool} {i:Nat} (hi:i < l.length) (h:p l[i]=false):l.all p=false:=by
 rw [List.all_eq_false];exact ⟨l[i],List.getElem_mem hi,by simp [h]⟩
def bad {α:Type} (p:α→Bool) (l:List α):Option Nat:=l.findIdx? (fun x=> !p x)
theorem bad_none {α:Type} {l:List α} {p:α→Bool} (h:∀j (hj:j < l.length),p l[j]=true):bad p l=none:=by
 unfold bad;rw [List.findIdx?_eq_none_iff];intro x hx;obtain ⟨j,hj,rfl⟩:=List.mem_iff_getElem.1 hx;simp [h j hj]
theorem bad_some {α:Type} {l:List α} {p:α→Bool} {i:Nat} (hi:i < l.length) (hb:p l[i]=false) (h:∀j (hj:j < l.length),j < i→p l[j]=true):bad p l=some i:=by
 unfold bad;rw [List.findIdx?_eq_some_iff_getElem];exact ⟨hi,by simp [hb],fun j hj=>by simp [h j (by omega) hj]⟩
theorem bad_all {α:Type} {l:List α} {p:α→Bool} (h:bad p l=none):∀x ∈ l,p x=true:=by
 unfold bad at h;rw [List.findIdx?_eq_none_iff] at h;intro x hx;have:=h x hx;simpa using this
def idxB (r:Option Nat):Int × Bool:=match r with
 | some i=>(i,false)
 | none=>(0,true)
theorem upto_succ {p:Nat→Prop} {i:Nat} (h:∀j,j < i→p j) (hi:p i):∀j,j < i+1→p j:=fun j hj=>by
 by_cases e:j=i
 · subst e;exact hi
 · exact h j (by omega)
end Go.Proofs.YtnoibjahliafpaaDoor
namespace Go.Proofs.YtnoibjahliafpaaDoor
open Go.ChangeShapes Go.WideShapes Go.ChangeAt Go.RowKit
def digB (k:Nat):UInt8:=if k < 10 then UInt8.ofNat (48+k) else UInt8.ofNat (87+k)
def revB (b:Nat):Nat→Nat→List UInt8
 | 0,_=>[]
 | f+1,u=>if u < b then [digB u] else digB (u % b) :: revB b f (u / b)
def baseL (b u:Nat):List UInt8:=(revB b 64 u).reverse
theorem rev_more {b:Nat} (hb:2≤b):∀ (f g u:Nat),u < 2 ^ f→0 < f→f≤g→revB b f u=revB b g u
 | 0,g,u,h,h0,h2=>by omega
 | f+1,g,u,h,h0,h2=>by
   obtain ⟨k,rfl⟩:∃k,g=k+1:=⟨g - 1,by omega⟩;unfold revB;split
   · rfl
   · rename_i hu
     have h3:u / b < 2 ^ f:=by
      rw [Nat.div_lt_iff_lt_mul (by omega)];have e:2 ^ (f+1)=2 ^ f*2:=Nat.pow_succ 2 f;have:=Nat.mul_le_mul_left (2 ^ f) hb;omega
     have hf:0 < f:=by
      rcases Nat.eq_zero_or_pos f with e | e
      · subst e;simp at h;omega
      · exact e
     rw [rev_more hb f k (u / b) h3 hf (by omega)]
theorem base_small {b u:Nat} (h:u < b):baseL b u= [digB u]:=by
 unfold baseL revB;rw [if_pos h];rfl
theorem base_step {b u:Nat} (hb:2≤b) (h:b≤u) (hu:u < 18446744073709551616):baseL b u=baseL b (u / b) ++ [digB (u % b)]:=by
 have e:baseL b u= (digB (u % b) :: revB b 63 (u / b)).reverse:=by
  unfold baseL
  conv=>lhs;unfold revB
  rw [if_neg (by omega)]
 have h3:u / b < 2 ^ 63:=by
  rw [Nat.div_lt_iff_lt_mul (by omega)];have:=Nat.mul_le_mul_left (2 ^ 63) hb;omega
 rw [e,List.reverse_cons,rev_more hb 63 64 (u / b) h3 (by omega) (by omega)];rfl
theorem rev_len (b:Nat):∀ (f u:Nat),(revB b f u).length≤f
 | 0,u=>by simp [revB]
 | f+1,u=>by
   unfold revB;split
   · simp
   · have:=rev_len b f (u / b);simp;omega
theorem base_len (b u:Nat): (baseL b u).length≤64:=by
 unfold baseL;rw [List.length_reverse];exact rev_len b 64 u
theorem dec_base:∀ (u:Nat),u < 18446744073709551616→Lib.decDigits u=baseL 10 u
 | u,hu=>by
   by_cases h:u < 10
   · rw [Lib.decDigits,dif_pos h,base_small h];unfold digB;rw [if_pos h]
   · rw [Lib.decDigits,dif_neg h,base_step (by omega) (by omega) hu,dec_base (u / 10) (by omega)];unfold digB;rw [if_pos (by omega)]
termination_by u=>u
decreasing_by omega
theorem cells_app (a b:List UInt8):Lib.byteCells (a ++ b)=Lib.byteCells a ++ Lib.byteCells b:=by simp [Lib.byteCells]
theorem cells_len (a:List UInt8): (Lib.byteCells a).length=a.length:=by simp [Lib.byteCells]
def low32 (v:Int):Nat:=(v % 4294967296).toNat
theorem low32_lt (v:Int):low32 v < 4294967296:=by unfold low32;omega
def isDec (c:Int):Prop:=c=100∨c=105∨c=101
def convF (c:UInt8) (v:Int):List UInt8:=
 if c=99 then [UInt8.ofNat (v % 256).toNat] else if c=120 then baseL 16 (low32 v) else if c=111 then baseL 8 (low32 v) else if c=117 then baseL 10 (low32 v) else Lib.itoa v
def isConv (c:UInt8):Bool:=c=100 || c=105 || c=101 || c=117 || c=120 || c=111 || c=99
def printF:List UInt8→List Int→List UInt8
 | [],_=>[]
 | [c],_=>[c]
 | c :: d :: r,args=>
   if c≠37 then c :: printF (d :: r) args
   else if d=37 then 37 :: printF r args
   else if isConv d=false then 37 :: d :: printF r args
   else match args with
    | []=>printF r []
    | a :: rest=>convF d a ++ printF r rest
theorem itoa_len {v:Int} (h: -9223372036854775808≤v∧v≤9223372036854775807): (Lib.itoa v).length≤65:=by
 unfold Lib.itoa;split
 · rw [List.length_cons,dec_base _ (by omega)];have:=base_len 10 v.natAbs;omega
 · rw [dec_base _ (by omega)];have:=base_len 10 v.toNat;omega
theorem conv_len {c:UInt8} {v:Int} (h: -9223372036854775808≤v∧v≤9223372036854775807): (convF c v).length≤65:=by
 unfold convF;have:=itoa_len h;split
 · simp
 · split
   · have:=base_len 16 (low32 v);omega
   · split
     · have:=base_len 8 (low32 v);omega
     · split
       · have:=base_len 10 (low32 v);omega
       · exact this
end Go.Proofs.YtnoibjahliafpaaDoor
namespace Go.Proofs.YtnoibjahliafpaaDoor
open Go.ChangeShapes Go.WideShapes Go.ChangeAt Go.RowKit
def strV (l:List UInt8):Value:= .string ⟨l.toArray⟩
theorem str_add (a b:List UInt8): (⟨a.toArray⟩:ByteArray) ++ ⟨b.toArray⟩= ⟨(a ++ b).toArray⟩:=by
 apply ByteArray.ext;simp
theorem dec_step {u:Nat} (h:¬u < 10):Lib.decDigits u=Lib.decDigits (u / 10) ++ [UInt8.ofNat (48+u % 10)]:=by
 rw [Lib.decDigits,dif_neg h]
theorem dec_last {u:Nat} (h:u < 10):Lib.decDigits u= [UInt8.ofNat (48+u % 10)]:=by
 rw [Lib.decDigits,dif_pos h,Nat.mod_eq_of_lt h]
theorem run_byte (x:Nat) (hx:x < 256) (W:World): (convert 81 9 (.slice (some ⟨W.heap.size,0,none⟩) 1 1)).run Tryd.prog (W.alloc (.cells #[.int .u8 (x:Int)] 5))= .ok (.string ⟨#[UInt8.ofNat x]⟩) (W.alloc (.cells #[.int .u8 (x:Int)] 5)):=by
 refine run_convert_bytes_back _ 81 9 5 ⟨W.heap.size,0,none⟩ 1 [UInt8.ofNat x] Tryd.underlying81 Tryd.underlying5 Tryd.underlying9 fun j hj=> ?_
 obtain rfl:j=0:=by simpa using hj
 refine (cell_of_row _ _ _ _ _ _ (heap_alloc_new W _)).trans ?_;have : (UInt8.ofNat x).toNat=x:=by simp;omega
 simp [this]
theorem tmod_pos {m:Int} (h:0≤m):m.tmod 10= ((m.natAbs % 10:Nat):Int):=by
 rw [Int.tmod_eq_emod_of_nonneg h];omega
theorem tmod_neg {m:Int} (h:m < 0):m.tmod 10= -((m.natAbs % 10:Nat):Int):=by
 obtain ⟨k,rfl⟩:∃k:Int,m= -k:=⟨-m,by omega⟩;rw [Int.neg_tmod,Int.tmod_eq_emod_of_nonneg (by omega)];omega
theorem tdiv_abs (m:Int): (m.tdiv 10).natAbs=m.natAbs / 10:=by
 rw [Int.natAbs_tdiv];rfl
theorem tdiv_pos {m:Int} (h:0≤m):0≤m.tdiv 10:=Int.tdiv_nonneg h (by decide)
theorem tdiv_neg {m:Int} (h:m≤0):m.tdiv 10≤0:=by
 obtain ⟨k,rfl⟩:∃k:Int,m= -k:=⟨-m,by omega⟩;rw [Int.neg_tdiv];have:=tdiv_pos (m:=k) (by omega);omega
end Go.Proofs.YtnoibjahliafpaaDoor
