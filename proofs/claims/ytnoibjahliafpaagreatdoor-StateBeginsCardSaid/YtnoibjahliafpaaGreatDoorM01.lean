/- A model as data, and how it lies in memory. -/
import Derived.Test.YtnoibjahliafpaaGreatDoorRows
import Derived.WalkKit
import Derived.ProofKit
import Derived.Below
import Derived.Outline
import Derived.BigQuiet
import Derived.Deep.QuietTactic
import Derived.LoopN
import Derived.Lib.Hide
import Derived.Laws.Rows
import Derived.Lib.SmallJoins
import Derived.Lib.Walk
import Derived.Lib.SliceRun
import Derived.Laws.MakeOwn
import Derived.OwnWalk
import Derived.Deep.Cut
import Derived.Lib.ItoaNum
import Derived.Lib.AppendIntMem
import Derived.Laws.IdiomStrings
import Derived.Lib.ItoaLen
import Derived.Lib.ItoaMem
import Derived.Lib.ParseIntB
set_option linter.unusedVariables false
set_option linter.unusedSimpArgs false
namespace Go.Proofs.YtnoibjahliafpaaGreatDoor
open Go.ChangeShapes Go.WideShapes Go.ChangeAt Go.RowKit
structure DimD where
 i:Int
 len:Int
 stride:Int
structure VarD where
 scope:Int
 slot:Int
 who:Int
 type:Int
 dims:List DimD
structure ExprD where
 op:Int
 n:Int
 a:Int
 b:Int
 c:Int
 v:VarD
 args:List Int
 mat:List Int
structure StmtD where
 kind:Int
 a:Int
 b:Int
 n:Int
 args:List Int
 mat:List Int
 text:ByteArray
structure TransD where
 s:StmtD
 to:Int
 line:Int
structure LocD where
 out:List TransD
 esc:List (List TransD)
 atomic:Bool
 dstep:Bool
 fin:Bool
 accept:Bool
 progress:Bool
structure ProcD where
 name:ByteArray
 params:Int
 frame:List (Int × Bool)
 init:List Int
 locs:List LocD
 start:Int
 final:Int
 active:Int
 prio:Int
 provided:Int
structure ShapeD where
 room:Int
 fields:List (Int × Bool)
structure ModelD where
 globals:List (Int × Bool)
 init:List Int
 shapes:List ShapeD
 chans:List Int
 procs:List ProcD
 claim:Int
 exprs:List ExprD
def Row {α:Type} (B:Nat) (o:Option Addr) (k:Nat) (R:Nat→Nat→α→Prop) (l:List α):Prop:=
 l.length≤140737488355328∧ (l.length=0∨∃g off,o=some ⟨g,off,none⟩∧g < B∧∀i (h:i < l.length),R g (off+i*k) l[i])
theorem Row.nil {α:Type} (B:Nat) (o:Option Addr) (k:Nat) (R:Nat→Nat→α→Prop):Row B o k R []:=⟨by simp,.inl rfl⟩
theorem Row.mono {α:Type} {B:Nat} {o:Option Addr} {k:Nat} {R R':Nat→Nat→α→Prop} {l:List α} (h:Row B o k R l) (hR:∀g a x,g < B→R g a x→R' g a x):Row B o k R' l:=
 ⟨h.1,h.2.imp id fun ⟨g,off,e,hg,hi⟩=>⟨g,off,e,hg,fun i hl=>hR g _ _ hg (hi i hl)⟩⟩
theorem Row.up {α:Type} {B B':Nat} {o:Option Addr} {k:Nat} {R:Nat→Nat→α→Prop} {l:List α} (h:Row B o k R l) (hB:B≤B'):Row B' o k R l:=
 ⟨h.1,h.2.imp id fun ⟨g,off,e,hg,hi⟩=>⟨g,off,e,by omega,hi⟩⟩
theorem Row.cell {α:Type} {B:Nat} {o:Option Addr} {k:Nat} {R:Nat→Nat→α→Prop} {l:List α} (h:Row B o k R l) {i:Nat} (hi:i < l.length):∃g off,o=some ⟨g,off,none⟩∧g < B∧R g (off+i*k) l[i]:=by
 rcases h.2 with h0 | ⟨g,off,e,hg,hc⟩
 · omega
 · exact ⟨g,off,e,hg,hc i hi⟩
theorem Row.get {α:Type} {B:Nat} {o:Option Addr} {k:Nat} {R:Nat→Nat→α→Prop} {l:List α} (h:Row B o k R l) {i:Nat} {x:α} (hx:l[i]? =some x):∃g off,o=some ⟨g,off,none⟩∧g < B∧R g (off+i*k) x:=by
 obtain ⟨hi,rfl⟩:=List.getElem?_eq_some_iff.1 hx;exact h.cell hi
def intAt (w:World) (g a:Nat) (x:Int):Prop:=w.cell? ⟨g,a,none⟩=some (.int .i64 x)
def boolAt (w:World) (g a:Nat) (x:Bool):Prop:=w.cell? ⟨g,a,none⟩=some (.bool x)
def strAt (w:World) (g a:Nat) (x:ByteArray):Prop:=w.cell? ⟨g,a,none⟩=some (.string x)
def tyAt (w:World) (g a:Nat) (t:Int × Bool):Prop:=w.cell? ⟨g,a,none⟩=some (.int .i64 t.1)∧w.cell? ⟨g,a+1,none⟩=some (.bool t.2)
def dimAt (w:World) (g a:Nat) (d:DimD):Prop:=w.cell? ⟨g,a,none⟩=some (.int .i64 d.i)∧w.cell? ⟨g,a+1,none⟩=some (.int .i64 d.len)∧w.cell? ⟨g,a+2,none⟩=some (.int .i64 d.stride)
def Sli {α:Type} (B:Nat) (w:World) (g a k:Nat) (R:Nat→Nat→α→Prop) (l:List α):Prop:=∃o c,w.cell? ⟨g,a,none⟩=some (.slice o l.length c)∧Row B o k R l
structure varAt (B:Nat) (w:World) (g a:Nat) (v:VarD):Prop where
 c0:w.cell? ⟨g,a,none⟩=some (.int .i64 v.scope)
 c1:w.cell? ⟨g,a+1,none⟩=some (.int .i64 v.slot)
 c2:w.cell? ⟨g,a+2,none⟩=some (.int .i64 v.who)
 c3:w.cell? ⟨g,a+3,none⟩=some (.int .i64 v.type)
 dims:Sli B w g (a+4) 3 (dimAt w) v.dims
structure exprAt (B:Nat) (w:World) (g a:Nat) (x:ExprD):Prop where
 c0:w.cell? ⟨g,a,none⟩=some (.int .i64 x.op)
 c1:w.cell? ⟨g,a+1,none⟩=some (.int .i64 x.n)
 c2:w.cell? ⟨g,a+2,none⟩=some (.int .i64 x.a)
 c3:w.cell? ⟨g,a+3,none⟩=some (.int .i64 x.b)
 c4:w.cell? ⟨g,a+4,none⟩=some (.int .i64 x.c)
 v:varAt B w g (a+5) x.v
 args:Sli B w g (a+10) 1 (intAt w) x.args
 mat:Sli B w g (a+11) 1 (intAt w) x.mat
structure stmtAt (B:Nat) (w:World) (g a:Nat) (s:StmtD):Prop where
 c0:w.cell? ⟨g,a,none⟩=some (.int .i64 s.kind)
 c1:w.cell? ⟨g,a+1,none⟩=some (.int .i64 s.a)
 c2:w.cell? ⟨g,a+2,none⟩=some (.int .i64 s.b)
 c3:w.cell? ⟨g,a+3,none⟩=some (.int .i64 s.n)
 args:Sli B w g (a+4) 1 (intAt w) s.args
 mat:Sli B w g (a+5) 1 (intAt w) s.mat
 c6:w.cell? ⟨g,a+6,none⟩=some (.string s.text)
structure transAt (B:Nat) (w:World) (g a:Nat) (t:TransD):Prop where
 s:stmtAt B w g a t.s
 c7:w.cell? ⟨g,a+7,none⟩=some (.int .i64 t.to)
 c8:w.cell? ⟨g,a+8,none⟩=some (.int .i64 t.line)
def escAt (B:Nat) (w:World) (g a:Nat) (l:List TransD):Prop:=Sli B w g a 9 (transAt B w) l
structure locAt (B:Nat) (w:World) (g a:Nat) (l:LocD):Prop where
 out:Sli B w g a 9 (transAt B w) l.out
 esc:Sli B w g (a+1) 1 (escAt B w) l.esc
 c2:w.cell? ⟨g,a+2,none⟩=some (.bool l.atomic)
 c3:w.cell? ⟨g,a+3,none⟩=some (.bool l.dstep)
 c4:w.cell? ⟨g,a+4,none⟩=some (.bool l.fin)
 c5:w.cell? ⟨g,a+5,none⟩=some (.bool l.accept)
 c6:w.cell? ⟨g,a+6,none⟩=some (.bool l.progress)
structure procAt (B:Nat) (w:World) (g a:Nat) (p:ProcD):Prop where
 c0:w.cell? ⟨g,a,none⟩=some (.string p.name)
 c1:w.cell? ⟨g,a+1,none⟩=some (.int .i64 p.params)
 frame:Sli B w g (a+2) 2 (tyAt w) p.frame
 init:Sli B w g (a+3) 1 (intAt w) p.init
 locs:Sli B w g (a+4) 7 (locAt B w) p.locs
 c5:w.cell? ⟨g,a+5,none⟩=some (.int .i64 p.start)
 c6:w.cell? ⟨g,a+6,none⟩=some (.int .i64 p.final)
 c7:w.cell? ⟨g,a+7,none⟩=some (.int .i64 p.active)
 c8:w.cell? ⟨g,a+8,none⟩=some (.int .i64 p.prio)
 c9:w.cell? ⟨g,a+9,none⟩=some (.int .i64 p.provided)
structure shapeAt (B:Nat) (w:World) (g a:Nat) (s:ShapeD):Prop where
 c0:w.cell? ⟨g,a,none⟩=some (.int .i64 s.room)
 fields:Sli B w g (a+1) 2 (tyAt w) s.fields
structure modelAt (B:Nat) (w:World) (g a:Nat) (m:ModelD):Prop where
 globals:Sli B w g a 2 (tyAt w) m.globals
 init:Sli B w g (a+1) 1 (intAt w) m.init
 shapes:Sli B w g (a+2) 2 (shapeAt B w) m.shapes
 chans:Sli B w g (a+3) 1 (intAt w) m.chans
 procs:Sli B w g (a+4) 10 (procAt B w) m.procs
 claim:w.cell? ⟨g,a+5,none⟩=some (.int .i64 m.claim)
 exprs:Sli B w g (a+6) 12 (exprAt B w) m.exprs
section
variable {B:Nat} {w w':World} (hb:Below B w w')
include hb
theorem intAt.below {g a:Nat} {x:Int} (hg:g < B) (h:intAt w g a x):intAt w' g a x:=(hb.cell hg).trans h
theorem boolAt.below {g a:Nat} {x:Bool} (hg:g < B) (h:boolAt w g a x):boolAt w' g a x:=(hb.cell hg).trans h
theorem strAt.below {g a:Nat} {x:ByteArray} (hg:g < B) (h:strAt w g a x):strAt w' g a x:=(hb.cell hg).trans h
theorem tyAt.below {g a:Nat} {x:Int × Bool} (hg:g < B) (h:tyAt w g a x):tyAt w' g a x:=⟨(hb.cell hg).trans h.1,(hb.cell hg).trans h.2⟩
theorem dimAt.below {g a:Nat} {x:DimD} (hg:g < B) (h:dimAt w g a x):dimAt w' g a x:=⟨(hb.cell hg).trans h.1,(hb.cell hg).trans h.2.1,(hb.cell hg).trans h.2.2⟩
theorem Sli.below {α:Type} {g a k:Nat} {R R':Nat→Nat→α→Prop} {l:List α} (hg:g < B) (h:Sli B w g a k R l) (hR:∀g a x,g < B→R g a x→R' g a x):Sli B w' g a k R' l:=by
 obtain ⟨o,c,h1,h2⟩:=h;exact ⟨o,c,(hb.cell hg).trans h1,h2.mono hR⟩
theorem varAt.below {g a:Nat} {x:VarD} (hg:g < B) (h:varAt B w g a x):varAt B w' g a x:=
 ⟨(hb.cell hg).trans h.c0,(hb.cell hg).trans h.c1,(hb.cell hg).trans h.c2,(hb.cell hg).trans h.c3,h.dims.below hb hg fun _ _ _ hg=>dimAt.below hb hg⟩
theorem exprAt.below {g a:Nat} {x:ExprD} (hg:g < B) (h:exprAt B w g a x):exprAt B w' g a x:=
 ⟨(hb.cell hg).trans h.c0,(hb.cell hg).trans h.c1,(hb.cell hg).trans h.c2,(hb.cell hg).trans h.c3,(hb.cell hg).trans h.c4,h.v.below hb hg,h.args.below hb hg fun _ _ _ hg=>intAt.below hb hg,h.mat.below hb hg fun _ _ _ hg=>intAt.below hb hg⟩
theorem stmtAt.below {g a:Nat} {x:StmtD} (hg:g < B) (h:stmtAt B w g a x):stmtAt B w' g a x:=
 ⟨(hb.cell hg).trans h.c0,(hb.cell hg).trans h.c1,(hb.cell hg).trans h.c2,(hb.cell hg).trans h.c3,h.args.below hb hg fun _ _ _ hg=>intAt.below hb hg,h.mat.below hb hg fun _ _ _ hg=>intAt.below hb hg,(hb.cell hg).trans h.c6⟩
theorem transAt.below {g a:Nat} {x:TransD} (hg:g < B) (h:transAt B w g a x):transAt B w' g a x:=
 ⟨h.s.below hb hg,(hb.cell hg).trans h.c7,(hb.cell hg).trans h.c8⟩
theorem escAt.below {g a:Nat} {x:List TransD} (hg:g < B) (h:escAt B w g a x):escAt B w' g a x:=Sli.below hb hg h fun _ _ _ hg=>transAt.below hb hg
theorem locAt.below {g a:Nat} {x:LocD} (hg:g < B) (h:locAt B w g a x):locAt B w' g a x:=
 ⟨h.out.below hb hg fun _ _ _ hg=>transAt.below hb hg,h.esc.below hb hg fun _ _ _ hg=>escAt.below hb hg,(hb.cell hg).trans h.c2,(hb.cell hg).trans h.c3,(hb.cell hg).trans h.c4,(hb.cell hg).trans h.c5,(hb.cell hg).trans h.c6⟩
theorem procAt.below {g a:Nat} {x:ProcD} (hg:g < B) (h:procAt B w g a x):procAt B w' g a x:=
 ⟨(hb.cell hg).trans h.c0,(hb.cell hg).trans h.c1,h.frame.below hb hg fun _ _ _ hg=>tyAt.below hb hg,h.init.below hb hg fun _ _ _ hg=>intAt.below hb hg,h.locs.below hb hg fun _ _ _ hg=>locAt.below hb hg,(hb.cell hg).trans h.c5,(hb.cell hg).trans h.c6,(hb.cell hg).trans h.c7,(hb.cell hg).trans h.c8,(hb.cell hg).trans h.c9⟩
theorem shapeAt.below {g a:Nat} {x:ShapeD} (hg:g < B) (h:shapeAt B w g a x):shapeAt B w' g a x:=
 ⟨(hb.cell hg).trans h.c0,h.fields.below hb hg fun _ _ _ hg=>tyAt.below hb hg⟩
end
structure MH where
 go:Option Addr
 gc:Nat
 io:Option Addr
 ic:Nat
 so:Option Addr
 sc:Nat
 co:Option Addr
 cc:Nat
 po:Option Addr
 pc:Nat
 eo:Option Addr
 ec:Nat
structure MD (B:Nat) (w:World) (h:MH) (m:ModelD):Prop where
 globals:Row B h.go 2 (tyAt w) m.globals
 init:Row B h.io 1 (intAt w) m.init
 shapes:Row B h.so 2 (shapeAt B w) m.shapes
 chans:Row B h.co 1 (intAt w) m.chans
 procs:Row B h.po 10 (procAt B w) m.procs
 exprs:Row B h.eo 12 (exprAt B w) m.exprs
theorem MD.below {B:Nat} {w w':World} {h:MH} {m:ModelD} (hm:MD B w h m) (hb:Below B w w'):MD B w' h m:=
 ⟨hm.globals.mono fun _ _ _ hg=>tyAt.below hb hg,hm.init.mono fun _ _ _ hg=>intAt.below hb hg,hm.shapes.mono fun _ _ _ hg=>shapeAt.below hb hg,hm.chans.mono fun _ _ _ hg=>intAt.below hb hg,hm.procs.mono fun _ _ _ hg=>procAt.below hb hg,hm.exprs.mono fun _ _ _ hg=>exprAt.below hb hg⟩
def mCells (h:MH) (m:ModelD):Array Value:=#[.slice h.go m.globals.length h.gc,.slice h.io m.init.length h.ic,.slice h.so m.shapes.length h.sc,.slice h.co m.chans.length h.cc,.slice h.po m.procs.length h.pc,.int .i64 m.claim,.slice h.eo m.exprs.length h.ec]
def mV (h:MH) (m:ModelD):Value:= .agg (mCells h m)
def kCells (h:MH) (m:ModelD) (sv lv:Value):Array Value:=#[.slice h.go m.globals.length h.gc,.slice h.io m.init.length h.ic,.slice h.so m.shapes.length h.sc,.slice h.co m.chans.length h.cc,.slice h.po m.procs.length h.pc,.int .i64 m.claim,.slice h.eo m.exprs.length h.ec,sv,lv]
structure Ck (B:Nat) (w:World) (p:Nat) (h:MH) (m:ModelD):Prop where
 c0:w.cell? ⟨p,0,none⟩=some (.slice h.go m.globals.length h.gc)
 c1:w.cell? ⟨p,1,none⟩=some (.slice h.io m.init.length h.ic)
 c2:w.cell? ⟨p,2,none⟩=some (.slice h.so m.shapes.length h.sc)
 c3:w.cell? ⟨p,3,none⟩=some (.slice h.co m.chans.length h.cc)
 c4:w.cell? ⟨p,4,none⟩=some (.slice h.po m.procs.length h.pc)
 c5:w.cell? ⟨p,5,none⟩=some (.int .i64 m.claim)
 c6:w.cell? ⟨p,6,none⟩=some (.slice h.eo m.exprs.length h.ec)
 le:B≤w.heap.size
 lt:p < w.heap.size
 md:MD B w h m
theorem Ck.below {B p:Nat} {w w':World} {h:MH} {m:ModelD} (hk:Ck B w p h m) (hb:Below w.heap.size w w'):Ck B w' p h m:=
 ⟨(hb.cell hk.lt).trans hk.c0,(hb.cell hk.lt).trans hk.c1,(hb.cell hk.lt).trans hk.c2,(hb.cell hk.lt).trans hk.c3,(hb.cell hk.lt).trans hk.c4,(hb.cell hk.lt).trans hk.c5,(hb.cell hk.lt).trans hk.c6,Nat.le_trans hk.le hb.size,Nat.lt_of_lt_of_le hk.lt hb.size,hk.md.below (hb.mono (hk.le))⟩
theorem Ck.drew {B p:Nat} {w:World} {h:MH} {m:ModelD} (hk:Ck B w p h m):Ck B w.drew p h m:=hk.below (Below.refl _ _).drew
theorem Ck.alloc {B p:Nat} {w:World} {h:MH} {m:ModelD} (hk:Ck B w p h m) (o:Obj):Ck B (w.alloc o) p h m:=hk.below ((Below.refl _ _).alloc (Nat.le_refl _) _)
theorem bdrew {B:Nat} {a w:World} (h:Below B a w) (n:Nat):Below B a (w.drewN n):=⟨h.os,h.tape,h.output,h.size,h.block⟩
theorem ball {w:World} (o:Obj):Below w.heap.size w (w.alloc o):=(Below.refl _ _).alloc (Nat.le_refl _) _
theorem ball' {B:Nat} {w0 w:World} (h:Below B w0 w) (o:Obj) (hB:B≤w0.heap.size):Below B w0 (w.alloc o):=h.alloc (Nat.le_trans hB h.size) _
def intOf:Value→Int
 | .int _ q=>q
 | _=>0
theorem retB {a b:Bool} (h:a=b):Ending.returned (.bool a)= .returned (.bool b):=by rw [h]
theorem retI {k:IntKind} {a b:Int} (h:a=b):Ending.returned (.int k a)= .returned (.int k b):=by rw [h]
theorem retIB {a b:Int} {c d:Bool} (h:a=b) (h2:c=d):Ending.returned (.tuple #[.int .i64 a,.bool c])= .returned (.tuple #[.int .i64 b,.bool d]):=by rw [h,h2]
theorem all_of {α:Type} {l:List α} {p:α→Bool} (h:∀j (hj:j < l.length),p l[j]=true):l.all p=true:=by
 rw [List.all_eq_true];intro x hx;obtain ⟨j,hj,rfl⟩:=List.mem_iff_getElem.1 hx;exact h j hj
theorem all_bad {α:Type} {l:List α} {p:α→Bool} {i:Nat} (hi:i < l.length) (h:p l[i]=false):l.all p=false:=by
 rw [List.all_eq_false];exact ⟨l[i],List.getElem_mem hi,by simp [h]⟩
def bad {α:Type} (p:α→Bool) (l:List α):Option Nat:=l.findIdx? (fun x=> !p x)
theorem bad_none {α:Type} {l:List α} {p:α→Bool} (h:∀j (hj:j < l.length),p l[j]=true):bad p l=none:=by
 unfold bad;rw [List.findIdx?_eq_none_iff];intro x hx;obtain ⟨j,hj,rfl⟩:=List.mem_iff_getElem.1 hx;simp [h j hj]
theorem bad_some {α:Type} {l:List α} {p:α→Bool} {i:Nat} (hi:i < l.length) (hb:p l[i]=false) (h:∀j (hj:j < l.length),j < i→p l[j]=true):bad p l=some i:=by
 unfold bad;rw [List.findIdx?_eq_some_iff_getElem];exact ⟨hi,by simp [hb],fun j hj=>by simp [h j (by omega) hj]⟩
theorem bad_all {α:Type} {l:List α} {p:α→Bool} (h:bad p l=none):∀x ∈ l,p x=true:=by
 unfold bad at h;rw [List.findIdx?_eq_none_iff] at h;intro x hx;have:=h x hx;simpa using this
def idxB (r:Option Nat):Int × Bool:=match r with
 | some i=>(i,false)
 | none=>(0,true)
theorem upto_succ {p:Nat→Prop} {i:Nat} (h:∀j,j < i→p j) (hi:p i):∀j,j < i+1→p j:=fun j hj=>by
 by_cases e:j=i
 · subst e;exact hi
 · exact h j (by omega)
end Go.Proofs.YtnoibjahliafpaaGreatDoor
namespace Go.Proofs.YtnoibjahliafpaaGreatDoor
open Go.ChangeShapes Go.WideShapes Go.ChangeAt Go.RowKit
def digB (k:Nat):UInt8:=if k < 10 then UInt8.ofNat (48+k) else UInt8.ofNat (87+k)
def revB (b:Nat):Nat→Nat→List UInt8
 | 0,_=>[]
 | f+1,u=>if u < b then [digB u] else digB (u % b) :: revB b f (u / b)
def baseL (b u:Nat):List UInt8:=(revB b 64 u).reverse
theorem rev_more {b:Nat} (hb:2≤b):∀ (f g u:Nat),u < 2 ^ f→0 < f→f≤g→revB b f u=revB b g u
 | 0,g,u,h,h0,h2=>by omega
 | f+1,g,u,h,h0,h2=>by
   obtain ⟨k,rfl⟩:∃k,g=k+1:=⟨g - 1,by omega⟩;unfold revB;split
   · rfl
   · rename_i hu
     have h3:u / b < 2 ^ f:=by
      rw [Nat.div_lt_iff_lt_mul (by omega)];have e:2 ^ (f+1)=2 ^ f*2:=Nat.pow_succ 2 f;have:=Nat.mul_le_mul_left (2 ^ f) hb;omega
     have hf:0 < f:=by
      rcases Nat.eq_zero_or_pos f with e | e
      · subst e;simp at h;omega
      · exact e
     rw [rev_more hb f k (u / b) h3 hf (by omega)]
theorem base_small {b u:Nat} (h:u < b):baseL b u= [digB u]:=by
 unfold baseL revB;rw [if_pos h];rfl
theorem base_step {b u:Nat} (hb:2≤b) (h:b≤u) (hu:u < 18446744073709551616):baseL b u=baseL b (u / b) ++ [digB (u % b)]:=by
 have e:baseL b u= (digB (u % b) :: revB b 63 (u / b)).reverse:=by
  unfold baseL
  conv=>lhs;unfold revB
  rw [if_neg (by omega)]
 have h3:u / b < 2 ^ 63:=by
  rw [Nat.div_lt_iff_lt_mul (by omega)];have:=Nat.mul_le_mul_left (2 ^ 63) hb;omega
 rw [e,List.reverse_cons,rev_more hb 63 64 (u / b) h3 (by omega) (by omega)];rfl
theorem rev_len (b:Nat):∀ (f u:Nat),(revB b f u).length≤f
 | 0,u=>by simp [revB]
 | f+1,u=>by
   unfold revB;split
   · simp
   · have:=rev_len b f (u / b);simp;omega
theorem base_len (b u:Nat): (baseL b u).length≤64:=by
 unfold baseL;rw [List.length_reverse];exact rev_len b 64 u
theorem dec_base:∀ (u:Nat),u < 18446744073709551616→Lib.decDigits u=baseL 10 u
 | u,hu=>by
   by_cases h:u < 10
   · rw [Lib.decDigits,dif_pos h,base_small h];unfold digB;rw [if_pos h]
   · rw [Lib.decDigits,dif_neg h,base_step (by omega) (by omega) hu,dec_base (u / 10) (by omega)];unfold digB;rw [if_pos (by omega)]
termination_by u=>u
decreasing_by omega
theorem cells_app (a b:List UInt8):Lib.byteCells (a ++ b)=Lib.byteCells a ++ Lib.byteCells b:=by simp [Lib.byteCells]
theorem cells_len (a:List UInt8): (Lib.byteCells a).length=a.length:=by simp [Lib.byteCells]
def low32 (v:Int):Nat:=(v % 4294967296).toNat
theorem low32_lt (v:Int):low32 v < 4294967296:=by unfold low32;omega
def isDec (c:Int):Prop:=c=100∨c=105∨c=101
def convF (c:UInt8) (v:Int):List UInt8:=
 if c=99 then [UInt8.ofNat (v % 256).toNat] else if c=120 then baseL 16 (low32 v) else if c=111 then baseL 8 (low32 v) else if c=117 then baseL 10 (low32 v) else Lib.itoa v
def isConv (c:UInt8):Bool:=c=100 || c=105 || c=101 || c=117 || c=120 || c=111 || c=99
def printF:List UInt8→List Int→List UInt8
 | [],_=>[]
 | [c],_=>[c]
 | c :: d :: r,args=>
   if c≠37 then c :: printF (d :: r) args
   else if d=37 then 37 :: printF r args
   else if isConv d=false then 37 :: d :: printF r args
   else match args with
    | []=>printF r []
    | a :: rest=>convF d a ++ printF r rest
theorem itoa_len {v:Int} (h: -9223372036854775808≤v∧v≤9223372036854775807): (Lib.itoa v).length≤65:=by
 unfold Lib.itoa;split
 · rw [List.length_cons,dec_base _ (by omega)];have:=base_len 10 v.natAbs;omega
 · rw [dec_base _ (by omega)];have:=base_len 10 v.toNat;omega
theorem conv_len {c:UInt8} {v:Int} (h: -9223372036854775808≤v∧v≤9223372036854775807): (convF c v).length≤65:=by
 unfold convF;have:=itoa_len h;split
 · simp
 · split
   · have:=base_len 16 (low32 v);omega
   · split
     · have:=base_len 8 (low32 v);omega
     · split
       · have:=base_len 10 (low32 v);omega
       · exact this
end Go.Proofs.YtnoibjahliafpaaGreatDoor
namespace Go.Proofs.YtnoibjahliafpaaGreatDoor
open Go.ChangeShapes Go.WideShapes Go.ChangeAt Go.RowKit
def strV (l:List UInt8):Value:= .string ⟨l.toArray⟩
theorem str_add (a b:List UInt8): (⟨a.toArray⟩:ByteArray) ++ ⟨b.toArray⟩= ⟨(a ++ b).toArray⟩:=by
 apply ByteArray.ext;simp
theorem dec_step {u:Nat} (h:¬u < 10):Lib.decDigits u=Lib.decDigits (u / 10) ++ [UInt8.ofNat (48+u % 10)]:=by
 rw [Lib.decDigits,dif_neg h]
theorem dec_last {u:Nat} (h:u < 10):Lib.decDigits u= [UInt8.ofNat (48+u % 10)]:=by
 rw [Lib.decDigits,dif_pos h,Nat.mod_eq_of_lt h]
theorem run_byte (x:Nat) (hx:x < 256) (W:World): (convert 119 9 (.slice (some ⟨W.heap.size,0,none⟩) 1 1)).run Tryz.prog (W.alloc (.cells #[.int .u8 (x:Int)] 5))= .ok (.string ⟨#[UInt8.ofNat x]⟩) (W.alloc (.cells #[.int .u8 (x:Int)] 5)):=by
 refine run_convert_bytes_back _ 119 9 5 ⟨W.heap.size,0,none⟩ 1 [UInt8.ofNat x] Tryz.underlying119 Tryz.underlying5 Tryz.underlying9 fun j hj=> ?_
 obtain rfl:j=0:=by simpa using hj
 refine (cell_of_row _ _ _ _ _ _ (heap_alloc_new W _)).trans ?_;have : (UInt8.ofNat x).toNat=x:=by simp;omega
 simp [this]
theorem tmod_pos {m:Int} (h:0≤m):m.tmod 10= ((m.natAbs % 10:Nat):Int):=by
 rw [Int.tmod_eq_emod_of_nonneg h];omega
theorem tmod_neg {m:Int} (h:m < 0):m.tmod 10= -((m.natAbs % 10:Nat):Int):=by
 obtain ⟨k,rfl⟩:∃k:Int,m= -k:=⟨-m,by omega⟩;rw [Int.neg_tmod,Int.tmod_eq_emod_of_nonneg (by omega)];omega
theorem tdiv_abs (m:Int): (m.tdiv 10).natAbs=m.natAbs / 10:=by
 rw [Int.natAbs_tdiv];rfl
theorem tdiv_pos {m:Int} (h:0≤m):0≤m.tdiv 10:=Int.tdiv_nonneg h (by decide)
theorem tdiv_neg {m:Int} (h:m≤0):m.tdiv 10≤0:=by
 obtain ⟨k,rfl⟩:∃k:Int,m= -k:=⟨-m,by omega⟩;rw [Int.neg_tdiv];have:=tdiv_pos (m:=k) (by omega);omega
set_option maxRecDepth 100000 in
set_option maxHeartbeats 1600000 in
theorem decimalC (n:Int) (w:World) (hn: -9223372036854775808≤n∧n≤9223372036854775807):Calls Tryz.prog 73 #[.int .i64 n] w fun e w'=>e= .returned (strV (Lib.itoa n))∧Below w.heap.size w w':=by
 obtain ⟨h0,h1⟩:=hn;unfold strV;go_enter Tryz.func73,Tryz.ntmps73;go_wp2_with fail
 go_loopw [0,3] (fun v s wr=>∃ (m:Int) (sl:List UInt8),v= .int .i64 m∧s= .string ⟨sl.toArray⟩∧Hid (Lib.decDigits m.natAbs ++ sl=Lib.decDigits n.natAbs)∧Hid ((n < 0→m≤0)∧ (0≤n→0≤m))∧Hid (m.natAbs≤n.natAbs)∧Hid (Below w.heap.size w wr)) (fun v _ _=>(intOf v).natAbs)
 case atStart=>exact ⟨n,[],rfl,rfl,Lib.hid (by simp),Lib.hid ⟨fun h=>by omega,fun h=>h⟩,Lib.hid (Nat.le_refl _),Lib.hid (Below.refl _ _)⟩
 case round=>
  obtain ⟨m,sl,rfl,rfl,HD,HS,HM,HB⟩:=hrel;obtain ⟨d,hd⟩:∃d,m.natAbs % 10=d:=⟨_,rfl⟩;have hd10:d < 10:=by omega
  have HDD:=Lib.hid hd;obtain ⟨bt,hbt⟩:∃bt,UInt8.ofNat (48+d)=bt:=⟨_,rfl⟩;have hcv:∀W:World,(convert 119 9 (.slice (some ⟨W.heap.size,0,none⟩) 1 1)).run Tryz.prog (W.alloc (.cells #[.int .u8 (48+ (d:Int))] 5))= .ok (.string ⟨#[bt]⟩) (W.alloc (.cells #[.int .u8 (48+ (d:Int))] 5)):=fun W=>by
   have:=run_byte (48+d) (by omega) W;rw [hbt] at this;simpa using this
  have hw1:wrap64 (48+ (d:Int))=48+ (d:Int):=by unfold wrap64;omega
  have hw2: (48+ (d:Int)) % 256=48+ (d:Int):=by omega
  have HBT:=Lib.hid hbt;have hbx:∀W:World,Below w.heap.size w W→Below w.heap.size w (W.alloc (.cells #[.int .u8 (48+ (d:Int))] 5)):=fun W h=>h.alloc h.size _
  have HBX:=Lib.hid hbx;have hq:wrap64 (m.tdiv 10)=m.tdiv 10:=by
   have h1:=tdiv_abs m;have h2:=HM.out;unfold wrap64;omega
  have hln:sl.length≤21:=by
   have h2:=congrArg List.length HD.out;rw [List.length_append] at h2;have h3:=Lib.itoa_length_le n h0 h1;unfold Lib.itoa at h3;split at h3
   · simp at h3;omega
   · rw [show n.toNat=n.natAbs by omega] at h3;omega
  have HLN:=Lib.hid hln;clear hd hbt hbx hln;by_cases hneg:m < 0∧0 < d
  · have htm:m.tmod 10= -(d:Int):=by rw [tmod_neg hneg.1,HDD.out]
    have hlt: -(d:Int) < 0:=by omega
    have hng:wrap64 (- -(d:Int))= (d:Int):=by unfold wrap64;omega
    clear hneg;have hsl:¬9223372036854775807 < 1+sl.length:=by have:=HLN.out;omega
    have hsl2:¬9223372036854775807 < 1+ (1+sl.length):=by have:=HLN.out;omega
    by_cases hz:m.tdiv 10=0
    · by_cases hn0:n < 0
      · go_wp2_with fail;go_ret;refine ⟨?_,HBX.out wr HB.out⟩;have h2:=HD.out;rw [dec_last (by have:=tdiv_abs m;rw [hz] at this;simp at this;omega),HDD.out,HBT.out] at h2;unfold Lib.itoa;rw [if_pos hn0,←h2];congr 1
      · go_wp2_with fail;go_ret;refine ⟨?_,HBX.out wr HB.out⟩;have h2:=HD.out;rw [dec_last (by have:=tdiv_abs m;rw [hz] at this;simp at this;omega),HDD.out,HBT.out] at h2;unfold Lib.itoa;rw [if_neg (by omega),show n.toNat=n.natAbs by omega,←h2];congr 1
    · go_wp2_with fail;go_roundw;case rel=>
       refine ⟨m.tdiv 10,bt :: sl,by rw [hq],by congr 1,Lib.hid ?_,Lib.hid ⟨fun h=>tdiv_neg (HS.out.1 h),fun h=>tdiv_pos (HS.out.2 h)⟩,Lib.hid (by have:=HM.out;have:=tdiv_abs m;omega),Lib.hid (HBX.out wr HB.out)⟩;have h2:=HD.out;have h3:=tdiv_abs m;rw [dec_step (by omega),HDD.out,HBT.out] at h2;rw [h3,←h2];simp
      case measure=>simp only [intOf];rw [hq];have:=tdiv_abs m;omega
  · have htm:m.tmod 10= (d:Int):=by
     by_cases hm0:0≤m
     · rw [tmod_pos hm0,HDD.out]
     · rw [tmod_neg (by omega),HDD.out];omega
    have hge:¬ (d:Int) < 0:=by omega
    clear hneg;have hsl:¬9223372036854775807 < 1+sl.length:=by have:=HLN.out;omega
    have hsl2:¬9223372036854775807 < 1+ (1+sl.length):=by have:=HLN.out;omega
    by_cases hz:m.tdiv 10=0
    · by_cases hn0:n < 0
      · go_wp2_with fail;go_ret;refine ⟨?_,HBX.out wr HB.out⟩;have h2:=HD.out;rw [dec_last (by have:=tdiv_abs m;rw [hz] at this;simp at this;omega),HDD.out,HBT.out] at h2;unfold Lib.itoa;rw [if_pos hn0,←h2];congr 1
      · go_wp2_with fail;go_ret;refine ⟨?_,HBX.out wr HB.out⟩;have h2:=HD.out;rw [dec_last (by have:=tdiv_abs m;rw [hz] at this;simp at this;omega),HDD.out,HBT.out] at h2;unfold Lib.itoa;rw [if_neg (by omega),show n.toNat=n.natAbs by omega,←h2];congr 1
    · go_wp2_with fail;go_roundw;case rel=>
       refine ⟨m.tdiv 10,bt :: sl,by rw [hq],by congr 1,Lib.hid ?_,Lib.hid ⟨fun h=>tdiv_neg (HS.out.1 h),fun h=>tdiv_pos (HS.out.2 h)⟩,Lib.hid (by have:=HM.out;have:=tdiv_abs m;omega),Lib.hid (HBX.out wr HB.out)⟩;have h2:=HD.out;have h3:=tdiv_abs m;rw [dec_step (by omega),HDD.out,HBT.out] at h2;rw [h3,←h2];simp
      case measure=>simp only [intOf];rw [hq];have:=tdiv_abs m;omega
end Go.Proofs.YtnoibjahliafpaaGreatDoor
namespace Go.Proofs.YtnoibjahliafpaaGreatDoor
open Go.ChangeShapes Go.WideShapes Go.ChangeAt Go.RowKit
def inI (n:Int):Prop:= -9223372036854775808≤n∧n≤9223372036854775807
def num (p:List UInt8):Option Int:=
 match Lib.parseIntB 64 p with
 | .ok n=>if Lib.itoa n=p then some n else none
 | _=>none
theorem byte_digit {d:Nat} (h:d < 10): (UInt8.ofNat (48+d)).toNat=48+d:=by
 simp;omega
theorem puM_append (M:Nat):∀ (xs ys:List UInt8) (acc:Nat),Lib.parseUintM M acc (xs ++ ys)= (match Lib.parseUintM M acc xs with | .ok a=>Lib.parseUintM M a ys | .range=> .range | .syntax=> .syntax)
 | [],ys,acc=>by simp [Lib.parseUintM]
 | c :: r,ys,acc=>by
   simp only [List.cons_append,Lib.parseUintM];split
   · split
     · rfl
     · split
       · rfl
       · exact puM_append M r ys _
   · rfl
theorem puM_dec (u:Nat) (h:u≤18446744073709551615):Lib.parseUintM 18446744073709551615 0 (Lib.decDigits u)= .ok u:=by
 induction u using Nat.strongRecOn with
 | _ u ih=>
   by_cases h10:u < 10
   · rw [Lib.decDigits,dif_pos h10];simp only [Lib.parseUintM,byte_digit h10];rw [if_pos (by omega),if_neg (by omega),if_neg (by omega)];congr 1;omega
   · rw [Lib.decDigits,dif_neg h10,puM_append,ih (u / 10) (by omega) (by omega)];simp only [Lib.parseUintM,byte_digit (show u % 10 < 10 by omega)];rw [if_pos (by omega),if_neg (by omega),if_neg (by omega)];congr 1;omega
theorem dec_ne (u:Nat):Lib.decDigits u≠ []:=by
 rw [Lib.decDigits];split
 · simp
 · simp
theorem dec_all (u:Nat):∀c ∈ Lib.decDigits u,48≤c.toNat∧c.toNat≤57:=by
 induction u using Nat.strongRecOn with
 | _ u ih=>
   intro c hc;rw [Lib.decDigits] at hc;split at hc
   · simp only [List.mem_singleton] at hc;subst hc;rw [byte_digit (by assumption)];omega
   · simp only [List.mem_append,List.mem_singleton] at hc;rcases hc with hc | rfl
     · exact ih (u / 10) (by omega) c hc
     · rw [byte_digit (by omega)];omega
theorem parse_itoa (n:Int) (h:inI n):Lib.parseIntB 64 (Lib.itoa n)= .ok n:=by
 obtain ⟨h0,h1⟩:=h;unfold Lib.itoa;split
 · rename_i hn
   unfold Lib.parseIntB;simp only [show (45:UInt8).toNat=45 from rfl,or_true,if_true];have hp:Lib.parseUintB 64 (Lib.decDigits n.natAbs)= .ok n.natAbs:=by
    unfold Lib.parseUintB;rw [if_neg (dec_ne _)];exact puM_dec _ (by omega)
   rw [hp];simp only;rw [if_neg (by simp),if_neg (by simp;omega)];simp;omega
 · rename_i hn
   have hd:=dec_all n.toNat;have hp:Lib.parseUintB 64 (Lib.decDigits n.toNat)= .ok n.toNat:=by
    unfold Lib.parseUintB;rw [if_neg (dec_ne _)];exact puM_dec _ (by omega)
   cases hl:Lib.decDigits n.toNat with
   | nil=>exact absurd hl (dec_ne _)
   | cons c r=>
     have hc:=hd c (by rw [hl];simp);unfold Lib.parseIntB;simp only;rw [if_neg (by omega),←hl,hp];simp only;rw [if_neg (by omega),if_neg (by omega),if_neg (by omega)];congr 1;omega
theorem parse_in {p:List UInt8} {n:Int} (h:Lib.parseIntB 64 p= .ok n):inI n:=by
 unfold Lib.parseIntB at h;cases p with
 | nil=>simp at h
 | cons c r=>
   simp only at h;split at h
   · cases h
   · cases h
   · rename_i u hu
     split at h
     · cases h
     · split at h
       · cases h
       · rename_i g1 g2
         injection h with h
         subst h;unfold inI;simp at g1 g2;split
         · rename_i hneg
           have:=g2 hneg;omega
         · rename_i hneg
           have:=g1 hneg;omega
theorem num_some {p:List UInt8} {n:Int}:num p=some n↔inI n∧Lib.itoa n=p:=by
 constructor
 · intro h;unfold num at h;split at h
   · rename_i m hm
     split at h
     · rename_i he
       injection h with h
       subst h;exact ⟨parse_in hm,he⟩
     · cases h
   · cases h
 · rintro ⟨h1,rfl⟩;unfold num;rw [parse_itoa n h1];simp
theorem num_none {p:List UInt8} (h:num p=none) (n:Int) (hn:inI n):Lib.itoa n≠p:=fun e=>by
 have:=num_some.2 ⟨hn,e⟩;rw [h] at this;cases this
def isDig (c:UInt8):Bool:=decide (48≤c.toNat) && decide (c.toNat≤57)
def valD (l:List UInt8):Int:=l.foldl (fun a c=>a*10+ ((c.toNat:Int) - 48)) 0
theorem valD_snoc (l:List UInt8) (c:UInt8):valD (l ++ [c])=valD l*10+ ((c.toNat:Int) - 48):=by simp [valD]
theorem valD_dec (u:Nat):valD (Lib.decDigits u)=u:=by
 induction u using Nat.strongRecOn with
 | _ u ih=>
   by_cases h:u < 10
   · rw [dec_last h];have:=byte_digit (d:=u % 10) (by omega);simp only [valD,List.foldl_cons,List.foldl_nil,this];omega
   · rw [dec_step h,valD_snoc,ih (u / 10) (by omega),byte_digit (d:=u % 10) (by omega)];omega
def sgn (b:Bool):Int:=if b=true then -1 else 1
theorem wrap_step (a d:Int):wrap64 (wrap64 (wrap64 a*10)+d)=wrap64 (a*10+d):=by
 unfold wrap64;omega
theorem wrap_in (a:Int):inI (wrap64 a):=by
 unfold wrap64 inI;omega
theorem wrap_of {a:Int} (h:inI a):wrap64 a=a:=by
 unfold inI at h;unfold wrap64;omega
theorem dig_dec (u:Nat):∀c ∈ Lib.decDigits u,isDig c=true:=fun c hc=>by
 have:=dec_all u c hc;simp [isDig,this]
structure Split1 (t:List UInt8) (neg:Bool) (D:List UInt8):Prop where
 eq:t= (if neg=true then 45 :: D else D)
 free:neg=false→∀r,t≠45 :: r
theorem itoa_split {t:List UInt8} {neg:Bool} {D:List UInt8} (h:Split1 t neg D) {n:Int} (e:Lib.itoa n=t): (neg=true↔n < 0)∧D=Lib.decDigits n.natAbs:=by
 unfold Lib.itoa at e;by_cases hn:n < 0
 · rw [if_pos hn] at e;cases neg with
   | true=>
     have h1:=h.eq;rw [if_pos rfl,←e] at h1;injection h1 with _ h2
     exact ⟨by simp [hn],h2.symm⟩
   | false=>exact absurd e.symm (h.free rfl _)
 · rw [if_neg hn] at e;have e2:n.toNat=n.natAbs:=by omega
   rw [e2] at e;cases neg with
   | true=>
     have h1:=h.eq;rw [if_pos rfl,←e] at h1;have:=dec_all n.natAbs 45 (by rw [h1];simp);exact absurd this.1 (by decide)
   | false=>
     have h1:=h.eq;rw [if_neg (by simp),←e] at h1;exact ⟨by simp [hn],h1.symm⟩
theorem num_bad {t:List UInt8} {neg:Bool} {D:List UInt8} (h:Split1 t neg D) {c:UInt8} (hc:c ∈ D) (hd:isDig c=false):num t=none:=by
 cases hn:num t with
 | none=>rfl
 | some n=>
   obtain ⟨_,h2⟩:=num_some.1 hn;obtain ⟨_,h4⟩:=itoa_split h h2;rw [h4] at hc;rw [dig_dec _ c hc] at hd;cases hd
theorem dec_len (k:Nat):∀u,u < 10 ^ (k+1)→ (Lib.decDigits u).length≤k+1:=by
 induction k with
 | zero=>
   intro u h;rw [dec_last (by simpa using h)];simp
 | succ k ih=>
   intro u h;by_cases h10:u < 10
   · rw [dec_last h10];simp
   · rw [dec_step h10,List.length_append];have:=ih (u / 10) (by rw [Nat.pow_succ] at h;omega);simp;omega
theorem itoa20 {n:Int} (h:inI n): (Lib.itoa n).length≤20:=by
 have h1:=dec_len 18 n.natAbs (by unfold inI at h;omega);unfold Lib.itoa;split
 · simp;omega
 · rw [show n.toNat=n.natAbs by omega];omega
theorem num_long {t:List UInt8} (h:t.length < 1∨20 < t.length):num t=none:=by
 cases hn:num t with
 | none=>rfl
 | some n=>
   obtain ⟨h1,h2⟩:=num_some.1 hn;have h3:=itoa20 h1;rw [h2] at h3;rcases h with h | h
   · have :Lib.itoa n= []:=by rw [h2];exact List.length_eq_zero_iff.1 (by omega)
     unfold Lib.itoa at this;split at this
     · cases this
     · exact absurd this (dec_ne _)
   · omega
theorem num_is {t:List UInt8} {neg:Bool} {D:List UInt8} (h:Split1 t neg D) {n:Int} (hn:n=wrap64 (sgn neg*valD D)):num t=if Lib.itoa n=t then some n else none:=by
 have hin:inI n:=by rw [hn];exact wrap_in _
 by_cases he:Lib.itoa n=t
 · rw [if_pos he];exact num_some.2 ⟨hin,he⟩
 · rw [if_neg he];cases hm:num t with
   | none=>rfl
   | some m=>
     obtain ⟨h1,h2⟩:=num_some.1 hm;obtain ⟨h3,h4⟩:=itoa_split h h2
     exfalso
     apply he;have :n=m:=by
      rw [hn,h4,valD_dec];rw [show sgn neg* (m.natAbs:Int)=m by
       cases neg with
       | true=>have:=h3.1 rfl;simp [sgn];omega
       | false=>have :¬m < 0:=fun hlt=>by have:=h3.2 hlt;cases this
                simp [sgn];omega]
      exact wrap_of h1
     rw [this];exact h2
theorem sg_step (neg:Bool) (v d:Int):sgn neg*v*10+sgn neg*d=sgn neg* (v*10+d):=by
 cases neg
 · simp [sgn]
 · simp [sgn];omega
theorem bt_at (t:List UInt8) (k:Nat) (h:k < t.length): (⟨t.toArray⟩:ByteArray)[k]'(by simpa [ByteArray.size] using h)=t[k]:=rfl
def NumP (R:Option Int) (n:Int) (ok:Bool):Prop:=
 match R with
 | some v=>ok=true∧n=v
 | none=>ok=false
theorem b_ne {b:UInt8} (h:b≠45): ((b.toNat:Int) == 45)=false:=by
 refine beq_eq_false_iff_ne.2 fun e=>h (UInt8.toNat_inj.1 ?_)
 have h2:b.toNat=45:=by omega
 rw [h2];rfl
end Go.Proofs.YtnoibjahliafpaaGreatDoor
