/- A model as data, and how it lies in memory. -/
import Derived.Test.YthfldokfnjpkmaaGreatDoorRows
import Derived.WalkKit
import Derived.ProofKit
import Derived.Below
import Derived.Outline
import Derived.BigQuiet
import Derived.Deep.QuietTactic
import Derived.LoopN
import Derived.Lib.Hide
import Derived.Laws.Rows
import Derived.Lib.SmallJoins
import Derived.Lib.Walk
import Derived.Lib.SliceRun
import Derived.Laws.MakeOwn
import Derived.OwnWalk
import Derived.Deep.Cut
set_option linter.unusedVariables false
set_option linter.unusedSimpArgs false
namespace Go.Proofs.YthfldokfnjpkmaaGreatDoor
open Go.ChangeShapes Go.WideShapes Go.ChangeAt Go.RowKit
structure DimD where
 i:Int
 len:Int
 stride:Int
structure VarD where
 scope:Int
 slot:Int
 who:Int
 type:Int
 dims:List DimD
structure ExprD where
 op:Int
 n:Int
 a:Int
 b:Int
 c:Int
 v:VarD
 args:List Int
 mat:List Int
structure StmtD where
 kind:Int
 a:Int
 b:Int
 n:Int
 args:List Int
 mat:List Int
 text:ByteArray
structure TransD where
 s:StmtD
 to:Int
 line:Int
structure LocD where
 out:List TransD
 esc:List (List TransD)
 atomic:Bool
 dstep:Bool
 fin:Bool
 accept:Bool
 progress:Bool
structure ProcD where
 name:ByteArray
 params:Int
 frame:List (Int × Bool)
 init:List Int
 locs:List LocD
 start:Int
 final:Int
 active:Int
 prio:Int
 provided:Int
structure ShapeD where
 room:Int
 fields:List (Int × Bool)
structure ModelD where
 globals:List (Int × Bool)
 init:List Int
 shapes:List ShapeD
 chans:List Int
 procs:List ProcD
 claim:Int
 exprs:List ExprD
def Row {α:Type} (B:Nat) (o:Option Addr) (k:Nat) (R:Nat→Nat→α→Prop) (l:List α):Prop:=
 l.length≤140737488355328∧ (l.length=0∨∃g off,o=some ⟨g,off,none⟩∧g < B∧∀i (h:i < l.length),R g (off+i*k) l[i])
theorem Row.nil {α:Type} (B:Nat) (o:Option Addr) (k:Nat) (R:Nat→Nat→α→Prop):Row B o k R []:=⟨by simp,.inl rfl⟩
theorem Row.mono {α:Type} {B:Nat} {o:Option Addr} {k:Nat} {R R':Nat→Nat→α→Prop} {l:List α} (h:Row B o k R l) (hR:∀g a x,g < B→R g a x→R' g a x):Row B o k R' l:=
 ⟨h.1,h.2.imp id fun ⟨g,off,e,hg,hi⟩=>⟨g,off,e,hg,fun i hl=>hR g _ _ hg (hi i hl)⟩⟩
theorem Row.up {α:Type} {B B':Nat} {o:Option Addr} {k:Nat} {R:Nat→Nat→α→Prop} {l:List α} (h:Row B o k R l) (hB:B≤B'):Row B' o k R l:=
 ⟨h.1,h.2.imp id fun ⟨g,off,e,hg,hi⟩=>⟨g,off,e,by omega,hi⟩⟩
theorem Row.cell {α:Type} {B:Nat} {o:Option Addr} {k:Nat} {R:Nat→Nat→α→Prop} {l:List α} (h:Row B o k R l) {i:Nat} (hi:i < l.length):∃g off,o=some ⟨g,off,none⟩∧g < B∧R g (off+i*k) l[i]:=by
 rcases h.2 with h0 | ⟨g,off,e,hg,hc⟩
 · omega
 · exact ⟨g,off,e,hg,hc i hi⟩
theorem Row.get {α:Type} {B:Nat} {o:Option Addr} {k:Nat} {R:Nat→Nat→α→Prop} {l:List α} (h:Row B o k R l) {i:Nat} {x:α} (hx:l[i]? =some x):∃g off,o=some ⟨g,off,none⟩∧g < B∧R g (off+i*k) x:=by
 obtain ⟨hi,rfl⟩:=List.getElem?_eq_some_iff.1 hx;exact h.cell hi
def intAt (w:World) (g a:Nat) (x:Int):Prop:=w.cell? ⟨g,a,none⟩=some (.int .i64 x)
def boolAt (w:World) (g a:Nat) (x:Bool):Prop:=w.cell? ⟨g,a,none⟩=some (.bool x)
def strAt (w:World) (g a:Nat) (x:ByteArray):Prop:=w.cell? ⟨g,a,none⟩=some (.string x)
def tyAt (w:World) (g a:Nat) (t:Int × Bool):Prop:=w.cell? ⟨g,a,none⟩=some (.int .i64 t.1)∧w.cell? ⟨g,a+1,none⟩=some (.bool t.2)
def dimAt (w:World) (g a:Nat) (d:DimD):Prop:=w.cell? ⟨g,a,none⟩=some (.int .i64 d.i)∧w.cell? ⟨g,a+1,none⟩=some (.int .i64 d.len)∧w.cell? ⟨g,a+2,none⟩=some (.int .i64 d.stride)
def Sli {α:Type} (B:Nat) (w:World) (g a k:Nat) (R:Nat→Nat→α→Prop) (l:List α):Prop:=∃o c,w.cell? ⟨g,a,none⟩=some (.slice o l.length c)∧Row B o k R l
structure varAt (B:Nat) (w:World) (g a:Nat) (v:VarD):Prop where
 c0:w.cell? ⟨g,a,none⟩=some (.int .i64 v.scope)
 c1:w.cell? ⟨g,a+1,none⟩=some (.int .i64 v.slot)
 c2:w.cell? ⟨g,a+2,none⟩=some (.int .i64 v.who)
 c3:w.cell? ⟨g,a+3,none⟩=some (.int .i64 v.type)
 dims:Sli B w g (a+4) 3 (dimAt w) v.dims
structure exprAt (B:Nat) (w:World) (g a:Nat) (x:ExprD):Prop where
 c0:w.cell? ⟨g,a,none⟩=some (.int .i64 x.op)
 c1:w.cell? ⟨g,a+1,none⟩=some (.int .i64 x.n)
 c2:w.cell? ⟨g,a+2,none⟩=some (.int .i64 x.a)
 c3:w.cell? ⟨g,a+3,none⟩=some (.int .i64 x.b)
 c4:w.cell? ⟨g,a+4,none⟩=some (.int .i64 x.c)
 v:varAt B w g (a+5) x.v
 args:Sli B w g (a+10) 1 (intAt w) x.args
 mat:Sli B w g (a+11) 1 (intAt w) x.mat
structure stmtAt (B:Nat) (w:World) (g a:Nat) (s:StmtD):Prop where
 c0:w.cell? ⟨g,a,none⟩=some (.int .i64 s.kind)
 c1:w.cell? ⟨g,a+1,none⟩=some (.int .i64 s.a)
 c2:w.cell? ⟨g,a+2,none⟩=some (.int .i64 s.b)
 c3:w.cell? ⟨g,a+3,none⟩=some (.int .i64 s.n)
 args:Sli B w g (a+4) 1 (intAt w) s.args
 mat:Sli B w g (a+5) 1 (intAt w) s.mat
 c6:w.cell? ⟨g,a+6,none⟩=some (.string s.text)
structure transAt (B:Nat) (w:World) (g a:Nat) (t:TransD):Prop where
 s:stmtAt B w g a t.s
 c7:w.cell? ⟨g,a+7,none⟩=some (.int .i64 t.to)
 c8:w.cell? ⟨g,a+8,none⟩=some (.int .i64 t.line)
def escAt (B:Nat) (w:World) (g a:Nat) (l:List TransD):Prop:=Sli B w g a 9 (transAt B w) l
structure locAt (B:Nat) (w:World) (g a:Nat) (l:LocD):Prop where
 out:Sli B w g a 9 (transAt B w) l.out
 esc:Sli B w g (a+1) 1 (escAt B w) l.esc
 c2:w.cell? ⟨g,a+2,none⟩=some (.bool l.atomic)
 c3:w.cell? ⟨g,a+3,none⟩=some (.bool l.dstep)
 c4:w.cell? ⟨g,a+4,none⟩=some (.bool l.fin)
 c5:w.cell? ⟨g,a+5,none⟩=some (.bool l.accept)
 c6:w.cell? ⟨g,a+6,none⟩=some (.bool l.progress)
structure procAt (B:Nat) (w:World) (g a:Nat) (p:ProcD):Prop where
 c0:w.cell? ⟨g,a,none⟩=some (.string p.name)
 c1:w.cell? ⟨g,a+1,none⟩=some (.int .i64 p.params)
 frame:Sli B w g (a+2) 2 (tyAt w) p.frame
 init:Sli B w g (a+3) 1 (intAt w) p.init
 locs:Sli B w g (a+4) 7 (locAt B w) p.locs
 c5:w.cell? ⟨g,a+5,none⟩=some (.int .i64 p.start)
 c6:w.cell? ⟨g,a+6,none⟩=some (.int .i64 p.final)
 c7:w.cell? ⟨g,a+7,none⟩=some (.int .i64 p.active)
 c8:w.cell? ⟨g,a+8,none⟩=some (.int .i64 p.prio)
 c9:w.cell? ⟨g,a+9,none⟩=some (.int .i64 p.provided)
structure shapeAt (B:Nat) (w:World) (g a:Nat) (s:ShapeD):Prop where
 c0:w.cell? ⟨g,a,none⟩=some (.int .i64 s.room)
 fields:Sli B w g (a+1) 2 (tyAt w) s.fields
structure modelAt (B:Nat) (w:World) (g a:Nat) (m:ModelD):Prop where
 globals:Sli B w g a 2 (tyAt w) m.globals
 init:Sli B w g (a+1) 1 (intAt w) m.init
 shapes:Sli B w g (a+2) 2 (shapeAt B w) m.shapes
 chans:Sli B w g (a+3) 1 (intAt w) m.chans
 procs:Sli B w g (a+4) 10 (procAt B w) m.procs
 claim:w.cell? ⟨g,a+5,none⟩=some (.int .i64 m.claim)
 exprs:Sli B w g (a+6) 12 (exprAt B w) m.exprs
section
variable {B:Nat} {w w':World} (hb:Below B w w')
include hb
theorem intAt.below {g a:Nat} {x:Int} (hg:g < B) (h:intAt w g a x):intAt w' g a x:=(hb.cell hg).trans h
theorem boolAt.below {g a:Nat} {x:Bool} (hg:g < B) (h:boolAt w g a x):boolAt w' g a x:=(hb.cell hg).trans h
theorem strAt.below {g a:Nat} {x:ByteArray} (hg:g < B) (h:strAt w g a x):strAt w' g a x:=(hb.cell hg).trans h
theorem tyAt.below {g a:Nat} {x:Int × Bool} (hg:g < B) (h:tyAt w g a x):tyAt w' g a x:=⟨(hb.cell hg).trans h.1,(hb.cell hg).trans h.2⟩
theorem dimAt.below {g a:Nat} {x:DimD} (hg:g < B) (h:dimAt w g a x):dimAt w' g a x:=⟨(hb.cell hg).trans h.1,(hb.cell hg).trans h.2.1,(hb.cell hg).trans h.2.2⟩
theorem Sli.below {α:Type} {g a k:Nat} {R R':Nat→Nat→α→Prop} {l:List α} (hg:g < B) (h:Sli B w g a k R l) (hR:∀g a x,g < B→R g a x→R' g a x):Sli B w' g a k R' l:=by
 obtain ⟨o,c,h1,h2⟩:=h;exact ⟨o,c,(hb.cell hg).trans h1,h2.mono hR⟩
theorem varAt.below {g a:Nat} {x:VarD} (hg:g < B) (h:varAt B w g a x):varAt B w' g a x:=
 ⟨(hb.cell hg).trans h.c0,(hb.cell hg).trans h.c1,(hb.cell hg).trans h.c2,(hb.cell hg).trans h.c3,h.dims.below hb hg fun _ _ _ hg=>dimAt.below hb hg⟩
theorem exprAt.below {g a:Nat} {x:ExprD} (hg:g < B) (h:exprAt B w g a x):exprAt B w' g a x:=
 ⟨(hb.cell hg).trans h.c0,(hb.cell hg).trans h.c1,(hb.cell hg).trans h.c2,(hb.cell hg).trans h.c3,(hb.cell hg).trans h.c4,h.v.below hb hg,h.args.below hb hg fun _ _ _ hg=>intAt.below hb hg,h.mat.below hb hg fun _ _ _ hg=>intAt.below hb hg⟩
theorem stmtAt.below {g a:Nat} {x:StmtD} (hg:g < B) (h:stmtAt B w g a x):stmtAt B w' g a x:=
 ⟨(hb.cell hg).trans h.c0,(hb.cell hg).trans h.c1,(hb.cell hg).trans h.c2,(hb.cell hg).trans h.c3,h.args.below hb hg fun _ _ _ hg=>intAt.below hb hg,h.mat.below hb hg fun _ _ _ hg=>intAt.below hb hg,(hb.cell hg).trans h.c6⟩
theorem transAt.below {g a:Nat} {x:TransD} (hg:g < B) (h:transAt B w g a x):transAt B w' g a x:=
 ⟨h.s.below hb hg,(hb.cell hg).trans h.c7,(hb.cell hg).trans h.c8⟩
theorem escAt.below {g a:Nat} {x:List TransD} (hg:g < B) (h:escAt B w g a x):escAt B w' g a x:=Sli.below hb hg h fun _ _ _ hg=>transAt.below hb hg
theorem locAt.below {g a:Nat} {x:LocD} (hg:g < B) (h:locAt B w g a x):locAt B w' g a x:=
 ⟨h.out.below hb hg fun _ _ _ hg=>transAt.below hb hg,h.esc.below hb hg fun _ _ _ hg=>escAt.below hb hg,(hb.cell hg).trans h.c2,(hb.cell hg).trans h.c3,(hb.cell hg).trans h.c4,(hb.cell hg).trans h.c5,(hb.cell hg).trans h.c6⟩
theorem procAt.below {g a:Nat} {x:ProcD} (hg:g < B) (h:procAt B w g a x):procAt B w' g a x:=
 ⟨(hb.cell hg).trans h.c0,(hb.cell hg).trans h.c1,h.frame.below hb hg fun _ _ _ hg=>tyAt.below hb hg,h.init.below hb hg fun _ _ _ hg=>intAt.below hb hg,h.locs.below hb hg fun _ _ _ hg=>locAt.below hb hg,(hb.cell hg).trans h.c5,(hb.cell hg).trans h.c6,(hb.cell hg).trans h.c7,(hb.cell hg).trans h.c8,(hb.cell hg).trans h.c9⟩
theorem shapeAt.below {g a:Nat} {x:ShapeD} (hg:g < B) (h:shapeAt B w g a x):shapeAt B w' g a x:=
 ⟨(hb.cell hg).trans h.c0,h.fields.below hb hg fun _ _ _ hg=>tyAt.below hb hg⟩
end
structure MH where
 go:Option Addr
 gc:Nat
 io:Option Addr
 ic:Nat
 so:Option Addr
 sc:Nat
 co:Option Addr
 cc:Nat
 po:Option Addr
 pc:Nat
 eo:Option Addr
 ec:Nat
structure MD (B:Nat) (w:World) (h:MH) (m:ModelD):Prop where
 globals:Row B h.go 2 (tyAt w) m.globals
 init:Row B h.io 1 (intAt w) m.init
 shapes:Row B h.so 2 (shapeAt B w) m.shapes
 chans:Row B h.co 1 (intAt w) m.chans
 procs:Row B h.po 10 (procAt B w) m.procs
 exprs:Row B h.eo 12 (exprAt B w) m.exprs
theorem MD.below {B:Nat} {w w':World} {h:MH} {m:ModelD} (hm:MD B w h m) (hb:Below B w w'):MD B w' h m:=
 ⟨hm.globals.mono fun _ _ _ hg=>tyAt.below hb hg,hm.init.mono fun _ _ _ hg=>intAt.below hb hg,hm.shapes.mono fun _ _ _ hg=>shapeAt.below hb hg,hm.chans.mono fun _ _ _ hg=>intAt.below hb hg,hm.procs.mono fun _ _ _ hg=>procAt.below hb hg,hm.exprs.mono fun _ _ _ hg=>exprAt.below hb hg⟩
def mCells (h:MH) (m:ModelD):Array Value:=#[.slice h.go m.globals.length h.gc,.slice h.io m.init.length h.ic,.slice h.so m.shapes.length h.sc,.slice h.co m.chans.length h.cc,.slice h.po m.procs.length h.pc,.int .i64 m.claim,.slice h.eo m.exprs.length h.ec]
def mV (h:MH) (m:ModelD):Value:= .agg (mCells h m)
def kCells (h:MH) (m:ModelD) (sv lv:Value):Array Value:=#[.slice h.go m.globals.length h.gc,.slice h.io m.init.length h.ic,.slice h.so m.shapes.length h.sc,.slice h.co m.chans.length h.cc,.slice h.po m.procs.length h.pc,.int .i64 m.claim,.slice h.eo m.exprs.length h.ec,sv,lv]
structure Ck (B:Nat) (w:World) (p:Nat) (h:MH) (m:ModelD):Prop where
 c0:w.cell? ⟨p,0,none⟩=some (.slice h.go m.globals.length h.gc)
 c1:w.cell? ⟨p,1,none⟩=some (.slice h.io m.init.length h.ic)
 c2:w.cell? ⟨p,2,none⟩=some (.slice h.so m.shapes.length h.sc)
 c3:w.cell? ⟨p,3,none⟩=some (.slice h.co m.chans.length h.cc)
 c4:w.cell? ⟨p,4,none⟩=some (.slice h.po m.procs.length h.pc)
 c5:w.cell? ⟨p,5,none⟩=some (.int .i64 m.claim)
 c6:w.cell? ⟨p,6,none⟩=some (.slice h.eo m.exprs.length h.ec)
 le:B≤w.heap.size
 lt:p < w.heap.size
 md:MD B w h m
theorem Ck.below {B p:Nat} {w w':World} {h:MH} {m:ModelD} (hk:Ck B w p h m) (hb:Below w.heap.size w w'):Ck B w' p h m:=
 ⟨(hb.cell hk.lt).trans hk.c0,(hb.cell hk.lt).trans hk.c1,(hb.cell hk.lt).trans hk.c2,(hb.cell hk.lt).trans hk.c3,(hb.cell hk.lt).trans hk.c4,(hb.cell hk.lt).trans hk.c5,(hb.cell hk.lt).trans hk.c6,Nat.le_trans hk.le hb.size,Nat.lt_of_lt_of_le hk.lt hb.size,hk.md.below (hb.mono (hk.le))⟩
theorem Ck.drew {B p:Nat} {w:World} {h:MH} {m:ModelD} (hk:Ck B w p h m):Ck B w.drew p h m:=hk.below (Below.refl _ _).drew
theorem Ck.alloc {B p:Nat} {w:World} {h:MH} {m:ModelD} (hk:Ck B w p h m) (o:Obj):Ck B (w.alloc o) p h m:=hk.below ((Below.refl _ _).alloc (Nat.le_refl _) _)
theorem bdrew {B:Nat} {a w:World} (h:Below B a w) (n:Nat):Below B a (w.drewN n):=⟨h.os,h.tape,h.output,h.size,h.block⟩
theorem ball {w:World} (o:Obj):Below w.heap.size w (w.alloc o):=(Below.refl _ _).alloc (Nat.le_refl _) _
theorem ball' {B:Nat} {w0 w:World} (h:Below B w0 w) (o:Obj) (hB:B≤w0.heap.size):Below B w0 (w.alloc o):=h.alloc (Nat.le_trans hB h.size) _
def intOf:Value→Int
 | .int _ q=>q
 | _=>0
theorem retB {a b:Bool} (h:a=b):Ending.returned (.bool a)= .returned (.bool b):=by rw [h]
theorem retI {k:IntKind} {a b:Int} (h:a=b):Ending.returned (.int k a)= .returned (.int k b):=by rw [h]
theorem retIB {a b:Int} {c d:Bool} (h:a=b) (h2:c=d):Ending.returned (.tuple #[.int .i64 a,.bool c])= .returned (.tuple #[.int .i64 b,.bool d]):=by rw [h,h2]
theorem all_of {α:Type} {l:List α} {p:α→Bool} (h:∀j (hj:j < l.length),p l[j]=true):l.all p=true:=by
 rw [List.all_eq_true];intro x hx;obtain ⟨j,hj,rfl⟩:=List.mem_iff_getElem.1 hx;exact h j hj
theorem all_bad {α:Type} {l:List α} {p:α→Bool} {i:Nat} (hi:i < l.length) (h:p l[i]=false):l.all p=false:=by
 rw [List.all_eq_false];exact ⟨l[i],List.getElem_mem hi,by simp [h]⟩
def bad {α:Type} (p:α→Bool) (l:List α):Option Nat:=l.findIdx? (fun x=> !p x)
theorem bad_none {α:Type} {l:List α} {p:α→Bool} (h:∀j (hj:j < l.length),p l[j]=true):bad p l=none:=by
 unfold bad;rw [List.findIdx?_eq_none_iff];intro x hx;obtain ⟨j,hj,rfl⟩:=List.mem_iff_getElem.1 hx;simp [h j hj]
theorem bad_some {α:Type} {l:List α} {p:α→Bool} {i:Nat} (hi:i < l.length) (hb:p l[i]=false) (h:∀j (hj:j < l.length),j < i→p l[j]=true):bad p l=some i:=by
 unfold bad;rw [List.findIdx?_eq_some_iff_getElem];exact ⟨hi,by simp [hb],fun j hj=>by simp [h j (by omega) hj]⟩
theorem bad_all {α:Type} {l:List α} {p:α→Bool} (h:bad p l=none):∀x ∈ l,p x=true:=by
 unfold bad at h;rw [List.findIdx?_eq_none_iff] at h;intro x hx;have:=h x hx;simpa using this
def idxB (r:Option Nat):Int × Bool:=match r with
 | some i=>(i,false)
 | none=>(0,true)
theorem upto_succ {p:Nat→Prop} {i:Nat} (h:∀j,j < i→p j) (hi:p i):∀j,j < i+1→p j:=fun j hj=>by
 by_cases e:j=i
 · subst e;exact hi
 · exact h j (by omega)
end Go.Proofs.YthfldokfnjpkmaaGreatDoor
namespace Go.Proofs.YthfldokfnjpkmaaGreatDoor
def tyB (b:Int) (s:Bool):Bool:=decide (1≤b) && decide (b≤32) && (!s || decide (b=16) || decide (b=32))
def fitB (b:Int) (s:Bool) (v:Int):Bool:=
 tyB b s && (if s then decide (-2 ^ (b.toNat - 1)≤v) && decide (v < 2 ^ (b.toNat - 1)) else decide (0≤v) && decide (v < 2 ^ b.toNat))
def reachR:List DimD→Int→Int
 | [],a=>a
 | d :: r,a=>if d.len < 1∨1073741825 < d.len∨d.stride < 0∨1073741824 < d.stride then 0 else reachR r (a+ (d.len - 1)*d.stride)
def reachL (v:VarD):Int:=if 4 < v.dims.length∨v.slot < 0∨1073741824 < v.slot then 0 else reachR v.dims (v.slot+1)
def fitZ (x: (Int × Bool) × Int):Bool:=fitB x.1.1 x.1.2 x.2
def globalsL (m:ModelD):Int × Bool:=if 128 < m.globals.length∨m.init.length≠m.globals.length then (-1,false) else idxB (bad fitZ (m.globals.zip m.init))
def tyP (t:Int × Bool):Bool:=tyB t.1 t.2
def shapeB (s:ShapeD):Bool:= !(decide (s.room < 0∨16 < s.room∨s.fields.length < 1∨8 < s.fields.length)) && s.fields.all tyP
def chanB (m:ModelD) (s:Int):Bool:=decide (0≤s∧s < m.shapes.length)
def channelsL (m:ModelD):Int × Bool:=if 32 < m.shapes.length∨32 < m.chans.length then (-1,false) else match bad shapeB m.shapes with
 | some i=>(i,false)
 | none=>idxB (bad (chanB m) m.chans)
def ptypeB (m:ModelD) (n:Int):Bool:=decide (0≤n∧n < m.procs.length∧n≠m.claim)
def dimB (d:DimD):Bool:= !(decide (d.len < 1∨128 < d.len∨d.stride < 0∨128 < d.stride))
def varHeadB (v:VarD):Bool:= !(decide (v.scope < 0∨2 < v.scope∨v.slot < 0∨128 < v.slot∨4 < v.dims.length))
def varTailB (m:ModelD) (v:VarD):Bool:=if v.scope=2 then ptypeB m v.type else decide (v.who= -1∧v.type= -1)
def varB (m:ModelD) (v:VarD):Bool:=varHeadB v && v.dims.all dimB && varTailB m v
def isExprB (m:ModelD) (x:Int):Bool:=decide (0≤x∧x < m.exprs.length)
def opAt (m:ModelD) (x:Int):Int:=(m.exprs[x.toNat]?.map (·.op)).getD 0
def isVarB (m:ModelD) (x:Int):Bool:=isExprB m x && decide (opAt m x=2)
def fieldB (m:ModelD) (x:Int × Int):Bool:=isExprB m x.1 && decide (-1≤x.2∧x.2≤1) && (!(decide (x.2=0)) || isVarB m x.1)
def fieldsB (m:ModelD) (args mat:List Int):Bool:= !(decide (args.length < 1∨8 < args.length∨mat.length≠args.length)) && (args.zip mat).all (fieldB m)
def partsOf (op:Int):Nat:=if op=24 then 3 else if 6≤op∧op≤23 then 2 else if (3≤op∧op≤5)∨ (25≤op∧op≤30)∨ (36≤op∧op≤38) then 1 else 0
def abcL (x:ExprD):List Int:=[x.a,x.b,x.c]
def restB (x:ExprD):Bool:=((abcL x).drop (partsOf x.op)).all (fun q=>decide (q= -1))
def locsAt (m:ModelD) (n:Int):Nat:=(m.procs[n.toNat]?.map (·.locs.length)).getD 0
def paramsAt (m:ModelD) (n:Int):Int:=(m.procs[n.toNat]?.map (·.params)).getD 0
def atB (m:ModelD) (x:ExprD):Bool:= !(!(ptypeB m x.n) || decide (x.args.length=0)) && x.args.all (fun q=>decide (0≤q∧q < locsAt m x.n))
def kindB (m:ModelD) (x:ExprD):Bool:=
 if x.op=1 then fitB 32 true x.n else if x.op=2 then varB m x.v else if x.op=30 then decide (x.n=0∨x.n=1) && fieldsB m x.args x.mat
 else if x.op=38 then atB m x else if x.op=39 then ptypeB m x.n && decide ((x.args.length:Int)=paramsAt m x.n) else true
def exprB (m:ModelD) (x:ExprD):Bool:=decide (1≤x.op∧x.op≤39) && restB x && kindB m x
def moreL (x:ExprD):List Int:=if x.op=2 then (if x.v.scope=2 then [x.v.who] else []) ++ x.v.dims.map (·.i) else if x.op=30∨x.op=39 then x.args else []
def partsL (x:ExprD):List Int:=(abcL x).take (partsOf x.op) ++ moreL x
def takePart (i:Nat) (s:List Bool × Bool) (p:Int):List Bool × Bool:=if p < 0∨ (i:Int)≤p∨s.1.getD p.toNat false=true then (s.1,false) else (s.1.set p.toNat true,s.2)
def takeAll (i:Nat) (t:List Bool) (l:List Int):List Bool × Bool:=l.foldl (takePart i) (t,true)
def exprsGo (m:ModelD):List ExprD→Nat→List Bool→Int × Bool
 | [],_,_=>(0,true)
 | x :: r,i,t=>if exprB m x=true then (if (takeAll i t (partsL x)).2=true then exprsGo m r (i+1) (takeAll i t (partsL x)).1 else (i,false)) else (i,false)
def exprsHead (m:ModelD):Bool:=decide (m.procs.length < 1∨16 < m.procs.length∨m.claim < -1∨ (m.procs.length:Int)≤m.claim∨4096 < m.exprs.length)
def expressionsL (m:ModelD):Int × Bool:=if exprsHead m=true then (-1,false) else exprsGo m m.exprs 0 (List.replicate m.exprs.length false)
def frameHeadB (p:ProcD):Bool:= !(decide (128 < p.frame.length∨p.init.length≠p.frame.length∨p.params < 0∨ (p.frame.length:Int) < p.params))
def frameTailB (m:ModelD) (p:ProcD):Bool:=decide (0≤p.active∧p.active≤16∧1≤p.prio∧p.prio≤255∧ -1≤p.provided∧p.provided < m.exprs.length)
def frameB (m:ModelD) (p:ProcD):Bool:=frameHeadB p && (p.frame.zip p.init).all fitZ && frameTailB m p
def placesHeadB (p:ProcD):Bool:= !(decide (p.locs.length < 1∨256 < p.locs.length∨p.start < 0∨ (p.locs.length:Int)≤p.start∨p.final < 0∨ (p.locs.length:Int)≤p.final))
def toB (n:Nat) (t:TransD):Bool:=decide (0≤t.to∧t.to < n)
def locHeadB (p:ProcD) (i:Nat) (l:LocD):Bool:= !(decide (8 < l.esc.length∨ (l.dstep=true∧l.atomic=true)∨ ((i:Int)=p.final∧ (0 < l.out.length∨0 < l.esc.length))))
def escB (n:Nat) (l:List TransD):Bool:=decide (l.length≠0) && l.all (toB n)
def locB (p:ProcD) (i:Nat) (l:LocD):Bool:=locHeadB p i l && l.out.all (toB p.locs.length) && l.esc.all (escB p.locs.length)
def locB' (p:ProcD) (x:LocD × Nat):Bool:=locB p x.2 x.1
def manyL (l:LocD):Nat:=l.out.length+ (l.esc.map List.length).sum
def manyP (p:ProcD):Nat:=(p.locs.map manyL).sum
def placesB (p:ProcD):Bool:=placesHeadB p && p.locs.zipIdx.all (locB' p) && decide (manyP p≤1024)
def looksLocB (l:LocD):Bool:= !(decide (0 < l.esc.length) || l.atomic || l.dstep)
def looksOnB (p:ProcD):Bool:=p.locs.all looksLocB && decide (p.frame.length=0∧p.params=0∧p.active=0∧p.provided= -1)
def procB (m:ModelD) (x:ProcD × Nat):Bool:=frameB m x.1 && placesB x.1 && (!(decide ((x.2:Int)=m.claim)) || looksOnB x.1)
def procsL (m:ModelD):Int × Bool:=idxB (bad (procB m) m.procs.zipIdx)
def activeS (m:ModelD):Int:=(m.procs.map (·.active)).sum
def activeL (m:ModelD):Int × Bool:=(-1,decide (activeS m≤16))
def scopeAt (m:ModelD) (x:Int):Int:=(m.exprs[x.toNat]?.map (·.v.scope)).getD 0
def settableB (m:ModelD) (x:Int):Bool:=isVarB m x && decide (scopeAt m x≠2)
def recvB (m:ModelD) (x:Int × Int):Bool:= !(decide (x.2=0)) || settableB m x.1
def receivesB (m:ModelD) (s:StmtD):Bool:=fieldsB m s.args s.mat && (s.args.zip s.mat).all (recvB m)
structure Ask where
 hasA:Bool
 hasB:Bool
 mostN:Int
 least:Int
 most:Int
 matches_:Bool
 text:Bool
def askOf (m:ModelD) (k:Int):Option Ask:=
 if k=1∨k=3 then some ⟨true,false,0,0,0,false,false⟩ else if k=2 then some ⟨true,true,0,0,0,false,false⟩ else if k=4 then some ⟨false,false,0,0,-1,false,true⟩
 else if k=5 then some ⟨true,false,1,1,8,false,false⟩ else if k=6 then some ⟨true,false,3,1,8,true,false⟩ else if k=7∨k=8 then some ⟨false,false,0,0,0,false,false⟩
 else if k=9 then some ⟨true,false,(m.shapes.length:Int) - 1,0,0,false,false⟩ else none
def askAB (m:ModelD) (s:StmtD) (q:Ask):Bool:= !(decide (q.hasA≠decide (s.a≠ -1)) || (q.hasA && !isExprB m s.a) || decide (q.hasB≠decide (s.b≠ -1)) || (q.hasB && !isExprB m s.b))
def askN (s:StmtD) (q:Ask):Bool:= !(decide (s.n < 0∨q.mostN < s.n∨ (s.args.length:Int) < q.least∨ (0≤q.most∧q.most < (s.args.length:Int))∨ (q.matches_=false∧0 < s.mat.length)∨ (q.text=false∧s.text.size≠0)∨256 < s.text.size))
def stmtB (m:ModelD) (s:StmtD):Bool:=match askOf m s.kind with
 | none=>false
 | some q=>askAB m s q && askN s q && s.args.all (isExprB m) && (!(decide (s.kind=2∨s.kind=9)) || settableB m s.a) && (!q.matches_ || receivesB m s)
def claimsB (k:Int):Bool:=decide (k=1∨k=3∨k=7∨k=8)
def frameAt (m:ModelD) (n:Int):Nat:=(m.procs[n.toNat]?.map (·.frame.length)).getD 0
def roomL (m:ModelD) (proc:Nat) (v:VarD):Int:=if v.scope=1 then frameAt m proc else if v.scope=2 then frameAt m v.type else m.globals.length
def liesB (m:ModelD) (proc:Nat) (v:VarD):Bool:= !(decide (v.scope=1∧ (proc:Int)=m.claim)) && decide (reachL v≤roomL m proc v)
def useB (m:ModelD) (proc:Nat) (x:ExprD):Bool:=if x.op=39 then false else if x.op=31 then decide ((proc:Int)≠m.claim) else if x.op=2 then liesB m proc x.v else true
def usesF (m:ModelD) (proc:Nat):Nat→List Int→List Int→Bool × List Int
 | 0,seen,_=>(false,seen)
 | f+1,seen,left=>match left.getLast? with
   | none=>(true,seen)
   | some q=>if seen[q.toNat]? =some ((proc:Int)+1) then usesF m proc f seen left.dropLast else match m.exprs[q.toNat]? with
     | none=>(false,seen)
     | some x=>if useB m proc x=true then usesF m proc f (seen.set q.toNat (proc+1)) (left.dropLast ++ partsL x) else (false,seen.set q.toNat (proc+1))
def usesL (m:ModelD) (proc:Nat) (seen:List Int) (top:Int):Bool × List Int:=usesF m proc 70000 seen [top]
def stopF {σ α:Type} (f:σ→α→Bool × σ):List α→σ→Bool × σ
 | [],s=>(true,s)
 | x :: r,s=>if (f s x).1=true then stopF f r (f s x).2 else (false,(f s x).2)
def argsAt (m:ModelD) (x:Int):List Int:=(m.exprs[x.toNat]?.map (·.args)).getD []
def topL (m:ModelD) (proc:Nat) (whole:Bool) (x:Int):List Int:=if x < 0 then [] else if whole=true∧opAt m x=39∧ (proc:Int)≠m.claim then argsAt m x else [x]
def topsL (m:ModelD) (proc:Nat) (s:StmtD):List Int:=topL m proc (decide (s.kind=1)) s.a ++ topL m proc (decide (s.kind=2)) s.b ++ s.args
def usedByL (m:ModelD) (proc:Nat) (seen:List Int) (s:StmtD):Bool × List Int:=stopF (usesL m proc) (topsL m proc s) seen
def wayL (m:ModelD) (proc:Nat) (seen:List Int) (t:TransD):Bool × List Int:=if (stmtB m t.s && (!(decide ((proc:Int)=m.claim)) || claimsB t.s.kind))=true then usedByL m proc seen t.s else (false,seen)
def waysL (m:ModelD) (proc:Nat) (seen:List Int) (l:List TransD):Bool × List Int:=stopF (wayL m proc) l seen
def locL (m:ModelD) (proc:Nat) (seen:List Int) (l:LocD):Bool × List Int:=stopF (waysL m proc) (l.out :: l.esc) seen
def procL (m:ModelD) (seen:List Int) (x:ProcD × Nat):Bool × List Int:=
 if (stopF (locL m x.2) x.1.locs seen).1=true then (if 0≤x.1.provided then usesL m x.2 (stopF (locL m x.2) x.1.locs seen).2 x.1.provided else (true,(stopF (locL m x.2) x.1.locs seen).2)) else (false,(stopF (locL m x.2) x.1.locs seen).2)
def statGo (m:ModelD):List (ProcD × Nat)→List Int→Int × Bool
 | [],_=>(0,true)
 | x :: r,s=>if (procL m s x).1=true then statGo m r (procL m s x).2 else (x.2,false)
def statementsL (m:ModelD):Int × Bool:=statGo m m.procs.zipIdx (List.replicate m.exprs.length 0)
def checkL (m:ModelD):Int × Int × Int:=
 if (globalsL m).2=false then (40,1,(globalsL m).1) else if (channelsL m).2=false then (40,2,(channelsL m).1) else if (expressionsL m).2=false then (40,3,(expressionsL m).1)
 else if (procsL m).2=false then (40,4,(procsL m).1) else if (activeL m).2=false then (40,5,(activeL m).1) else if (statementsL m).2=false then (40,6,(statementsL m).1) else (0,0,0)
theorem exprsGo_ok {m:ModelD}:∀ (l:List ExprD) (i:Nat) (t:List Bool),(exprsGo m l i t).2=true→∀k (hk:k < l.length),exprB m l[k]=true∧∀p ∈ partsL l[k],0≤p∧p < ((i+k:Nat):Int)
 | [],_,_,_,k,hk=>by simp at hk
 | x :: r,i,t,h,k,hk=>by
   unfold exprsGo at h;split at h
   · rename_i h1
     split at h
     · rename_i h2
       cases k with
       | zero=>
         refine ⟨h1,fun p hp=> ?_⟩;have key:∀ (l:List Int) (s:List Bool × Bool),(l.foldl (takePart i) s).2=true→s.2=true∧∀p ∈ l,0≤p∧p < (i:Int):=by
          intro l
          induction l with
          | nil=>intro s h;exact ⟨h,fun p hp=>by cases hp⟩
          | cons q r ih=>
            intro s h;rw [List.foldl_cons] at h;obtain ⟨h3,h4⟩:=ih _ h;unfold takePart at h3;split at h3
            · cases h3
            · rename_i h5
              refine ⟨h3,fun p hp=> ?_⟩;rcases List.mem_cons.1 hp with rfl | hp
              · omega
              · exact h4 p hp
         have:=(key (partsL x) (t,true) h2).2 p (by simpa using hp);simpa using this
       | succ k=>
         have:=exprsGo_ok r (i+1) _ h k (by simpa using hk);refine ⟨this.1,fun p hp=> ?_⟩;have h5:=this.2 p (by simpa using hp);refine ⟨h5.1, ?_⟩;have h6:=h5.2;omega
     · cases h
   · cases h
end Go.Proofs.YthfldokfnjpkmaaGreatDoor
namespace Go.Proofs.YthfldokfnjpkmaaGreatDoor
open Go.ChangeShapes Go.WideShapes Go.ChangeAt Go.RowKit
structure ChanD where
 shape:Int
 queue:List (List Int)
structure ProcessD where
 type:Int
 loc:Int
 prio:Int
 frame:List Int
structure StateD where
 globals:List Int
 chans:List ChanD
 procs:List ProcessD
 last:Int
 alone:Int
 claim:Int
def msgAt (B:Nat) (w:World) (g a:Nat) (l:List Int):Prop:=Sli B w g a 1 (intAt w) l
structure chanAt (B:Nat) (w:World) (g a:Nat) (c:ChanD):Prop where
 c0:w.cell? ⟨g,a,none⟩=some (.int .i64 c.shape)
 queue:Sli B w g (a+1) 1 (msgAt B w) c.queue
structure processAt (B:Nat) (w:World) (g a:Nat) (p:ProcessD):Prop where
 c0:w.cell? ⟨g,a,none⟩=some (.int .i64 p.type)
 c1:w.cell? ⟨g,a+1,none⟩=some (.int .i64 p.loc)
 c2:w.cell? ⟨g,a+2,none⟩=some (.int .i64 p.prio)
 frame:Sli B w g (a+3) 1 (intAt w) p.frame
section
variable {B:Nat} {w w':World} (hb:Below B w w')
include hb
theorem msgAt.below {g a:Nat} {x:List Int} (hg:g < B) (h:msgAt B w g a x):msgAt B w' g a x:=Sli.below hb hg h fun _ _ _ hg=>intAt.below hb hg
theorem chanAt.below {g a:Nat} {x:ChanD} (hg:g < B) (h:chanAt B w g a x):chanAt B w' g a x:=⟨(hb.cell hg).trans h.c0,h.queue.below hb hg fun _ _ _ hg=>msgAt.below hb hg⟩
theorem processAt.below {g a:Nat} {x:ProcessD} (hg:g < B) (h:processAt B w g a x):processAt B w' g a x:=⟨(hb.cell hg).trans h.c0,(hb.cell hg).trans h.c1,(hb.cell hg).trans h.c2,h.frame.below hb hg fun _ _ _ hg=>intAt.below hb hg⟩
end
structure SH where
 go:Option Addr
 gc:Nat
 co:Option Addr
 cc:Nat
 po:Option Addr
 pc:Nat
structure SD (B:Nat) (w:World) (h:SH) (s:StateD):Prop where
 globals:Row B h.go 1 (intAt w) s.globals
 chans:Row B h.co 2 (chanAt B w) s.chans
 procs:Row B h.po 4 (processAt B w) s.procs
theorem SD.below {B:Nat} {w w':World} {h:SH} {s:StateD} (hm:SD B w h s) (hb:Below B w w'):SD B w' h s:=
 ⟨hm.globals.mono fun _ _ _ hg=>intAt.below hb hg,hm.chans.mono fun _ _ _ hg=>chanAt.below hb hg,hm.procs.mono fun _ _ _ hg=>processAt.below hb hg⟩
section
variable {B B':Nat} {w:World} (hB:B≤B')
include hB
theorem Row.lift' {α:Type} {o:Option Addr} {k:Nat} {R R':Nat→Nat→α→Prop} {l:List α} (h:Row B o k R l) (hR:∀g a x,g < B→R g a x→R' g a x):Row B' o k R' l:=(h.mono hR).up hB
theorem Sli.lift' {α:Type} {g a k:Nat} {R R':Nat→Nat→α→Prop} {l:List α} (h:Sli B w g a k R l) (hR:∀g a x,g < B→R g a x→R' g a x):Sli B' w g a k R' l:=by
 obtain ⟨o,c,h1,h2⟩:=h;exact ⟨o,c,h1,h2.lift' hB hR⟩
theorem msgAt.lift {g a:Nat} {x:List Int} (h:msgAt B w g a x):msgAt B' w g a x:=Sli.lift' hB h fun _ _ _ _ h=>h
theorem chanAt.lift {g a:Nat} {x:ChanD} (h:chanAt B w g a x):chanAt B' w g a x:=⟨h.c0,h.queue.lift' hB fun _ _ _ _ h=>h.lift hB⟩
theorem processAt.lift {g a:Nat} {x:ProcessD} (h:processAt B w g a x):processAt B' w g a x:=⟨h.c0,h.c1,h.c2,h.frame.lift' hB fun _ _ _ _ h=>h⟩
theorem SD.lift {h:SH} {s:StateD} (hm:SD B w h s):SD B' w h s:=⟨hm.globals.lift' hB fun _ _ _ _ h=>h,hm.chans.lift' hB fun _ _ _ _ h=>h.lift hB,hm.procs.lift' hB fun _ _ _ _ h=>h.lift hB⟩
end
def sCells (h:SH) (s:StateD):Array Value:=#[.slice h.go s.globals.length h.gc,.slice h.co s.chans.length h.cc,.slice h.po s.procs.length h.pc,.int .i64 s.last,.int .i64 s.alone,.int .i64 s.claim]
def sV (h:SH) (s:StateD):Value:= .agg (sCells h s)
structure Sk (B:Nat) (w:World) (p o:Nat) (h:SH) (s:StateD):Prop where
 c0:w.cell? ⟨p,o,none⟩=some (.slice h.go s.globals.length h.gc)
 c1:w.cell? ⟨p,o+1,none⟩=some (.slice h.co s.chans.length h.cc)
 c2:w.cell? ⟨p,o+2,none⟩=some (.slice h.po s.procs.length h.pc)
 c3:w.cell? ⟨p,o+3,none⟩=some (.int .i64 s.last)
 c4:w.cell? ⟨p,o+4,none⟩=some (.int .i64 s.alone)
 c5:w.cell? ⟨p,o+5,none⟩=some (.int .i64 s.claim)
 le:B≤w.heap.size
 lt:p < w.heap.size
 sd:SD B w h s
theorem Sk.below {B p o:Nat} {w w':World} {h:SH} {s:StateD} (hk:Sk B w p o h s) (hb:Below w.heap.size w w'):Sk B w' p o h s:=
 ⟨(hb.cell hk.lt).trans hk.c0,(hb.cell hk.lt).trans hk.c1,(hb.cell hk.lt).trans hk.c2,(hb.cell hk.lt).trans hk.c3,(hb.cell hk.lt).trans hk.c4,(hb.cell hk.lt).trans hk.c5,Nat.le_trans hk.le hb.size,Nat.lt_of_lt_of_le hk.lt hb.size,hk.sd.below (hb.mono (hk.le))⟩
def fitsL (t:List (Int × Bool)) (l:List Int):Bool:=decide (l.length=t.length) && (t.zip l).all fitZ
def shapeAtD (m:ModelD) (n:Int):Option ShapeD:=m.shapes[n.toNat]?
def chanHeadB (m:ModelD) (c:ChanD):Bool:=decide (0≤c.shape∧c.shape < m.shapes.length)
def chanFB (m:ModelD) (c:ChanD):Bool:=match m.shapes[c.shape.toNat]? with
 | some s=>decide ((c.queue.length:Int)≤s.room) && c.queue.all (fitsL s.fields)
 | none=>false
def chanMayB (m:ModelD) (c:ChanD):Bool:=chanHeadB m c && chanFB m c
def procHeadB (m:ModelD) (p:ProcessD):Bool:=decide (0≤p.type∧p.type < m.procs.length∧p.type≠m.claim)
def procFB (m:ModelD) (p:ProcessD):Bool:=match m.procs[p.type.toNat]? with
 | some t=>decide (0≤p.loc∧p.loc < t.locs.length∧p.prio=t.prio) && fitsL t.frame p.frame
 | none=>false
def procMayB (m:ModelD) (p:ProcessD):Bool:=procHeadB m p && procFB m p
def claimLocs (m:ModelD):Nat:=(m.procs[m.claim.toNat]?.map (·.locs.length)).getD 0
def mayHeadB (m:ModelD) (s:StateD):Bool:=fitsL m.globals s.globals && decide (s.chans.length≤32∧s.procs.length≤16)
def mayTailB (m:ModelD) (s:StateD):Bool:=decide (0≤s.last∧s.last < 16∧ -1≤s.alone∧s.alone < s.procs.length) && (if m.claim < 0 then decide (s.claim= -1) else decide (0≤s.claim∧s.claim < claimLocs m))
def mayB (m:ModelD) (s:StateD):Bool:=mayHeadB m s && s.chans.all (chanMayB m) && s.procs.all (procMayB m) && mayTailB m s
def goodB (m:ModelD):Bool:=decide ((checkL m).1=0)
def stateE (m:ModelD) (s:StateD):Int:=if goodB m=true then (if mayB m s=true then 0 else 41) else 40
end Go.Proofs.YthfldokfnjpkmaaGreatDoor
namespace Go.Proofs.YthfldokfnjpkmaaGreatDoor
open Go.ChangeShapes Go.WideShapes Go.ChangeAt Go.RowKit
theorem typeC (b:Int) (s:Bool) (w:World):Calls Tryz.prog 163 #[.agg #[.int .i64 b,.bool s]] w fun e w'=>e= .returned (.bool (tyB b s))∧Below w.heap.size w w':=by
 go_enter Tryz.func163,Tryz.ntmps163;go_wp2
 all_goals (go_ret;refine ⟨retB ?_,Below.alloc (Below.refl _ _) (Nat.le_refl _) _⟩)
 all_goals (unfold tyB;rw [Bool.eq_iff_iff];simp_all)
 all_goals omega
theorem fitsC (b:Int) (s:Bool) (v:Int) (w:World):Calls Tryz.prog 150 #[.agg #[.int .i64 b,.bool s],.int .i64 v] w fun e w'=>e= .returned (.bool (fitB b s v))∧Below w.heap.size w w':=by
 have HB:=Lib.hid (Below.alloc (Below.refl w.heap.size w) (Nat.le_refl _) (.cells #[.int .i64 b,.bool s] 138));have HS:Hid (w.heap.size < (w.alloc (.cells #[.int .i64 b,.bool s] 138)).heap.size):=Lib.hid (by simp);have HC:=Lib.hid (heap_alloc_new w (.cells #[.int .i64 b,.bool s] 138));go_enter Tryz.func150,Tryz.ntmps150;go_wp2_with fail;refine (typeC b s _).mono ?_;rintro e w1 ⟨rfl,hb⟩;have HB1:=Lib.hid (HB.out.trans (hb.mono (Nat.le_of_lt HS.out)));have c0:w1.cell? ⟨w.heap.size,0,none⟩=some (.int .i64 b):=by
  rw [hb.cell HS.out,cell_of_row _ _ _ _ _ _ HC.out];rfl
 have c1:w1.cell? ⟨w.heap.size,1,none⟩=some (.bool s):=by
  rw [hb.cell HS.out,cell_of_row _ _ _ _ _ _ HC.out];rfl
 clear hb HB HS HC;cases hty:tyB b s
 · have hf:fitB b s v=false:=by unfold fitB;rw [hty];rfl
   go_wp2;go_ret;exact ⟨retB hf.symm,HB1.out⟩
 · have h1:1≤b∧b≤32∧ (s=true→b=16∨b=32):=by
    unfold tyB at hty;simp at hty;cases s <;> simp_all
   obtain ⟨h1,h2,h3⟩:=h1;cases s
   · have hf:fitB b false v= (decide (0≤v) && decide (v < 2 ^ b.toNat)):=by unfold fitB;rw [hty];rfl
     have hp: (2:Int) ^ b.toNat≤2 ^ 32:=by
      have:=Nat.pow_le_pow_right (n:=2) (by decide) (show b.toNat≤32 by omega)
      exact_mod_cast this
     have hq: (0:Int) < 2 ^ b.toNat:=Int.pow_pos (by decide);have HWR:Hid (wrap64 (2 ^ b.toNat)=2 ^ b.toNat):=Lib.hid (IntWalk.wrap64_in _ (by omega));have HF:=Lib.hid hf;clear hf hp hq;go_wp2
     all_goals (go_ret;refine ⟨retB (Eq.trans ?_ HF.out.symm),HB1.out⟩)
     all_goals (have hwr:=HWR.out;rw [Bool.eq_iff_iff];simp_all)
     all_goals omega
   · rcases h3 rfl with rfl | rfl
     · have hf:fitB 16 true v= (decide (-32768≤v) && decide (v < 32768)):=by unfold fitB;rw [hty];rfl
       skip
       go_wp2
       all_goals (go_ret;refine ⟨retB (Eq.trans ?_ hf.symm),HB1.out⟩)
       all_goals (rw [Bool.eq_iff_iff];simp_all)
       all_goals omega
     · have hf:fitB 32 true v= (decide (-2147483648≤v) && decide (v < 2147483648)):=by unfold fitB;rw [hty];rfl
       skip
       go_wp2
       all_goals (go_ret;refine ⟨retB (Eq.trans ?_ hf.symm),HB1.out⟩)
       all_goals (rw [Bool.eq_iff_iff];simp_all)
       all_goals omega
theorem mul_small (a b:Int) (h1:0≤a) (h2:a≤1073741824) (h3:0≤b) (h4:b≤1073741824):0≤a*b∧a*b≤1152921504606846976:=
 ⟨Int.mul_nonneg h1 h3,Int.le_trans (Int.mul_le_mul h2 h4 h3 (by decide)) (by decide)⟩
set_option maxRecDepth 100000 in
theorem reachC (v:VarD) (o:Option Addr) (cap B:Nat) (w:World) (hin:Row B o 3 (dimAt w) v.dims) (hB:B≤w.heap.size):
 Calls Tryz.prog 111 #[.agg #[.int .i64 v.scope,.int .i64 v.slot,.int .i64 v.who,.int .i64 v.type,.slice o v.dims.length cap]] w fun e w'=>e= .returned (.int .i64 (reachL v))∧Below w.heap.size w w':=by
 have HIN:=Lib.hid hin;have hn:v.dims.length≤140737488355328:=hin.1;have HBB:=Lib.hid hB;clear hin hB;obtain ⟨sc,sl,wh,ty,dims⟩:=v;simp only at HIN hn ⊢;by_cases hbad:4 < dims.length∨sl < 0∨1073741824 < sl
 · have hv:reachL ⟨sc,sl,wh,ty,dims⟩=0:=if_pos hbad;have HV:=Lib.hid hv;clear hv;go_enter Tryz.func111,Tryz.ntmps111;go_wp2
   all_goals first | (exfalso;omega) | (go_ret;exact ⟨retI HV.out.symm,Below.alloc (Below.refl _ _) (Nat.le_refl _) _⟩)
 · have HV:Hid (reachR dims (sl+1)=reachL ⟨sc,sl,wh,ty,dims⟩):=Lib.hid (if_neg hbad).symm;generalize reachL ⟨sc,sl,wh,ty,dims⟩=R at HV;have h1:¬4 < dims.length:=fun h=>hbad (.inl h)
   have h2:¬sl < 0:=fun h=>hbad (.inr (.inl h))
   have h3:¬1073741824 < sl:=fun h=>hbad (.inr (.inr h))
   clear hbad;have hs1:IntKind.i64.wrap (sl+1)=sl+1:=IntWalk.i64_in _ (by omega);have HB:Hid (Below w.heap.size w (w.alloc (.cells #[.int .i64 sc,.int .i64 sl,.int .i64 wh,.int .i64 ty,.slice o dims.length cap] 142))):=Lib.hid (Below.alloc (Below.refl _ _) (Nat.le_refl _) _);go_enter Tryz.func111,Tryz.ntmps111;go_wp2
   go_loopw [3,26] (fun a i wr=>∃ (k:Nat) (x:Int),i= .int .i64 k∧k≤dims.length∧a= .int .i64 x∧0≤x∧x≤1073741825+k*1152921504606846976∧Hid (reachR (dims.drop k) x=R)∧Hid (Below w.heap.size w wr)) (fun _ i _=>dims.length - (intOf i).toNat)
   case atStart=>exact ⟨0,sl+1,rfl,by omega,rfl,by omega,by omega,HV,HB⟩
   case round=>
    clear HV HB;obtain ⟨k,x,rfl,hk,rfl,hx0,hx1,HR,HBR⟩:=hrel;by_cases hlt:k < dims.length
    · obtain ⟨g,off,rfl,hg,e0,e1,e2⟩:=HIN.out.cell hlt;have HDR:Hid (dims.drop k=dims[k] :: dims.drop (k+1)):=Lib.hid (List.drop_eq_getElem_cons hlt);obtain ⟨⟨I,L,S⟩,hd⟩:∃d,dims[k]=d:=⟨_,rfl⟩;rw [hd] at e0 e1 e2 HDR;simp only at e0 e1 e2;have hgw:g < w.heap.size:=Nat.lt_of_lt_of_le hg HBB.out;have c0:=(HBR.out.cell (p:=⟨g,off+k*3,none⟩) hgw).trans e0;have c1:=(HBR.out.cell (p:=⟨g,off+k*3+1,none⟩) hgw).trans e1;have c2:=(HBR.out.cell (p:=⟨g,off+k*3+2,none⟩) hgw).trans e2;clear e0 e1 e2 hd;have hsz:=HBR.out.size;by_cases hb:L < 1∨1073741825 < L∨S < 0∨1073741824 < S
      · have HZ:Hid (R=0):=Lib.hid (by rw [←HR.out,HDR.out];exact if_pos hb);clear HR HDR;go_wp2
        all_goals first | (exfalso;omega) | (go_ret;exact ⟨retI HZ.out.symm,HBR.out.alloc hsz _⟩)
      · have hm:=mul_small (L - 1) S (by omega) (by omega) (by omega) (by omega);have HN:Hid (reachR (dims.drop (k+1)) (x+ (L - 1)*S)=R):=Lib.hid (by rw [←HR.out,HDR.out];exact (if_neg hb).symm);have i1:¬L < 1:=fun h=>hb (.inl h)
        have i2:¬1073741825 < L:=fun h=>hb (.inr (.inl h))
        have i3:¬S < 0:=fun h=>hb (.inr (.inr (.inl h)))
        have i4:¬1073741824 < S:=fun h=>hb (.inr (.inr (.inr h)))
        have j1:IntKind.i64.wrap (L - 1)=L - 1:=IntWalk.i64_in _ (by omega);have j2:IntKind.i64.wrap ((L - 1)*S)= (L - 1)*S:=IntWalk.i64_in _ (by omega);have j3:IntKind.i64.wrap (x+ (L - 1)*S)=x+ (L - 1)*S:=IntWalk.i64_in _ (by omega);have HM:=Lib.hid hm;clear hm hb HR HDR;go_wp2;go_round;case rel=>
         have hm:=HM.out;exact ⟨k+1,x+ (L - 1)*S,by go_num,by omega,by go_num,by omega,by go_num,HN,Lib.hid (HBR.out.alloc hsz _)⟩
        case measure=>simp [intOf];omega
    · obtain rfl:k=dims.length:=by omega
      have HX:Hid (x=R):=Lib.hid (by have h:=HR.out;rw [List.drop_length] at h;exact h);go_wp2;go_ret;exact ⟨retI HX.out,HBR.out⟩
end Go.Proofs.YthfldokfnjpkmaaGreatDoor
