package good

import (
	"math"
	"slices"
	"testing"

	"spinneret/api"
	"spinneret/compile"
)

// P11.1.
func TestTypes(t *testing.T) {
	for bits := -1; bits <= 34; bits++ {
		for _, signed := range []bool{false, true} {
			ty := api.Type{Bits: bits, Signed: signed}
			want := bits >= 1 && bits <= 32 && (!signed || bits == 16 || bits == 32)
			if Type(ty) != want {
				t.Errorf("%v", ty)
			}
			if !want && Fits(ty, 0) {
				t.Errorf("%v fits 0", ty)
			}
		}
	}
	for _, c := range []struct {
		bits        int
		signed      bool
		least, most int64
	}{{1, false, 0, 1}, {8, false, 0, 255}, {16, true, -32768, 32767}, {32, true, math.MinInt32, math.MaxInt32}, {32, false, 0, math.MaxUint32}} {
		ty := api.Type{Bits: c.bits, Signed: c.signed}
		if !Fits(ty, c.least) || !Fits(ty, c.most) || Fits(ty, c.least-1) || Fits(ty, c.most+1) || Fits(ty, math.MaxInt64) || Fits(ty, math.MinInt64) {
			t.Errorf("%v", ty)
		}
	}
}

func TestReach(t *testing.T) {
	for _, c := range []struct {
		slot int
		dims []api.Dim
		want int
	}{
		{2, []api.Dim{{Len: 3, Stride: 2}}, 7}, {0, nil, 1}, {5, []api.Dim{{Len: 1, Stride: 9}, {Len: 2, Stride: 0}}, 6}, {-1, nil, 0}, {0, []api.Dim{{Len: 0}}, 0}, {0, []api.Dim{{Len: 1, Stride: -1}}, 0},
		{1 << 30, nil, 1<<30 + 1}, {1<<30 + 1, nil, 0}, {0, []api.Dim{{Len: 1<<30 + 1, Stride: 1}}, 1<<30 + 1}, {0, []api.Dim{{Len: 1<<30 + 2, Stride: 1}}, 0}, {0, []api.Dim{{Len: 2, Stride: 1<<30 + 1}}, 0},
		{0, []api.Dim{{Len: 2, Stride: 1}, {Len: 2, Stride: 1}, {Len: 2, Stride: 1}, {Len: 2, Stride: 1}}, 5}, {0, make([]api.Dim, 5), 0}, {0, []api.Dim{{Len: math.MinInt, Stride: 1}}, 0},
	} {
		if got := Reach(api.Var{Slot: c.slot, Dims: c.dims}); got != c.want {
			t.Errorf("%d %v: %d", c.slot, c.dims, got)
		}
	}
}

const source = `byte g = 3, a[4]; chan q = [1] of { byte, byte };
proctype p(byte w; byte v) provided (g) { byte b[2]; chan c = [0] of { bit }; L: b[g] = w; q!1,g; q?b[1],eval(w); q?[_,w]; { printf("x%d", g) } unless { g == 2 }; d_step { g; w }; atomic { g; assert w } }
active [2] proctype r() { byte y; y = run p(1, 2); (run p(y, 3)); p[0]:w == 1; p[y]@L; (g -> y : -a[y]); else_: if :: g :: else fi; len(q); q??<y,1> }
never { g == 1; assert p[0]:v; do :: enabled(0) :: else od }`

func model(t *testing.T) api.Model {
	t.Helper()
	m, e, at := compile.Compile(source)
	if e != api.OK {
		t.Fatalf("error %d at %d", e, at)
	}
	return m
}

// find is the first expression that a function picks.
func find(t *testing.T, m api.Model, pick func(x api.Expr) bool) int {
	t.Helper()
	at := slices.IndexFunc(m.Exprs, pick)
	if at < 0 {
		t.Fatal("no such expression")
	}
	return at
}

func op(o int) func(x api.Expr) bool { return func(x api.Expr) bool { return x.Op == o } }

// way is the first way of a proctype with a statement of a kind.
func way(t *testing.T, m api.Model, proc, kind int) *api.Trans {
	t.Helper()
	for i := range m.Procs[proc].Locs {
		for j := range m.Procs[proc].Locs[i].Out {
			if w := &m.Procs[proc].Locs[i].Out[j]; w.S.Kind == kind {
				return w
			}
		}
	}
	t.Fatalf("no way of kind %d", kind)
	return nil
}

type change struct {
	name  string
	part  int
	place int
	do    func(m *api.Model)
}

func check(t *testing.T, cases []change) {
	t.Helper()
	for _, c := range cases {
		m := model(t)
		c.do(&m)
		e, part, place := Check(m)
		if c.part == 0 {
			if e != api.OK || part != 0 || place != 0 {
				t.Errorf("%s: error %d, %d, %d", c.name, e, part, place)
			}
		} else if e != api.ErrModel || part != c.part || place != c.place {
			t.Errorf("%s: error %d, %d, %d, want %d, %d", c.name, e, part, place, c.part, c.place)
		}
	}
}

// P11.2, parts 1, 2, 4 and 5.
func TestTables(t *testing.T) {
	byteType := api.Type{Bits: 8}
	check(t, []change{
		{"as it is", 0, 0, func(m *api.Model) {}},
		{"empty", 3, -1, func(m *api.Model) { *m = api.Model{} }},
		{"globals", 1, -1, func(m *api.Model) { m.Globals = make([]api.Type, 129); m.Init = make([]int64, 129) }},
		{"init", 1, -1, func(m *api.Model) { m.Init = m.Init[1:] }},
		{"global type", 1, 2, func(m *api.Model) { m.Globals[2].Bits = 33 }},
		{"global init", 1, 0, func(m *api.Model) { m.Init[0] = 256 }},
		{"shapes", 2, -1, func(m *api.Model) { m.Shapes = make([]api.Shape, 33) }},
		{"chans", 2, -1, func(m *api.Model) { m.Chans = make([]int, 33) }},
		{"room", 2, 1, func(m *api.Model) { m.Shapes[1].Room = 17 }},
		{"room below 0", 2, 0, func(m *api.Model) { m.Shapes[0].Room = -1; m.Chans[0] = 9 }},
		{"no fields", 2, 1, func(m *api.Model) { m.Shapes[1].Fields = nil }},
		{"fields", 2, 1, func(m *api.Model) { m.Shapes[1].Fields = slices.Repeat([]api.Type{byteType}, 9) }},
		{"field type", 2, 1, func(m *api.Model) { m.Shapes[1].Fields[0].Signed = true }},
		{"chan", 2, 0, func(m *api.Model) { m.Chans[0] = 2 }},
		{"frame", 4, 0, func(m *api.Model) { m.Procs[0].Frame = make([]api.Type, 129); m.Procs[0].Init = make([]int64, 129) }},
		{"frame type", 4, 1, func(m *api.Model) { m.Procs[1].Frame[0].Bits = 0 }},
		{"frame init", 4, 1, func(m *api.Model) { m.Procs[1].Init[0] = -1 }},
		{"frame inits", 4, 1, func(m *api.Model) { m.Procs[1].Init = nil }},
		{"params", 4, 1, func(m *api.Model) { m.Procs[1].Params = 2 }},
		{"params below 0", 4, 1, func(m *api.Model) { m.Procs[1].Params = -1 }},
		{"no places", 4, 1, func(m *api.Model) { m.Procs[1].Locs = nil }},
		{"places", 4, 1, func(m *api.Model) { m.Procs[1].Locs = append(m.Procs[1].Locs, make([]api.Loc, 256)...) }},
		{"start", 4, 1, func(m *api.Model) { m.Procs[1].Start = -1 }},
		{"final", 4, 1, func(m *api.Model) { m.Procs[1].Final = len(m.Procs[1].Locs) }},
		{"final has ways", 4, 1, func(m *api.Model) { m.Procs[1].Final = 0 }},
		{"final has an escape", 4, 1, func(m *api.Model) { p := m.Procs[1]; p.Locs[p.Final].Esc = [][]api.Trans{p.Locs[0].Out} }},
		{"ways", 4, 1, func(m *api.Model) { p := m.Procs[1]; p.Locs[0].Out = slices.Repeat(p.Locs[0].Out, 1025) }},
		{"nine escapes", 4, 1, func(m *api.Model) { p := m.Procs[1]; p.Locs[0].Esc = slices.Repeat([][]api.Trans{p.Locs[0].Out}, 9) }},
		{"eight escapes", 0, 0, func(m *api.Model) { p := m.Procs[1]; p.Locs[0].Esc = slices.Repeat([][]api.Trans{p.Locs[0].Out}, 8) }},
		{"empty escape", 4, 1, func(m *api.Model) { m.Procs[1].Locs[0].Esc = [][]api.Trans{nil} }},
		{"to", 4, 1, func(m *api.Model) { m.Procs[1].Locs[0].Out[0].To = len(m.Procs[1].Locs) }},
		{"active below 0", 4, 0, func(m *api.Model) { m.Procs[0].Active = -1 }},
		{"active", 4, 0, func(m *api.Model) { m.Procs[0].Active = 17 }},
		{"all active", 5, -1, func(m *api.Model) { m.Procs[0].Active = 15 }},
		{"all active at most", 0, 0, func(m *api.Model) { m.Procs[0].Active = 14 }},
		{"prio 0", 4, 0, func(m *api.Model) { m.Procs[0].Prio = 0 }},
		{"prio", 4, 2, func(m *api.Model) { m.Procs[2].Prio = 256 }},
		{"provided", 4, 0, func(m *api.Model) { m.Procs[0].Provided = len(m.Exprs) }},
		{"provided below -1", 4, 0, func(m *api.Model) { m.Procs[0].Provided = -2 }},
		{"dstep and atomic", 4, 1, func(m *api.Model) { m.Procs[1].Locs[0].Dstep = true; m.Procs[1].Locs[0].Atomic = true }},
		{"claim's frame", 4, 2, func(m *api.Model) { m.Procs[2].Frame = []api.Type{byteType}; m.Procs[2].Init = []int64{0} }},
		{"claim active", 4, 2, func(m *api.Model) { m.Procs[2].Active = 1 }},
		{"claim's escape", 4, 2, func(m *api.Model) { l := m.Procs[2].Locs; l[0].Esc = [][]api.Trans{l[0].Out} }},
		{"claim provided", 4, 2, func(m *api.Model) { m.Procs[2].Provided = 0 }},
		{"claim atomic", 4, 2, func(m *api.Model) { m.Procs[2].Locs[0].Atomic = true }},
		{"claim dstep", 4, 2, func(m *api.Model) { m.Procs[2].Locs[0].Dstep = true }},
	})
}

// P11.2, part 3.
func TestExpressions(t *testing.T) {
	m := model(t)
	num, ref, remote := find(t, m, op(api.XNum)), find(t, m, func(x api.Expr) bool { return len(x.V.Dims) > 0 }), find(t, m, func(x api.Expr) bool { return x.V.Scope == api.Remote })
	poll, at, run, eq, neg, cond := find(t, m, op(api.XPoll)), find(t, m, op(api.XAt)), find(t, m, op(api.XRun)), find(t, m, op(api.XEq)), find(t, m, op(api.XNeg)), find(t, m, op(api.XIf))
	on := func(x int, do func(x *api.Expr)) func(m *api.Model) {
		return func(m *api.Model) { do(&m.Exprs[x]) }
	}
	check(t, []change{
		{"procs", 3, -1, func(m *api.Model) { m.Procs = slices.Repeat(m.Procs, 6) }},
		{"claim", 3, -1, func(m *api.Model) { m.Claim = 3 }},
		{"claim below -1", 3, -1, func(m *api.Model) { m.Claim = -2 }},
		{"exprs", 3, -1, func(m *api.Model) { m.Exprs = append(m.Exprs, make([]api.Expr, 4096)...) }},
		{"op 0", 3, num, on(num, func(x *api.Expr) { x.Op = 0 })},
		{"op 40", 3, num, on(num, func(x *api.Expr) { x.Op = 40 })},
		{"number", 3, num, on(num, func(x *api.Expr) { x.N = 1 << 31 })},
		{"number's A", 3, num, on(num, func(x *api.Expr) { x.A = 0 })},
		{"sign's A", 3, neg, on(neg, func(x *api.Expr) { x.A = neg })},
		{"sign's no A", 3, neg, on(neg, func(x *api.Expr) { x.A = -1 })},
		{"sign's B", 3, neg, on(neg, func(x *api.Expr) { x.B = 0 })},
		{"equal's B", 3, eq, on(eq, func(x *api.Expr) { x.B = -1 })},
		{"equal's C", 3, eq, on(eq, func(x *api.Expr) { x.C = 0 })},
		{"twice of one", 3, eq, on(eq, func(x *api.Expr) { x.B = x.A })},
		{"of two", 3, cond, on(cond, func(x *api.Expr) { x.C = m.Exprs[eq].A })},
		{"scope", 3, ref, on(ref, func(x *api.Expr) { x.V.Scope = 3 })},
		{"slot", 3, ref, on(ref, func(x *api.Expr) { x.V.Slot = 129 })},
		{"slot below 0", 3, ref, on(ref, func(x *api.Expr) { x.V.Slot = -1 })},
		{"dims", 3, ref, on(ref, func(x *api.Expr) { x.V.Dims = make([]api.Dim, 5) })},
		{"index", 3, ref, on(ref, func(x *api.Expr) { x.V.Dims[0].I = ref })},
		{"len 0", 3, ref, on(ref, func(x *api.Expr) { x.V.Dims[0].Len = 0 })},
		{"len", 3, ref, on(ref, func(x *api.Expr) { x.V.Dims[0].Len = 129 })},
		{"stride", 3, ref, on(ref, func(x *api.Expr) { x.V.Dims[0].Stride = 129 })},
		{"stride below 0", 3, ref, on(ref, func(x *api.Expr) { x.V.Dims[0].Stride = -1 })},
		{"who", 3, ref, on(ref, func(x *api.Expr) { x.V.Who = 0 })},
		{"type", 3, ref, on(ref, func(x *api.Expr) { x.V.Type = 0 })},
		{"remote who", 3, remote, on(remote, func(x *api.Expr) { x.V.Who = -1 })},
		{"remote type", 3, remote, on(remote, func(x *api.Expr) { x.V.Type = 2 })},
		{"poll's N", 3, poll, on(poll, func(x *api.Expr) { x.N = 2 })},
		{"poll's match", 3, poll, on(poll, func(x *api.Expr) { x.Match[0] = 2 })},
		{"poll's matches", 3, poll, on(poll, func(x *api.Expr) { x.Match = x.Match[1:] })},
		{"poll's none", 3, poll, on(poll, func(x *api.Expr) { x.Match, x.Args = nil, nil })},
		{"poll's variable", 3, poll, on(poll, func(x *api.Expr) { x.Match[0] = 0 })},
		{"poll's arg", 3, poll, on(poll, func(x *api.Expr) { x.Args[0] = poll })},
		{"at's N", 3, at, on(at, func(x *api.Expr) { x.N = 2 })},
		{"at's args", 3, at, on(at, func(x *api.Expr) { x.Args = nil })},
		{"at's place", 3, at, on(at, func(x *api.Expr) { x.Args[0] = 99 })},
		{"at's no A", 3, at, on(at, func(x *api.Expr) { x.A = -1 })},
		{"run's N", 3, run, on(run, func(x *api.Expr) { x.N = 3 })},
		{"run's claim", 3, run, on(run, func(x *api.Expr) { x.N, x.Args = 2, nil })},
		{"run's args", 3, run, on(run, func(x *api.Expr) { x.Args = x.Args[1:] })},
		{"run's A", 3, run, on(run, func(x *api.Expr) { x.A = 0 })},
	})
}

// P11.2, part 6.
func TestStatements(t *testing.T) {
	on := func(proc, kind int, do func(m *api.Model, w *api.Stmt)) func(m *api.Model) {
		return func(m *api.Model) { do(m, &way(t, *m, proc, kind).S) }
	}
	spare := func(m *api.Model, x api.Expr) int {
		m.Exprs = append(m.Exprs, x)
		return len(m.Exprs) - 1
	}
	local := api.Expr{Op: api.XVar, A: -1, B: -1, C: -1, V: api.Var{Scope: api.Local, Who: -1, Type: -1}}
	pid := api.Expr{Op: api.XPid, A: -1, B: -1, C: -1}
	remote := func(m *api.Model) int {
		who := spare(m, api.Expr{Op: api.XNum, A: -1, B: -1, C: -1})
		return spare(m, api.Expr{Op: api.XVar, A: -1, B: -1, C: -1, V: api.Var{Scope: api.Remote, Who: who}})
	}
	run := func(m *api.Model) int { return spare(m, api.Expr{Op: api.XRun, N: 1, A: -1, B: -1, C: -1}) }
	check(t, []change{
		{"kind 0", 6, 1, on(1, api.SExpr, func(m *api.Model, s *api.Stmt) { s.Kind = 0 })},
		{"kind 10", 6, 1, on(1, api.SExpr, func(m *api.Model, s *api.Stmt) { s.Kind = 10 })},
		{"no A", 6, 1, on(1, api.SExpr, func(m *api.Model, s *api.Stmt) { s.A = -1 })},
		{"A", 6, 1, on(1, api.SExpr, func(m *api.Model, s *api.Stmt) { s.A = len(m.Exprs) })},
		{"B", 6, 1, on(1, api.SExpr, func(m *api.Model, s *api.Stmt) { s.B = 0 })},
		{"N", 6, 1, on(1, api.SExpr, func(m *api.Model, s *api.Stmt) { s.N = 1 })},
		{"args", 6, 1, on(1, api.SExpr, func(m *api.Model, s *api.Stmt) { s.Args = []int{0} })},
		{"match", 6, 1, on(1, api.SExpr, func(m *api.Model, s *api.Stmt) { s.Match = []int{0} })},
		{"text", 6, 1, on(1, api.SExpr, func(m *api.Model, s *api.Stmt) { s.Text = "x" })},
		{"set's B", 6, 1, on(1, api.SSet, func(m *api.Model, s *api.Stmt) { s.B = -1 })},
		{"set's A no variable", 6, 1, on(1, api.SSet, func(m *api.Model, s *api.Stmt) { s.A = s.B })},
		{"set's A remote", 6, 1, on(1, api.SSet, func(m *api.Model, s *api.Stmt) { s.A = remote(m) })},
		{"assert's A", 6, 0, on(0, api.SAssert, func(m *api.Model, s *api.Stmt) { s.A = -1 })},
		{"print's A", 6, 0, on(0, api.SPrint, func(m *api.Model, s *api.Stmt) { s.A = 0 })},
		{"print's args", 6, 0, on(0, api.SPrint, func(m *api.Model, s *api.Stmt) { s.Args[0] = -1 })},
		{"print's long text", 6, 0, on(0, api.SPrint, func(m *api.Model, s *api.Stmt) { s.Text = string(make([]byte, 257)) })},
		{"print's text", 0, 0, on(0, api.SPrint, func(m *api.Model, s *api.Stmt) { s.Text = string(make([]byte, 256)); s.Args = nil })},
		{"send's N", 6, 0, on(0, api.SSend, func(m *api.Model, s *api.Stmt) { s.N = 2 })},
		{"send's args", 6, 0, on(0, api.SSend, func(m *api.Model, s *api.Stmt) { s.Args = nil })},
		{"send's nine", 6, 0, on(0, api.SSend, func(m *api.Model, s *api.Stmt) { s.Args = slices.Repeat(s.Args[:1], 9) })},
		{"receive's N", 6, 1, on(1, api.SRecv, func(m *api.Model, s *api.Stmt) { s.N = 4 })},
		{"receive's N below 0", 6, 1, on(1, api.SRecv, func(m *api.Model, s *api.Stmt) { s.N = -1 })},
		{"receive's match", 6, 1, on(1, api.SRecv, func(m *api.Model, s *api.Stmt) { s.Match[1] = 0 })},
		{"receive's matches", 6, 1, on(1, api.SRecv, func(m *api.Model, s *api.Stmt) { s.Match = nil })},
		{"receive's remote", 6, 1, on(1, api.SRecv, func(m *api.Model, s *api.Stmt) { s.Args[0] = remote(m) })},
		{"receive's remote that matches", 0, 0, on(1, api.SRecv, func(m *api.Model, s *api.Stmt) { s.Args[0] = remote(m); s.Match[0] = 1 })},
		{"else's A", 6, 1, on(1, api.SElse, func(m *api.Model, s *api.Stmt) { s.A = 0 })},
		{"skip's args", 6, 1, on(1, api.SElse, func(m *api.Model, s *api.Stmt) { s.Kind = api.SSkip; s.Args = []int{0} })},
		{"chan's N", 6, 0, on(0, api.SChan, func(m *api.Model, s *api.Stmt) { s.N = 2 })},
		{"chan's remote", 6, 0, on(0, api.SChan, func(m *api.Model, s *api.Stmt) { s.A = remote(m) })},
		{"run in assert", 6, 0, on(0, api.SAssert, func(m *api.Model, s *api.Stmt) { s.A = run(m) })},
		{"run in send", 6, 0, on(0, api.SSend, func(m *api.Model, s *api.Stmt) { s.Args[0] = run(m) })},
		{"run in sign", 6, 1, on(1, api.SExpr, func(m *api.Model, s *api.Stmt) { s.A = spare(m, api.Expr{Op: api.XNeg, A: run(m), B: -1, C: -1}) })},
		{"run as channel", 6, 0, on(0, api.SSend, func(m *api.Model, s *api.Stmt) { s.A = run(m) })},
		{"run not used", 0, 0, func(m *api.Model) { spare(m, api.Expr{Op: api.XNeg, A: run(m), B: -1, C: -1}) }},
		{"run in provided", 6, 1, func(m *api.Model) { m.Procs[1].Provided = run(m) }},
		{"run in a claim", 6, 2, on(2, api.SExpr, func(m *api.Model, s *api.Stmt) { s.A = run(m) })},
		{"global beyond", 6, 1, on(1, api.SExpr, func(m *api.Model, s *api.Stmt) { l := local; l.V.Scope, l.V.Slot = api.Global, 6; s.A = spare(m, l) })},
		{"local beyond", 6, 1, on(1, api.SExpr, func(m *api.Model, s *api.Stmt) { l := local; l.V.Slot = 1; s.A = spare(m, l) })},
		{"local beyond, not used", 0, 0, func(m *api.Model) { l := local; l.V.Slot = 100; spare(m, l) }},
		{"remote beyond", 6, 1, on(1, api.SExpr, func(m *api.Model, s *api.Stmt) { s.A = remote(m); m.Exprs[s.A].V.Slot = 5 })},
		{"claim's local", 6, 2, on(2, api.SExpr, func(m *api.Model, s *api.Stmt) { s.A = spare(m, local) })},
		{"claim's pid", 6, 2, on(2, api.SExpr, func(m *api.Model, s *api.Stmt) { s.A = spare(m, pid) })},
		{"claim's kind", 6, 2, on(2, api.SExpr, func(m *api.Model, s *api.Stmt) { *s = way(t, *m, 0, api.SPrint).S })},
		{"an escape's way", 6, 1, func(m *api.Model) { m.Procs[1].Locs[0].Esc = [][]api.Trans{{{S: api.Stmt{Kind: 99}}}} }},
		{"the first of two", 6, 0, func(m *api.Model) { way(t, *m, 1, api.SExpr).S.A = -1; way(t, *m, 0, api.SAssert).S.A = -1 }},
	})
}

// P11.2: as much as there may be, and just one more.
func TestMost(t *testing.T) {
	byteType := api.Type{Bits: 8}
	num := api.Expr{Op: api.XNum, A: -1, B: -1, C: -1}
	add := func(m *api.Model, x api.Expr) int {
		m.Exprs = append(m.Exprs, x)
		return len(m.Exprs) - 1
	}
	variable := func(m *api.Model, scope, slot int, dims ...api.Dim) int {
		for i := range dims {
			dims[i].I = add(m, num)
		}
		return add(m, api.Expr{Op: api.XVar, A: -1, B: -1, C: -1, V: api.Var{Scope: scope, Slot: slot, Who: -1, Type: -1, Dims: dims}})
	}
	uses := func(scope, slot int, dims ...api.Dim) func(m *api.Model) {
		return func(m *api.Model) { way(t, *m, 1, api.SExpr).S.A = variable(m, scope, slot, dims...) }
	}
	has := func(scope, slot int, dims ...api.Dim) func(m *api.Model) {
		return func(m *api.Model) { variable(m, scope, slot, dims...) }
	}
	global := func(n int) func(m *api.Model) {
		return func(m *api.Model) {
			for len(m.Globals) < n {
				m.Globals, m.Init = append(m.Globals, byteType), append(m.Init, 0)
			}
		}
	}
	fields := func(n int) func(m *api.Model) {
		return func(m *api.Model) { m.Shapes[1].Fields = slices.Repeat([]api.Type{byteType}, n) }
	}
	number := func(v int64) func(m *api.Model) {
		return func(m *api.Model) { x := num; x.N = v; add(m, x) }
	}
	poll := func(n int) func(m *api.Model) {
		return func(m *api.Model) {
			x := api.Expr{Op: api.XPoll, A: add(m, num), B: -1, C: -1}
			for range n {
				x.Args, x.Match = append(x.Args, add(m, num)), append(x.Match, 1)
			}
			add(m, x)
		}
	}
	at := len(model(t).Exprs)
	check(t, []change{
		{"128 globals", 0, 0, global(128)}, {"129 globals", 1, -1, global(129)},
		{"32 shapes", 0, 0, func(m *api.Model) { m.Shapes = slices.Repeat(m.Shapes[:1], 32) }}, {"32 channels", 0, 0, func(m *api.Model) { m.Chans = make([]int, 32) }}, {"a channel below 0", 2, 0, func(m *api.Model) { m.Chans[0] = -1 }},
		{"room 16", 0, 0, func(m *api.Model) { m.Shapes[1].Room = 16 }}, {"8 fields", 0, 0, fields(8)}, {"1 field", 0, 0, fields(1)},
		{"16 types", 0, 0, func(m *api.Model) {
			for len(m.Procs) < 16 {
				p := m.Procs[1]
				p.Active = 0
				m.Procs = append(m.Procs, p)
			}
		}},
		{"4096 expressions", 0, 0, func(m *api.Model) { m.Exprs = append(m.Exprs, slices.Repeat([]api.Expr{num}, 4096-len(m.Exprs))...) }},
		{"4097 expressions", 3, -1, func(m *api.Model) { m.Exprs = append(m.Exprs, slices.Repeat([]api.Expr{num}, 4097-len(m.Exprs))...) }},
		{"greatest number", 0, 0, number(math.MaxInt32)}, {"least number", 0, 0, number(math.MinInt32)}, {"below that", 3, at, number(math.MinInt32 - 1)},
		{"slot 128", 0, 0, has(api.Local, 128)}, {"slot 129", 3, at, has(api.Local, 129)}, {"scope below 0", 3, at, has(-1, 0)},
		{"4 dims", 0, 0, has(api.Local, 0, make([]api.Dim, 4)[:0]...)}, {"great dims", 0, 0, has(api.Global, 0, api.Dim{Len: 128, Stride: 128}, api.Dim{Len: 1}, api.Dim{Len: 1}, api.Dim{Len: 1})}, {"5 dims", 3, at + 5, has(api.Global, 0, api.Dim{Len: 1}, api.Dim{Len: 1}, api.Dim{Len: 1}, api.Dim{Len: 1}, api.Dim{Len: 1})},
		{"last global", 0, 0, uses(api.Global, 5)}, {"one more", 6, 1, uses(api.Global, 6)}, {"last local", 0, 0, uses(api.Local, 0)}, {"one more local", 6, 1, uses(api.Local, 1)}, {"last by index", 0, 0, uses(api.Global, 1, api.Dim{Len: 5, Stride: 1})}, {"one more by index", 6, 1, uses(api.Global, 1, api.Dim{Len: 6, Stride: 1})},
		{"8 polled", 0, 0, poll(8)}, {"9 polled", 3, at + 10, poll(9)}, {"1 polled", 0, 0, poll(1)}, {"none polled", 3, at + 1, poll(0)},
		{"match -1", 0, 0, func(m *api.Model) { m.Exprs[find(t, *m, op(api.XPoll))].Match[1] = -1 }}, {"match -2", 3, find(t, model(t), op(api.XPoll)), func(m *api.Model) { m.Exprs[find(t, *m, op(api.XPoll))].Match[1] = -2 }}, {"poll's N 1", 0, 0, func(m *api.Model) { m.Exprs[find(t, *m, op(api.XPoll))].N = 1 }}, {"poll's N -1", 3, find(t, model(t), op(api.XPoll)), func(m *api.Model) { m.Exprs[find(t, *m, op(api.XPoll))].N = -1 }},
		{"run's arg", 3, find(t, model(t), op(api.XRun)), func(m *api.Model) { x := find(t, *m, op(api.XRun)); m.Exprs[x].Args[0] = x }},
		{"run's arg twice", 3, find(t, model(t), op(api.XRun)), func(m *api.Model) { x := find(t, *m, op(api.XRun)); m.Exprs[x].Args[0] = m.Exprs[x].Args[1] }},
		{"at's place below 0", 3, find(t, model(t), op(api.XAt)), func(m *api.Model) { m.Exprs[find(t, *m, op(api.XAt))].Args[0] = -1 }}, {"at's first place", 0, 0, func(m *api.Model) { m.Exprs[find(t, *m, op(api.XAt))].Args[0] = 0 }},
		{"at's place too great", 3, find(t, model(t), op(api.XAt)), func(m *api.Model) { m.Exprs[find(t, *m, op(api.XAt))].Args[0] = len(m.Procs[0].Locs) }}, {"at's N below 0", 3, find(t, model(t), op(api.XAt)), func(m *api.Model) { m.Exprs[find(t, *m, op(api.XAt))].N = -1 }},
		{"128 slots", 0, 0, func(m *api.Model) {
			p := &m.Procs[1]
			p.Frame, p.Init = slices.Repeat([]api.Type{byteType}, 128), make([]int64, 128)
		}},
		{"256 places", 0, 0, func(m *api.Model) { p := &m.Procs[1]; p.Locs = append(p.Locs, make([]api.Loc, 256-len(p.Locs))...) }}, {"257 places", 4, 1, func(m *api.Model) { p := &m.Procs[1]; p.Locs = append(p.Locs, make([]api.Loc, 257-len(p.Locs))...) }},
		{"start below 0", 4, 1, func(m *api.Model) { m.Procs[1].Start = -1 }}, {"start", 4, 1, func(m *api.Model) { m.Procs[1].Start = len(m.Procs[1].Locs) }}, {"final below 0", 4, 1, func(m *api.Model) { m.Procs[1].Final = -1 }}, {"to below 0", 4, 1, func(m *api.Model) { m.Procs[1].Locs[0].Out[0].To = -1 }}, {"to 0", 0, 0, func(m *api.Model) { m.Procs[1].Locs[0].Out[0].To = 0 }},
		{"an escape's to", 4, 1, func(m *api.Model) { m.Procs[1].Locs[0].Esc = [][]api.Trans{{{To: -1}}} }},
		{"1024 ways", 0, 0, func(m *api.Model) { p := m.Procs[1]; p.Locs[0].Out = slices.Repeat(p.Locs[0].Out, 1024-ways(p)+1) }}, {"1025 ways", 4, 1, func(m *api.Model) { p := m.Procs[1]; p.Locs[0].Out = slices.Repeat(p.Locs[0].Out, 1024-ways(p)+2) }},
		{"16 active", 0, 0, func(m *api.Model) { m.Procs[1].Active = 16 }}, {"prio 255", 0, 0, func(m *api.Model) { m.Procs[1].Prio = 255 }}, {"prio 1", 0, 0, func(m *api.Model) { m.Procs[1].Prio = 1 }}, {"provided 0", 0, 0, func(m *api.Model) { m.Procs[0].Provided = 0 }}, {"the last expression provided", 0, 0, func(m *api.Model) { m.Procs[0].Provided = add(m, num) }},
		{"params as many as slots", 0, 0, func(m *api.Model) { m.Procs[1].Params = 1 }}, {"claim's params", 4, 2, func(m *api.Model) { m.Procs[2].Params = 1 }},
		{"8 sent", 0, 0, func(m *api.Model) { s := &way(t, *m, 0, api.SSend).S; s.Args = slices.Repeat(s.Args[:1], 8) }}, {"send's N 1", 0, 0, func(m *api.Model) { way(t, *m, 0, api.SSend).S.N = 1 }}, {"receive's N 3", 0, 0, func(m *api.Model) { way(t, *m, 0, api.SRecv).S.N = 3 }}, {"chan's N 0", 0, 0, func(m *api.Model) { way(t, *m, 0, api.SChan).S.N = 0 }}, {"chan's N 1", 0, 0, func(m *api.Model) { way(t, *m, 0, api.SChan).S.N = 1 }}, {"A 0", 0, 0, func(m *api.Model) { way(t, *m, 0, api.SAssert).S.A = 0 }}, {"A below -1", 6, 0, func(m *api.Model) { way(t, *m, 0, api.SAssert).S.A = -2 }},
		{"set's B too great", 6, 1, func(m *api.Model) { way(t, *m, 1, api.SSet).S.B = len(m.Exprs) }}, {"an argument too great", 6, 0, func(m *api.Model) { way(t, *m, 0, api.SPrint).S.Args[0] = len(m.Exprs) }}, {"the same expression in two ways", 0, 0, func(m *api.Model) { way(t, *m, 0, api.SAssert).S.A = way(t, *m, 0, api.SSet).S.A }},
	})
	one := api.Model{Claim: -1, Procs: []api.Proc{{Prio: 1, Provided: -1, Locs: make([]api.Loc, 1)}}}
	if e, part, place := Check(one); e != api.OK || part != 0 || place != 0 {
		t.Errorf("one proctype: error %d, %d, %d", e, part, place)
	}
	never := api.Model{Claim: 0, Procs: []api.Proc{{Prio: 1, Provided: -1, Locs: []api.Loc{{Atomic: true}}}}}
	if e, part, place := Check(never); e != api.ErrModel || part != 4 || place != 0 {
		t.Errorf("a claim that is the first proctype: error %d, %d, %d", e, part, place)
	}
	one.Procs[0].Prio = 0
	if e, part, place := Check(one); e != api.ErrModel || part != 4 || place != 0 {
		t.Errorf("one proctype: error %d, %d, %d", e, part, place)
	}
}

func ways(p api.Proc) int {
	n := 0
	for _, l := range p.Locs {
		n += len(l.Out)
		for _, esc := range l.Esc {
			n += len(esc)
		}
	}
	return n
}

// P11.2: which parts each opcode has.
func TestParts(t *testing.T) {
	for op := 0; op <= 40; op++ {
		parts := 0
		switch {
		case op == api.XIf:
			parts = 3
		case op >= api.XMul && op <= api.XEither:
			parts = 2
		case slices.Contains([]int{api.XNeg, api.XNot, api.XFlip, api.XLen, api.XFull, api.XEmpty, api.XNfull, api.XNempty, api.XPoll, api.XEnabled, api.XPc, api.XAt}, op):
			parts = 1
		}
		for mask := range 8 {
			m := api.Model{Claim: -1, Procs: []api.Proc{{Prio: 1, Provided: -1, Locs: make([]api.Loc, 1)}}}
			for range 4 {
				m.Exprs = append(m.Exprs, api.Expr{Op: api.XPid, A: -1, B: -1, C: -1})
			}
			abc := [3]int{-1, -1, -1}
			for i := range abc {
				if mask>>i&1 == 1 {
					abc[i] = i
				}
			}
			x := api.Expr{Op: op, A: abc[0], B: abc[1], C: abc[2], V: api.Var{Who: -1, Type: -1}}
			switch op {
			case api.XPoll:
				x.Args, x.Match = []int{3}, []int{1}
			case api.XAt:
				x.Args = []int{0}
			}
			m.Exprs = append(m.Exprs, x)
			e, part, place := Check(m)
			if op >= 1 && op <= 39 && mask == 1<<parts-1 {
				if e != api.OK {
					t.Errorf("opcode %d, parts %b: error %d, %d, %d", op, mask, e, part, place)
				}
			} else if e != api.ErrModel || part != 3 || place != 4 {
				t.Errorf("opcode %d, parts %b: error %d, %d, %d", op, mask, e, part, place)
			}
		}
	}
}
