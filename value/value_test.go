package value

import (
	"math"
	"testing"

	"spinneret/api"
)

var some = []int64{0, 1, -1, 2, -2, 5, -7, 31, 32, 33, 127, 128, 255, 256, 65535, 65536, -32768, 32768, math.MaxInt32, math.MinInt32, math.MaxUint32, 1 << 32, 1<<33 + 5, math.MaxInt64, math.MinInt64}

// P5.1, P5.2, P5.5.
func TestFit(t *testing.T) {
	for _, c := range []struct {
		bits   int
		signed bool
		v, fit int64
	}{
		{8, false, 257, 1}, {8, false, -1, 255}, {16, true, 32768, -32768}, {1, false, 2, 0}, {1, true, 1, -1}, {1, true, 2, 0},
		{32, true, 1 << 31, math.MinInt32}, {32, false, -1, math.MaxUint32}, {32, false, math.MinInt64, 0}, {3, true, 4, -4}, {3, true, 3, 3},
		{0, false, 5, 0}, {33, false, 5, 0}, {-1, true, 5, 0}, {64, true, 5, 0},
	} {
		if got := Fit(api.Type{Bits: c.bits, Signed: c.signed}, c.v); got != c.fit {
			t.Errorf("Fit(%d %v, %d): %d", c.bits, c.signed, c.v, got)
		}
	}
	for bits := -1; bits <= 34; bits++ {
		for _, signed := range []bool{false, true} {
			for _, v := range some {
				ty := api.Type{Bits: bits, Signed: signed}
				f := Fit(ty, v)
				if Fit(ty, f) != f {
					t.Errorf("Fit of Fit: %v %d", ty, v)
				}
				if Fits(ty, v) != (bits >= 1 && bits <= 32 && f == v) {
					t.Errorf("Fits: %v %d", ty, v)
				}
			}
		}
	}
}

// P5.3, P5.4: what the document names, and all as 32 bits reckon.
func TestTwo(t *testing.T) {
	for _, c := range []struct {
		op         int
		a, b, want int64
		e          api.Errno
	}{
		{api.XDiv, -7, 2, -3, 0}, {api.XMod, -7, 2, -1, 0}, {api.XMod, 7, -2, 1, 0}, {api.XDiv, 1, 0, 0, api.ErrDivide}, {api.XMod, 1, 0, 0, api.ErrDivide}, {api.XDiv, 1, 1 << 32, 0, api.ErrDivide},
		{api.XDiv, math.MinInt32, -1, math.MinInt32, 0}, {api.XMod, math.MinInt32, -1, 0, 0}, {api.XMul, 65536, 65536, 0, 0},
		{api.XShl, 1, 31, math.MinInt32, 0}, {api.XShl, 1, 32, 0, 0}, {api.XShr, -8, 1, -4, 0}, {api.XShl, -8, -1, -4, 0}, {api.XShr, 1, -3, 8, 0},
		{api.XShr, -8, 40, -1, 0}, {api.XShr, 8, 40, 0, 0}, {api.XShl, -8, -100, -1, 0}, {api.XShr, 1, -40, 0, 0}, {api.XShr, 1, math.MinInt32, 0, 0}, {api.XShl, -1, math.MinInt32, -1, 0},
		{api.XLt, 1, 2, 1, 0}, {api.XLt, 2, 2, 0, 0}, {api.XGt, 3, 2, 1, 0}, {api.XGe, 1, 2, 0, 0}, {api.XLe, 3, 2, 0, 0}, {api.XLe, 2, 2, 1, 0}, {api.XGt, 2, 2, 0, 0}, {api.XGe, 2, 2, 1, 0}, {api.XEq, 1 << 32, 0, 1, 0}, {api.XNe, 1, 1, 0, 0}, {api.XLt, math.MaxUint32, 0, 1, 0},
		{api.XAnd, 6, 3, 2, 0}, {api.XXor, 6, 3, 5, 0}, {api.XOr, 6, 3, 7, 0}, {api.XAdd, math.MaxInt32, 1, math.MinInt32, 0}, {api.XSub, math.MinInt32, 1, math.MaxInt32, 0},
		{api.XBoth, 1, 1, 0, api.ErrInput}, {api.XEither, 1, 1, 0, api.ErrInput}, {api.XFlip, 1, 1, 0, api.ErrInput}, {0, 1, 1, 0, api.ErrInput}, {-6, 1, 0, 0, api.ErrInput},
	} {
		if got, e := Two(c.op, c.a, c.b); got != c.want || e != c.e {
			t.Errorf("Two(%d, %d, %d): %d, %d", c.op, c.a, c.b, got, e)
		}
	}
	for _, a := range some {
		for _, b := range some {
			x, y := int32(a), int32(b)
			for op, want := range map[int]int32{api.XMul: x * y, api.XAdd: x + y, api.XSub: x - y, api.XAnd: x & y, api.XOr: x | y, api.XXor: x ^ y} {
				if got, e := Two(op, a, b); e != api.OK || got != int64(want) {
					t.Errorf("Two(%d, %d, %d): %d", op, a, b, got)
				}
			}
			if y != 0 {
				q, _ := Two(api.XDiv, a, b)
				r, _ := Two(api.XMod, a, b)
				if int32(q)*y+int32(r) != x {
					t.Errorf("%d by %d: %d and %d", a, b, q, r)
				}
			}
		}
		for op, want := range map[int]int64{api.XNeg: int64(-int32(a)), api.XFlip: int64(^int32(a))} {
			if got, e := One(op, a); e != api.OK || got != want {
				t.Errorf("One(%d, %d): %d", op, a, got)
			}
		}
	}
}

func TestOne(t *testing.T) {
	for _, c := range []struct {
		op      int
		a, want int64
		e       api.Errno
	}{
		{api.XNeg, math.MinInt32, math.MinInt32, 0}, {api.XNot, 5, 0, 0}, {api.XNot, 0, 1, 0}, {api.XNot, 1 << 32, 1, 0}, {api.XFlip, 0, -1, 0}, {api.XAdd, 1, 0, api.ErrInput}, {0, 1, 0, api.ErrInput},
	} {
		if got, e := One(c.op, c.a); got != c.want || e != c.e {
			t.Errorf("One(%d, %d): %d, %d", c.op, c.a, got, e)
		}
	}
}
