package tests

import (
	"testing"

	"loop.example/g00032/impl"
)

func TestNumbersOfKindsAndOps(t *testing.T) {
	got := []int64{impl.KindInt, impl.KindLong, impl.KindFloat, impl.KindRef, impl.ToByte, impl.ToChar, impl.ToShort,
		impl.OpAdd, impl.OpSub, impl.OpMul, impl.OpDiv, impl.OpRem, impl.OpNeg, impl.OpShl, impl.OpShr, impl.OpUshr, impl.OpAnd, impl.OpOr, impl.OpXor}
	want := []int64{1, 2, 3, 4, 5, 6, 7, 11, 12, 13, 14, 15, 16, 17, 18, 19, 20, 21, 22}
	for i, n := range want {
		if got[i] != n {
			t.Errorf("constant %d: %d, not %d", i, got[i], n)
		}
	}
	if impl.NaNBits != 9221120237041090560 {
		t.Error("NaNBits")
	}
}

func TestWrap(t *testing.T) {
	for _, c := range [][2]int64{
		{0, 0}, {1, 1}, {-1, -1}, {maxInt, maxInt}, {minInt, minInt},
		{maxInt + 1, minInt}, {minInt - 1, maxInt}, {1 << 32, 0}, {1<<32 - 1, -1}, {-1 << 32, 0},
		{3<<32 | 5, 5}, {3<<32 | 1<<31, minInt}, {maxLong, -1}, {minLong, 0}, {minLong + 9, 9},
	} {
		if n := impl.Wrap(c[0]); n != c[1] {
			t.Errorf("Wrap(%d): %d, not %d", c[0], n, c[1])
		}
	}
}

type wholeCase struct {
	op, a, b, want int64
	ok             bool
}

func testWhole(t *testing.T, name string, f func(op, a, b int64) (int64, bool), cases []wholeCase) {
	t.Helper()
	for _, c := range cases {
		if n, ok := f(c.op, c.a, c.b); n != c.want || ok != c.ok {
			t.Errorf("%s(%d, %d, %d): %d %v, not %d %v", name, c.op, c.a, c.b, n, ok, c.want, c.ok)
		}
	}
}

func TestIntOp(t *testing.T) {
	testWhole(t, "IntOp", impl.IntOp, []wholeCase{
		{impl.OpAdd, 2, 3, 5, true}, {impl.OpAdd, maxInt, 1, minInt, true}, {impl.OpAdd, minInt, -1, maxInt, true},
		{impl.OpAdd, 1<<32 + 2, 5<<32 + 3, 5, true}, {impl.OpAdd, maxLong, minLong, -1, true},
		{impl.OpSub, 2, 3, -1, true}, {impl.OpSub, minInt, 1, maxInt, true}, {impl.OpSub, 0, minInt, minInt, true},
		{impl.OpMul, -6, 7, -42, true}, {impl.OpMul, 65536, 65536, 0, true}, {impl.OpMul, maxInt, maxInt, 1, true}, {impl.OpMul, minInt, -1, minInt, true},
		{impl.OpDiv, 7, 2, 3, true}, {impl.OpDiv, -7, 2, -3, true}, {impl.OpDiv, 7, -2, -3, true}, {impl.OpDiv, -7, -2, 3, true},
		{impl.OpDiv, minInt, -1, minInt, true}, {impl.OpDiv, 1 << 31, -1, minInt, true}, {impl.OpDiv, 1<<40 + 8, 1<<50 + 2, 4, true},
		{impl.OpDiv, 1, 0, 0, false}, {impl.OpDiv, 0, 0, 0, false}, {impl.OpDiv, 1, 1 << 32, 0, false}, {impl.OpDiv, 1, minLong, 0, false},
		{impl.OpRem, 7, 2, 1, true}, {impl.OpRem, -7, 2, -1, true}, {impl.OpRem, 7, -2, 1, true}, {impl.OpRem, -7, -2, -1, true},
		{impl.OpRem, minInt, -1, 0, true}, {impl.OpRem, minInt, maxInt, -1, true}, {impl.OpRem, 5, 0, 0, false}, {impl.OpRem, 5, -1 << 32, 0, false},
		{impl.OpNeg, 5, 0, -5, true}, {impl.OpNeg, minInt, 3, minInt, true}, {impl.OpNeg, 1<<32 + 1, maxLong, -1, true}, {impl.OpNeg, 0, minLong, 0, true},
		{impl.OpShl, 3, 2, 12, true}, {impl.OpShl, 1, 31, minInt, true}, {impl.OpShl, 1, 32, 1, true}, {impl.OpShl, 1, 33, 2, true}, {impl.OpShl, 1, -1, minInt, true}, {impl.OpShl, 3, 31, minInt, true},
		{impl.OpShl, 1, maxLong, minInt, true}, {impl.OpShl, 5, minLong, 5, true},
		{impl.OpShr, -8, 1, -4, true}, {impl.OpShr, -1, 31, -1, true}, {impl.OpShr, -8, 33, -4, true}, {impl.OpShr, minInt, -1, -1, true}, {impl.OpShr, 1 << 31, 4, minInt >> 4, true}, {impl.OpShr, 8, 63, 0, true},
		{impl.OpUshr, -1, 0, -1, true}, {impl.OpUshr, -1, 1, maxInt, true}, {impl.OpUshr, -1, 31, 1, true}, {impl.OpUshr, -1, 32, -1, true}, {impl.OpUshr, -8, 33, maxInt - 3, true},
		{impl.OpUshr, minInt, -1, 1, true}, {impl.OpUshr, 1<<35 + 16, 4, 1, true}, {impl.OpUshr, minInt, minLong, minInt, true},
		{impl.OpAnd, 12, 10, 8, true}, {impl.OpAnd, -1, minInt, minInt, true}, {impl.OpAnd, maxLong, 1 << 40, 0, true},
		{impl.OpOr, 12, 10, 14, true}, {impl.OpOr, 1 << 40, 1 << 31, minInt, true},
		{impl.OpXor, 12, 10, 6, true}, {impl.OpXor, -1, maxInt, minInt, true}, {impl.OpXor, 1 << 32, 3, 3, true},
	})
}

func TestLongOp(t *testing.T) {
	testWhole(t, "LongOp", impl.LongOp, []wholeCase{
		{impl.OpAdd, 1 << 40, 1, 1<<40 + 1, true}, {impl.OpAdd, maxLong, 1, minLong, true}, {impl.OpAdd, minLong, -1, maxLong, true},
		{impl.OpSub, 2, 3, -1, true}, {impl.OpSub, minLong, 1, maxLong, true}, {impl.OpSub, 0, minLong, minLong, true},
		{impl.OpMul, 1 << 31, 1 << 31, 1 << 62, true}, {impl.OpMul, 1 << 32, 1 << 32, 0, true}, {impl.OpMul, maxLong, maxLong, 1, true}, {impl.OpMul, minLong, -1, minLong, true},
		{impl.OpDiv, 7, 2, 3, true}, {impl.OpDiv, -7, 2, -3, true}, {impl.OpDiv, 7, -2, -3, true}, {impl.OpDiv, -7, -2, 3, true},
		{impl.OpDiv, minLong, -1, minLong, true}, {impl.OpDiv, minInt, -1, -minInt, true}, {impl.OpDiv, 1, 1 << 32, 0, true}, {impl.OpDiv, 1, 0, 0, false}, {impl.OpDiv, minLong, 0, 0, false},
		{impl.OpRem, 7, 2, 1, true}, {impl.OpRem, -7, 2, -1, true}, {impl.OpRem, 7, -2, 1, true}, {impl.OpRem, -7, -2, -1, true},
		{impl.OpRem, minLong, -1, 0, true}, {impl.OpRem, 5, 1 << 32, 5, true}, {impl.OpRem, 5, 0, 0, false},
		{impl.OpNeg, 5, 0, -5, true}, {impl.OpNeg, minLong, 7, minLong, true}, {impl.OpNeg, maxLong, minLong, -maxLong, true},
		{impl.OpShl, 3, 40, 3 << 40, true}, {impl.OpShl, 1, 63, minLong, true}, {impl.OpShl, 1, 64, 1, true}, {impl.OpShl, 1, 65, 2, true}, {impl.OpShl, 1, -1, minLong, true}, {impl.OpShl, 5, minLong, 5, true}, {impl.OpShl, 1, maxLong, minLong, true},
		{impl.OpShr, -8, 1, -4, true}, {impl.OpShr, minLong, 63, -1, true}, {impl.OpShr, -8, 65, -4, true}, {impl.OpShr, -8, -63, -4, true},
		{impl.OpUshr, -1, 0, -1, true}, {impl.OpUshr, -1, 1, maxLong, true}, {impl.OpUshr, -1, 63, 1, true}, {impl.OpUshr, -1, 64, -1, true}, {impl.OpUshr, -1, -1, 1, true}, {impl.OpUshr, -1, 32, 1<<32 - 1, true},
		{impl.OpAnd, 12, 10, 8, true}, {impl.OpAnd, maxLong, 1 << 40, 1 << 40, true},
		{impl.OpOr, 1 << 40, 1, 1<<40 + 1, true}, {impl.OpXor, -1, maxLong, minLong, true}, {impl.OpXor, 12, 10, 6, true},
	})
}

func TestWholeOpsThatAreNone(t *testing.T) {
	for _, op := range oddOps() {
		cases := []wholeCase{{op, 6, 3, 0, false}, {op, minLong, -1, 0, false}, {op, 0, 0, 0, false}}
		testWhole(t, "IntOp", impl.IntOp, cases)
		testWhole(t, "LongOp", impl.LongOp, cases)
	}
}

func TestWholeOpsAgainstExactNumbers(t *testing.T) {
	t.Parallel()
	row := numbers{1}
	as := edgeNumbers()
	for range 40 {
		as = append(as, row.next(), row.next()>>30)
	}
	for _, op := range append(allOps(), oddOps()...) {
		for _, a := range as {
			for _, b := range as {
				n, ok := wholeOracle(32, op, a, b)
				testWhole(t, "IntOp", impl.IntOp, []wholeCase{{op, a, b, n, ok}})
				n, ok = wholeOracle(64, op, a, b)
				testWhole(t, "LongOp", impl.LongOp, []wholeCase{{op, a, b, n, ok}})
			}
		}
	}
}
