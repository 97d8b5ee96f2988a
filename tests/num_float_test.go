package tests

import (
	"math"
	"testing"

	"loop.example/g00032/impl"
)

func bitsOf(x float64) int64 { return int64(math.Float64bits(x)) }

var (
	one      = bitsOf(1)
	halfUlp  = bitsOf(0x1p-53)
	quiet    = int64(infinity + 1<<51 + 5)
	loud     = int64(infinity + 1)
	minusOne = bitsOf(-1)
)

const minusInfinity = signBit | infinity

func TestFloatOp(t *testing.T) {
	testWhole(t, "FloatOp", impl.FloatOp, []wholeCase{
		{impl.OpAdd, bitsOf(1.5), bitsOf(2.25), bitsOf(3.75), true}, {impl.OpAdd, bitsOf(0.1), bitsOf(0.2), 4599075939470750516, true},
		{impl.OpSub, bitsOf(1.5), bitsOf(2.25), bitsOf(-0.75), true}, {impl.OpMul, bitsOf(1.5), bitsOf(-2.5), bitsOf(-3.75), true},
		{impl.OpDiv, bitsOf(7), bitsOf(2), bitsOf(3.5), true}, {impl.OpDiv, one, bitsOf(3), 4599676419421066581, true},
		{impl.OpNeg, bitsOf(1.5), one, bitsOf(-1.5), true},
	})
}

func TestFloatTies(t *testing.T) {
	testWhole(t, "FloatOp", impl.FloatOp, []wholeCase{
		{impl.OpAdd, one, halfUlp, one, true},             // the even one is below
		{impl.OpAdd, one + 1, halfUlp, one + 2, true},     // the even one is above
		{impl.OpAdd, one, halfUlp + 1, one + 1, true},     // no tie any more
		{impl.OpAdd, one + 1, halfUlp - 1, one + 1, true}, // nor here
		{impl.OpMul, one + 1, one + 1<<51, one + 1<<51 + 2, true},
		{impl.OpMul, 1, bitsOf(0.5), 0, true}, {impl.OpMul, 3, bitsOf(0.5), 2, true}, {impl.OpMul, 5, bitsOf(0.5), 2, true},
		{impl.OpMul, 1, bitsOf(0.5) + 1, 1, true}, {impl.OpDiv, 7, bitsOf(2), 4, true}, {impl.OpDiv, 1, bitsOf(-2), signBit, true},
	})
}

func TestFloatsWithExponentNought(t *testing.T) {
	testWhole(t, "FloatOp", impl.FloatOp, []wholeCase{
		{impl.OpAdd, 1, 2, 3, true}, {impl.OpAdd, 1<<52 - 1, 1, 1 << 52, true}, {impl.OpSub, 1 << 52, 1, 1<<52 - 1, true},
		{impl.OpSub, 1, 2, signBit | 1, true}, {impl.OpMul, 1 << 52, bitsOf(0.5), 1 << 51, true}, {impl.OpMul, 1, 1, 0, true}, {impl.OpMul, 1, signBit | 1, signBit, true},
		{impl.OpDiv, 1, 1, one, true}, {impl.OpDiv, 1 << 52, 1, bitsOf(0x1p52), true}, {impl.OpNeg, 1, 0, signBit | 1, true},
	})
}

func TestFloatsAtTheLastOne(t *testing.T) {
	testWhole(t, "FloatOp", impl.FloatOp, []wholeCase{
		{impl.OpAdd, lastOne, bitsOf(0x1p970), infinity, true},    // exactly the first value that is an infinity
		{impl.OpAdd, lastOne, bitsOf(0x1p970) - 1, lastOne, true}, // the last that is none
		{impl.OpSub, signBit | lastOne, bitsOf(0x1p970), minusInfinity, true},
		{impl.OpSub, signBit | lastOne, bitsOf(0x1p970) - 1, signBit | lastOne, true},
		{impl.OpAdd, lastOne, lastOne, infinity, true}, {impl.OpMul, lastOne, bitsOf(-2), minusInfinity, true},
		{impl.OpMul, lastOne, one + 1, infinity, true}, {impl.OpMul, lastOne - 1, one, lastOne - 1, true},
		{impl.OpDiv, lastOne, bitsOf(0.5), infinity, true}, {impl.OpDiv, one, 1, infinity, true}, {impl.OpDiv, lastOne, lastOne, one, true},
	})
}

func TestFloatNoughts(t *testing.T) {
	testWhole(t, "FloatOp", impl.FloatOp, []wholeCase{
		{impl.OpAdd, 0, 0, 0, true}, {impl.OpAdd, 0, signBit, 0, true}, {impl.OpAdd, signBit, 0, 0, true}, {impl.OpAdd, signBit, signBit, signBit, true},
		{impl.OpSub, 0, 0, 0, true}, {impl.OpSub, 0, signBit, 0, true}, {impl.OpSub, signBit, 0, signBit, true}, {impl.OpSub, signBit, signBit, 0, true},
		{impl.OpAdd, one, minusOne, 0, true}, {impl.OpSub, minusOne, minusOne, 0, true}, {impl.OpAdd, one, signBit, one, true},
		{impl.OpMul, 0, minusOne, signBit, true}, {impl.OpMul, signBit, minusOne, 0, true}, {impl.OpMul, signBit, signBit, 0, true},
		{impl.OpDiv, 0, minusOne, signBit, true}, {impl.OpDiv, signBit, minusOne, 0, true},
		{impl.OpDiv, one, 0, infinity, true}, {impl.OpDiv, one, signBit, minusInfinity, true}, {impl.OpDiv, minusOne, 0, minusInfinity, true}, {impl.OpDiv, minusOne, signBit, infinity, true},
		{impl.OpDiv, 0, 0, impl.NaNBits, true}, {impl.OpDiv, signBit, 0, impl.NaNBits, true},
		{impl.OpNeg, 0, 0, signBit, true}, {impl.OpNeg, signBit, 0, 0, true},
	})
}

func TestFloatInfinities(t *testing.T) {
	testWhole(t, "FloatOp", impl.FloatOp, []wholeCase{
		{impl.OpAdd, infinity, infinity, infinity, true}, {impl.OpAdd, infinity, minusInfinity, impl.NaNBits, true}, {impl.OpAdd, one, minusInfinity, minusInfinity, true},
		{impl.OpSub, infinity, infinity, impl.NaNBits, true}, {impl.OpSub, infinity, minusInfinity, infinity, true}, {impl.OpSub, one, infinity, minusInfinity, true},
		{impl.OpMul, infinity, minusOne, minusInfinity, true}, {impl.OpMul, minusInfinity, minusInfinity, infinity, true}, {impl.OpMul, infinity, 0, impl.NaNBits, true}, {impl.OpMul, signBit, infinity, impl.NaNBits, true},
		{impl.OpDiv, infinity, infinity, impl.NaNBits, true}, {impl.OpDiv, infinity, minusInfinity, impl.NaNBits, true}, {impl.OpDiv, infinity, 0, infinity, true}, {impl.OpDiv, infinity, signBit, minusInfinity, true},
		{impl.OpDiv, one, infinity, 0, true}, {impl.OpDiv, minusOne, infinity, signBit, true}, {impl.OpDiv, 0, minusInfinity, signBit, true}, {impl.OpDiv, minusInfinity, minusOne, infinity, true},
		{impl.OpNeg, infinity, 0, minusInfinity, true}, {impl.OpNeg, minusInfinity, 0, infinity, true},
	})
}

func TestFloatsThatAreNoNumber(t *testing.T) {
	for _, none := range []int64{impl.NaNBits, quiet, loud, signBit | impl.NaNBits, signBit | loud, -1, maxLong} {
		for _, op := range []int64{impl.OpAdd, impl.OpSub, impl.OpMul, impl.OpDiv} {
			for _, x := range []int64{0, signBit, one, infinity, minusInfinity, none} {
				testWhole(t, "FloatOp", impl.FloatOp, []wholeCase{{op, none, x, impl.NaNBits, true}, {op, x, none, impl.NaNBits, true}})
			}
		}
		testWhole(t, "FloatOp", impl.FloatOp, []wholeCase{{impl.OpNeg, none, one, impl.NaNBits, true}, {impl.OpNeg, one, none, minusOne, true}, {impl.OpNeg, 0, none, signBit, true}})
	}
}

func TestFloatOpsThatAreNone(t *testing.T) {
	ops := append(oddOps(), impl.OpRem, impl.OpShl, impl.OpShr, impl.OpUshr, impl.OpAnd, impl.OpOr, impl.OpXor)
	for _, op := range ops {
		testWhole(t, "FloatOp", impl.FloatOp, []wholeCase{{op, one, one, 0, false}, {op, quiet, one, 0, false}, {op, 0, 0, 0, false}})
	}
}

func TestFloatOpAgainstExactNumbers(t *testing.T) {
	t.Parallel()
	floats := edgeFloats()
	for _, op := range []int64{impl.OpAdd, impl.OpSub, impl.OpMul, impl.OpDiv, impl.OpNeg} {
		for _, a := range floats {
			for _, b := range floats {
				n, ok := floatOracle(op, a, b)
				testWhole(t, "FloatOp", impl.FloatOp, []wholeCase{{op, a, b, n, ok}})
			}
		}
		row := numbers{2}
		for range 3000 {
			a, near := row.next(), row.next()
			for _, b := range []int64{near, a ^ near>>9, a ^ signBit ^ near>>14} {
				n, ok := floatOracle(op, a, b)
				testWhole(t, "FloatOp", impl.FloatOp, []wholeCase{{op, a, b, n, ok}})
			}
		}
	}
}

func TestFloatCompare(t *testing.T) {
	for _, c := range [][4]int64{
		{one, bitsOf(2), 9, -1}, {bitsOf(2), one, 9, 1}, {one, one, 9, 0}, {minusOne, one, 9, -1}, {minusOne, bitsOf(-2), 9, 1},
		{0, signBit, 9, 0}, {signBit, 0, 9, 0}, {0, 1, 9, -1}, {signBit, signBit | 1, 9, 1}, {signBit | 1, 1, 9, -1}, {one, one + 1, 9, -1},
		{infinity, infinity, 9, 0}, {minusInfinity, infinity, 9, -1}, {infinity, lastOne, 9, 1}, {minusInfinity, signBit | lastOne, 9, -1}, {minusInfinity, minusInfinity, 9, 0},
		{impl.NaNBits, one, 1, 1}, {one, impl.NaNBits, -1, -1}, {impl.NaNBits, impl.NaNBits, 7, 7}, {loud, infinity, maxLong, maxLong}, {minusInfinity, -1, minLong, minLong}, {0, quiet, 0, 0},
	} {
		if n := impl.FloatCompare(c[0], c[1], c[2]); n != c[3] {
			t.Errorf("FloatCompare(%d, %d, %d): %d, not %d", c[0], c[1], c[2], n, c[3])
		}
	}
}

func TestFloatCompareAgainstExactNumbers(t *testing.T) {
	floats := edgeFloats()
	for _, a := range floats {
		for _, b := range floats {
			want := compareOracle(a, b, 5)
			if n := impl.FloatCompare(a, b, 5); n != want {
				t.Errorf("FloatCompare(%d, %d, 5): %d, not %d", a, b, n, want)
			}
		}
	}
}

func compareOracle(a, b, nan int64) int64 {
	switch {
	case isNone(a) || isNone(b):
		return nan
	case a == b:
		return 0
	case a == infinity || b == minusInfinity:
		return 1
	case a == minusInfinity || b == infinity:
		return -1
	}
	return int64(exact(a).Cmp(exact(b)))
}
