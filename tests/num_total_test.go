package tests

import (
	"strings"
	"testing"

	"loop.example/g00032/impl"
)

// Every function of chapter 1 answers at every argument: a panic, or one that never ends, fails the run.

func extremes() []int64 {
	return []int64{minLong, minLong + 1, minusInfinity, signBit | lastOne, -1 << 32, minInt - 1, minInt, -64, -33, -1, 0, 1, 31, 32, 63, 64, maxInt, maxInt + 1, 1 << 32, one, lastOne, infinity, loud, impl.NaNBits, maxLong - 1, maxLong}
}

func TestNumbersAnswerEverywhere(t *testing.T) {
	ops := append(extremes(), oddOps()...)
	for op := int64(-3); op < 50; op++ {
		ops = append(ops, op)
	}
	for _, op := range ops {
		for _, a := range extremes() {
			for _, b := range extremes() {
				totalAt(t, op, a, b)
			}
		}
	}
}

func totalAt(t *testing.T, op, a, b int64) {
	if n, ok := impl.IntOp(op, a, b); !ok && n != 0 || n != impl.Wrap(n) {
		t.Errorf("IntOp(%d, %d, %d): %d %v", op, a, b, n, ok)
	}
	if n, ok := impl.LongOp(op, a, b); !ok && n != 0 {
		t.Errorf("LongOp(%d, %d, %d): %d", op, a, b, n)
	}
	if n, ok := impl.FloatOp(op, a, b); !ok && n != 0 || isNone(n) && n != impl.NaNBits {
		t.Errorf("FloatOp(%d, %d, %d): %d %v", op, a, b, n, ok)
	}
	if n, ok := impl.Convert(op, a, b); !ok && n != 0 {
		t.Errorf("Convert(%d, %d, %d): %d", op, a, b, n)
	}
	if n := impl.FloatCompare(a, b, op); n < -1 && n != op || n > 1 && n != op {
		t.Errorf("FloatCompare(%d, %d, %d): %d", a, b, op, n)
	}
	if s := impl.ShowFloat(a); s == "" {
		t.Errorf("ShowFloat(%d) is empty", a)
	}
}

func TestReadFloatAnswersAtOddTexts(t *testing.T) {
	for c := range 256 {
		b := string([]byte{byte(c)})
		for _, s := range []string{b, b + "p0", "1" + b + "0", "1p" + b, "1p0" + b, b + "1p0", "-" + b, strings.Repeat(b, 5000), "1p" + strings.Repeat(b, 5000)} {
			bits, ok := impl.ReadFloat(s)
			if !ok && bits != 0 {
				t.Errorf("ReadFloat(%.40q): %d beside false", s, bits)
			}
			if ok && impl.ShowFloat(bits) != s {
				t.Errorf("ReadFloat(%.40q): %d, which is shown %q", s, bits, impl.ShowFloat(bits))
			}
		}
	}
}

func TestNumbersAnswerTheSameAgain(t *testing.T) {
	for _, op := range allOps() {
		for _, a := range extremes() {
			n, ok := impl.IntOp(op, a, 3)
			impl.LongOp(op, 5, a)
			impl.FloatOp(op, one, a)
			if m, again := impl.IntOp(op, a, 3); m != n || again != ok {
				t.Errorf("IntOp(%d, %d, 3): %d %v, then %d %v", op, a, n, ok, m, again)
			}
		}
	}
}
