package impl

import (
	"math"
	"strconv"
	"strings"
)

const (
	KindInt   = 1
	KindLong  = 2
	KindFloat = 3
	KindRef   = 4
	ToByte    = 5
	ToChar    = 6
	ToShort   = 7
)

const (
	OpAdd  = 11
	OpSub  = 12
	OpMul  = 13
	OpDiv  = 14
	OpRem  = 15
	OpNeg  = 16
	OpShl  = 17
	OpShr  = 18
	OpUshr = 19
	OpAnd  = 20
	OpOr   = 21
	OpXor  = 22
)

const NaNBits = 9221120237041090560

const (
	fractionBits = 52
	fractionMask = 1<<fractionBits - 1
	exponentMask = 2047
	exponentBias = 1075
)

// operation is what an op does with whole numbers of 64 bits and with floats; a field is nil where the op has no such meaning.
type operation struct {
	whole func(a, b int64) int64
	float func(a, b float64) float64
}

// operations is made by a function: the language page bars tables of functions at package level.
func operations() [OpXor + 1]operation {
	return [OpXor + 1]operation{
		OpAdd: {
			whole: func(a, b int64) int64 { return a + b },
			float: func(a, b float64) float64 { return a + b },
		},
		OpSub: {
			whole: func(a, b int64) int64 { return a - b },
			float: func(a, b float64) float64 { return a - b },
		},
		OpMul: {
			whole: func(a, b int64) int64 { return a * b },
			float: func(a, b float64) float64 { return a * b },
		},
		OpDiv: {
			whole: func(a, b int64) int64 { return a / b },
			float: func(a, b float64) float64 { return a / b },
		},
		OpRem: {whole: func(a, b int64) int64 { return a % b }},
		OpNeg: {
			whole: func(a, _ int64) int64 { return -a },
			float: func(a, _ float64) float64 { return -a },
		},
		OpShl:  {whole: func(a, b int64) int64 { return a << (b & 63) }},
		OpShr:  {whole: func(a, b int64) int64 { return a >> (b & 63) }},
		OpUshr: {whole: func(a, b int64) int64 { return int64(uint64(a) >> (b & 63)) }},
		OpAnd:  {whole: func(a, b int64) int64 { return a & b }},
		OpOr:   {whole: func(a, b int64) int64 { return a | b }},
		OpXor:  {whole: func(a, b int64) int64 { return a ^ b }},
	}
}

func operationOf(op int64) operation {
	if op < OpAdd || op > OpXor {
		return operation{}
	}
	return operations()[op]
}

func Wrap(n int64) int64 { return int64(int32(n)) }

// IntOp works in 64 bits: of numbers of 32 bits each result there, wrapped, is the one of 32 bits, once a shift is told by 5 bits and noughts stand above what OpUshr moves.
func IntOp(op int64, a int64, b int64) (int64, bool) {
	a, b = Wrap(a), Wrap(b)
	switch op {
	case OpShl, OpShr:
		b &= 31
	case OpUshr:
		a, b = int64(uint32(a)), b&31
	}
	n, ok := LongOp(op, a, b)
	return Wrap(n), ok
}

func LongOp(op int64, a int64, b int64) (int64, bool) {
	do := operationOf(op).whole
	if do == nil || b == 0 && (op == OpDiv || op == OpRem) {
		return 0, false
	}
	return do(a, b), true
}

func floatOf(bits int64) float64 { return math.Float64frombits(uint64(bits)) }

// bitsOf gives the one form of all that are no number: what the processor leaves in them is not to be seen.
func bitsOf(x float64) int64 {
	if math.IsNaN(x) {
		return NaNBits
	}
	return int64(math.Float64bits(x))
}

func FloatOp(op int64, a int64, b int64) (int64, bool) {
	do := operationOf(op).float
	if do == nil {
		return 0, false
	}
	return bitsOf(do(floatOf(a), floatOf(b))), true
}

func FloatCompare(a int64, b int64, nan int64) int64 {
	x, y := floatOf(a), floatOf(b)
	switch {
	case x < y:
		return -1
	case x > y:
		return 1
	case x == y:
		return 0
	}
	return nan
}

func Convert(from int64, to int64, n int64) (int64, bool) {
	switch from {
	case KindInt:
		return convertInt(to, Wrap(n))
	case KindLong:
		return convertLong(to, n)
	case KindFloat:
		return convertFloat(to, floatOf(n))
	}
	return 0, false
}

func convertInt(to int64, n int64) (int64, bool) {
	switch to {
	case KindLong:
		return n, true
	case KindFloat:
		return bitsOf(float64(n)), true
	case ToByte:
		return int64(int8(n)), true
	case ToShort:
		return int64(int16(n)), true
	case ToChar:
		return int64(uint16(n)), true
	}
	return 0, false
}

func convertLong(to int64, n int64) (int64, bool) {
	switch to {
	case KindInt:
		return Wrap(n), true
	case KindFloat:
		return bitsOf(float64(n)), true
	}
	return 0, false
}

func convertFloat(to int64, x float64) (int64, bool) {
	switch to {
	case KindInt:
		return min(max(towardsZero(x), math.MinInt32), math.MaxInt32), true
	case KindLong:
		return towardsZero(x), true
	}
	return 0, false
}

// towardsZero asks for the bounds first: beyond them the language leaves open what a conversion gives.
func towardsZero(x float64) int64 {
	switch {
	case math.IsNaN(x):
		return 0
	case x >= 1<<63:
		return math.MaxInt64
	case x <= -1<<63:
		return math.MinInt64
	}
	return int64(x)
}

func ShowFloat(bits int64) string {
	x := floatOf(bits)
	switch {
	case math.IsNaN(x):
		return "nan"
	case math.IsInf(x, 1):
		return "inf"
	case math.IsInf(x, -1):
		return "-inf"
	}
	sign := ""
	if bits < 0 {
		sign = "-"
	}
	m, k := oddAndPower(bits)
	return sign + strconv.FormatInt(m, 10) + "p" + strconv.FormatInt(k, 10)
}

// oddAndPower gives, of a finite float without its sign, the odd m and the k of which it is m times 2 to the k; 0 and 0 of 0.
func oddAndPower(bits int64) (int64, int64) {
	m, e := bits&fractionMask, bits>>fractionBits&exponentMask
	if e > 0 {
		m |= 1 << fractionBits
	}
	if m == 0 {
		return 0, 0
	}
	n := lowNoughts(m)
	return m >> n, max(e, 1) - exponentBias + n
}

func lowNoughts(m int64) int64 {
	for n := range int64(fractionBits + 1) {
		if m>>n&1 == 1 {
			return n
		}
	}
	return 0
}

func ReadFloat(s string) (int64, bool) {
	bits, ok := guessFloat(s)
	// What is shown again is the text itself, or the text is none that ShowFloat has: so no rule of its form is told twice.
	if !ok || ShowFloat(bits) != s {
		return 0, false
	}
	return bits, true
}

// guessFloat reads more texts than ShowFloat shows; of one that it shows it gives the float.
func guessFloat(s string) (int64, bool) {
	switch s {
	case "nan":
		return NaNBits, true
	case "inf":
		return bitsOf(math.Inf(1)), true
	case "-inf":
		return bitsOf(math.Inf(-1)), true
	}
	size, negative := strings.CutPrefix(s, "-")
	digits, power, _ := strings.Cut(size, "p")
	m, err := strconv.ParseUint(digits, 10, fractionBits+1)
	if err != nil {
		return 0, false
	}
	k, err := strconv.ParseInt(power, 10, 16)
	if err != nil {
		return 0, false
	}
	bits := bitsOf(math.Ldexp(float64(m), int(k)))
	if negative {
		bits |= math.MinInt64
	}
	return bits, true
}
