package tests

import (
	"math"
	"math/big"
	"sort"

	"loop.example/g00032/impl"
)

// What chapter 1 says, worked out with exact numbers: the program is held against it.

const (
	minInt   = math.MinInt32
	maxInt   = math.MaxInt32
	minLong  = math.MinInt64
	maxLong  = math.MaxInt64
	infinity = 2047 << 52
	lastOne  = infinity - 1
	signBit  = math.MinInt64
)

func allOps() []int64 {
	ops := []int64{}
	for op := int64(impl.OpAdd); op <= impl.OpXor; op++ {
		ops = append(ops, op)
	}
	return ops
}

// oddOps are numbers that are no operation of any function of the chapter.
func oddOps() []int64 {
	return []int64{minLong, minLong + 11, -1, 0, 1, 10, 23, 24, 44, 1<<32 + impl.OpAdd, maxLong}
}

func edgeNumbers() []int64 {
	out := []int64{}
	for _, c := range []int64{0, 7, 31, 32, 63, 64, 100, 127, 128, 255, 256, 32767, 32768, 65535, 65536, 1 << 31, 1 << 32, 1 << 53, 1 << 54, 1 << 62} {
		out = append(out, c-1, c, c+1, -c-1, -c, -c+1)
	}
	return append(out, minLong, minLong+1, minLong+31, maxLong, maxLong-1, maxLong-31, 0x123456789abcdef, -0x123456789abcdef)
}

// numbers is a fixed row of numbers that look like any.
type numbers struct{ state uint64 }

func (r *numbers) next() int64 {
	r.state += 0x9e3779b97f4a7c15
	z := r.state
	z = (z ^ z>>30) * 0xbf58476d1ce4e5b9
	z = (z ^ z>>27) * 0x94d049bb133111eb
	return int64(z ^ z>>31)
}

// signedBits is the number of so many bits, signed, with the same lowest bits.
func signedBits(n *big.Int, bits uint) int64 {
	size := new(big.Int).Lsh(big.NewInt(1), bits)
	m := new(big.Int).Mod(n, size)
	if m.Bit(int(bits)-1) == 1 {
		m.Sub(m, size)
	}
	return m.Int64()
}

// wholeOracle is what IntOp (bits 32) and LongOp (bits 64) have to answer.
func wholeOracle(bits uint, op, a, b int64) (int64, bool) {
	x, y := big.NewInt(a), big.NewInt(b)
	x, y = big.NewInt(signedBits(x, bits)), big.NewInt(signedBits(y, bits))
	by := uint(new(big.Int).Mod(y, big.NewInt(int64(bits))).Uint64())
	z := new(big.Int)
	switch op {
	case impl.OpAdd:
		z.Add(x, y)
	case impl.OpSub:
		z.Sub(x, y)
	case impl.OpMul:
		z.Mul(x, y)
	case impl.OpDiv, impl.OpRem:
		if y.Sign() == 0 {
			return 0, false
		}
		if op == impl.OpDiv {
			z.Quo(x, y)
		} else {
			z.Rem(x, y)
		}
	case impl.OpNeg:
		z.Neg(x)
	case impl.OpShl:
		z.Lsh(x, by)
	case impl.OpShr:
		z.Rsh(x, by)
	case impl.OpUshr:
		z.Mod(x, new(big.Int).Lsh(big.NewInt(1), bits))
		z.Rsh(z, by)
	case impl.OpAnd:
		z.And(x, y)
	case impl.OpOr:
		z.Or(x, y)
	case impl.OpXor:
		z.Xor(x, y)
	default:
		return 0, false
	}
	return signedBits(z, bits), true
}

func isNone(bits int64) bool     { return bits>>52&2047 == 2047 && bits<<12 != 0 }
func isInfinite(bits int64) bool { return bits&maxLong == infinity }

func power(k int64) *big.Rat {
	n := new(big.Int).Lsh(big.NewInt(1), uint(max(k, -k)))
	r := new(big.Rat).SetInt(n)
	if k < 0 {
		r.Inv(r)
	}
	return r
}

// exact is the value of a finite float.
func exact(bits int64) *big.Rat {
	e, f := bits>>52&2047, bits&(1<<52-1)
	v := new(big.Rat)
	if e == 0 {
		v.Mul(v.SetInt64(f), power(-1074))
	} else {
		v.Mul(v.SetInt64(1<<52+f), power(e-1075))
	}
	if bits < 0 {
		v.Neg(v)
	}
	return v
}

// rounded is the nearest float of an exact value; sign is that of a float that comes out as 0.
func rounded(v *big.Rat, sign int64) int64 {
	q := new(big.Rat).Abs(v)
	if v.Sign() != 0 {
		sign = 0
		if v.Sign() < 0 {
			sign = signBit
		}
	}
	edge := new(big.Rat).Mul(new(big.Rat).SetInt64(1<<54-1), power(970))
	if q.Cmp(edge) >= 0 {
		return sign | infinity
	}
	e := 1 + int64(sort.Search(2045, func(i int) bool {
		return q.Cmp(power(int64(i)+1-1075+53)) < 0
	}))
	q.Mul(q, power(1075-e))
	f, left := new(big.Int).QuoRem(q.Num(), q.Denom(), new(big.Int))
	half := left.Lsh(left, 1).Cmp(q.Denom())
	if half > 0 || half == 0 && f.Bit(0) == 1 {
		f.Add(f, big.NewInt(1))
	}
	return sign | (e-1)<<52 + f.Int64()
}

// floatOracle is what FloatOp has to answer.
func floatOracle(op, a, b int64) (int64, bool) {
	switch op {
	case impl.OpNeg:
		if isNone(a) {
			return impl.NaNBits, true
		}
		return a ^ signBit, true
	case impl.OpAdd, impl.OpSub, impl.OpMul, impl.OpDiv:
	default:
		return 0, false
	}
	if isNone(a) || isNone(b) {
		return impl.NaNBits, true
	}
	switch op {
	case impl.OpMul:
		return productOracle(a, b), true
	case impl.OpDiv:
		return quotientOracle(a, b), true
	case impl.OpSub:
		b ^= signBit
	}
	return sumOracle(a, b), true
}

func sumOracle(a, b int64) int64 {
	switch {
	case isInfinite(a) && isInfinite(b) && a != b:
		return impl.NaNBits
	case isInfinite(a):
		return a
	case isInfinite(b):
		return b
	}
	return rounded(new(big.Rat).Add(exact(a), exact(b)), a&b&signBit)
}

func productOracle(a, b int64) int64 {
	sign := (a ^ b) & signBit
	switch {
	case isInfinite(a) && b<<1 == 0, isInfinite(b) && a<<1 == 0:
		return impl.NaNBits
	case isInfinite(a), isInfinite(b):
		return sign | infinity
	}
	return withSign(new(big.Rat).Mul(exact(a), exact(b)), sign)
}

func quotientOracle(a, b int64) int64 {
	sign := (a ^ b) & signBit
	switch {
	case isInfinite(a) && isInfinite(b), a<<1 == 0 && b<<1 == 0:
		return impl.NaNBits
	case isInfinite(a), b<<1 == 0:
		return sign | infinity
	case isInfinite(b):
		return sign
	}
	return withSign(new(big.Rat).Quo(exact(a), exact(b)), sign)
}

func withSign(v *big.Rat, sign int64) int64 { return rounded(v.Abs(v), 0) | sign }

// edgeFloats are the floats at which something changes, with both signs.
func edgeFloats() []int64 {
	out := []int64{}
	for _, e := range []int64{0, 1, 2, 52, 53, 54, 972, 1022, 1023, 1024, 1075, 1076, 1077, 2045, 2046} {
		for _, f := range []int64{0, 1, 2, 1 << 51, 1<<52 - 2, 1<<52 - 1} {
			out = append(out, e<<52|f)
		}
	}
	out = append(out, infinity, impl.NaNBits, infinity+1, infinity+1<<52-1)
	for _, x := range []float64{0.1, 0.5, 1.5, 3, 7, 10, 1e300, 1e-300, math.Pi} {
		out = append(out, int64(math.Float64bits(x)))
	}
	for _, bits := range out {
		out = append(out, bits|signBit)
	}
	return out
}
