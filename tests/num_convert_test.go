package tests

import (
	"math/big"
	"testing"

	"loop.example/g00032/impl"
)

func testConvert(t *testing.T, from, to int64, cases [][2]int64) {
	t.Helper()
	for _, c := range cases {
		if n, ok := impl.Convert(from, to, c[0]); n != c[1] || !ok {
			t.Errorf("Convert(%d, %d, %d): %d %v, not %d", from, to, c[0], n, ok, c[1])
		}
	}
}

func TestConvertFromInt(t *testing.T) {
	testConvert(t, impl.KindInt, impl.KindLong, [][2]int64{{0, 0}, {-1, -1}, {minInt, minInt}, {maxInt, maxInt}, {maxInt + 1, minInt}, {1<<40 + 5, 5}, {minLong, 0}, {maxLong, -1}})
	testConvert(t, impl.KindInt, impl.KindFloat, [][2]int64{{0, 0}, {1, bitsOf(1)}, {-1, bitsOf(-1)}, {minInt, bitsOf(-0x1p31)}, {maxInt, bitsOf(2147483647)}, {1 << 31, bitsOf(-0x1p31)}, {1 << 32, 0}, {maxLong, bitsOf(-1)}})
	testConvert(t, impl.KindInt, impl.ToByte, [][2]int64{{127, 127}, {128, -128}, {255, -1}, {256, 0}, {-128, -128}, {-129, 127}, {200, -56}, {1<<32 + 128, -128}, {minLong, 0}})
	testConvert(t, impl.KindInt, impl.ToShort, [][2]int64{{32767, 32767}, {32768, -32768}, {65535, -1}, {65536, 0}, {-32768, -32768}, {-32769, 32767}, {1<<32 + 32768, -32768}})
	testConvert(t, impl.KindInt, impl.ToChar, [][2]int64{{32768, 32768}, {65535, 65535}, {65536, 0}, {-1, 65535}, {-65536, 0}, {minInt, 0}, {1<<32 + 65, 65}})
}

func TestConvertFromLong(t *testing.T) {
	testConvert(t, impl.KindLong, impl.KindInt, [][2]int64{{5, 5}, {maxInt, maxInt}, {maxInt + 1, minInt}, {minInt - 1, maxInt}, {maxLong, -1}, {minLong, 0}})
	testConvert(t, impl.KindLong, impl.KindFloat, [][2]int64{
		{0, 0}, {1 << 31, bitsOf(0x1p31)}, {1 << 53, bitsOf(0x1p53)},
		{1<<53 + 1, bitsOf(0x1p53)}, {1<<53 + 3, bitsOf(0x1p53 + 4)}, {-1<<53 - 1, bitsOf(-0x1p53)}, {-1<<53 - 3, bitsOf(-0x1p53 - 4)},
		{1<<54 + 2, bitsOf(0x1p54)}, {1<<54 + 3, bitsOf(0x1p54 + 4)}, {1<<54 + 6, bitsOf(0x1p54 + 8)},
		{maxLong, bitsOf(0x1p63)}, {minLong, bitsOf(-0x1p63)}, {maxLong - 511, bitsOf(0x1p63)}, {maxLong - 512, bitsOf(0x1p63) - 1},
	})
	for _, n := range edgeNumbers() {
		testConvert(t, impl.KindLong, impl.KindFloat, [][2]int64{{n, rounded(new(big.Rat).SetInt64(n), 0)}})
	}
}

func TestConvertFromFloat(t *testing.T) {
	both := [][2]int64{
		{0, 0}, {signBit, 0}, {bitsOf(0.99), 0}, {bitsOf(-0.99), 0}, {bitsOf(1.5), 1}, {bitsOf(-1.5), -1}, {bitsOf(-2.999), -2}, {1, 0}, {signBit | 1, 0},
		{impl.NaNBits, 0}, {quiet, 0}, {loud, 0}, {-1, 0}, {signBit | loud, 0},
	}
	testConvert(t, impl.KindFloat, impl.KindInt, both)
	testConvert(t, impl.KindFloat, impl.KindLong, both)
	testConvert(t, impl.KindFloat, impl.KindInt, [][2]int64{
		{bitsOf(2147483647), maxInt}, {bitsOf(2147483647.5), maxInt}, {bitsOf(2147483646.5), maxInt - 1}, {bitsOf(2147483648), maxInt}, {bitsOf(1e18), maxInt},
		{bitsOf(-2147483648), minInt}, {bitsOf(-2147483648.5), minInt}, {bitsOf(-2147483647.5), minInt + 1}, {bitsOf(-2147483649), minInt}, {bitsOf(-1e18), minInt},
		{bitsOf(0x1p63), maxInt}, {bitsOf(-0x1p64), minInt}, {infinity, maxInt}, {minusInfinity, minInt}, {lastOne, maxInt}, {bitsOf(0x1p32), maxInt},
	})
	testConvert(t, impl.KindFloat, impl.KindLong, [][2]int64{
		{bitsOf(0x1p31), 1 << 31}, {bitsOf(1e18), 1e18}, {bitsOf(0x1p63) - 1, maxLong - 1023}, {bitsOf(0x1p63), maxLong}, {bitsOf(0x1p64), maxLong}, {lastOne, maxLong}, {infinity, maxLong},
		{bitsOf(-0x1p63) - 1, minLong + 1024}, {bitsOf(-0x1p63), minLong}, {bitsOf(-0x1p63) + 1, minLong}, {signBit | lastOne, minLong}, {minusInfinity, minLong},
	})
	for _, bits := range edgeFloats() {
		testConvert(t, impl.KindFloat, impl.KindInt, [][2]int64{{bits, truncOracle(bits, minInt, maxInt)}})
		testConvert(t, impl.KindFloat, impl.KindLong, [][2]int64{{bits, truncOracle(bits, minLong, maxLong)}})
	}
}

func truncOracle(bits, least, most int64) int64 {
	switch {
	case isNone(bits):
		return 0
	case bits == infinity:
		return most
	case bits == minusInfinity:
		return least
	}
	x := exact(bits)
	n := new(big.Int).Quo(x.Num(), x.Denom())
	switch {
	case n.Cmp(big.NewInt(least)) < 0:
		return least
	case n.Cmp(big.NewInt(most)) > 0:
		return most
	}
	return n.Int64()
}

func TestConvertOtherPairs(t *testing.T) {
	known := map[[2]int64]int{}
	for _, p := range [][2]int64{
		{impl.KindInt, impl.KindLong}, {impl.KindInt, impl.KindFloat}, {impl.KindInt, impl.ToByte}, {impl.KindInt, impl.ToShort}, {impl.KindInt, impl.ToChar},
		{impl.KindLong, impl.KindInt}, {impl.KindLong, impl.KindFloat}, {impl.KindFloat, impl.KindInt}, {impl.KindFloat, impl.KindLong},
	} {
		known[p] = 1
	}
	kinds := []int64{minLong, -1, 0, 1, 2, 3, 4, 5, 6, 7, 8, 11, 1<<32 + 1, 1<<32 + 2, maxLong}
	for _, from := range kinds {
		for _, to := range kinds {
			for _, n := range []int64{0, 1, -1, 65, one, impl.NaNBits, minLong, maxLong} {
				got, ok := impl.Convert(from, to, n)
				if ok != (known[[2]int64{from, to}] == 1) || !ok && got != 0 {
					t.Errorf("Convert(%d, %d, %d): %d %v", from, to, n, got, ok)
				}
			}
		}
	}
}
