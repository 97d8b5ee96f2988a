package tests

import (
	"fmt"
	"math"
	"slices"
	"strings"
	"testing"

	"loop.example/g00032/impl"
)

// What is ahead of what in runs that picks tell.

// ordered says which acts are done by picks, each as two digits, and which of them race.
func ordered(t *testing.T, p impl.Litmus, picks []int64, acts, races string) {
	t.Helper()
	can(t, "a program of a test", p)
	want := impl.Ordered{Races: raceRow(races)}
	for _, act := range strings.Fields(acts) {
		want.Acts = append(want.Acts, impl.Done{Thread: int64(act[0] - '0'), Act: int64(act[1] - '0')})
	}
	if got := impl.Order(p, picks); !alike(got, want) {
		t.Errorf("%v by %v: %v, not %v", p, picks, got, want)
	}
}

// by has a pick for each digit.
func by(digits string) []int64 {
	out := []int64{}
	for _, d := range digits {
		out = append(out, int64(d-'0'))
	}
	return out
}

func TestOrderPicks(t *testing.T) {
	sb := litmus(2, 0, 0, "w0=1 r1", "w1=1 r0")
	const both = "00-11 01-10"
	ordered(t, sb, nil, "", "")
	ordered(t, sb, []int64{}, "", "")
	ordered(t, sb, by("0"), "00", "")
	ordered(t, sb, by("1"), "10", "")
	ordered(t, sb, by("01"), "00 10", "")
	ordered(t, sb, by("001"), "00 01 10", "01-10")
	ordered(t, sb, by("110"), "10 11 00", "00-11")
	ordered(t, sb, by("0011"), "00 01 10 11", both)
	ordered(t, sb, by("1100"), "10 11 00 01", both)
	ordered(t, sb, by("1010"), "10 00 11 01", both)
	// At its end a thread can not go on.
	ordered(t, sb, by("000000"), "00 01", "")
	ordered(t, sb, by("00000110111"), "00 01 10 11", both)
	// Threads that are none are passed over.
	none := []int64{2, 3, 4, -1, -2, math.MinInt64, math.MaxInt64, 1 << 32, 1<<32 + 1, 1 << 8, 1<<16 + 1, -1 << 32, 256}
	ordered(t, sb, none, "", "")
	for _, n := range none {
		ordered(t, sb, []int64{n, 0, n, n, 1, n}, "00 10", "")
		ordered(t, sb, []int64{1, n, 1, n, 0, 0}, "10 11 00 01", both)
	}
	ordered(t, litmus(1, 0, 0, "r0"), by("1"), "", "")
	ordered(t, litmus(1, 0, 0, "r0", "", "w0=1"), by("1120"), "20 00", "00-20")
	ordered(t, litmus(0, 0, 0, ""), by("000"), "", "")
}

func TestOrderWaits(t *testing.T) {
	p := litmus(1, 0, 1, "l0 w0=1 u0", "l0 r0 u0")
	ordered(t, p, by("000111"), "00 01 02 10 11 12", "")
	ordered(t, p, by("111000"), "10 11 12 00 01 02", "")
	// While another one has the lock a pick is passed over.
	ordered(t, p, by("01010101"), "00 01 02 10 11", "")
	ordered(t, p, by("011110101111"), "00 01 02 10 11 12", "")
	ordered(t, p, by("100100100"), "10 11 12 00 01", "")
	ordered(t, p, by("1000"), "10", "")
	// A run that is stuck.
	ordered(t, litmus(1, 0, 2, upwards, downwards, "w0=1 l0 r0 u0"), by("20101010222"), "20 00 10", "")
	ordered(t, litmus(1, 0, 2, upwards, downwards, "w0=1 l0 r0 u0"), by("20222210222"), "20 00 10", "")
}

func TestOrderMostPicks(t *testing.T) {
	p := litmus(1, 0, 0, "w0=1 w0=2", "r0")
	for _, n := range []int64{7, -1, 2, math.MaxInt64} {
		passed := func(times int, then ...int64) []int64 { return append(slices.Repeat([]int64{n}, times), then...) }
		ordered(t, p, passed(3997, 0, 1, 0), "00 10 01", "00-10 01-10")
		ordered(t, p, passed(3998, 0, 1, 0), "00 10", "00-10")
		ordered(t, p, passed(3999, 0, 1, 0), "00", "")
		ordered(t, p, passed(4000, 0, 1, 0), "", "")
		ordered(t, p, passed(100000, 0, 1, 0), "", "")
		ordered(t, p, append([]int64{1}, passed(3998, 0)...), "10 00", "00-10")
		ordered(t, p, append([]int64{1}, passed(3999, 0)...), "10", "")
	}
	for _, n := range []int{2, 3999, 4000, 4001, 100000} {
		ordered(t, p, slices.Repeat([]int64{0}, n), "00 01", "")
	}
	// One that can not go on uses its pick up.
	ordered(t, p, append(make([]int64, 3999), 1), "00 01 10", "00-10 01-10")
	ordered(t, p, append(make([]int64, 4000), 1), "00 01", "")
}

func TestOrderByLocks(t *testing.T) {
	p := litmus(1, 0, 2, "w0=1 l0 u0", "l0 u0 r0")
	ordered(t, p, by("000111"), "00 01 02 10 11 12", "")
	ordered(t, p, by("00110001111"), "00 01 02 10 11 12", "")
	ordered(t, p, by("110001"), "10 11 00 01 02 12", "00-12")
	ordered(t, p, by("011001"), "00 10 11 01 02 12", "00-12")
	// Another lock tells nothing.
	other := litmus(1, 0, 2, "w0=1 l0 u0", "l1 u1 r0")
	ordered(t, other, by("000111"), "00 01 02 10 11 12", "00-12")
	// To take a lock is not to give it back.
	ordered(t, litmus(1, 0, 1, "l0 u0 w0=1", "l0 u0 r0"), by("000111"), "00 01 02 10 11 12", "02-12")
	ordered(t, litmus(1, 0, 1, "l0 w0=1 u0", "r0 l0 u0"), by("000111"), "00 01 02 10 11 12", "01-10")
	ordered(t, litmus(1, 0, 1, "l0 w0=1 u0", "r0 l0 u0"), by("111000"), "10 11 12 00 01 02", "")
	// A lock that was another one's meanwhile tells all the same.
	three := litmus(1, 0, 1, "w0=1 l0 u0", "l0 u0", "l0 u0 r0")
	ordered(t, three, by("00011222"), "00 01 02 10 11 20 21 22", "")
	ordered(t, three, by("11000222"), "10 11 00 01 02 20 21 22", "")
	ordered(t, three, by("22200011"), "20 21 22 00 01 02 10 11", "00-22")
}

func TestOrderByVolatile(t *testing.T) {
	p := litmus(2, 1, 0, "w1=1 w0=1", "r0 r1")
	ordered(t, p, by("0011"), "00 01 10 11", "")
	ordered(t, p, by("0101"), "00 10 01 11", "00-11")
	ordered(t, p, by("1001"), "10 00 01 11", "00-11")
	ordered(t, p, by("1100"), "10 11 00 01", "00-11")
	ordered(t, litmus(2, 1, 0, "w1=1 p0+1", "r0 r1"), by("0011"), "00 01 10 11", "")
	// A plain variable tells nothing.
	ordered(t, litmus(2, 0, 0, "w1=1 w0=1", "r0 r1"), by("0011"), "00 01 10 11", "00-11 01-10")
	// What was read is not told to who writes, nor is what was written, nor what was read to who reads.
	ordered(t, litmus(2, 1, 0, "r1 r0", "w0=1 w1=1"), by("0011"), "00 01 10 11", "00-11")
	ordered(t, litmus(2, 1, 0, "w1=1 w0=1", "w0=2 r1"), by("0011"), "00 01 10 11", "00-11")
	ordered(t, litmus(2, 1, 0, "w1=1 r0", "r0 r1"), by("0011"), "00 01 10 11", "00-11")
	// Another variable tells nothing.
	ordered(t, litmus(3, 2, 0, "w2=1 w0=1", "r1 r2"), by("0011"), "00 01 10 11", "00-11")
	// The writer is ahead, though another one wrote over it.
	over := litmus(2, 1, 0, "w1=1 w0=1", "w0=2", "r0 r1")
	ordered(t, over, by("00122"), "00 01 10 20 21", "")
	ordered(t, over, by("10022"), "10 00 01 20 21", "")
	ordered(t, over, by("01202"), "00 10 20 01 21", "00-21")
	// A volatile variable and a lock of the same number.
	ordered(t, litmus(2, 1, 1, "w1=1 w0=1", "l0 u0 r1"), by("00111"), "00 01 10 11 12", "00-12")
	ordered(t, litmus(2, 1, 1, "w1=1 l0 u0", "r0 r1"), by("00011"), "00 01 02 10 11", "00-11")
}

func TestOrderThroughOthers(t *testing.T) {
	p := litmus(3, 2, 0, "w2=1 w0=1", "r0 w1=1", "r1 r2")
	ordered(t, p, by("001122"), "00 01 10 11 20 21", "")
	ordered(t, p, by("100122"), "10 00 01 11 20 21", "00-21")
	ordered(t, p, by("001212"), "00 01 10 20 11 21", "00-21")
	ordered(t, p, by("221100"), "20 21 10 11 00 01", "00-21")
	// Of the one between, what it did ahead of what it was told tells nothing.
	ordered(t, litmus(3, 2, 0, "w2=1 w0=1", "w1=1 r0", "r1 r2"), by("001122"), "00 01 10 11 20 21", "00-21")
	// By locks, and by both ways.
	locks := litmus(1, 0, 2, "w0=1 l0 u0", "l0 u0 l1 u1", "l1 u1 r0")
	ordered(t, locks, by("0001111222"), "00 01 02 10 11 12 13 20 21 22", "")
	ordered(t, locks, by("1100011222"), "10 11 00 01 02 12 13 20 21 22", "00-22")
	mixed := litmus(2, 1, 1, "w1=1 l0 u0", "l0 u0 w0=1", "r0 r1")
	ordered(t, mixed, by("00011122"), "00 01 02 10 11 12 20 21", "")
	ordered(t, mixed, by("11100022"), "10 11 12 00 01 02 20 21", "00-21")
	// There and back again.
	back := litmus(3, 2, 0, "w2=1 w0=1 r1 r2", "r0 w2=5 w1=1")
	ordered(t, back, by("0011100"), "00 01 10 11 12 02 03", "")
	ordered(t, back, by("0011010"), "00 01 10 11 02 12 03", "03-11")
}

// Races are told by their numbers, in whatever order their acts were done.
func TestOrderRacesInOrder(t *testing.T) {
	p := litmus(1, 0, 0, "r0 w0=1", "w0=2 r0", "w0=3")
	for _, picks := range []string{"00112", "21100", "12010", "10201"} {
		ordered(t, p, by(picks), doneBy(picks), "00-10 00-20 01-10 01-11 01-20 10-20 11-20")
	}
	ordered(t, p, by("2110"), "20 10 11 00", "00-10 00-20 10-20 11-20")
	ordered(t, p, by("210"), "20 10 00", "00-10 00-20 10-20")
}

// doneBy tells the acts of threads that never wait.
func doneBy(picks string) string {
	next, out := map[rune]int{}, []string{}
	for _, d := range picks {
		out = append(out, fmt.Sprintf("%c%d", d, next[d]))
		next[d]++
	}
	return strings.Join(out, " ")
}
