package tests

import (
	"strings"
	"testing"

	"loop.example/g00032/impl"
)

// Which acts race, written out: of thread 0 the act 1 with that of thread 2, 3, is 01-23.

func raceRow(rows string) []impl.Race {
	out := []impl.Race{}
	for _, row := range strings.Fields(rows) {
		out = append(out, impl.Race{Thread: int64(row[0] - '0'), Act: int64(row[1] - '0'), Other: int64(row[3] - '0'), OtherAct: int64(row[4] - '0')})
	}
	return out
}

func race(t *testing.T, p impl.Litmus, rows string) {
	t.Helper()
	can(t, "a program of a test", p)
	if got, want := impl.Races(p), raceRow(rows); !alike(got, want) {
		t.Errorf("%v: %v, not %v", p, got, want)
	}
}

func TestRacesOfTwo(t *testing.T) {
	two := func(one, other, rows string) {
		t.Helper()
		race(t, litmus(2, 0, 2, one, other), rows)
		race(t, litmus(2, 2, 2, one, other), "")
	}
	two("", "", "")
	two("w0=1", "", "")
	two("w0=1 r0 w0=2", "", "")
	two("r0", "r0", "")
	two("r0 r1", "r1 r0", "")
	two("w0=1", "r0", "00-10")
	two("r0", "w0=1", "00-10")
	two("w0=1", "w0=1", "00-10")
	two("p0+1", "r0", "00-10")
	two("r0", "p0+1", "00-10")
	two("p0+1", "w0=1", "00-10")
	two("w0=0", "p0+0", "00-10")
	two("p0+1", "p0+1", "00-10")
	two("w0=1", "r1", "")
	two("w0=1", "w1=1", "")
	two("p0+1", "p1+1", "")
	two("w0=1 r1", "w1=1 r0", "00-11 01-10")
	two("w0=1 w1=1", "r1 r0", "00-11 01-10")
	two("r0 p0+1", "r0 p0+1", "00-11 01-10 01-11")
	two("w0=1 w0=2 w0=3", "r0", "00-10 01-10 02-10")
	two("r0", "w0=1 w0=2 w0=3 w0=4", "00-10 00-11 00-12 00-13")
	two("w0=1 r0 r1 w1=1", "w1=1 r1 r0 w0=1", "00-12 00-13 01-13 02-10 03-10 03-11")
	// A pass does not read the variable that was read last.
	two("r0 p1+1", "r0 r0", "")
}

func TestRacesAndLocks(t *testing.T) {
	two := func(one, other, rows string) {
		t.Helper()
		race(t, litmus(2, 0, 2, one, other), rows)
	}
	two("l0 w0=1 u0", "l0 r0 u0", "")
	two("l0 r0 p0+1 u0", "l0 r0 p0+1 u0", "")
	two("l0 w0=1 u0", "l1 r0 u1", "01-11")
	two("l0 w0=1 u0", "r0", "01-10")
	two("l0 w0=1 u0 w0=2", "l0 r0 u0", "03-11")
	two("l0 u0 w0=1", "l0 r0 u0", "02-11")
	two("w0=1 l0 u0", "l0 r0 u0", "00-11")
	two("w0=1 l0 u0", "l0 u0 r0", "00-12")
	two("l0 w0=1 u0", "l0 u0 r0", "01-12")
	two("l0 u0", "l0 u0", "")
	// Numbers of locks are none of variables.
	two("l0 u0", "w0=1 r0", "")
	two("l1 u1 l1 u1", "w1=1 w0=1", "")
	race(t, litmus(2, 1, 2, "l1 u1", "w1=1 r1", "l1 u1"), "")
	// Two locks, of which one is both's.
	two("l0 l1 u0 u1", "l1 w0=1 u1", "")
	two("l1 w0=1 w1=1 u1", "l1 r1 r0 u1", "")
}

func TestRacesAndVolatile(t *testing.T) {
	for volatile, rows := range []string{"00-11 01-10", "01-10", ""} {
		race(t, litmus(2, int64(volatile), 0, "w0=1 r1", "w1=1 r0"), rows)
	}
	// The reader may come first: what was told through the volatile variable is not waited for.
	race(t, litmus(2, 1, 0, "w1=1 w0=1", "r0 r1"), "00-11")
	race(t, litmus(2, 1, 0, "w0=1 w1=1", "r1 r0"), "01-10")
	race(t, litmus(4, 3, 0, "w3=1 w2=1", "r2 w1=1", "r1 r3"), "00-21")
}

func TestRacesOfThree(t *testing.T) {
	race(t, litmus(1, 0, 0, "w0=1", "r0", "p0+1"), "00-10 00-20 10-20")
	race(t, litmus(1, 0, 0, "r0", "r0", "r0"), "")
	race(t, litmus(1, 0, 0, "r0", "r0", "w0=1"), "00-20 10-20")
	race(t, litmus(1, 0, 0, "r0 w0=1", "w0=2 r0", "w0=3"), "00-10 00-20 01-10 01-11 01-20 10-20 11-20")
	race(t, litmus(3, 0, 0, "w0=1 r1", "w1=1 r2", "w2=1 r0"), "00-21 01-10 11-20")
	race(t, litmus(1, 0, 0, "w0=1", "", "r0"), "00-20")
	race(t, litmus(1, 0, 1, "l0 w0=1 u0", "l0 w0=2 u0", "r0"), "01-20 11-20")
	race(t, litmus(1, 0, 2, "l0 w0=1 u0", "l1 w0=2 u1", "l0 r0 u0"), "01-11 11-21")
	race(t, litmus(1, 0, 1, "l0 w0=1 u0", "l0 r0 u0", "l0 p0+1 u0"), "")
	// What comes up in runs that end stuck counts, too.
	race(t, litmus(1, 0, 2, upwards, downwards, "w0=1 l0 r0 u0"), "")
	race(t, litmus(1, 0, 2, "w0=1", "l0 w0=2 u0", "l0 r0 u0 r0"), "00-11 00-21 00-23 11-23")
}

// All that can be: each act with each of the others.
func TestMostRaces(t *testing.T) {
	const acts = "w0=1 p0+1 w0=2 p0+2"
	rows := []string{}
	for _, first := range []string{"00", "01", "02", "03"} {
		for _, other := range []string{"10", "11", "12", "13", "20", "21", "22", "23"} {
			rows = append(rows, first+"-"+other)
		}
	}
	for _, first := range []string{"10", "11", "12", "13"} {
		for _, other := range []string{"20", "21", "22", "23"} {
			rows = append(rows, first+"-"+other)
		}
	}
	race(t, litmus(1, 0, 0, acts, acts, acts), strings.Join(rows, " "))
}
