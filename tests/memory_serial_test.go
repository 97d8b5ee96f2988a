package tests

import (
	"cmp"
	"fmt"
	"slices"
	"strings"
	"testing"

	"loop.example/g00032/impl"
)

// What serial runs show, written out: the lists of the threads with | between, then the variables, and ! where one is stuck.

func shownSight(s impl.Sight) string {
	lists := []string{}
	for _, reads := range s.Reads {
		lists = append(lists, strings.Trim(fmt.Sprint(reads), "[]"))
	}
	out := strings.Join(lists, "|") + ":" + strings.Trim(fmt.Sprint(s.Memory), "[]")
	if s.Stuck {
		out += "!"
	}
	return out
}

func shownSights(sights []impl.Sight) []string {
	out := []string{}
	for _, s := range sights {
		out = append(out, shownSight(s))
	}
	return out
}

func seen(t *testing.T, why string, got []impl.Sight, want []string) {
	t.Helper()
	if shown := shownSights(got); !slices.Equal(shown, want) {
		t.Errorf("%s: %q\nnot %q", why, shown, want)
	}
}

func serial(t *testing.T, p impl.Litmus, want ...string) {
	t.Helper()
	can(t, "a program of a test", p)
	seen(t, fmt.Sprint("serial runs of ", p), impl.Serial(p), want)
}

// serially says what both kinds of runs show of a program that has no plain variable that two threads use.
func serially(t *testing.T, p impl.Litmus, want ...string) {
	t.Helper()
	serial(t, p, want...)
	seen(t, fmt.Sprint("buffered runs of ", p), impl.Buffered(p), want)
}

func TestSerialAlone(t *testing.T) {
	serially(t, litmus(0, 0, 0, ""), ":")
	serially(t, litmus(4, 1, 2, ""), ":0 0 0 0")
	serially(t, litmus(0, 0, 2, "", "", ""), "||:")
	for volatile := range int64(3) {
		one := func(acts string, want string) {
			t.Helper()
			serially(t, litmus(2, volatile, 2, acts), want)
			serially(t, litmus(2, volatile, 2, "", acts), "|"+want)
		}
		one("r0", "0:0 0")
		one("w0=5", ":5 0")
		one("w1=-100", ":0 -100")
		one("w0=5 r0", "5:5 0")
		one("r0 w0=5", "0:5 0")
		one("w0=5 r1", "0:5 0")
		one("w0=1 w0=2 r0", "2:2 0")
		one("w0=1 w0=2 w1=3 r0", "2:2 3")
		one("r0 r1 r0 r1", "0 0 0 0:0 0")
		one("w1=1 r1 w1=2 r1", "1 2:0 2")
		one("l0 w0=1 u0 r0", "1:1 0")
		one("l0 l1 u0 u1", ":0 0")
		one("l1 u1 l1 u1", ":0 0")
	}
}

func TestSerialPass(t *testing.T) {
	for volatile := range int64(3) {
		one := func(acts string, want string) {
			t.Helper()
			serially(t, litmus(2, volatile, 1, acts), want)
		}
		// Nothing was read yet: what was written counts for nothing.
		one("p0+5", ":5 0")
		one("p0+0", ":0 0")
		one("w0=7 p1+5", ":7 5")
		one("p0+5 p0+-3", ":-3 0")
		// What was read last counts, of whatever variable, and not what the variable has now.
		one("w0=7 r0 p1+5", "7:7 12")
		one("w0=7 r0 p0+-9", "7:-2 0")
		one("w0=7 r0 w0=9 p1+5", "7:9 12")
		one("w0=7 r0 r1 p0+1", "7 0:1 0")
		one("w0=7 r0 p1+1 p1+2", "7:7 9")
		one("p0+3 r0 p0+4 r0", "3 7:7 0")
		one("r0 p0+100 r0 p0+100", "0 100:200 0")
		one("r0 p0+-100 r0 p0+-100", "0 -100:-200 0")
	}
	// Another one's reads are not its own.
	serially(t, litmus(2, 2, 0, "w0=4 r0", "p1+1"), "4|:4 1")
}

// The greatest numbers that can be: what was read goes from thread to thread.
func TestGreatNumbersInMemory(t *testing.T) {
	for _, n := range []int64{100, -100} {
		acts := fmt.Sprintf("r0 p0+%d r0 p0+%d", n, n)
		p := litmus(1, 0, 0, acts, acts, acts)
		for _, sights := range [][]impl.Sight{impl.Serial(p), impl.Buffered(p)} {
			most := slices.MaxFunc(sights, func(a, b impl.Sight) int { return cmp.Compare(a.Memory[0]*n, b.Memory[0]*n) })
			same(t, "the greatest", most.Memory[0], 6*n)
		}
	}
}

func TestSerialOfTwo(t *testing.T) {
	serial(t, litmus(1, 0, 0, "w0=1", "w0=2"), "|:1", "|:2")
	serial(t, litmus(1, 0, 0, "w0=2", "w0=-1"), "|:-1", "|:2")
	serial(t, litmus(1, 0, 0, "w0=1", "w0=1"), "|:1")
	serial(t, litmus(1, 0, 0, "w0=1", "r0"), "|0:1", "|1:1")
	serial(t, litmus(1, 0, 0, "r0", "w0=1"), "0|:1", "1|:1")
	serial(t, litmus(1, 0, 0, "w0=1", "r0 r0"), "|0 0:1", "|0 1:1", "|1 1:1")
	serial(t, litmus(2, 0, 0, "w0=1 r1", "w1=1 r0"), "0|1:1 1", "1|0:1 1", "1|1:1 1")
	serial(t, litmus(2, 0, 0, "r0 w1=1", "r1 w0=1"), "0|0:1 1", "0|1:1 1", "1|0:1 1")
	serial(t, litmus(2, 0, 0, "w0=1 w1=1", "r1 r0"), "|0 0:1 1", "|0 1:1 1", "|1 1:1 1")
	serial(t, litmus(2, 0, 0, "w0=1 w1=2", "w1=1 w0=2"), "|:1 2", "|:2 1", "|:2 2")
	serial(t, litmus(2, 0, 0, "r0 w1=5", "w0=3 w1=4"), "0|:3 4", "0|:3 5", "3|:3 4", "3|:3 5")
	serial(t, litmus(2, 0, 0, "r0 p1+1", "w0=3"), "0|:3 1", "3|:3 4")
}

func TestSerialLocks(t *testing.T) {
	const up = "r0 p0+1"
	serial(t, litmus(1, 0, 2, up, up), "0|0:1", "0|1:2", "1|0:2")
	serially(t, litmus(1, 0, 2, "l0 "+up+" u0", "l0 "+up+" u0"), "0|1:2", "1|0:2")
	serially(t, litmus(1, 0, 2, "l1 "+up+" u1", "l1 "+up+" u1"), "0|1:2", "1|0:2")
	serial(t, litmus(1, 0, 2, "l0 "+up+" u0", "l1 "+up+" u1"), "0|0:1", "0|1:2", "1|0:2")
	serial(t, litmus(1, 0, 2, "l0 "+up+" u0", up), "0|0:1", "0|1:2", "1|0:2")
	serial(t, litmus(1, 0, 2, "l0 u0 "+up, "l0 u0 "+up), "0|0:1", "0|1:2", "1|0:2")
	serially(t, litmus(1, 0, 2, "l0 "+up+" u0", "l0 "+up+" u0", "l0 "+up+" u0"), "0|1|2:3", "0|2|1:3", "1|0|2:3", "1|2|0:3", "2|0|1:3", "2|1|0:3")
	serially(t, litmus(1, 0, 2, "l0 w0=1 w0=2 u0", "l0 r0 r0 u0"), "|0 0:2", "|2 2:2")
}

func TestSerialOfThree(t *testing.T) {
	serial(t, litmus(1, 0, 0, "w0=1", "w0=2", "r0 r0"), "||0 0:1", "||0 0:2", "||0 1:1", "||0 1:2", "||0 2:1", "||0 2:2", "||1 1:1", "||1 1:2", "||1 2:2", "||2 1:1", "||2 2:1", "||2 2:2")
	// The lists are compared thread by thread, numbers by what they are.
	serial(t, litmus(1, 0, 0, "w0=-5", "w0=10", "r0"), "||-5:-5", "||-5:10", "||0:-5", "||0:10", "||10:-5", "||10:10")
	serial(t, litmus(1, 0, 0, "r0", "w0=9", "r0"), "0||0:9", "0||9:9", "9||0:9", "9||9:9")
	serial(t, litmus(2, 0, 0, "w0=1", "r0 p1+1", "r1 r0"), "|0|0 0:1 1", "|0|0 1:1 1", "|0|1 0:1 1", "|0|1 1:1 1", "|1|0 0:1 2", "|1|0 1:1 2", "|1|2 1:1 2")
}

const (
	upwards   = "l0 l1 u1 u0"
	downwards = "l1 l0 u0 u1"
)

func TestSerialStuck(t *testing.T) {
	serially(t, litmus(0, 0, 2, upwards, upwards), "|:")
	serially(t, litmus(0, 0, 2, upwards, downwards), "|:", "|:!")
	serially(t, litmus(1, 0, 2, upwards, downwards), "|:0", "|:0!")
	serially(t, litmus(0, 0, 2, "l0 l1 u0 u1", "l1 l0 u1 u0"), "|:", "|:!")
	serially(t, litmus(0, 0, 2, "l0 u0 l1 u1", "l1 u1 l0 u0"), "|:")
	// One that goes on by itself.
	serially(t, litmus(1, 0, 2, upwards, "w0=3 r0", downwards), "|3|:3", "|3|:3!")
	// Those that are not stuck come first, though the lists of the others may be less; a beginning is less.
	serially(t, litmus(1, 0, 2, upwards, downwards, "l0 r0 p0+1 u0"), "||0:1", "||:0!", "||0:1!")
	serially(t, litmus(1, 0, 2, upwards, downwards, "r0 l1 r0 u1"), "||0 0:0", "||0:0!", "||0 0:0!")
	serially(t, litmus(1, 0, 2, "w0=-4 l0 r0 u0", upwards, downwards), "-4||:-4", "||:-4!", "-4||:-4!")
	serially(t, litmus(1, 0, 2, "w0=1 l0 w0=2 u0", upwards, downwards), "||:2", "||:1!", "||:2!")
	serially(t, litmus(1, 0, 2, "w0=2 l0 w0=1 u0", upwards, downwards), "||:1", "||:1!", "||:2!")
}

// Threads that are stuck at one act or at another have seen the same: that is one sight.
func TestSerialStuckOnce(t *testing.T) {
	serially(t, litmus(0, 0, 2, upwards, downwards, upwards), "||:", "||:!")
	serially(t, litmus(0, 0, 2, downwards, downwards, upwards), "||:", "||:!")
	serially(t, litmus(2, 1, 2, upwards, downwards, "l0 u0 l1 u1"), "||:0 0", "||:0 0!")
	serially(t, litmus(1, 0, 2, upwards, downwards, "w0=3 l0 u0"), "||:3", "||:3!")
}
