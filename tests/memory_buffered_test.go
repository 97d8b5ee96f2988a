package tests

import (
	"fmt"
	"slices"
	"testing"

	"loop.example/g00032/impl"
)

// What buffered runs show besides, written out.

// more says what buffered runs show that serial ones do not.
func more(t *testing.T, p impl.Litmus, want ...string) {
	t.Helper()
	can(t, "a program of a test", p)
	known := shownSights(impl.Serial(p))
	got := slices.DeleteFunc(shownSights(impl.Buffered(p)), func(s string) bool { return slices.Contains(known, s) })
	if !slices.Equal(got, want) {
		t.Errorf("%v: %q besides, not %q", p, got, want)
	}
}

func buffered(t *testing.T, p impl.Litmus, want ...string) {
	t.Helper()
	can(t, "a program of a test", p)
	seen(t, fmt.Sprint("buffered runs of ", p), impl.Buffered(p), want)
}

func TestBufferedWrites(t *testing.T) {
	sb := func(volatile int64) impl.Litmus { return litmus(2, volatile, 0, "w0=1 r1", "w1=1 r0") }
	buffered(t, sb(0), "0|0:1 1", "0|1:1 1", "1|0:1 1", "1|1:1 1")
	// One buffer that is late is enough.
	buffered(t, sb(1), "0|0:1 1", "0|1:1 1", "1|0:1 1", "1|1:1 1")
	buffered(t, sb(2), "0|1:1 1", "1|0:1 1", "1|1:1 1")
	buffered(t, litmus(2, 0, 0, "p0+1 r1", "p1+1 r0"), "0|0:1 1", "0|1:1 1", "1|0:1 1", "1|1:1 1")
	// Writes go to memory in their order, and reads are never early.
	more(t, litmus(2, 0, 0, "w0=1 w1=1", "r1 r0"))
	more(t, litmus(2, 0, 0, "r0 w1=1", "r1 w0=1"))
	more(t, litmus(2, 0, 0, "w0=1 w1=2", "w1=1 w0=2"))
	more(t, litmus(1, 0, 0, "w0=1 w0=2", "r0 r0"))
	more(t, litmus(1, 0, 0, "w0=1", "w0=2", "r0 r0"))
	more(t, litmus(2, 0, 0, "w0=1", "r0 p1+1", "r1 r0"))
	// Three threads in a ring.
	more(t, litmus(3, 0, 0, "w0=1 r1", "w1=1 r2", "w2=1 r0"), "0|0|0:1 1 1")
	more(t, litmus(3, 1, 0, "w0=1 r1", "w1=1 r2", "w2=1 r0"), "0|0|0:1 1 1")
	more(t, litmus(3, 3, 0, "w0=1 r1", "w1=1 r2", "w2=1 r0"))
}

func TestBufferedOwnWrites(t *testing.T) {
	more(t, litmus(2, 0, 0, "w0=1 r0 r1", "w1=1 r1 r0"), "1 0|1 0:1 1")
	more(t, litmus(1, 0, 0, "w0=1 r0", "w0=2 r0"))
	// Of several writes of one variable the last counts, while memory has none of them or some.
	buffered(t, litmus(2, 0, 0, "w0=1 w0=2 r0 r1", "w1=1 r0"), "2 0|0:2 1", "2 0|1:2 1", "2 0|2:2 1", "2 1|0:2 1", "2 1|1:2 1", "2 1|2:2 1")
	more(t, litmus(2, 0, 0, "w0=1 w0=2 r0 r1", "w1=1 r0"), "2 0|0:2 1", "2 0|1:2 1")
	// Writes of other variables between them change nothing.
	more(t, litmus(3, 0, 0, "w0=1 w2=9 w0=2 r0", "w2=3 r0"), "2|0:2 0 3")
	// What it read in its own buffer goes on.
	buffered(t, litmus(2, 0, 0, "w0=1 r0 p1+1", "r1 r0"), "1|0 0:1 2", "1|0 1:1 2", "1|2 1:1 2")
	more(t, litmus(3, 0, 0, "w0=1 r0 p1+1 r2", "w2=1 r0"), "1 0|0:1 2 1")
	more(t, litmus(3, 0, 0, "w0=1 r0 p1+1 r2", "w2=1 r1"), "1 0|0:1 2 1")
	// A write that another one's has gone by is to be seen in memory again.
	more(t, litmus(1, 0, 0, "w0=1 r0 r0", "w0=2"))
	more(t, litmus(1, 0, 0, "w0=1 r0 r0", "w0=2 r0"))
}

func TestBufferedVolatile(t *testing.T) {
	// To write a volatile variable, by either act, is to wait for an empty buffer.
	more(t, litmus(3, 0, 0, "w1=1 w0=1 r2", "w2=1 w0=1 r1"), "0|0:1 1 1")
	more(t, litmus(3, 1, 0, "w1=1 w0=1 r2", "w2=1 w0=1 r1"))
	more(t, litmus(3, 1, 0, "w1=1 p0+1 r2", "w2=1 p0+1 r1"))
	more(t, litmus(3, 1, 0, "w1=1 w0=1 r2", "w2=1 r1"), "0|0:1 1 1")
	more(t, litmus(3, 1, 0, "w1=1 w1=2 w0=1 r2", "w2=1 w2=2 w0=1 r1"))
	// To read one is not.
	buffered(t, litmus(3, 1, 0, "w1=1 r0 r2", "w2=1 r0 r1"), "0 0|0 0:0 1 1", "0 0|0 1:0 1 1", "0 1|0 0:0 1 1", "0 1|0 1:0 1 1")
	// It is never late itself, though plain writes behind it are.
	buffered(t, litmus(2, 1, 0, "w0=1 w1=1", "r1 r0"), "|0 0:1 1", "|0 1:1 1", "|1 1:1 1")
	more(t, litmus(2, 1, 0, "w1=1 r0", "w0=1 r1"), "0|0:1 1")
	more(t, litmus(2, 1, 0, "w0=1 r1", "w1=1 w0=2 r0"))
	more(t, litmus(4, 2, 0, "w2=1 r0 r1 r3", "w3=1 r0 r1 r2"), "0 0 0|0 0 0:0 0 1 1")
}

func TestBufferedLocks(t *testing.T) {
	// To take a lock and to give one back are to wait, each by itself.
	more(t, litmus(2, 0, 2, "w0=1 l0 u0 r1", "w1=1 l1 u1 r0"))
	more(t, litmus(2, 0, 2, "w0=1 l0 r1 u0", "w1=1 l1 r0 u1"))
	more(t, litmus(2, 0, 2, "l0 w0=1 u0 r1", "l1 w1=1 u1 r0"))
	more(t, litmus(2, 0, 2, "l0 u0 w0=1 r1", "l1 u1 w1=1 r0"), "0|0:1 1")
	more(t, litmus(2, 0, 2, "w0=1 r1 l0 u0", "w1=1 r0 l1 u1"), "0|0:1 1")
	more(t, litmus(2, 0, 2, "w0=1 l0 u0 r1", "w1=1 r0"), "0|0:1 1")
	// Another one's lock does not help: while it has the lock its writes may be late.
	buffered(t, litmus(2, 0, 2, "l0 w0=1 r1 u0", "l1 w1=1 r0 u1"), "0|0:1 1", "0|1:1 1", "1|0:1 1", "1|1:1 1")
	buffered(t, litmus(2, 0, 2, "l0 w0=1 r1 u0", "l0 w1=1 r0 u0"), "0|1:1 1", "1|0:1 1")
}

func TestBufferedStuck(t *testing.T) {
	// At the end buffers are empty, also those of threads that are stuck.
	buffered(t, litmus(2, 0, 2, upwards, downwards, "w0=1 w1=2 l0 u0"), "||:1 2", "||:1 2!")
	buffered(t, litmus(1, 0, 2, upwards, "w0=1 l0 w0=2 u0", downwards), "||:2", "||:1!", "||:2!")
	buffered(t, litmus(1, 0, 2, upwards, "w0=1 l1 r0 u1", downwards), "|1|:1", "||:1!", "|1|:1!")
	buffered(t, litmus(2, 1, 2, upwards, "w1=1 w0=3 l0 u0", downwards), "||:3 1", "||:3 1!")
}

// Any number of writes in one buffer, up to the most.
func TestTheFullestBuffers(t *testing.T) {
	// What was written ahead of something that was seen is seen behind that.
	const rest = ":1 2 3 4"
	buffered(t, litmus(4, 0, 0, "w0=1 w1=2 w2=3 w3=4", "r3 r2 r1 r0"), "|0 0 0 0"+rest, "|0 0 0 1"+rest, "|0 0 2 1"+rest, "|0 3 2 1"+rest, "|4 3 2 1"+rest)
	p := litmus(1, 0, 0, "w0=1 w0=2 w0=3 w0=4", "r0 r0 r0 r0")
	for _, s := range impl.Buffered(p) {
		if !slices.IsSorted(s.Reads[1]) || s.Memory[0] != 4 {
			t.Errorf("%v is seen", s)
		}
	}
	// Four numbers that do not fall, each one of five.
	same(t, "sights", len(impl.Buffered(p)), 70)
	same(t, "sights", len(impl.Serial(p)), 70)
}
