package tests

import (
	"fmt"
	"slices"
	"strconv"
	"strings"
	"testing"

	"loop.example/g00032/impl"
)

// markObjectsOf reads objects, blanks between: the Id, a colon, and what the fields hold, with , between.
func markObjectsOf(s string) []impl.MarkObject {
	out := []impl.MarkObject{}
	for _, w := range words(s) {
		id, fields, _ := strings.Cut(w, ":")
		n, err := strconv.ParseInt(id, 10, 64)
		if err != nil {
			panic(w)
		}
		o := impl.MarkObject{Id: n}
		for _, field := range strings.FieldsFunc(fields, func(r rune) bool { return r == ',' }) {
			n, err := strconv.ParseInt(field, 10, 64)
			if err != nil {
				panic(w)
			}
			o.Fields = append(o.Fields, n)
		}
		out = append(out, o)
	}
	return out
}

func reachedIs(t *testing.T, h impl.MarkHeap, want ...int64) {
	t.Helper()
	if got := impl.MarkReached(h); !slices.Equal(got, want) {
		t.Errorf("%.300q: %v are reached, not %v", fmt.Sprint(h), got, want)
	}
	if told := markReachedOracle(h); !slices.Equal(told, want) {
		t.Errorf("%.300q: the oracle says %v, not %v", fmt.Sprint(h), told, want)
	}
}

func TestMarkReached(t *testing.T) {
	ids := func(n ...int64) []int64 { return n }
	reached := func(objects string, roots []int64, want ...int64) {
		t.Helper()
		reachedIs(t, impl.MarkHeap{Objects: markObjectsOf(objects), Roots: roots}, want...)
	}
	reached("", nil)
	reached("", ids(1, 2))
	reached("1: 2: 3:", nil)
	reached("1:2 2:3 3: 4:1", ids(1), 1, 2, 3)
	reached("1:2 2:3 3: 4:1", ids(4, 3), 1, 2, 3, 4)
	reached("1:2 2:3 3: 4:1", ids(3, 2, 3, 3), 2, 3)
	// Rings, and one that holds itself.
	reached("1:2 2:1 3:3", ids(2), 1, 2)
	reached("1:1 2:2,1", ids(1), 1)
	// The order of objects is nothing; what is told is ascending, each once.
	reached("9: 5:9 7:5,3 3:", ids(7), 3, 5, 7, 9)
	reached("3:1,2,1 2:3,3 1:2", ids(3, 3, 1), 1, 2, 3)
	// Ids that no object has, and 0, count nothing.
	reached("1:2 3:", ids(0, 1, 7, -1, minLong, maxLong), 1)
	reached("1:0,0,5,-3,2 2:", ids(1), 1, 2)
	reached("0:1 1:", ids(0))
	reached("0:1 1: 2:0", ids(0, 2), 2)
	// Ids below 0 are some, when an object has them.
	reached("-1:-5 -5:1 1: -2:", ids(-1), -5, -1, 1)
	reached(fmt.Sprintf("%d:%d %d:", minLong, maxLong, maxLong), ids(minLong), minLong, maxLong)
	// Of several objects of one Id all are reached; it is told once.
	reached("1:2 1:3 2: 3:", ids(1), 1, 2, 3)
	reached("1:2 2: 1:4 3: 4: 1:1 1:", ids(1), 1, 2, 4)
	reached("5: 1:2 2:5 2:3 3:", ids(1), 1, 2, 3, 5)
	reached("5: 1:2 2:5 2:3 3:", ids(5), 5)
	// As many fields as there are, all of them.
	reached("1:2,3,4,5,6,7,8,9 2: 9: 8: 10:", ids(1), 1, 2, 8, 9)
	// Nothing else of a heap is looked at: neither colours, nor the row, nor whether a cycle goes on.
	for _, colour := range append(extremes(), 2, 3, 4) {
		h := impl.MarkHeap{Objects: markObjectsOf("1:2 2: 3:"), Roots: ids(1), Cycle: colour%2 == 0, Row: ids(3, -1, colour)}
		for k := range h.Objects {
			h.Objects[k].Colour = colour
		}
		reachedIs(t, h, 1, 2)
	}
	reachedIs(t, impl.MarkHeap{Objects: markObjectsOf("1: 2: 3:"), Roots: ids(2), Row: make([]int64, 1000)}, 2)
}

func TestMarkReachedBehindOps(t *testing.T) {
	ops := "new 0 2; new 1 1; set 0 1 0; new 2 1; set 1 2 0; drop 1; drop 2; new 3 0"
	for _, mode := range bothModes() {
		for rest, want := range map[string][]int64{
			"": {1, 2, 3, 4}, "drop 0": {4}, "drop 0; drop 3": nil, "set 0 7 0": {1, 4}, "set 0 7 0; begin": {1, 4}, "set 0 7 0; begin; end": {1, 4}, "begin; step 1; set 0 7 0": {1, 4}, "begin; new 5 1; set 5 0 0; drop 0": {1, 2, 3, 4, 5}, "get 4 0 0; drop 0; begin": {2, 3, 4},
		} {
			_, h := testMark(t, mode, markOpsOf(ops+";"+rest))
			reachedIs(t, h, want...)
		}
	}
}

func TestMostMarkReached(t *testing.T) {
	chain := func(n int) []impl.MarkObject {
		out := make([]impl.MarkObject, n)
		for k := range out {
			out[k] = impl.MarkObject{Id: int64(k + 1), Fields: []int64{int64(k), int64(k)}}
		}
		return out
	}
	count := func(why string, h impl.MarkHeap, want int) {
		t.Helper()
		got := impl.MarkReached(h)
		if len(got) != want || !slices.IsSorted(got) {
			t.Errorf("%s: %d are reached, not %d", why, len(got), want)
		}
	}
	for _, n := range []int{399, 400, 401, 402, 8000, 8001, 100000} {
		want := n
		if n > 400 {
			want = 0
		}
		count("objects", impl.MarkHeap{Objects: chain(n), Roots: []int64{int64(n)}}, want)
		count("objects of one Id", impl.MarkHeap{Objects: slices.Repeat([]impl.MarkObject{{Id: 5, Fields: []int64{5, 5}}}, n), Roots: []int64{5}}, min(want, 1))
		count("objects that are not reached", impl.MarkHeap{Objects: chain(n), Roots: []int64{7}}, min(want, 7))
	}
	for _, n := range []int{7, 8, 9, 10, 100000} {
		want := 7
		if n > 8 {
			want = 0
		}
		count("roots", impl.MarkHeap{Objects: chain(9), Roots: slices.Repeat([]int64{7}, n)}, want)
		last := make([]int64, n)
		last[n-1] = 7
		count("roots that hold nothing, but the last one", impl.MarkHeap{Objects: chain(9), Roots: last}, want)
		count("both", impl.MarkHeap{Objects: chain(400), Roots: last}, want)
	}
	count("both", impl.MarkHeap{Objects: chain(401), Roots: make([]int64, 9)}, 0)
}

// anyMarkHeap makes a heap of no form: few Ids, some of which no object has and some of which several have.
func (b *builder) anyMarkHeap() impl.MarkHeap {
	id := func() int64 {
		if b.below(12) == 0 {
			return []int64{-1, -7, minLong, maxLong, 99}[b.below(5)]
		}
		return int64(b.below(9))
	}
	list := func(most int) []int64 {
		var out []int64
		for range b.below(most + 1) {
			out = append(out, id())
		}
		return out
	}
	h := impl.MarkHeap{Roots: list(3), Row: list(3), Cycle: b.below(2) == 0}
	for range b.below(12) {
		h.Objects = append(h.Objects, impl.MarkObject{Id: id(), Colour: int64(b.below(6) - 1), Fields: list(3)})
	}
	return h
}

func TestAnyMarkReached(t *testing.T) {
	t.Parallel()
	b := builder{numbers{state: 1401}}
	for range 20000 {
		h := b.anyMarkHeap()
		reachedIs(t, h, markReachedOracle(h)...)
	}
}
