package tests

import (
	"fmt"
	"slices"
	"strconv"
	"strings"
	"testing"

	"loop.example/g00032/impl"
)

// gcObjectsOf reads objects, blanks between: the Id, the letter of the kind, and what the fields hold, with , between.
func gcObjectsOf(s string) []impl.GcObject {
	out := []impl.GcObject{}
	for _, w := range words(s) {
		at := strings.IndexAny(w, "pwshf")
		id, _ := strconv.ParseInt(w[:at], 10, 64)
		o := impl.GcObject{Id: id, Kind: int64(strings.IndexByte("pwshf", w[at]))}
		for _, field := range strings.FieldsFunc(w[at+1:], func(r rune) bool { return r == ',' }) {
			n, _ := strconv.ParseInt(field, 10, 64)
			o.Fields = append(o.Fields, n)
		}
		out = append(out, o)
	}
	return out
}

func liveIs(t *testing.T, h impl.GcHeap, want ...int64) {
	t.Helper()
	if got := impl.GcLive(h); !slices.Equal(got, want) {
		t.Errorf("%.300q: %v are live, not %v", fmt.Sprint(h), got, want)
	}
	if told := gcLiveOracle(h); !slices.Equal(told, want) {
		t.Errorf("%.300q: the oracle says %v, not %v", fmt.Sprint(h), told, want)
	}
}

func TestGcLive(t *testing.T) {
	ids := func(n ...int64) []int64 { return n }
	live := func(objects string, roots, queue []int64, want ...int64) {
		t.Helper()
		liveIs(t, impl.GcHeap{Objects: gcObjectsOf(objects), Roots: roots, Queue: queue}, want...)
	}
	live("", nil, nil)
	live("", ids(1, 2), ids(3))
	live("1p 2p 3p", nil, nil)
	live("1p2 2p3 3p 4p1", ids(1), nil, 1, 2, 3)
	live("1p2 2p3 3p 4p1", nil, ids(2), 2, 3)
	live("1p2 2p3 3p 4p1", ids(4), ids(3), 1, 2, 3, 4)
	live("1p2 2p3 3p 4p1", ids(3, 3), ids(3, 2, 3), 2, 3)
	live("1p2 2p1 3p3", ids(2), nil, 1, 2)
	live("1p1", ids(1), nil, 1)
	// The order of objects is nothing; what is told is ascending.
	live("9p 5p9 7p5,3 3p", ids(7), nil, 3, 5, 7, 9)
	// Field 0 of the three is not strong, all others are.
	live("1w2 2p", ids(1), nil, 1)
	live("1s2 2p", ids(1), nil, 1)
	live("1h2 2p", ids(1), nil, 1)
	live("1f2 2p", ids(1), nil, 1, 2)
	live("1w2,3 2p 3s4,5 4p 5h6,7 6p 7f8 8p", ids(1), nil, 1, 3, 5, 7, 8)
	live("1w2,2 2p", ids(1), nil, 1, 2)
	live("1w 2s 3h 4f 5p", ids(1, 2, 3), ids(4, 5), 1, 2, 3, 4, 5)
	// Ids that no object has, and 0, count nothing.
	live("1p2 3p", ids(0, 1, 7, -1, minLong, maxLong), ids(0, 5), 1)
	live("1p0,0,5,-3,2 2p", ids(1), nil, 1, 2)
	live("0p1 1p", ids(0), nil)
	live("0p1 1p 2p0", ids(0, 2), ids(0), 2)
	// Ids below 0 are some, when an object has them.
	live("-1p-5 -5p1 1p -2p", ids(-1), nil, -5, -1, 1)
	live(fmt.Sprintf("%dp%d %dp", minLong, maxLong, maxLong), ids(minLong), nil, minLong, maxLong)
	// Of several objects of one Id all are reached; it is told once.
	live("1p2 1p3 2p 3p", ids(1), nil, 1, 2, 3)
	live("1p2 2p 1w3,4 3p 4p 1p1 1p", ids(1), nil, 1, 2, 4)
	live("5p 1p2 2p5 2p3 3p", ids(1), ids(1), 1, 2, 3, 5)
	// As many fields as there are.
	live("1p2,3,4,5,6,7,8,9 2p 9p 8p", ids(1), nil, 1, 2, 8, 9)
	// Kinds that are none have strong fields.
	for _, kind := range append(extremes(), 4, 5, -2, -3) {
		want := ids(1, 2, 3)
		if kind >= 1 && kind <= 3 {
			want = ids(1, 3)
		}
		liveIs(t, impl.GcHeap{Objects: []impl.GcObject{{Id: 1, Kind: kind, Fields: ids(2, 3)}, {Id: 2}, {Id: 3}}, Roots: ids(1)}, want...)
	}
	// Nothing else of a heap is looked at.
	h := impl.GcHeap{Objects: gcObjectsOf("1p2 2p"), Roots: ids(1), From: -7, Tops: ids(1), Dirty: ids(-1, 5)}
	h.Objects[0].At, h.Objects[0].Age, h.Objects[1].At = -1, 99, minLong
	liveIs(t, h, 1, 2)
}

func TestMostGcLive(t *testing.T) {
	chain := func(n int) []impl.GcObject {
		out := make([]impl.GcObject, n)
		for k := range out {
			out[k] = impl.GcObject{Id: int64(k + 1), Fields: []int64{int64(k), int64(k)}}
		}
		return out
	}
	count := func(why string, h impl.GcHeap, want int) {
		t.Helper()
		got := impl.GcLive(h)
		if len(got) != want || !slices.IsSorted(got) {
			t.Errorf("%s: %d are live, not %d", why, len(got), want)
		}
	}
	most := 4 * impl.MaxSpace
	all := func(n int) []int64 {
		out := make([]int64, n)
		for k := range out {
			out[k] = int64(k + 1)
		}
		return out
	}
	for _, n := range []int{most - 1, most, most + 1, 10 * most} {
		want := n
		if n > most {
			want = 0
		}
		count("objects", impl.GcHeap{Objects: chain(n), Roots: []int64{int64(n)}}, want)
		count("objects of one Id", impl.GcHeap{Objects: slices.Repeat([]impl.GcObject{{Id: 5, Fields: []int64{5, 5}}}, n), Roots: []int64{5}}, min(want, 1))
		count("a queue", impl.GcHeap{Objects: chain(most), Queue: all(n)}, want)
		count("a queue of the same", impl.GcHeap{Objects: chain(7), Queue: slices.Repeat([]int64{7}, n)}, min(want, 7))
	}
	for _, n := range []int{7, 8, 9, 100000} {
		want := 7
		if n > 8 {
			want = 0
		}
		count("roots", impl.GcHeap{Objects: chain(7), Roots: slices.Repeat([]int64{7}, n)}, want)
		count("roots, with a queue", impl.GcHeap{Objects: chain(7), Roots: make([]int64, n), Queue: []int64{7}}, want)
	}
	// All of the most at once.
	count("all", impl.GcHeap{Objects: chain(most), Roots: all(8), Queue: all(most)}, most)
}

// anyGcHeap makes a heap of no form: few Ids, some of which no object has and some of which several have.
func (b *builder) anyGcHeap() impl.GcHeap {
	id := func() int64 {
		if b.below(12) == 0 {
			return []int64{-1, -7, minLong, maxLong, 99}[b.below(5)]
		}
		return int64(b.below(9))
	}
	h := impl.GcHeap{}
	for range b.below(12) {
		o := impl.GcObject{Id: id(), Kind: int64(b.below(6))}
		for range b.below(4) {
			o.Fields = append(o.Fields, id())
		}
		h.Objects = append(h.Objects, o)
	}
	for range b.below(3) {
		h.Roots = append(h.Roots, id())
	}
	for range b.below(3) {
		h.Queue = append(h.Queue, id())
	}
	return h
}

func TestAnyGcLive(t *testing.T) {
	t.Parallel()
	b := builder{numbers{state: 1301}}
	for range 20000 {
		h := b.anyGcHeap()
		liveIs(t, h, gcLiveOracle(h)...)
	}
}
