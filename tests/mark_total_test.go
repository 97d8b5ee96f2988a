package tests

import (
	"fmt"
	"reflect"
	"slices"
	"sync"
	"testing"

	"loop.example/g00032/impl"
)

// Every function of chapter 14 answers at every argument: a panic, or one that never ends, fails the run.

func oddMarkModes() []int64 { return append(extremes(), -2, 2, 3, 4) }

func oddMarkOps() [][]impl.MarkOp {
	out := [][]impl.MarkOp{nil, {}, {{}}, make([]impl.MarkOp, 500), make([]impl.MarkOp, 501), make([]impl.MarkOp, 1000000)}
	for kind := range int64(10) {
		for _, n := range extremes() {
			row := []impl.MarkOp{{Kind: 1, A: 0, B: 2}, {Kind: kind, A: n}, {Kind: kind, B: n}, {Kind: kind, C: n}, {Kind: kind, A: n, B: n, C: n}, {Kind: n, A: kind, B: kind, C: kind}}
			out = append(out, row, append([]impl.MarkOp{{Kind: 6}}, row...))
		}
		for fields := range int64(7) {
			out = append(out, slices.Repeat([]impl.MarkOp{{Kind: 1, A: kind % 8, B: fields}, {Kind: 6 + fields%3, A: 1}, {Kind: kind, A: fields, B: kind, C: 0}, {Kind: 3, A: fields, B: kind % 8}}, 125))
		}
	}
	for _, s := range []string{
		"new 0 6; set 0 0 0; set 0 0 1; begin; step 1; end", "begin; new 0 1; set 0 0 0; drop 0; end", "new 0 1; set 0 1 0; copy 1 0", "new 0 6; new 1 6; begin; begin; step 100; set 0 1 5; set 1 0 5; drop 0; drop 1; end; end", "new 0 1", "begin", "step 100", "end", "new 0 6; set 0 1 0; set 0 1 1; copy 1 0; begin; end",
	} {
		row := markOpsOf(s)
		out = append(out, slices.Repeat(row, 500/len(row)))
	}
	return out
}

func oddMarkHeaps() []impl.MarkHeap {
	long := make([]int64, 1<<18)
	for k := range long {
		long[k] = int64(k % 9)
	}
	out := []impl.MarkHeap{
		{}, {Objects: []impl.MarkObject{{}}, Roots: []int64{0}}, {Objects: []impl.MarkObject{}, Roots: []int64{}, Row: []int64{}},
		{Objects: make([]impl.MarkObject, 400), Roots: make([]int64, 8), Row: long}, {Objects: make([]impl.MarkObject, 1<<20)}, {Roots: make([]int64, 1<<20)}, {Row: long, Cycle: true},
		{Objects: []impl.MarkObject{{Id: 1, Fields: long}, {Id: 2, Fields: long}, {Id: 3}}, Roots: []int64{1, 2, 3}},
		{Objects: slices.Repeat([]impl.MarkObject{{Id: 1, Fields: long}, {Id: 2, Fields: long}}, 200), Roots: []int64{1}},
	}
	for _, n := range append(extremes(), 2, 3, 4, 5, 8) {
		h := impl.MarkAt(start, markOpsOf("new 0 2; new 1 1; set 0 1 1; new 2 0; drop 2; begin; step 1; new 3 1"))
		for k := range h.Objects {
			h.Objects[k].Colour = n
		}
		all := impl.MarkAt(store, markOpsOf("new 0 2; new 1 1; set 0 1 1; new 2 0; drop 2; begin; step 1; new 3 1"))
		spread(reflect.ValueOf(&all).Elem(), n, "")
		out = append(out, h, all)
	}
	return out
}

func TestMarkAnswersEverywhere(t *testing.T) {
	t.Parallel()
	for _, mode := range oddMarkModes() {
		for _, ops := range oddMarkOps() {
			testMark(t, mode, ops)
		}
	}
	for k, h := range oddMarkHeaps() {
		got := impl.MarkReached(h)
		if !slices.IsSorted(got) || slices.Contains(got, 0) || len(got) > len(h.Objects) {
			t.Errorf("heap %d: %.200q", k, fmt.Sprint(got))
		}
		if len(h.Objects) < 100 {
			reachedIs(t, h, markReachedOracle(h)...)
		}
	}
}

// askMark asks all functions of the chapter.
func askMark(mode int64, ops []impl.MarkOp, h impl.MarkHeap) []any {
	return []any{impl.MarkRun(mode, ops), impl.MarkAt(mode, ops), impl.MarkReached(h), impl.MarkReached(impl.MarkAt(mode, ops))}
}

type markCase struct {
	mode int64
	ops  []impl.MarkOp
	h    impl.MarkHeap
}

// someMarkCases are such as can be, and some that can't.
func someMarkCases() []markCase {
	b := builder{numbers{state: 1450}}
	out := []markCase{{}, {mode: start}, {3, markOpsOf("new 0 1"), b.anyMarkHeap()}}
	for k := range 60 {
		mode, ops := int64(1+k%2), b.markOps(b.below(150))
		out = append(out, markCase{mode, ops, impl.MarkAt(mode, ops)}, markCase{mode, ops, b.anyMarkHeap()})
	}
	return out
}

func TestMarkArgumentsStay(t *testing.T) {
	t.Parallel()
	for _, c := range someMarkCases() {
		ops, heap := roomy(reflect.ValueOf(c.ops)), roomy(reflect.ValueOf(c.h))
		before := []any{full(ops), full(heap)}
		plain := askMark(c.mode, slices.Clip(slices.Clone(c.ops)), c.h)
		got := askMark(c.mode, ops.Interface().([]impl.MarkOp), heap.Interface().(impl.MarkHeap))
		if !alike(got, plain) {
			t.Errorf("%v: spare room changes an answer", c)
		}
		spoilAll(got)
		if !reflect.DeepEqual(before, []any{full(ops), full(heap)}) {
			t.Errorf("%v: arguments are not as they were", c)
		}
	}
}

func TestMarkAnswersAreNew(t *testing.T) {
	t.Parallel()
	objects, grey, gone := 0, 0, 0
	for _, c := range someMarkCases() {
		c.ops = roomy(reflect.ValueOf(c.ops)).Interface().([]impl.MarkOp)
		c.h = roomy(reflect.ValueOf(c.h)).Interface().(impl.MarkHeap)
		one, two := askMark(c.mode, c.ops, c.h), askMark(c.mode, c.ops, c.h)
		apart(t, fmt.Sprint(c), append(append([]any{c.ops, c.h}, one...), two...)...)
		objects += len(one[1].(impl.MarkHeap).Objects)
		grey += len(one[1].(impl.MarkHeap).Row)
		for _, o := range one[0].([]impl.MarkObs) {
			gone += len(o.Gone)
		}
		want := fmt.Sprint(two)
		spoilAll(one)
		if fmt.Sprint(two) != want || fmt.Sprint(askMark(c.mode, c.ops, c.h)) != want {
			t.Errorf("%v: an answer is to be seen in another", c)
		}
	}
	if objects < 500 || grey < 50 || gone < 200 {
		t.Errorf("%d objects, %d grey, %d gone", objects, grey, gone)
	}
}

// An answer hangs on its arguments alone, whatever was asked ahead of it or is asked beside it.
func TestMarkAnswersTheSameAgain(t *testing.T) {
	t.Parallel()
	cases := someMarkCases()
	want := []string{}
	for _, c := range cases {
		want = append(want, fmt.Sprint(askMark(c.mode, c.ops, c.h)))
	}
	var beside sync.WaitGroup
	for n := range 8 {
		beside.Go(func() {
			for k := range cases {
				k = (k*5 + n) % len(cases)
				if fmt.Sprint(askMark(cases[k].mode, cases[k].ops, cases[k].h)) != want[k] {
					t.Errorf("%d: another answer than before", k)
				}
			}
		})
	}
	beside.Wait()
}

// What comes behind does not change what was told: a run's answers are the beginning of those of a longer one.
func TestMarkGoesOn(t *testing.T) {
	t.Parallel()
	b := builder{numbers{state: 1460}}
	for k := range 400 {
		mode, ops := int64(1+k%2), b.markOps(60)
		whole := impl.MarkRun(mode, ops)
		n := b.below(len(ops))
		same(t, "a beginning", impl.MarkRun(mode, ops[:n]), whole[:n])
		last := impl.MarkAt(mode, ops[:n+1])
		if op := ops[n]; whole[n].Code == 0 && op.Kind < impl.MarkBegin && last.Roots[op.A] != whole[n].N {
			t.Errorf("mode %d, behind %v: root %d holds %d", mode, ops[:n+1], op.A, last.Roots[op.A])
		}
		if int64(len(last.Row)) != whole[n].Grey {
			t.Errorf("mode %d, behind %v: %d are grey, and the row is %v", mode, ops[:n+1], whole[n].Grey, last.Row)
		}
	}
}
