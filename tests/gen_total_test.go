package tests

import (
	"fmt"
	"reflect"
	"slices"
	"sync"
	"testing"

	"loop.example/g00032/impl"
)

// Every function of chapter 13 answers at every argument: a panic, or one that never ends, fails the run.

func oddGcConfigs() []impl.GcConfig {
	out := []impl.GcConfig{{}, wide(), tight(), shown(), {Eden: 2000, Survivor: 2000, Old: 2000, Age: 15, Card: 64}, {Eden: 8, Survivor: 2000, Old: 8, Age: 15, Card: 1}, {Eden: 2000, Survivor: 8, Old: 8, Age: 1, Card: 64}}
	for _, n := range append(extremes(), 2, 8, 15, 2000, 2001) {
		g := wide()
		spread(reflect.ValueOf(&g).Elem(), n, "")
		out = append(out, g)
		for k := range 5 {
			g := tight()
			*[]*int64{&g.Eden, &g.Survivor, &g.Old, &g.Age, &g.Card}[k] = n
			out = append(out, g)
		}
	}
	return out
}

func oddGcOps() [][]impl.GcOp {
	out := [][]impl.GcOp{nil, {}, {{}}, make([]impl.GcOp, 300), make([]impl.GcOp, 301), make([]impl.GcOp, 1000000)}
	for kind := range int64(11) {
		for _, n := range extremes() {
			out = append(out, []impl.GcOp{{Kind: 1, A: 0, B: 2}, {Kind: kind, A: n}, {Kind: kind, B: n}, {Kind: kind, C: n}, {Kind: kind, A: n, B: n, C: n}, {Kind: n, A: kind, B: kind, C: kind}})
		}
		for fields := range int64(7) {
			out = append(out, slices.Repeat([]impl.GcOp{{Kind: 1, A: kind % 8, B: fields, C: fields % 5}, {Kind: kind, A: fields, B: kind, C: 0}, {Kind: 3, A: fields, B: kind % 8}}, 100))
		}
	}
	for _, s := range []string{
		"new 0 6 weak; set 0 0 0; set 0 0 1; minor", "new 0 1 final; set 0 0 0; drop 0; hard; poll 0; drop 0", "new 0 1; set 0 1 0; copy 1 0", "new 0 6; new 1 6; major; minor; hard; new 2 6 phantom; set 2 0 0; drop 0",
	} {
		row := gcOpsOf(s)
		out = append(out, slices.Repeat(row, 300/len(row)))
	}
	return out
}

func oddGcHeaps() []impl.GcHeap {
	long := make([]int64, 1<<18)
	for k := range long {
		long[k] = int64(k % 9)
	}
	out := []impl.GcHeap{
		{}, {Objects: []impl.GcObject{{}}, Roots: []int64{0}}, {Objects: []impl.GcObject{}, Roots: []int64{}, Queue: []int64{}, Tops: []int64{}, Dirty: []int64{}},
		{Objects: make([]impl.GcObject, 8000), Roots: make([]int64, 8), Queue: make([]int64, 8000)}, {Objects: make([]impl.GcObject, 1<<20)}, {Queue: make([]int64, 1<<20)}, {Roots: make([]int64, 1<<20)},
		{Objects: []impl.GcObject{{Id: 1, Fields: long}, {Id: 2, Kind: 1, Fields: long}, {Id: 3, Kind: 3}}, Roots: []int64{1, 2, 3}}, {Tops: make([]int64, 1<<20), Dirty: long, From: maxLong},
		{Objects: slices.Repeat([]impl.GcObject{{Id: 1, Fields: long[:500]}, {Id: 2, Kind: 2, Fields: long[:500]}}, 4000), Roots: []int64{1}},
	}
	for _, n := range append(extremes(), 2, 3, 4, 5, 8) {
		h := impl.GcAt(wide(), gcOpsOf("new 0 2 weak; new 1 1; set 0 1 1; new 2 0 final; drop 2; minor; new 3 1; set 0 3 0; drop 3"))
		for k := range h.Objects {
			h.Objects[k].Kind = n
		}
		all := impl.GcAt(wide(), gcOpsOf("new 0 2 weak; new 1 1; set 0 1 1; new 2 0 final; drop 2; minor"))
		spread(reflect.ValueOf(&all).Elem(), n, "")
		out = append(out, h, all)
	}
	return out
}

func TestGcAnswersEverywhere(t *testing.T) {
	t.Parallel()
	configs, lists := oddGcConfigs(), oddGcOps()
	for k, g := range configs {
		for j, ops := range lists {
			if (k+j)%3 == 0 || len(ops) < 10 || gcConfigOk(g) {
				testGc(t, g, ops)
			}
		}
	}
	for k, h := range oddGcHeaps() {
		got := impl.GcLive(h)
		if !slices.IsSorted(got) || slices.Contains(got, 0) || len(got) > len(h.Objects) {
			t.Errorf("heap %d: %.200q", k, fmt.Sprint(got))
		}
		if len(h.Objects) < 100 {
			liveIs(t, h, gcLiveOracle(h)...)
		}
	}
}

// askGc asks all functions of the chapter.
func askGc(g impl.GcConfig, ops []impl.GcOp, h impl.GcHeap) []any {
	return []any{impl.GcRun(g, ops), impl.GcAt(g, ops), impl.GcLive(h), impl.GcLive(impl.GcAt(g, ops))}
}

type gcCase struct {
	g   impl.GcConfig
	ops []impl.GcOp
	h   impl.GcHeap
}

// someGcCases are such as can be, and some that can't.
func someGcCases() []gcCase {
	b := builder{numbers{state: 1350}}
	out := []gcCase{{}, {g: wide()}, {impl.GcConfig{}, gcOpsOf("new 0 1"), b.anyGcHeap()}}
	for range 60 {
		g, ops := b.gcConfig(), b.gcOps(b.below(120), false)
		out = append(out, gcCase{g, ops, impl.GcAt(g, ops)}, gcCase{g, ops, b.anyGcHeap()})
	}
	return out
}

func TestGcArgumentsStay(t *testing.T) {
	t.Parallel()
	for _, c := range someGcCases() {
		ops, heap := roomy(reflect.ValueOf(c.ops)), roomy(reflect.ValueOf(c.h))
		before := []any{full(ops), full(heap)}
		plain := askGc(c.g, slices.Clip(slices.Clone(c.ops)), c.h)
		got := askGc(c.g, ops.Interface().([]impl.GcOp), heap.Interface().(impl.GcHeap))
		if !alike(got, plain) {
			t.Errorf("%v: spare room changes an answer", c)
		}
		spoilAll(got)
		if !reflect.DeepEqual(before, []any{full(ops), full(heap)}) {
			t.Errorf("%v: arguments are not as they were", c)
		}
	}
}

// spoilAll writes over all that can be reached from answers.
func spoilAll(answers []any) {
	for _, answer := range answers {
		v := reflect.New(reflect.TypeOf(answer)).Elem()
		v.Set(reflect.ValueOf(answer))
		spoil(v)
	}
}

func TestGcAnswersAreNew(t *testing.T) {
	t.Parallel()
	objects, queued := 0, 0
	for _, c := range someGcCases() {
		c.ops = roomy(reflect.ValueOf(c.ops)).Interface().([]impl.GcOp)
		c.h = roomy(reflect.ValueOf(c.h)).Interface().(impl.GcHeap)
		one, two := askGc(c.g, c.ops, c.h), askGc(c.g, c.ops, c.h)
		apart(t, fmt.Sprint(c), append(append([]any{c.ops, c.h}, one...), two...)...)
		objects += len(one[1].(impl.GcHeap).Objects)
		queued += len(one[1].(impl.GcHeap).Queue)
		want := fmt.Sprint(two)
		spoilAll(one)
		if fmt.Sprint(two) != want || fmt.Sprint(askGc(c.g, c.ops, c.h)) != want {
			t.Errorf("%v: an answer is to be seen in another", c)
		}
	}
	if objects < 500 || queued < 50 {
		t.Errorf("%d objects, %d queued", objects, queued)
	}
}

// An answer hangs on its arguments alone, whatever was asked ahead of it or is asked beside it.
func TestGcAnswersTheSameAgain(t *testing.T) {
	t.Parallel()
	cases := someGcCases()
	want := []string{}
	for _, c := range cases {
		want = append(want, fmt.Sprint(askGc(c.g, c.ops, c.h)))
	}
	var beside sync.WaitGroup
	for n := range 8 {
		beside.Go(func() {
			for k := range cases {
				k = (k*5 + n) % len(cases)
				if fmt.Sprint(askGc(cases[k].g, cases[k].ops, cases[k].h)) != want[k] {
					t.Errorf("%d: another answer than before", k)
				}
			}
		})
	}
	beside.Wait()
}

// What comes behind does not change what was told: a run's answers are the beginning of those of a longer one.
func TestGcGoesOn(t *testing.T) {
	t.Parallel()
	b := builder{numbers{state: 1360}}
	for range 200 {
		g, ops := b.gcConfig(), b.gcOps(60, false)
		whole := impl.GcRun(g, ops)
		n := b.below(len(ops))
		same(t, "a beginning", impl.GcRun(g, ops[:n]), whole[:n])
		last := impl.GcAt(g, ops[:n+1])
		if op := ops[n]; whole[n].Code == 0 && gcRoot(op.A) && last.Roots[op.A] != whole[n].N {
			t.Errorf("%v behind %v: root %d holds %d", g, ops[:n+1], op.A, last.Roots[op.A])
		}
	}
}
