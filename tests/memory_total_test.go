package tests

import (
	"fmt"
	"reflect"
	"slices"
	"sync"
	"testing"

	"loop.example/g00032/impl"
)

// Every function of chapter 11 answers at every argument: a panic, or one that never ends, fails the run.

func oddLitmuses() []impl.Litmus {
	act := impl.Act{Kind: impl.ActRead}
	out := []impl.Litmus{
		{}, {Vars: 4}, {Threads: [][]impl.Act{}}, {Threads: [][]impl.Act{nil}}, {Threads: [][]impl.Act{{}, nil, {}}}, {Threads: make([][]impl.Act, 4)},
		{Vars: 1, Threads: make([][]impl.Act, 100000)}, {Vars: 1, Threads: [][]impl.Act{make([]impl.Act, 100000)}},
		{Vars: 1, Threads: [][]impl.Act{slices.Repeat([]impl.Act{act}, 1000000)}}, {Vars: 1, Threads: slices.Repeat([][]impl.Act{{act}}, 100000)},
	}
	for _, n := range append(extremes(), 2, 3, 4, 5, 6, 100, 101) {
		all := litmus(4, 2, 2, "r0 w1=1 p2+1", "l0 u0", "r3")
		spread(reflect.ValueOf(&all).Elem(), n, "")
		out = append(out, all)
		for k := range 8 {
			p := litmus(4, 2, 2, "r0 w1=1 p2+1", "l0 u0", "r3")
			places := []*int64{&p.Vars, &p.Volatile, &p.Locks, &p.Threads[0][0].Kind, &p.Threads[0][1].Var, &p.Threads[0][2].N, &p.Threads[1][0].Var, &p.Threads[1][1].Kind}
			*places[k] = n
			out = append(out, p)
		}
	}
	return out
}

// fullest are programs with as many threads and acts as may be, such as have the most runs and sights.
func fullest() []impl.Litmus {
	return []impl.Litmus{
		litmus(1, 0, 0, "p0+40 p0+-14 p0+58 p0+-48", "r0 r0 p0+87 w0=-69", "r0 r0 r0 p0+77"),
		litmus(4, 0, 0, "p1+-38 p1+55 p1+-32 r1", "r1 p1+-63 r1 p1+-8", "r1 r1 w1=-78 r1"),
		litmus(4, 0, 0, "w0=1 w1=2 w2=3 w3=4", "w3=5 w2=6 w1=7 w0=8", "w1=9 w3=10 w0=11 w2=12"),
		litmus(4, 4, 0, "r0 p1+1 r2 p3+1", "r3 p2+2 r1 p0+2", "r1 p0+3 r3 p2+3"),
		litmus(4, 0, 2, "l0 r0 p1+1 u0", "l1 r1 p0+1 u1", "w0=1 w1=1 r2 r3"),
		litmus(4, 0, 2, upwards, downwards, "r0 l0 p0+1 u0"),
		litmus(2, 0, 0, "r0 r0 r0 r0", "r1 r1 r1 r1", "w0=1 w1=1 w0=2 w1=2"),
	}
}

func askMemory(p impl.Litmus, picks []int64) []any {
	return []any{impl.LitmusOk(p), impl.Serial(p), impl.Buffered(p), impl.Races(p), impl.Order(p, picks)}
}

func TestMemoryAnswersEverywhere(t *testing.T) {
	t.Parallel()
	picks := oddPicks()
	for k, p := range oddLitmuses() {
		got := askMemory(p, picks[k%len(picks)])
		if !impl.LitmusOk(p) && !alike(got, []any{false, []impl.Sight(nil), []impl.Sight(nil), []impl.Race(nil), impl.Ordered{}}) {
			t.Errorf("program %d can't be: %.300q", k, fmt.Sprint(got))
		}
	}
}

func TestMemoryOddPicks(t *testing.T) {
	t.Parallel()
	b := builder{numbers{state: 1131}}
	all := append(fullest(), litmus(1, 0, 0, "r0"), litmus(0, 0, 0, ""))
	for range 8 {
		all = append(all, b.litmus(false), b.tangled())
	}
	for _, p := range all {
		for _, picks := range oddPicks() {
			if got, want := impl.Order(p, picks), orderOracle(p, picks); !alike(got, want) {
				t.Errorf("%v by %.80q: %v, not %v", p, fmt.Sprint(picks), got, want)
			}
		}
	}
}

func TestFullestPrograms(t *testing.T) {
	t.Parallel()
	c := &counted{times: map[string]int{}}
	for k, p := range fullest() {
		t.Run(fmt.Sprint(k), func(t *testing.T) {
			t.Parallel()
			testSights(t, p, c)
		})
	}
}

// someLitmuses are programs that can be, and some that can't.
func someLitmuses() []impl.Litmus {
	b := builder{numbers{state: 1132}}
	out := append(oddLitmuses()[:6], fullest()[2:]...)
	for range 40 {
		out = append(out, b.litmus(true), b.litmus(false), b.disturbedLitmus(b.litmus(false)))
	}
	return append(out, b.tangled(), b.tangled())
}

func TestMemoryArgumentsStay(t *testing.T) {
	t.Parallel()
	b := builder{numbers{state: 1133}}
	for _, p := range someLitmuses() {
		given, picks := roomy(reflect.ValueOf(p)), roomy(reflect.ValueOf(b.somePicks(20)))
		before := []any{full(given), full(picks)}
		plain := askMemory(p, slices.Clone(picks.Interface().([]int64)))
		got := askMemory(given.Interface().(impl.Litmus), picks.Interface().([]int64))
		if !alike(got, plain) {
			t.Errorf("%v: spare room changes an answer", p)
		}
		for _, answer := range got[1:] {
			v := reflect.New(reflect.TypeOf(answer)).Elem()
			v.Set(reflect.ValueOf(answer))
			spoil(v)
		}
		if !reflect.DeepEqual(before, []any{full(given), full(picks)}) {
			t.Errorf("%v: arguments are not as they were", p)
		}
	}
}

func TestMemoryAnswersAreNew(t *testing.T) {
	t.Parallel()
	b := builder{numbers{state: 1134}}
	lists := 0
	for _, p := range someLitmuses() {
		p = roomy(reflect.ValueOf(p)).Interface().(impl.Litmus)
		picks := roomy(reflect.ValueOf(b.somePicks(20))).Interface().([]int64)
		one, two := askMemory(p, picks), askMemory(p, picks)
		apart(t, fmt.Sprint(p), append(append([]any{p, picks}, one...), two...)...)
		lists += len(one[1].([]impl.Sight)) + len(one[2].([]impl.Sight)) + len(one[3].([]impl.Race)) + len(one[4].(impl.Ordered).Acts)
		want := fmt.Sprint(two)
		for _, answer := range one[1:] {
			v := reflect.New(reflect.TypeOf(answer)).Elem()
			v.Set(reflect.ValueOf(answer))
			spoil(v)
		}
		if fmt.Sprint(two) != want || fmt.Sprint(askMemory(p, picks)) != want {
			t.Errorf("%v: an answer is to be seen in another", p)
		}
	}
	if lists < 1000 {
		t.Errorf("only %d members of lists", lists)
	}
}

// An answer hangs on its arguments alone, whatever was asked ahead of it or is asked beside it.
func TestMemoryAnswersTheSameAgain(t *testing.T) {
	t.Parallel()
	b := builder{numbers{state: 1135}}
	all := someLitmuses()[6:30]
	picks := b.somePicks(20)
	want := []string{}
	for _, p := range all {
		want = append(want, fmt.Sprint(askMemory(p, picks)))
	}
	var beside sync.WaitGroup
	for n := range 8 {
		beside.Go(func() {
			for k := range all {
				k = (k*5 + n) % len(all)
				if fmt.Sprint(askMemory(all[k], picks)) != want[k] {
					t.Errorf("%v: another answer than before", all[k])
				}
			}
		})
	}
	beside.Wait()
}
