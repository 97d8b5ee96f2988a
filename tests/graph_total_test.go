package tests

import (
	"fmt"
	"math"
	"reflect"
	"strings"
	"sync"
	"testing"

	"loop.example/g00032/impl"
)

// Every function of chapters 16 and 17 answers at every argument: a panic, or one that never ends, fails the run.

func TestGraphsAnswerEverywhere(t *testing.T) {
	t.Parallel()
	for k, u := range oddUnits() {
		ok := impl.UnitOk(u)
		for _, level := range []int64{0, 4} {
			for _, f := range []int64{0, minLong, 2} {
				g := impl.Compile(u, f, level)
				if so := ok && f >= 0 && f < int64(len(u.Funcs)); !so && !alike(g, impl.Graph{}) || so && len(g.Blocks) < 2 {
					t.Errorf("unit %d, f%d: %v", k, f, g)
				}
				o := impl.GraphRun(u, level, f, []int64{1, 2}, 50)
				if o.Code < 0 || o.Code > 4 || o.Steps < 0 || o.Steps > 50 || !ok && o.Code != impl.UnitArgs || o.Code == impl.UnitArgs && !alike(o, impl.UnitOut{Code: 1}) || o.Code != impl.UnitArgs && len(o.Globals) != len(u.Globals) {
					t.Errorf("unit %d, f%d: %v", k, f, o)
				}
			}
		}
	}
	u := unitTold("J", "(I,J)J 2 / load I 0 / conv I J / load J 1 / div J / dup / put 0 / return J", "()V 0 / again: / goto again")
	for _, n := range extremes() {
		for _, m := range extremes() {
			for _, fuel := range []int64{math.MinInt64, -1, 0, 3, impl.MaxFuel + 1, math.MaxInt64, n} {
				got, want := impl.GraphRun(u, 3, 0, []int64{n, m}, fuel), impl.UnitRun(u, 0, []int64{n, m}, fuel)
				if got.Code != want.Code && got.Code != impl.UnitFuel && want.Code != impl.UnitFuel {
					t.Errorf("%d, %d with %d: %v and %v", n, m, fuel, got, want)
				}
			}
			if g, level := impl.Compile(u, n, m), n >= 0 && n < 2 && m >= 0 && m <= 4; level != (len(g.Blocks) > 0) {
				t.Errorf("f%d, level %d: %v", n, m, g)
			}
		}
		same(t, "many arguments", impl.GraphRun(u, 0, n, make([]int64, 1<<18), 10), impl.UnitOut{Code: impl.UnitArgs})
	}
}

func (c unitCase) askGraphs() []any {
	out := []any{}
	for level := range int64(6) {
		out = append(out, impl.Compile(c.u, c.f, level), impl.GraphRun(c.u, level, c.f, c.args, c.fuel))
	}
	return out
}

func TestGraphArgumentsStay(t *testing.T) {
	t.Parallel()
	for k, c := range someUnitCases() {
		given := c.roomy()
		before := given.full()
		got := given.askGraphs()
		if fmt.Sprint(got) != fmt.Sprint(c.askGraphs()) {
			t.Errorf("case %d: spare room changes an answer", k)
		}
		spoilAll(got)
		if !reflect.DeepEqual(before, given.full()) {
			t.Errorf("case %d: arguments are not as they were, or are to be seen in an answer", k)
		}
	}
}

func TestGraphAnswersAreNew(t *testing.T) {
	t.Parallel()
	args, next, preds, globals := 0, 0, 0, 0
	for k, c := range someUnitCases() {
		c = c.roomy()
		one, two := c.askGraphs(), c.askGraphs()
		apart(t, fmt.Sprint("case ", k), append(append([]any{c.u, c.args}, one...), two...)...)
		g := one[0].(impl.Graph)
		for _, n := range g.Nodes {
			args += len(n.Args)
		}
		for _, b := range g.Blocks {
			next += len(b.Next)
			preds += len(b.Preds)
		}
		globals += len(one[1].(impl.UnitOut).Globals)
		want := fmt.Sprint(two)
		spoilAll(one)
		if fmt.Sprint(two) != want || fmt.Sprint(c.askGraphs()) != want {
			t.Errorf("case %d: an answer is to be seen in another", k)
		}
	}
	if args < 500 || next < 50 || preds < 50 || globals < 10 {
		t.Errorf("%d args, %d ways on, %d ways to, %d globals", args, next, preds, globals)
	}
}

// An answer hangs on its arguments alone, whatever was asked ahead of it or is asked beside it.
func TestGraphAnswersTheSameAgain(t *testing.T) {
	t.Parallel()
	cases := someUnitCases()
	want := []string{}
	for _, c := range cases {
		want = append(want, fmt.Sprint(c.askGraphs()))
	}
	var beside sync.WaitGroup
	for n := range 4 {
		beside.Go(func() {
			for k := range cases {
				k = (k*5 + n) % len(cases)
				if fmt.Sprint(cases[k].askGraphs()) != want[k] {
					t.Errorf("case %d: another answer than before", k)
				}
			}
		})
	}
	beside.Wait()
}

// greatestUnit has as many functions as there may be, each of as much code, locals and places of the stack, with as many targets at each instruction, and blocks that stand against the way.
func greatestUnit() impl.Unit {
	u := impl.Unit{Globals: words(strings.Repeat("I J ", impl.MaxMany/2))}
	for n := range int64(impl.MaxMany) {
		f := impl.Func{Sig: "(I,I,I,I,I,I,I,I)I", Locals: impl.MaxLocals}
		for k := int64(8); k < impl.MaxLocals; k++ {
			f.Code = append(f.Code, impl.Ins{Op: impl.OpLoad, Kind: impl.KindInt, A: k % 8}, impl.Ins{Op: impl.OpStore, Kind: impl.KindInt, A: k})
		}
		for len(f.Code) < impl.MaxCode-4 {
			at := int64(len(f.Code))
			jump := impl.Ins{Op: impl.OpSwitch, A: at + 3}
			for k := range int64(impl.MaxTable) {
				jump.Table = append(jump.Table, 64+(at+3*k+n)%(impl.MaxCode-64-3)/3*3)
			}
			f.Code = append(f.Code, impl.Ins{Op: impl.OpInc, A: at % impl.MaxLocals, B: 1}, impl.Ins{Op: impl.OpLoad, Kind: impl.KindInt}, jump)
		}
		f.Code = append(f.Code, impl.Ins{Op: impl.OpLoad, Kind: impl.KindInt, A: 30}, impl.Ins{Op: impl.OpReturn, Kind: impl.KindInt})
		for len(f.Code) < impl.MaxCode {
			f.Code = append(f.Code, impl.Ins{Op: impl.OpGoto, A: 64})
		}
		u.Funcs = append(u.Funcs, f)
	}
	return u
}

func TestTheGreatestGraphs(t *testing.T) {
	t.Parallel()
	u := greatestUnit()
	if !impl.UnitOk(u) {
		t.Fatal("the greatest unit is not right")
	}
	for _, level := range []int64{0, 3, 4} {
		g := impl.Compile(u, impl.MaxMany-1, level)
		testGraphForm(t, g)
		if len(g.Blocks) < 100 || level == 0 && len(g.Nodes) < 3000 {
			t.Errorf("level %d: %d blocks, %d nodes", level, len(g.Blocks), len(g.Nodes))
		}
	}
	args := []int64{-1, 1, 2, 3, 4, 5, 6, 7}
	whole := impl.UnitRun(u, 3, args, impl.MaxFuel)
	whole.Steps = 0
	for _, level := range []int64{0, 4} {
		o := impl.GraphRun(u, level, 3, args, impl.MaxFuel)
		o.Steps = 0
		same(t, "the greatest run", o, whole)
	}
}

// As many calls of a small function as there may be, each filled.
func TestTheMostCalls(t *testing.T) {
	t.Parallel()
	small := "(I)I 1 / load I 0" + strings.Repeat(" / dup / add I", 19) + " / return I"
	u := unitTold("", "(I)I 1 / load I 0"+strings.Repeat(" / call 1", impl.MaxCode-2)+" / return I", small)
	g := impl.Compile(u, 0, 4)
	same(t, "nodes", len(g.Nodes), 1+19*(impl.MaxCode-2))
	got, want := impl.GraphRun(u, 4, 0, []int64{-7}, 2), impl.UnitRun(u, 0, []int64{-7}, impl.MaxFuel)
	want.Steps = 2
	same(t, "a run", got, want)
	u = unitTold("", "(I)I 1 / load I 0"+strings.Repeat(" / dup / call 1 / add I", 100)+" / return I", strings.Replace(small, "add", "xor", 1))
	got, want = impl.GraphRun(u, 4, 0, []int64{-7}, impl.MaxFuel), impl.UnitRun(u, 0, []int64{-7}, impl.MaxFuel)
	want.Steps = 2
	same(t, "a run", got, want)
}
