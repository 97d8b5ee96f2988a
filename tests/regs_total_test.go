package tests

import (
	"fmt"
	"math"
	"reflect"
	"strings"
	"sync"
	"testing"

	"loop.example/g00032/impl"
)

// Every function of chapter 18 answers at every argument: a panic, or one that never ends, fails the run.

func TestRegistersAnswerEverywhere(t *testing.T) {
	t.Parallel()
	for k, u := range oddUnits() {
		ok := impl.UnitOk(u)
		for _, level := range []int64{0, 4} {
			for _, f := range []int64{0, minLong, 2} {
				c := impl.Registers(u, f, level)
				if so := ok && f >= 0 && f < int64(len(u.Funcs)); !so && !alike(c, impl.RegCode{}) || so && len(c.Ins) < 2 {
					t.Errorf("unit %d, f%d: %v", k, f, c)
				}
				o := impl.RegRun(u, level, f, []int64{1, 2}, 50)
				if o.Code < 0 || o.Code > 4 || o.Steps < 0 || o.Steps > 50 || !ok && o.Code != impl.UnitArgs || o.Code == impl.UnitArgs && !alike(o, impl.UnitOut{Code: 1}) || o.Code != impl.UnitArgs && len(o.Globals) != len(u.Globals) {
					t.Errorf("unit %d, f%d: %v", k, f, o)
				}
			}
		}
	}
	u := unitTold("J", "(I,J)J 2 / load I 0 / conv I J / load J 1 / div J / dup / put 0 / return J", "()V 0 / again: / goto again")
	for _, n := range extremes() {
		for _, m := range extremes() {
			for _, fuel := range []int64{math.MinInt64, -1, 0, 3, impl.MaxFuel + 1, math.MaxInt64, n} {
				got, want := impl.RegRun(u, 3, 0, []int64{n, m}, fuel), impl.UnitRun(u, 0, []int64{n, m}, fuel)
				if got.Code != want.Code && got.Code != impl.UnitFuel && want.Code != impl.UnitFuel {
					t.Errorf("%d, %d with %d: %v and %v", n, m, fuel, got, want)
				}
			}
			if c, so := impl.Registers(u, n, m), n >= 0 && n < 2 && m >= 0 && m <= 4; so != (len(c.Ins) > 0) {
				t.Errorf("f%d, level %d: %v", n, m, c)
			}
		}
		same(t, "many arguments", impl.RegRun(u, 0, n, make([]int64, 1<<18), 10), impl.UnitOut{Code: impl.UnitArgs})
	}
}

func (c unitCase) askRegs() []any {
	out := []any{}
	for level := range int64(6) {
		out = append(out, impl.Registers(c.u, c.f, level), impl.RegRun(c.u, level, c.f, c.args, c.fuel))
	}
	return out
}

func TestRegArgumentsStay(t *testing.T) {
	t.Parallel()
	for k, c := range someUnitCases() {
		given := c.roomy()
		before := given.full()
		got := given.askRegs()
		if fmt.Sprint(got) != fmt.Sprint(c.askRegs()) {
			t.Errorf("case %d: spare room changes an answer", k)
		}
		spoilAll(got)
		if !reflect.DeepEqual(before, given.full()) {
			t.Errorf("case %d: arguments are not as they were, or are to be seen in an answer", k)
		}
	}
}

func TestRegAnswersAreNew(t *testing.T) {
	t.Parallel()
	from, next, globals := 0, 0, 0
	for k, c := range someUnitCases() {
		c = c.roomy()
		one, two := c.askRegs(), c.askRegs()
		apart(t, fmt.Sprint("case ", k), append(append([]any{c.u, c.args}, one...), two...)...)
		for _, i := range one[0].(impl.RegCode).Ins {
			from += len(i.From)
			next += len(i.Next)
		}
		globals += len(one[1].(impl.UnitOut).Globals)
		want := fmt.Sprint(two)
		spoilAll(one)
		if fmt.Sprint(two) != want || fmt.Sprint(c.askRegs()) != want {
			t.Errorf("case %d: an answer is to be seen in another", k)
		}
	}
	if from < 500 || next < 100 || globals < 10 {
		t.Errorf("%d registers, %d ways on, %d globals", from, next, globals)
	}
}

// An answer hangs on its arguments alone, whatever was asked ahead of it or is asked beside it.
func TestRegAnswersTheSameAgain(t *testing.T) {
	t.Parallel()
	cases := someUnitCases()
	want := []string{}
	for _, c := range cases {
		want = append(want, fmt.Sprint(c.askRegs()))
	}
	var beside sync.WaitGroup
	for n := range 4 {
		beside.Go(func() {
			for k := range cases {
				k = (k*5 + n) % len(cases)
				if fmt.Sprint(cases[k].askRegs()) != want[k] {
					t.Errorf("case %d: another answer than before", k)
				}
			}
		})
	}
	beside.Wait()
}

func TestTheGreatestCode(t *testing.T) {
	t.Parallel()
	u := greatestUnit()
	args := []int64{-1, 1, 2, 3, 4, 5, 6, 7}
	whole := impl.UnitRun(u, 3, args, impl.MaxFuel)
	for _, level := range []int64{0, 4} {
		g, c := impl.Compile(u, 3, level), impl.Registers(u, 3, level)
		if int(c.Regs) > len(g.Nodes)+1 || level == 0 && c.Regs < impl.MaxLocals || len(c.Ins) < 10000 {
			t.Errorf("level %d: %d registers, %d instructions", level, c.Regs, len(c.Ins))
		}
		o := impl.RegRun(u, level, 3, args, impl.MaxFuel)
		if o.Code != impl.UnitFuel {
			whole.Steps = o.Steps
			same(t, "the greatest run", o, whole)
		}
	}
}

// As many numbers as there may be that live at once, on the stack and as what is shared, and as many calls of a small function, each filled.
func TestTheMostThatLive(t *testing.T) {
	t.Parallel()
	lines := []string{"(I)I 1"}
	for k := range impl.MaxStack - 1 {
		lines = append(lines, fmt.Sprint("const I ", k))
	}
	lines = append(append(lines, "load I 0"), words(strings.Repeat("xor ", impl.MaxStack-1))...)
	u := unitTold("", strings.ReplaceAll(strings.Join(append(lines, "return I"), " / "), "xor", "xor I"))
	same(t, "on the stack", impl.Registers(u, 0, 0).Regs, impl.MaxStack)
	made, used := "", ""
	for k := range (impl.MaxCode - 6) / 4 {
		made += fmt.Sprintf("const I %d / pop / ", k+2)
		used += fmt.Sprintf("const I %d / xor I / ", k+2)
	}
	u = unitTold("", "(I)I 1 / again: / "+made+"load I 0 / if eq again / load I 0 / "+used+"store I 0 / goto again")
	for level, want := range []int64{2, 2, (impl.MaxCode-6)/4 + 1} {
		same(t, "constants of a loop", impl.Registers(u, 0, int64(level)).Regs, want)
		o := impl.RegRun(u, int64(level), 0, []int64{5}, impl.MaxFuel)
		same(t, "for ever", fmt.Sprint(o.Code, o.Steps), fmt.Sprint(impl.UnitFuel, impl.MaxFuel))
	}
	small := "(I)I 1 / load I 0" + strings.Repeat(" / dup / add I", 19) + " / return I"
	u = unitTold("", "(I)I 1 / load I 0"+strings.Repeat(" / call 1", impl.MaxCode-2)+" / return I", small)
	c := impl.Registers(u, 0, 4)
	same(t, "filled", []int64{c.Regs, int64(len(c.Ins))}, []int64{1, 1 + 19*(impl.MaxCode-2) + 2})
	got, want := impl.RegRun(u, 4, 0, []int64{-7}, impl.MaxFuel), impl.UnitRun(u, 0, []int64{-7}, impl.MaxFuel)
	want.Steps = int64(len(c.Ins))
	same(t, "a run", got, want)
}

// Each function calls the next one, as deep as there may be frames.
func TestTheMostFunctions(t *testing.T) {
	t.Parallel()
	funcs := []string{}
	for k := range impl.MaxMany {
		body := strings.Repeat("load I 0 / load I 1 / store I 0 / store I 1 / inc 2 -1 / load I 2 / if gt a / ", 50)
		funcs = append(funcs, fmt.Sprintf("(I,I,I)I 3 / inc 2 -1 / load I 2 / if le out / a: / %sload I 0 / load I 1 / load I 2 / call %d / load I 1 / sub I / return I / out: / load I 0 / return I", body, (k+1)%impl.MaxMany))
	}
	u := unitTold("", funcs...)
	args := []int64{10, 3, 2}
	whole := impl.UnitRun(u, 0, args, impl.MaxFuel)
	for level := range int64(5) {
		o := impl.RegRun(u, level, 0, args, impl.MaxFuel)
		whole.Steps = o.Steps
		same(t, fmt.Sprint("level ", level), o, whole)
	}
}
