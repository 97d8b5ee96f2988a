package tests

import (
	"fmt"
	"math"
	"reflect"
	"slices"
	"strings"
	"sync"
	"testing"

	"loop.example/g00032/impl"
)

// Every function of chapter 15 answers at every argument: a panic, or one that never ends, fails the run.

func oddUnits() []impl.Unit {
	many, long := 1<<16, strings.Repeat("[", 100000)
	out := []impl.Unit{
		{}, {Globals: []string{}, Funcs: []impl.Func{}}, {Globals: make([]string, many)}, {Funcs: make([]impl.Func, many)}, {Funcs: make([]impl.Func, 40)}, {Globals: []string{long}}, {Funcs: []impl.Func{{Sig: long}}},
		{Funcs: []impl.Func{{Sig: "()V", Code: make([]impl.Ins, many)}}}, {Funcs: []impl.Func{{Sig: "()V", Code: pops(many)}}}, {Funcs: []impl.Func{{Sig: "(" + strings.Repeat("I,", many) + "I)V", Locals: maxLong, Code: pops(1)}}},
		{Funcs: []impl.Func{{Sig: "(I)V", Locals: 1, Code: []impl.Ins{{Op: impl.OpLoad, Kind: 1}, {Op: impl.OpSwitch, Table: make([]int64, many)}}}}},
	}
	base := func() impl.Unit {
		return unitTold("I J", "(I,J)J 3 / load I 0 / if ne on / load J 1 / return J / on: / load I 0 / switch 3 on on / const J 5 / conv J I / put 0 / get 1 / call -2 / inc 2 1 / cmp J", "()V 0 / call 0 / return")
	}
	for _, n := range extremes() {
		for _, s := range []string{"", "I", "()V", "(I)I", "\xff", long} {
			u := base()
			spread(reflect.ValueOf(&u).Elem(), n, s)
			out = append(out, u)
		}
		for k := range base().Funcs[0].Code {
			for _, change := range []func(i *impl.Ins){func(i *impl.Ins) { i.Op = n }, func(i *impl.Ins) { i.Kind = n }, func(i *impl.Ins) { i.A = n }, func(i *impl.Ins) { i.B = n }, func(i *impl.Ins) { i.Table = []int64{n} }} {
				u := base()
				change(&u.Funcs[0].Code[k])
				out = append(out, u)
			}
		}
		u := base()
		u.Funcs[0].Locals = n
		out = append(out, u)
	}
	return out
}

func TestUnitsAnswerEverywhere(t *testing.T) {
	t.Parallel()
	for k, u := range oddUnits() {
		c, ok := impl.UnitClass(u), impl.UnitOk(u)
		if c.Name != "U" && !alike(c, impl.Class{}) || ok && !impl.ClassOk(c) {
			t.Errorf("unit %d: %v, and its class is %.200q", k, ok, fmt.Sprint(c))
		}
		for _, f := range []int64{0, 1, minLong, -1, 2, maxLong} {
			for _, args := range [][]int64{nil, {1, 2}, {minLong, maxLong}} {
				o := impl.UnitRun(u, f, args, 50)
				if o.Code < 0 || o.Code > 4 || o.Steps < 0 || o.Steps > 50 || !ok && o.Code != impl.UnitArgs || o.Code == impl.UnitArgs && !alike(o, impl.UnitOut{Code: 1}) || o.Code != impl.UnitArgs && len(o.Globals) != len(u.Globals) {
					t.Errorf("unit %d, f%d of %v: %v", k, f, args, o)
				}
			}
		}
	}
}

func TestUnitRunsAnswerEverywhere(t *testing.T) {
	t.Parallel()
	u := unitTold("J", "(I,J)J 2 / load I 0 / conv I J / load J 1 / div J / dup / put 0 / return J", "()V 0 / again: / goto again")
	for _, n := range extremes() {
		for _, m := range extremes() {
			for _, fuel := range []int64{math.MinInt64, -1, 0, 3, 100, impl.MaxFuel + 1, math.MaxInt64, n} {
				testAsClass(t, u, 0, []int64{n, m}, fuel, impl.UnitRun(u, 0, []int64{n, m}, fuel))
			}
			same(t, "no function", impl.UnitRun(u, max(n, 2), nil, m), impl.UnitOut{Code: impl.UnitArgs})
			same(t, "no function", impl.UnitRun(u, min(n, -1), []int64{m, m}, 10), impl.UnitOut{Code: impl.UnitArgs})
		}
		same(t, "many arguments", impl.UnitRun(u, n, make([]int64, 1<<18), 10), impl.UnitOut{Code: impl.UnitArgs})
	}
}

func TestUnitOfAnswersEverywhere(t *testing.T) {
	t.Parallel()
	spaces := oddSpaces()
	for _, m := range oddMethods() {
		m.Flags |= impl.FlagStatic
		spaces = append(spaces, []impl.Class{{Name: "B", Super: "Object", Methods: []impl.Method{m}}})
	}
	for k, cs := range spaces {
		holds := impl.SpaceOk(cs) && len(impl.LinkFaults(cs)) == 0
		for _, class := range []string{"", "A", "B", "N100", "Object", "System", "R.one$", "\xff", "@A", strings.Repeat("B", 100000)} {
			u := impl.UnitOf(cs, class)
			if !holds && !alike(u, impl.Unit{}) || impl.UnitClass(u).Name != "U" || !impl.ClassOk(impl.UnitClass(u)) {
				t.Errorf("space %d, %.40q: %.200q", k, class, fmt.Sprint(u))
			}
		}
	}
}

// askUnits asks all functions of the chapter.
func askUnits(u impl.Unit, cs []impl.Class, f int64, args []int64, fuel int64) []any {
	return []any{impl.UnitClass(u), impl.UnitOk(u), impl.UnitOf(cs, "A"), impl.UnitOf(cs, "U"), impl.UnitRun(u, f, args, fuel)}
}

type unitCase struct {
	u    impl.Unit
	cs   []impl.Class
	f    int64
	args []int64
	fuel int64
}

// someUnitCases are such as can be, and some that can't.
func someUnitCases() []unitCase {
	b := builder{numbers{state: 1550}}
	out := []unitCase{{}, {u: impl.Unit{Globals: []string{}, Funcs: []impl.Func{{Code: []impl.Ins{}}}}, args: []int64{1}}, {u: unitTold("I D J", "()V 0 / return"), cs: told("class A Object" + oneField + nMethod)}}
	for k := range 24 {
		u := b.unit()
		f := int64(b.below(len(u.Funcs)))
		c := unitCase{u: u, cs: []impl.Class{b.partClass(), impl.UnitClass(u)}, f: f, args: b.unitArgs(u.Funcs[f].Sig), fuel: 200}
		if k%3 == 0 {
			c.u = b.spoiltUnit(c.u)
		}
		out = append(out, c)
	}
	table := unitTold("", "(I)I 1 / load I 0 / switch 0 a b c a a / a: / const I 1 / return I / b: / const I 2 / call -1 / c: / const I 3 / return I")
	return append(out, unitCase{u: table, cs: []impl.Class{impl.UnitClass(table)}, args: []int64{1}, fuel: 100})
}

func (c unitCase) ask() []any { return askUnits(c.u, c.cs, c.f, c.args, c.fuel) }

// roomy has spare room behind each list of the arguments.
func (c unitCase) roomy() unitCase {
	c.u = roomy(reflect.ValueOf(c.u)).Interface().(impl.Unit)
	c.cs = roomy(reflect.ValueOf(c.cs)).Interface().([]impl.Class)
	c.args = roomy(reflect.ValueOf(c.args)).Interface().([]int64)
	return c
}

func (c unitCase) full() []any {
	return []any{full(reflect.ValueOf(c.u)), full(reflect.ValueOf(c.cs)), full(reflect.ValueOf(c.args))}
}

func TestUnitArgumentsStay(t *testing.T) {
	t.Parallel()
	for k, c := range someUnitCases() {
		given := c.roomy()
		before := given.full()
		got := given.ask()
		if fmt.Sprint(got) != fmt.Sprint(c.ask()) {
			t.Errorf("case %d: spare room changes an answer", k)
		}
		if !reflect.DeepEqual(before, given.full()) {
			t.Errorf("case %d: arguments are not as they were", k)
		}
		spoilAll(got)
		if !reflect.DeepEqual(before, given.full()) {
			t.Errorf("case %d: arguments are to be seen in an answer", k)
		}
	}
}

func TestUnitAnswersAreNew(t *testing.T) {
	t.Parallel()
	instructions, targets, globals, lines := 0, 0, 0, 0
	for k, c := range someUnitCases() {
		c = c.roomy()
		one, two := c.ask(), c.ask()
		apart(t, fmt.Sprint("case ", k), append(append([]any{c.u, c.cs, c.args}, one...), two...)...)
		for _, f := range one[3].(impl.Unit).Funcs {
			instructions += len(f.Code)
			for _, i := range f.Code {
				targets += len(i.Table)
			}
		}
		globals += len(one[4].(impl.UnitOut).Globals)
		lines += len(one[4].(impl.UnitOut).Trace)
		want := fmt.Sprint(two)
		spoilAll(one)
		if fmt.Sprint(two) != want || fmt.Sprint(c.ask()) != want {
			t.Errorf("case %d: an answer is to be seen in another", k)
		}
	}
	if instructions < 500 || targets < 50 || globals < 10 || lines < 10 {
		t.Errorf("%d instructions, %d targets, %d globals, %d lines", instructions, targets, globals, lines)
	}
}

// An answer hangs on its arguments alone, whatever was asked ahead of it or is asked beside it.
func TestUnitAnswersTheSameAgain(t *testing.T) {
	t.Parallel()
	cases := someUnitCases()
	want := []string{}
	for _, c := range cases {
		want = append(want, fmt.Sprint(c.ask()))
	}
	var beside sync.WaitGroup
	for n := range 4 {
		beside.Go(func() {
			for k := range cases {
				k = (k*5 + n) % len(cases)
				if fmt.Sprint(cases[k].ask()) != want[k] {
					t.Errorf("case %d: another answer than before", k)
				}
			}
		})
	}
	beside.Wait()
}

// As many functions as there may be, each of as much code, with as many targets at each instruction.
func TestTheGreatestUnit(t *testing.T) {
	t.Parallel()
	u := impl.Unit{Globals: words(strings.Repeat("I J ", impl.MaxMany/2))}
	for n := range int64(impl.MaxMany) {
		f := impl.Func{Sig: "(I,J,I,J,I,J,I,J)I", Locals: impl.MaxLocals}
		for len(f.Code) < impl.MaxCode-2 {
			next := int64(len(f.Code)) + 2
			jump := impl.Ins{Op: impl.OpSwitch, A: next}
			for k := range int64(impl.MaxTable) {
				jump.Table = append(jump.Table, min(next+2*k, impl.MaxCode-2))
			}
			f.Code = append(f.Code, impl.Ins{Op: impl.OpLoad, Kind: impl.KindInt}, jump)
		}
		f.Code = append(f.Code, impl.Ins{Op: impl.OpLoad, Kind: impl.KindInt, A: n % 4 * 2}, impl.Ins{Op: impl.OpReturn, Kind: impl.KindInt})
		u.Funcs = append(u.Funcs, f)
	}
	if !testUnit(t, u) {
		t.Fatal("the greatest unit is not right")
	}
	o := impl.UnitRun(u, impl.MaxMany-1, []int64{maxInt, 0, 1, 0, 2, 0, 3, 0}, impl.MaxFuel)
	same(t, "by the default", []int64{o.Code, o.N, o.Steps}, []int64{impl.UnitDone, 3, impl.MaxCode})
	o = impl.UnitRun(u, 2, []int64{99, 0, 1, 0, 2, 0, 3, 0}, impl.MaxFuel)
	same(t, "by the last of the table", []int64{o.Code, o.N, o.Steps}, []int64{impl.UnitDone, 2, 6})
}

// The longest row of methods of which none is taken, by as many calls as there may be.
func TestTheLongestSearch(t *testing.T) {
	t.Parallel()
	c := impl.Class{Name: "A", Super: "Object"}
	for k := range impl.MaxMany {
		m := impl.Method{Name: fmt.Sprint("m", k), Sig: "()V", Flags: impl.FlagStatic}
		for range impl.MaxCode - 1 {
			m.Code = append(m.Code, impl.Ins{Op: impl.OpCall, B: 1, Class: "A", Name: m.Name, Type: "()V"})
		}
		last := impl.Ins{Op: impl.OpCall, B: 1, Class: "A", Name: fmt.Sprint("m", k+1), Type: "()V"}
		c.Methods = append(c.Methods, m)
		c.Methods[k].Code = append(c.Methods[k].Code, last)
	}
	same(t, "none", impl.UnitOf([]impl.Class{c}, "A"), impl.Unit{})
	c.Methods[impl.MaxMany-1].Code = slices.Repeat([]impl.Ins{{Op: impl.OpReturn}}, impl.MaxCode)
	same(t, "all", len(impl.UnitOf([]impl.Class{c}, "A").Funcs), impl.MaxMany)
}
