package tests

import (
	"fmt"
	"slices"
	"strings"
	"testing"

	"loop.example/g00032/impl"
)

// shownUnitOut has all that such an answer has but its steps: the code, what it gave, behind a | the globals, behind a : the lines of the trace.
func shownUnitOut(o impl.UnitOut) string {
	out := []string{[]string{"done", "args", "fuel", "arith", "deep"}[o.Code], fmt.Sprint(o.N), "|"}
	for _, n := range o.Globals {
		out = append(out, fmt.Sprint(n))
	}
	return strings.Join(append(append(out, ":"), o.Trace...), " ")
}

// unitRan gives the answer with all fuel that there may be, and looks that it is the same with just enough, that one less is too little, and that the class runs so.
func unitRan(t *testing.T, u impl.Unit, f int64, args ...int64) impl.UnitOut {
	t.Helper()
	o := impl.UnitRun(u, f, args, impl.MaxFuel)
	if o.Code == impl.UnitArgs {
		same(t, "refused", o, impl.UnitOut{Code: impl.UnitArgs})
		return o
	}
	fuels := []int64{0, o.Steps / 3, o.Steps - 1, o.Steps, o.Steps + 1, impl.MaxFuel}
	for _, fuel := range fuels {
		if fuel < 0 || fuel > impl.MaxFuel {
			continue
		}
		less := impl.UnitRun(u, f, args, fuel)
		if fuel >= o.Steps {
			same(t, fmt.Sprint("with ", fuel), less, o)
		} else if less.Code != impl.UnitFuel || less.N != 0 || less.Steps != fuel || len(less.Globals) != len(u.Globals) || len(less.Trace) > len(o.Trace) || !slices.Equal(less.Trace, o.Trace[:len(less.Trace)]) {
			t.Errorf("with %d of %d steps: %v, in the end %v", fuel, o.Steps, less, o)
		}
		testAsClass(t, u, f, args, fuel, less)
	}
	return o
}

// testAsClass looks that an answer is what Run, and a look at the state in the end, say of the unit's class.
func testAsClass(t *testing.T, u impl.Unit, f int64, args []int64, fuel int64, got impl.UnitOut) {
	t.Helper()
	cs := []impl.Class{impl.UnitClass(u)}
	if f < 0 || f >= int64(len(u.Funcs)) || len(impl.Params(u.Funcs[f].Sig)) != len(args) {
		same(t, "no such call", got, impl.UnitOut{Code: impl.UnitArgs})
		return
	}
	values := []impl.Value{}
	for k, typ := range impl.Params(u.Funcs[f].Sig) {
		values = append(values, impl.Value{Kind: impl.KindOf(typ), N: args[k]})
	}
	name, sig := fmt.Sprint("f", f), u.Funcs[f].Sig
	o := impl.Run(cs, "U", name, sig, values, fuel)
	want := impl.UnitOut{Trace: o.Trace, Steps: o.Steps, N: o.Value.N}
	switch {
	case o.Code == impl.RunArgs || o.Code == impl.RunVerify:
		want.Code = impl.UnitArgs
	case o.Code == impl.RunFuel:
		want.Code = impl.UnitFuel
	case o.Code == impl.RunThrown && o.Thrown == "ArithError":
		want.Code = impl.UnitArith
	case o.Code == impl.RunThrown && o.Thrown == "SizeError":
		want.Code = impl.UnitDeep
	case o.Code != impl.RunOk:
		t.Errorf("the class runs to %v", o)
	}
	for _, s := range impl.SnapshotAt(cs, "U", name, sig, values, nil, o.Steps).Statics {
		if want.Code != impl.UnitArgs {
			want.Globals = append(want.Globals, s.Value.N)
		}
	}
	if !alike(got, want) {
		t.Errorf("f%d of %v with %d: %v, but the class says %v", f, args, fuel, got, want)
	}
}

// unitDoes looks for the end of a run of the first function.
func unitDoes(t *testing.T, u impl.Unit, steps int64, want string, args ...int64) {
	t.Helper()
	o := unitRan(t, u, 0, args...)
	if got := shownUnitOut(o); got != want || o.Steps != steps {
		t.Errorf("%v: %s behind %d steps\nnot %s behind %d", args, got, o.Steps, want, steps)
	}
}

func TestUnitRunsToTheEnd(t *testing.T) {
	unitDoes(t, unitTold("", "()V 0 / return"), 1, "done 0 | :")
	unitDoes(t, unitTold("", "()I 0 / const I -2147483648 / return I"), 2, "done -2147483648 | :")
	unitDoes(t, unitTold("", "()J 0 / const J -9223372036854775808 / return J"), 2, "done -9223372036854775808 | :")
	unitDoes(t, unitTold("", "(I,J,I)J 3 / load J 1 / load I 0 / load I 2 / sub I / conv I J / add J / return J"), 7, "done 1000000000095 | :", 5, 1000000000100, 10)
	// V gives nothing, whatever was there.
	unitDoes(t, unitTold("I", "(I)V 1 / load I 0 / dup / put 0 / call -1 / return"), 5, "done 0 | 7 : 7", 7)
	// All globals begin as 0, and each has its own kind.
	unitDoes(t, unitTold("I J I J"), 0, "args 0 | :")
	unitDoes(t, unitTold("I J I J", "()J 0 / get 0 / call -1 / get 1 / call -2 / const I 2147483647 / put 2 / const J 9223372036854775807 / put 3 / get 3 / const J 1 / add J / dup / put 1 / return J"), 14,
		"done -9223372036854775808 | 0 -9223372036854775808 2147483647 9223372036854775807 : 0 0")
	unitDoes(t, unitTold("I J", "()V 0 / get 0 / const I -1 / add I / dup / call -1 / put 0 / get 1 / const J -1 / sub J / dup / call -2 / put 1 / return"), 13, "done 0 | -1 1 : -1 1")
	sum := unitTold("I", "(I)I 2 / const I 0 / store I 1 / again: / load I 0 / if le out / load I 1 / load I 0 / add I / store I 1 / inc 0 -1 / goto again / out: / load I 1 / return I")
	unitDoes(t, sum, 86, "done 55 | 0 :", 10)
	unitDoes(t, sum, 6, "done 0 | 0 :", -3)
}

// A call has locals and a stack of its own, and those below stay as they are; a number that is called may be any.
func TestUnitRunsCalls(t *testing.T) {
	u := unitTold("I J", "(I,J)J 3 / const I 9 / store I 2 / load J 1 / load I 0 / load J 1 / call 2 / call -1 / load I 2 / call 1 / add J / return J",
		"(I)J 2 / inc 0 1 / load I 0 / dup / store I 1 / dup / put 0 / conv I J / dup / put 1 / return J",
		"(I,J)I 4 / load I 0 / load J 1 / conv J I / dup / store I 2 / sub I / return I")
	unitDoes(t, u, 28, "done 110 | 10 10 : -95", 5, 100)
	o := unitRan(t, u, 1, -1)
	same(t, "f1", shownUnitOut(o), "done 0 | 0 0 :")
	o = unitRan(t, u, 2, 1, 1<<32+2)
	same(t, "f2", shownUnitOut(o), "done -1 | 0 0 :")
	fib := unitTold("", "(I)I 1 / load I 0 / const I 2 / ifint lt small / load I 0 / const I 1 / sub I / call 0 / load I 0 / const I 2 / sub I / call 0 / add I / return I / small: / load I 0 / return I")
	unitDoes(t, fib, 88*13+89*5, "done 55 | :", 10)
	odd := unitTold("", "(I)I 1 / load I 0 / if eq no / inc 0 -1 / load I 0 / call 1 / return I / no: / const I 0 / return I", "(I)I 1 / load I 0 / if eq yes / inc 0 -1 / load I 0 / call 0 / return I / yes: / const I 1 / return I")
	unitDoes(t, odd, 7*6+4, "done 1 | :", 7)
	unitDoes(t, odd, 8*6+4, "done 0 | :", 8)
	// The last of the most.
	most := unitTold(strings.Repeat("J ", impl.MaxMany), "()J 0 / call 39 / get 39 / return J")
	for range impl.MaxMany - 2 {
		most.Funcs = append(most.Funcs, unitTold("", "()V 0 / goto 0").Funcs...)
	}
	most.Funcs = append(most.Funcs, unitTold("", "()V 0 / const J 77 / put 39 / return").Funcs...)
	unitDoes(t, most, 6, "done 77 |"+strings.Repeat(" 0", impl.MaxMany-1)+" 77 :")
}

func TestUnitArgs(t *testing.T) {
	u := unitTold("I J", "(I,J)J 2 / load I 0 / call -1 / load J 1 / return J", "()I 0 / const I 3 / return I", "(I)V 1 / return")
	refusedUnit := func(why string, u impl.Unit, f int64, args []int64, fuel int64) {
		t.Helper()
		same(t, why, impl.UnitRun(u, f, args, fuel), impl.UnitOut{Code: impl.UnitArgs})
	}
	takenUnit := func(why string, f int64, args []int64, fuel int64, want string) {
		t.Helper()
		same(t, why, shownUnitOut(impl.UnitRun(u, f, args, fuel)), want)
	}
	for _, f := range []int64{minLong, -2, -1, 3, 4, 1 << 32, maxLong} {
		refusedUnit("no function", u, f, nil, 100)
		refusedUnit("no function", u, f, []int64{1}, 100)
		refusedUnit("no functions", impl.Unit{}, f, nil, 100)
	}
	refusedUnit("no functions", impl.Unit{}, 0, nil, 0)
	takenUnit("the first", 0, []int64{1, 2}, 100, "done 2 | 0 0 : 1")
	takenUnit("the last", 2, []int64{1}, 100, "done 0 | 0 0 :")
	for n := range 10 {
		args := make([]int64, n)
		if n != 2 {
			refusedUnit("other arguments", u, 0, args, 100)
		}
		if n != 0 {
			refusedUnit("other arguments", u, 1, args, 100)
		}
		if n != 1 {
			refusedUnit("other arguments", u, 2, args, 100)
		}
	}
	refusedUnit("very many arguments", u, 1, make([]int64, 1<<20), 100)
	takenUnit("no arguments", 1, []int64{}, 100, "done 3 | 0 0 :")
	for _, n := range []int64{minLong, minInt - 1, maxInt + 1, 1 << 32, maxLong} {
		refusedUnit("not of 32 bits", u, 0, []int64{n, 0}, 100)
		refusedUnit("not of 32 bits", u, 2, []int64{n}, 100)
		takenUnit("of 64 bits", 0, []int64{0, n}, 100, fmt.Sprintf("done %d | 0 0 : 0", n))
	}
	for _, n := range []int64{minInt, -1, 0, maxInt} {
		takenUnit("of 32 bits", 0, []int64{n, n}, 100, fmt.Sprintf("done %d | 0 0 : %d", n, n))
	}
	for _, fuel := range []int64{minLong, -1, impl.MaxFuel + 1, maxLong} {
		refusedUnit("no fuel that can be", u, 1, nil, fuel)
	}
	takenUnit("no fuel", 1, nil, 0, "fuel 0 | 0 0 :")
	takenUnit("all fuel", 1, nil, impl.MaxFuel, "done 3 | 0 0 :")
	// What is wrong in one function, or in a global, is wrong for all.
	for why, change := range map[string]func(u *impl.Unit){
		"a global": func(u *impl.Unit) { u.Globals[1] = "D" }, "an instruction": func(u *impl.Unit) { u.Funcs[2].Code[0].Op = impl.OpThrow }, "a number": func(u *impl.Unit) { u.Funcs[0].Code[1].A = 3 }, "a signature": func(u *impl.Unit) { u.Funcs[2].Sig = "(D)V" },
		"no code": func(u *impl.Unit) { u.Funcs[2].Code = nil }, "locals": func(u *impl.Unit) { u.Funcs[2].Locals = 0 }, "a shape": func(u *impl.Unit) { u.Funcs[2].Code = unitTold("", "()V 1 / load J 0 / pop / return").Funcs[0].Code },
		"the stack": func(u *impl.Unit) { u.Funcs[2].Code = unitTold("", "()V 1 / pop / return").Funcs[0].Code }, "the end": func(u *impl.Unit) { u.Funcs[2].Code = unitTold("", "()V 1 / call 1").Funcs[0].Code },
	} {
		wrong := unitTold("I J", "(I,J)J 2 / load I 0 / call -1 / load J 1 / return J", "()I 0 / const I 3 / return I", "(I)V 1 / return")
		change(&wrong)
		for f, args := range [][]int64{{1, 2}, nil, {1}} {
			refusedUnit(why, wrong, int64(f), args, 100)
		}
	}
}

func TestUnitFuel(t *testing.T) {
	u := unitTold("I J", "(I)I 1 / load I 0 / dup / put 0 / dup / call -1 / call 1 / const J 5 / put 1 / return I", "(I)I 1 / const I 8 / call -1 / load I 0 / return I")
	rows := []string{"0 0 :", "0 0 :", "0 0 :", "7 0 :", "7 0 :", "7 0 : 7", "7 0 : 7", "7 0 : 7", "7 0 : 7 8", "7 0 : 7 8", "7 0 : 7 8", "7 0 : 7 8", "7 5 : 7 8"}
	for fuel, row := range rows {
		same(t, fmt.Sprint("fuel ", fuel), impl.UnitRun(u, 0, []int64{7}, int64(fuel)).Steps, int64(fuel))
		same(t, fmt.Sprint("fuel ", fuel), shownUnitOut(impl.UnitRun(u, 0, []int64{7}, int64(fuel))), "fuel 0 | "+row)
	}
	for _, fuel := range []int64{13, 14, impl.MaxFuel} {
		same(t, "enough", shownUnitOut(impl.UnitRun(u, 0, []int64{7}, fuel)), "done 7 | 7 5 : 7 8")
		same(t, "enough", impl.UnitRun(u, 0, []int64{7}, fuel).Steps, 13)
	}
	unitDoes(t, unitTold("J", "()V 0 / again: / goto again"), impl.MaxFuel, "fuel 0 | 0 :")
	unitDoes(t, unitTold("J", "()J 0 / again: / get 0 / const J 3 / add J / put 0 / goto again"), impl.MaxFuel, fmt.Sprintf("fuel 0 | %d :", 3*impl.MaxFuel/5))
	// Of a fault no step is behind it, but its own one is needed.
	zero := unitTold("I", "()I 0 / const I 1 / const I 0 / div I / return I")
	for fuel := range int64(6) {
		want := impl.UnitOut{Code: impl.UnitFuel, Globals: []int64{0}, Steps: fuel}
		if fuel >= 3 {
			want = impl.UnitOut{Code: impl.UnitArith, Globals: []int64{0}, Steps: 3}
		}
		same(t, fmt.Sprint("a fault with fuel ", fuel), impl.UnitRun(zero, 0, nil, fuel), want)
	}
}

func TestUnitArith(t *testing.T) {
	for _, k := range []string{"I", "J"} {
		for _, op := range []string{"div", "rem"} {
			u := unitTold("I "+k, fmt.Sprintf("(%s,%s)%s 2 / const I 4 / put 0 / const I 6 / call -1 / load %s 0 / load %s 1 / %s %s / dup / put 1 / return %s", k, k, k, k, k, op, k, k))
			for _, a := range []int64{0, 1, -1, minInt, maxInt} {
				unitDoes(t, u, 7, "arith 0 | 4 0 : 6", a, 0)
			}
			result := map[string]int64{"div": -3, "rem": -1}[op]
			unitDoes(t, u, 10, fmt.Sprintf("done %d | 4 %d : 6", result, result), -7, 2)
		}
	}
	least := map[string]int64{"I": minInt, "J": minLong}
	for k, n := range least {
		u := unitTold("", fmt.Sprintf("(%s,%s)%s 2 / load %s 0 / load %s 1 / div %s / return %s", k, k, k, k, k, k, k))
		unitDoes(t, u, 4, fmt.Sprintf("done %d | :", n), n, -1)
		unitDoes(t, u, 3, "arith 0 | :", n, 0)
	}
	// In a call it ends all, too: what stands below does not go on.
	u := unitTold("J", "()J 0 / const J 2 / put 0 / const J 1 / call 1 / return J", "(J)J 1 / load J 0 / get 0 / const J 2 / sub J / rem J / const J 3 / put 0 / return J")
	unitDoes(t, u, 9, "arith 0 | 2 :")
}

// A frame is left when its call returns: MaxDepth of them may stand at a time, and there may be any number one behind the other.
func TestUnitDeep(t *testing.T) {
	down := unitTold("I", "(I)I 1 / get 0 / const I 1 / add I / put 0 / load I 0 / if le out / load I 0 / const I 1 / sub I / call 0 / return I / out: / const I 5 / return I")
	unitDoes(t, down, 8, "done 5 | 1 :", 0)
	unitDoes(t, down, (impl.MaxDepth-2)*11+8, fmt.Sprintf("done 5 | %d :", impl.MaxDepth-1), impl.MaxDepth-2)
	unitDoes(t, down, (impl.MaxDepth-1)*11+8, fmt.Sprintf("done 5 | %d :", impl.MaxDepth), impl.MaxDepth-1)
	unitDoes(t, down, impl.MaxDepth*10, fmt.Sprintf("deep 0 | %d :", impl.MaxDepth), impl.MaxDepth)
	unitDoes(t, down, impl.MaxDepth*10, fmt.Sprintf("deep 0 | %d :", impl.MaxDepth), maxInt)
	unitDoes(t, unitTold("", "()V 0 / call 0 / return"), impl.MaxDepth, "deep 0 | :")
	// Printing has no frame.
	prints := unitTold("", "(I)V 1 / load I 0 / if le out / load I 0 / const I 1 / sub I / call 0 / return / out: / const I 1 / call -1 / const J 2 / call -2 / return")
	unitDoes(t, prints, (impl.MaxDepth-1)*7+7, "done 0 | : 1 2", impl.MaxDepth-1)
	wide := unitTold("I", "(I)V 1 / again: / call 1 / inc 0 -1 / load I 0 / if gt again / return", "()V 0 / get 0 / const I 1 / add I / put 0 / return")
	unitDoes(t, wide, 300*9+1, "done 0 | 300 :", 300)
}

// What is printed are numbers in decimal, of both kinds, in order.
func TestUnitTrace(t *testing.T) {
	u := unitTold("", "(I,J)V 2 / load I 0 / call -1 / load J 1 / call -2 / load J 1 / conv J I / call -1 / load I 0 / conv I J / call -2 / return")
	unitDoes(t, u, 11, "done 0 | : 2147483647 9223372036854775807 -1 2147483647", maxInt, maxLong)
	unitDoes(t, u, 11, "done 0 | : -2147483648 -9223372036854775808 0 -2147483648", minInt, minLong)
	unitDoes(t, u, 11, "done 0 | : -1 0 0 -1", -1, 0)
	many := unitTold("", "()V 0 / again: / const J -3 / call -2 / goto again")
	o := impl.UnitRun(many, 0, nil, impl.MaxFuel)
	if o.Code != impl.UnitFuel || len(o.Trace) != (impl.MaxFuel+1)/3 || slices.ContainsFunc(o.Trace, func(s string) bool { return s != "-3" }) {
		t.Errorf("%d lines", len(o.Trace))
	}
}
