package tests

import (
	"fmt"
	"slices"
	"strings"
	"testing"

	"loop.example/g00032/impl"
)

// levelRun is GraphRun, or another one that goes by levels.
type levelRun func(u impl.Unit, level int64, f int64, args []int64, fuel int64) impl.UnitOut

// ran gives the answer with all fuel that there may be, and looks that it is the same with just enough, that one less is too little, and that each count of steps below costs so much.
func (run levelRun) ran(t *testing.T, u impl.Unit, level, f int64, args ...int64) impl.UnitOut {
	t.Helper()
	o := run(u, level, f, args, impl.MaxFuel)
	if o.Code == impl.UnitArgs {
		same(t, "refused", o, impl.UnitOut{Code: impl.UnitArgs})
		return o
	}
	for _, fuel := range []int64{0, 1, 2, 3, 4, 5, o.Steps / 3, o.Steps - 1, o.Steps, o.Steps + 1, impl.MaxFuel} {
		if fuel < 0 || fuel > impl.MaxFuel {
			continue
		}
		less := run(u, level, f, args, fuel)
		if fuel >= o.Steps {
			same(t, fmt.Sprint("with ", fuel), less, o)
		} else if less.Code != impl.UnitFuel || less.N != 0 || less.Steps != fuel || len(less.Globals) != len(u.Globals) || len(less.Trace) > len(o.Trace) || !slices.Equal(less.Trace, o.Trace[:len(less.Trace)]) {
			t.Errorf("with %d of %d steps: %v, in the end %v", fuel, o.Steps, less, o)
		}
	}
	return o
}

func graphsDo(t *testing.T, u impl.Unit, steps []int64, want string, args ...int64) {
	t.Helper()
	levelRun(impl.GraphRun).does(t, u, steps, want, args...)
}

// does looks for the end of runs of the first function, by each level: the steps are those of the levels from 0 on, the last one of all that are left.
func (run levelRun) does(t *testing.T, u impl.Unit, steps []int64, want string, args ...int64) {
	t.Helper()
	for level := range int64(5) {
		o := run.ran(t, u, level, 0, args...)
		if got := shownUnitOut(o); got != want || o.Steps != steps[min(int(level), len(steps)-1)] {
			t.Errorf("level %d, %v: %s behind %d steps\nnot %s behind %d", level, args, got, o.Steps, want, steps)
		}
	}
}

func TestGraphRunsToTheEnd(t *testing.T) {
	graphsDo(t, unitTold("", "()V 0 / return"), []int64{2}, "done 0 | :")
	graphsDo(t, unitTold("", "()I 0 / const I -2147483648 / return I"), []int64{2}, "done -2147483648 | :")
	graphsDo(t, unitTold("", "()J 0 / const J -9223372036854775808 / return J"), []int64{2}, "done -9223372036854775808 | :")
	graphsDo(t, unitTold("", "(I,J,I)J 3 / load J 1 / load I 0 / load I 2 / sub I / conv I J / add J / return J"), []int64{2}, "done 1000000000095 | :", 5, 1000000000100, 10)
	graphsDo(t, unitTold("I", "(I)V 1 / load I 0 / dup / put 0 / call -1 / return"), []int64{2}, "done 0 | 7 : 7", 7)
	graphsDo(t, unitTold("I J I J"), []int64{0}, "args 0 | :")
	graphsDo(t, unitTold("I J I J", "()J 0 / get 0 / call -1 / get 1 / call -2 / const I 2147483647 / put 2 / const J 9223372036854775807 / put 3 / get 3 / const J 1 / add J / dup / put 1 / return J"), []int64{2},
		"done -9223372036854775808 | 0 -9223372036854775808 2147483647 9223372036854775807 : 0 0")
	sum := unitTold("I", "(I)I 2 / const I 0 / store I 1 / again: / load I 0 / if le out / load I 1 / load I 0 / add I / store I 1 / inc 0 -1 / goto again / out: / load I 1 / return I")
	graphsDo(t, sum, []int64{24}, "done 55 | 0 :", 10)
	graphsDo(t, sum, []int64{4}, "done 0 | 0 :", -3)
	graphsDo(t, unitTold("", "(I)I 1 / const I 0 / if ne a / load I 0 / return I / a: / const I 3 / return I"), []int64{3}, "done 9 | :", 9)
	// A global is looked at where its node stands, whatever was put since.
	graphsDo(t, unitTold("I", "()I 0 / get 0 / const I 5 / put 0 / get 0 / const I 6 / put 0 / get 0 / const I 100 / mul I / add I / const I 100 / mul I / add I / return I"), []int64{2}, "done 60500 | 6 :")
}

// Phis of a block change all at once.
func TestGraphRunsPhis(t *testing.T) {
	swap := unitTold("", "(I,I,I)I 4 / a: / load I 2 / if le out / load I 0 / store I 3 / load I 1 / store I 0 / load I 3 / store I 1 / inc 2 -1 / goto a / out: / load I 0 / load I 1 / sub I / return I")
	for n, want := range []string{"done 7 | :", "done -7 | :", "done 7 | :", "done -7 | :"} {
		graphsDo(t, swap, []int64{3 + 2*int64(n)}, want, 10, 3, int64(n))
	}
	turn := unitTold("", "(I,I,I,I)V 5 / a: / load I 0 / call -1 / load I 1 / call -1 / load I 2 / call -1 / load I 3 / if le out / load I 0 / load I 1 / load I 2 / store I 1 / store I 0 / store I 2 / inc 3 -1 / goto a / out: / return")
	graphsDo(t, turn, []int64{9}, "done 0 | : 1 2 3 2 3 1 3 1 2 1 2 3", 1, 2, 3, 3)
	fib := unitTold("", "(I)J 3 / const J 0 / store J 1 / const J 1 / store J 2 / a: / load I 0 / if le out / load J 2 / load J 1 / load J 2 / add J / store J 2 / store J 1 / inc 0 -1 / goto a / out: / load J 1 / return J")
	graphsDo(t, fib, []int64{184}, "done 2880067194370816120 | :", 90)
	// The same place by three ways, two of them of one block.
	ways := unitTold("", "(I)I 2 / const I 1 / store I 1 / load I 0 / if eq b / const I 2 / store I 1 / load I 0 / switch 1 b a b c / a: / const I 3 / store I 1 / goto b / c: / const I 4 / store I 1 / b: / load I 1 / load I 0 / const I 10 / mul I / add I / return I")
	for n, want := range []string{"1", "13", "22", "34", "42"} {
		o := impl.GraphRun(ways, 0, 0, []int64{int64(n)}, 100)
		same(t, "by its way", fmt.Sprint(o.N), want)
		graphsDo(t, ways, []int64{[]int64{3, 5, 4, 5, 4}[n]}, "done "+want+" | :", int64(n))
	}
}

func TestGraphRunsBranches(t *testing.T) {
	for _, x := range graphConds[1:] {
		u := unitTold("", "(I,I)I 3 / const I 0 / store I 2 / load I 0 / if "+x+" a / inc 2 1 / a: / load I 0 / load I 1 / ifint "+x+" b / inc 2 10 / b: / load I 2 / return I")
		for _, a := range []int64{minInt, -1, 0, 1, maxInt} {
			for _, b := range []int64{minInt, -1, 0, 1, maxInt} {
				want := impl.UnitRun(u, 0, []int64{a, b}, 100)
				want.Steps = 4 + want.N%10 + want.N/10
				for level := range int64(5) {
					same(t, fmt.Sprint(x, a, b), impl.GraphRun(u, level, 0, []int64{a, b}, 100), want)
				}
			}
		}
	}
	u := unitTold("", "(I)I 1 / load I 0 / switch 2147483646 a b c b / a: / const I 5 / return I / b: / const I 6 / return I / c: / const I 7 / return I")
	for n, want := range map[int64]string{2147483645: "5", 2147483646: "6", 2147483647: "7", minInt: "5", minInt + 1: "5", 0: "5"} {
		graphsDo(t, u, []int64{3}, "done "+want+" | :", n)
	}
	u = unitTold("", "(I)I 1 / load I 0 / switch -2 a b c / a: / const I 5 / return I / b: / const I 6 / return I / c: / const I 7 / return I")
	for n, want := range map[int64]string{-3: "5", -2: "6", -1: "7", 0: "5", 1: "5", maxInt: "5", minInt: "5"} {
		graphsDo(t, u, []int64{3}, "done "+want+" | :", n)
	}
}

func TestGraphRunsCalls(t *testing.T) {
	u := unitTold("I J", "(I,J)J 3 / const I 9 / store I 2 / load J 1 / load I 0 / load J 1 / call 2 / call -1 / load I 2 / call 1 / add J / return J",
		"(I)J 2 / inc 0 1 / load I 0 / dup / store I 1 / dup / put 0 / conv I J / dup / put 1 / return J",
		"(I,J)I 4 / load I 0 / load J 1 / conv J I / dup / store I 2 / sub I / return I")
	graphsDo(t, u, []int64{6, 6, 6, 6, 2}, "done 110 | 10 10 : -95", 5, 100)
	fib := unitTold("", "(I)I 1 / load I 0 / const I 2 / ifint lt small / load I 0 / const I 1 / sub I / call 0 / load I 0 / const I 2 / sub I / call 0 / add I / return I / small: / load I 0 / return I")
	graphsDo(t, fib, []int64{177 * 3}, "done 55 | :", 10)
	odd := unitTold("", "(I)I 1 / load I 0 / if eq no / inc 0 -1 / load I 0 / call 1 / return I / no: / const I 0 / return I", "(I)I 1 / load I 0 / if eq yes / inc 0 -1 / load I 0 / call 0 / return I / yes: / const I 1 / return I")
	graphsDo(t, odd, []int64{24}, "done 1 | :", 7)
	graphsDo(t, odd, []int64{27}, "done 0 | :", 8)
	eight := unitTold("", "(J,I,J,I,J,I,J,I)J 8 / load I 7 / if le out / load J 6 / load I 1 / load J 0 / load I 3 / load J 2 / load I 5 / load J 4 / load I 7 / const I 1 / sub I / call 0 / return J / out: / load J 0 / load I 1 / conv I J / const J 10 / mul J / add J / return J")
	graphsDo(t, eight, []int64{3}, "done 21 | :", 1, 2, 3, 4, 5, 6, 7, 0)
	graphsDo(t, eight, []int64{6}, "done 27 | :", 1, 2, 3, 4, 5, 6, 7, 1)
	most := unitTold(strings.Repeat("J ", impl.MaxMany), "()J 0 / call 39 / get 39 / return J")
	for range impl.MaxMany - 2 {
		most.Funcs = append(most.Funcs, unitTold("", "()V 0 / goto 0").Funcs...)
	}
	most.Funcs = append(most.Funcs, unitTold("", "()V 0 / const J 77 / put 39 / return").Funcs...)
	graphsDo(t, most, []int64{4, 4, 4, 4, 2}, "done 77 |"+strings.Repeat(" 0", impl.MaxMany-1)+" 77 :")
}

func TestGraphRunArgs(t *testing.T) {
	u := unitTold("I J", "(I,J)J 2 / load I 0 / call -1 / load J 1 / return J", "()I 0 / const I 3 / return I", "(I)V 1 / return")
	for level := range int64(5) {
		refusedRun := func(why string, u impl.Unit, f int64, args []int64, fuel int64) {
			t.Helper()
			same(t, why, impl.GraphRun(u, level, f, args, fuel), impl.UnitOut{Code: impl.UnitArgs})
		}
		takenRun := func(why string, f int64, args []int64, fuel int64, want string) {
			t.Helper()
			same(t, why, shownUnitOut(impl.GraphRun(u, level, f, args, fuel)), want)
		}
		for _, f := range []int64{minLong, -2, -1, 3, 4, 1 << 32, maxLong} {
			refusedRun("no function", u, f, nil, 100)
			refusedRun("no function", u, f, []int64{1}, 100)
			refusedRun("no functions", impl.Unit{}, f, nil, 100)
		}
		refusedRun("no functions", impl.Unit{}, 0, nil, 0)
		takenRun("the first", 0, []int64{1, 2}, 100, "done 2 | 0 0 : 1")
		takenRun("the last", 2, []int64{1}, 100, "done 0 | 0 0 :")
		for n := range 10 {
			args := make([]int64, n)
			for f, params := range []int{2, 0, 1} {
				if n != params {
					refusedRun("other arguments", u, int64(f), args, 100)
				}
			}
		}
		takenRun("no arguments", 1, []int64{}, 100, "done 3 | 0 0 :")
		for _, n := range []int64{minLong, minInt - 1, maxInt + 1, 1 << 32, maxLong} {
			refusedRun("not of 32 bits", u, 0, []int64{n, 0}, 100)
			refusedRun("not of 32 bits", u, 2, []int64{n}, 100)
			takenRun("of 64 bits", 0, []int64{0, n}, 100, fmt.Sprintf("done %d | 0 0 : 0", n))
		}
		for _, n := range []int64{minInt, -1, 0, maxInt} {
			takenRun("of 32 bits", 0, []int64{n, n}, 100, fmt.Sprintf("done %d | 0 0 : %d", n, n))
		}
		for _, fuel := range []int64{minLong, -1, impl.MaxFuel + 1, maxLong} {
			refusedRun("no fuel that can be", u, 1, nil, fuel)
		}
		takenRun("no fuel", 1, nil, 0, "fuel 0 | 0 0 :")
		takenRun("all fuel", 1, nil, impl.MaxFuel, "done 3 | 0 0 :")
		for why, change := range map[string]func(u *impl.Unit){
			"a global": func(u *impl.Unit) { u.Globals[1] = "D" }, "an instruction": func(u *impl.Unit) { u.Funcs[2].Code[0].Op = impl.OpThrow }, "a number": func(u *impl.Unit) { u.Funcs[0].Code[1].A = 3 }, "a signature": func(u *impl.Unit) { u.Funcs[2].Sig = "(D)V" },
			"no code": func(u *impl.Unit) { u.Funcs[2].Code = nil }, "locals": func(u *impl.Unit) { u.Funcs[2].Locals = 0 }, "a shape": func(u *impl.Unit) { u.Funcs[2].Code = unitTold("", "()V 1 / load J 0 / pop / return").Funcs[0].Code },
			"the stack": func(u *impl.Unit) { u.Funcs[2].Code = unitTold("", "()V 1 / pop / return").Funcs[0].Code }, "the end": func(u *impl.Unit) { u.Funcs[2].Code = unitTold("", "()V 1 / call 1").Funcs[0].Code },
		} {
			wrong := unitTold("I J", "(I,J)J 2 / load I 0 / call -1 / load J 1 / return J", "()I 0 / const I 3 / return I", "(I)V 1 / return")
			change(&wrong)
			for f, args := range [][]int64{{1, 2}, nil, {1}} {
				refusedRun(why, wrong, int64(f), args, 100)
			}
		}
	}
	for _, level := range []int64{minLong, -2, -1, 5, 6, 1 << 32, maxLong} {
		same(t, "no level", impl.GraphRun(u, level, 1, nil, 100), impl.UnitOut{Code: impl.UnitArgs})
	}
}

// Each block that is entered costs one, block 0 too, in functions that are called, too; all of a block is done then.
func TestGraphRunFuel(t *testing.T) {
	u := unitTold("I J", "(I)I 1 / load I 0 / put 0 / load I 0 / call 1 / if eq out / const J 5 / put 1 / out: / load I 0 / call -1 / load I 0 / return I", "(I)I 1 / const I 8 / call -1 / load I 0 / if gt on / load I 0 / return I / on: / const I 9 / call -1 / load I 0 / return I")
	rows := []string{"0 0 :", "0 0 :", "7 0 :", "7 0 :", "7 0 : 8", "7 0 : 8 9", "7 5 : 8 9"}
	for level := range int64(5) {
		for fuel, row := range rows {
			o := impl.GraphRun(u, level, 0, []int64{7}, int64(fuel))
			same(t, fmt.Sprint("fuel ", fuel), o.Steps, int64(fuel))
			same(t, fmt.Sprint("fuel ", fuel), shownUnitOut(o), "fuel 0 | "+row)
		}
		for _, fuel := range []int64{7, 8, impl.MaxFuel} {
			o := impl.GraphRun(u, level, 0, []int64{7}, fuel)
			same(t, "enough", shownUnitOut(o), "done 7 | 7 5 : 8 9 7")
			same(t, "enough", o.Steps, 7)
		}
	}
	graphsDo(t, unitTold("J", "()V 0 / again: / goto again"), []int64{impl.MaxFuel}, "fuel 0 | 0 :")
	graphsDo(t, unitTold("J", "()J 0 / again: / get 0 / const J 3 / add J / put 0 / goto again"), []int64{impl.MaxFuel}, fmt.Sprintf("fuel 0 | %d :", 3*(impl.MaxFuel-1)))
	zero := unitTold("I", "()I 0 / const I 1 / const I 0 / div I / return I")
	for fuel := range int64(6) {
		want := impl.UnitOut{Code: impl.UnitFuel, Globals: []int64{0}, Steps: fuel}
		if fuel >= 2 {
			want = impl.UnitOut{Code: impl.UnitArith, Globals: []int64{0}, Steps: 2}
		}
		for level := range int64(5) {
			same(t, fmt.Sprint("a fault with fuel ", fuel), impl.GraphRun(zero, level, 0, nil, fuel), want)
		}
	}
}

func TestGraphRunArith(t *testing.T) {
	for _, k := range []string{"I", "J"} {
		for _, op := range []string{"div", "rem"} {
			u := unitTold("I "+k, fmt.Sprintf("(%s,%s)%s 2 / const I 4 / put 0 / const I 6 / call -1 / load %s 0 / load %s 1 / %s %s / dup / put 1 / return %s", k, k, k, k, k, op, k, k))
			for _, a := range []int64{0, 1, -1, minInt, maxInt} {
				graphsDo(t, u, []int64{2}, "arith 0 | 4 0 : 6", a, 0)
			}
			result := map[string]int64{"div": -3, "rem": -1}[op]
			graphsDo(t, u, []int64{2}, fmt.Sprintf("done %d | 4 %d : 6", result, result), -7, 2)
			// What is not in use ends the run, too.
			u = unitTold("I", fmt.Sprintf("(%s)V 1 / load %[1]s 0 / const %[1]s 0 / %[2]s %[1]s / pop / const I 3 / put 0 / return", k, op))
			graphsDo(t, u, []int64{2}, "arith 0 | 0 :", 5)
			u = unitTold("I", fmt.Sprintf("(%s)V 1 / const %[1]s 0 / load %[1]s 0 / %[2]s %[1]s / pop / const I 3 / put 0 / return", k, op))
			graphsDo(t, u, []int64{2}, "arith 0 | 0 :", 0)
			graphsDo(t, u, []int64{2}, "done 0 | 3 :", 5)
		}
	}
	least := map[string]int64{"I": minInt, "J": minLong}
	for k, n := range least {
		u := unitTold("", fmt.Sprintf("(%s,%s)%s 2 / load %s 0 / load %s 1 / div %s / return %s", k, k, k, k, k, k, k))
		graphsDo(t, u, []int64{2}, fmt.Sprintf("done %d | :", n), n, -1)
		graphsDo(t, u, []int64{2}, "arith 0 | :", n, 0)
	}
	u := unitTold("J", "()J 0 / const J 2 / put 0 / const J 1 / call 1 / return J", "(J)J 1 / load J 0 / get 0 / const J 2 / sub J / rem J / const J 3 / put 0 / return J")
	graphsDo(t, u, []int64{4, 4, 4, 4, 2}, "arith 0 | 2 :")
}

// Each operation comes to the same as the function's, of each kind and on numbers at edges.
func TestGraphRunsReckon(t *testing.T) {
	numbers := map[string][]int64{"I": {minInt, -31, -1, 0, 1, 2, 31, 33, 65536, maxInt}, "J": {minLong, minInt - 1, -1, 0, 1, 3, 63, 65, 1 << 33, maxLong}}
	for _, kind := range []string{"I", "J"} {
		for _, op := range append(append([]string{}, mathOps...), "cmp") {
			second, result := kind, kind
			if strings.Contains(op, "sh") {
				second = "I"
			}
			code := fmt.Sprintf("load %s 0 / load %s 1 / %s %s", kind, second, op, kind)
			switch {
			case op == "neg":
				code = fmt.Sprintf("load %s 0 / neg %s", kind, kind)
			case op == "cmp" && kind == "I":
				continue
			case op == "cmp":
				result = "I"
			}
			u := unitTold("", fmt.Sprintf("(%s,%s)%s 2 / %s / return %s", kind, second, result, code, result))
			for _, a := range numbers[kind] {
				for _, b := range numbers[second] {
					want := impl.UnitRun(u, 0, []int64{a, b}, 100)
					want.Steps = 2
					same(t, fmt.Sprint(a, op, b), impl.GraphRun(u, 0, 0, []int64{a, b}, 100), want)
					same(t, fmt.Sprint(a, op, b), impl.GraphRun(u, 3, 0, []int64{a, b}, 100), want)
				}
			}
		}
	}
	for _, to := range []string{"I J", "I B", "I C", "I S", "J I"} {
		w := words(to)
		result := strings.NewReplacer("B", "I", "C", "I", "S", "I").Replace(w[1])
		u := unitTold("", fmt.Sprintf("(%s)%s 1 / load %s 0 / conv %s / return %s", w[0], result, w[0], to, result))
		for _, a := range append(numbers[w[0]], 127, 128, -129, 32767, 32768, -32769, 65535) {
			want := impl.UnitRun(u, 0, []int64{a}, 100)
			want.Steps = 2
			same(t, fmt.Sprint(a, to), impl.GraphRun(u, 0, 0, []int64{a}, 100), want)
		}
	}
}

func TestGraphRunDeep(t *testing.T) {
	down := unitTold("I", "(I)I 1 / get 0 / const I 1 / add I / put 0 / load I 0 / if le out / load I 0 / const I 1 / sub I / call 0 / return I / out: / const I 5 / return I")
	graphsDo(t, down, []int64{3}, "done 5 | 1 :", 0)
	graphsDo(t, down, []int64{(impl.MaxDepth - 1) * 3}, fmt.Sprintf("done 5 | %d :", impl.MaxDepth-1), impl.MaxDepth-2)
	graphsDo(t, down, []int64{impl.MaxDepth * 3}, fmt.Sprintf("done 5 | %d :", impl.MaxDepth), impl.MaxDepth-1)
	graphsDo(t, down, []int64{impl.MaxDepth * 3}, fmt.Sprintf("deep 0 | %d :", impl.MaxDepth), impl.MaxDepth)
	graphsDo(t, down, []int64{impl.MaxDepth * 3}, fmt.Sprintf("deep 0 | %d :", impl.MaxDepth), maxInt)
	graphsDo(t, unitTold("", "()V 0 / call 0 / return"), []int64{impl.MaxDepth * 2}, "deep 0 | :")
	prints := unitTold("", "(I)V 1 / load I 0 / if le out / load I 0 / const I 1 / sub I / call 0 / return / out: / const I 1 / call -1 / const J 2 / call -2 / return")
	graphsDo(t, prints, []int64{impl.MaxDepth * 3}, "done 0 | : 1 2", impl.MaxDepth-1)
	// A frame is left when its call returns, and one of a small function is none with level 4.
	wide := unitTold("I", "(I)V 1 / again: / call 1 / inc 0 -1 / load I 0 / if gt again / return", "()V 0 / get 0 / const I 1 / add I / put 0 / return")
	graphsDo(t, wide, []int64{300*3 + 2, 902, 902, 902, 302}, "done 0 | 300 :", 300)
	one := unitTold("I", "(I)V 1 / load I 0 / if le out / inc 0 -1 / load I 0 / call 0 / return / out: / call 1 / return", "()V 0 / const I 1 / put 0 / return")
	for level, want := range []string{"deep 0 | 0 :", "deep 0 | 0 :", "deep 0 | 0 :", "deep 0 | 0 :", "done 0 | 1 :"} {
		same(t, fmt.Sprint("level ", level), shownUnitOut(impl.GraphRun(one, int64(level), 0, []int64{impl.MaxDepth - 1}, impl.MaxFuel)), want)
		same(t, fmt.Sprint("level ", level), shownUnitOut(impl.GraphRun(one, int64(level), 0, []int64{impl.MaxDepth - 2}, impl.MaxFuel)), "done 0 | 1 :")
	}
	// Where there is neither room for a frame nor fuel, there is no room.
	for level := range int64(5) {
		same(t, "neither", impl.GraphRun(unitTold("", "()V 0 / call 0 / return"), level, 0, nil, impl.MaxDepth*2).Code, impl.UnitDeep)
	}
}

func TestGraphRunTrace(t *testing.T) {
	u := unitTold("", "(I,J)V 2 / load I 0 / call -1 / load J 1 / call -2 / load J 1 / conv J I / call -1 / load I 0 / conv I J / call -2 / return")
	graphsDo(t, u, []int64{2}, "done 0 | : 2147483647 9223372036854775807 -1 2147483647", maxInt, maxLong)
	graphsDo(t, u, []int64{2}, "done 0 | : -2147483648 -9223372036854775808 0 -2147483648", minInt, minLong)
	many := unitTold("", "()V 0 / again: / const J -3 / call -2 / goto again")
	o := impl.GraphRun(many, 3, 0, nil, impl.MaxFuel)
	if o.Code != impl.UnitFuel || len(o.Trace) != impl.MaxFuel-1 || slices.ContainsFunc(o.Trace, func(s string) bool { return s != "-3" }) {
		t.Errorf("%d lines", len(o.Trace))
	}
}

// A place of the stack may hold numbers of two kinds where nobody looks at it.
func TestGraphRunsPastWhatCantBeUsed(t *testing.T) {
	u := unitTold("", "(I)I 2 / load I 0 / if eq a / const I 3 / const J 4 / store J 1 / goto b / a: / const J 5 / const I 4 / store I 1 / b: / dup / swap / inc 0 -1 / load I 0 / if gt c / pop / pop / load I 0 / return I / c: / pop / pop / load I 0 / if ge 0 / const I 9 / return I")
	if !impl.UnitOk(u) {
		t.Fatal("not right")
	}
	for _, n := range []int64{0, 1, 2, 7} {
		for level := range int64(5) {
			got, want := impl.GraphRun(u, level, 0, []int64{n}, 1000), impl.UnitRun(u, 0, []int64{n}, 1000)
			want.Steps = got.Steps
			same(t, fmt.Sprint(n), got, want)
		}
	}
}
