package tests

import (
	"fmt"
	"slices"
	"strings"
	"testing"

	"loop.example/g00032/impl"
)

// regsDo looks for the end of runs of the first function, by each level, with steps as in does.
func regsDo(t *testing.T, u impl.Unit, steps []int64, want string, args ...int64) {
	t.Helper()
	levelRun(impl.RegRun).does(t, u, steps, want, args...)
}

func TestRegRunsToTheEnd(t *testing.T) {
	regsDo(t, unitTold("", "()V 0 / return"), []int64{2}, "done 0 | :")
	regsDo(t, unitTold("", "()I 0 / const I -2147483648 / return I"), []int64{3}, "done -2147483648 | :")
	regsDo(t, unitTold("", "()J 0 / const J -9223372036854775808 / return J"), []int64{3}, "done -9223372036854775808 | :")
	regsDo(t, unitTold("", "(I,J,I)J 3 / load J 1 / load I 0 / load I 2 / sub I / conv I J / add J / return J"), []int64{8}, "done 1000000000095 | :", 5, 1000000000100, 10)
	regsDo(t, unitTold("I", "(I)V 1 / load I 0 / dup / put 0 / call -1 / return"), []int64{5}, "done 0 | 7 : 7", 7)
	regsDo(t, unitTold("I J I J"), []int64{0}, "args 0 | :")
	regsDo(t, unitTold("I J I J", "()J 0 / get 0 / call -1 / get 1 / call -2 / const I 2147483647 / put 2 / const J 9223372036854775807 / put 3 / get 3 / const J 1 / add J / dup / put 1 / return J"), []int64{14},
		"done -9223372036854775808 | 0 -9223372036854775808 2147483647 9223372036854775807 : 0 0")
	// What is not needed costs its steps until it is swept.
	regsDo(t, unitTold("I", "(I)I 1 / get 0 / pop / const I 5 / pop / load I 0 / const I 0 / add I / return I"), []int64{7, 6, 6, 3}, "done 9 | 0 :", 9)
	// A global is looked at where its instruction stands, whatever was put since.
	regsDo(t, unitTold("I", "()I 0 / get 0 / const I 5 / put 0 / get 0 / const I 6 / put 0 / get 0 / const I 100 / mul I / add I / const I 100 / mul I / add I / return I"), []int64{15, 15, 14}, "done 60500 | 6 :")
}

// Moves and RegGoto are steps, too.
func TestRegRunsMoves(t *testing.T) {
	sum := unitTold("I", "(I)I 2 / const I 0 / store I 1 / again: / load I 0 / if le out / load I 1 / load I 0 / add I / store I 1 / inc 0 -1 / goto again / out: / load I 1 / return I")
	regsDo(t, sum, []int64{4 + 10*5 + 2}, "done 55 | 0 :", 10)
	regsDo(t, sum, []int64{6}, "done 0 | 0 :", -3)
	swap := unitTold("", "(I,I,I)I 4 / a: / load I 2 / if le out / load I 0 / store I 3 / load I 1 / store I 0 / load I 3 / store I 1 / inc 2 -1 / goto a / out: / load I 0 / load I 1 / sub I / return I")
	for n, want := range []string{"done 7 | :", "done -7 | :", "done 7 | :", "done -7 | :"} {
		regsDo(t, swap, []int64{4 + 7*int64(n) + 3}, want, 10, 3, int64(n))
	}
	turn := unitTold("", "(I,I,I,I)V 5 / a: / load I 0 / call -1 / load I 1 / call -1 / load I 2 / call -1 / load I 3 / if le out / load I 0 / load I 1 / load I 2 / store I 1 / store I 0 / store I 2 / inc 3 -1 / goto a / out: / return")
	regsDo(t, turn, []int64{5 + 4*4 + 3*7 + 1}, "done 0 | : 1 2 3 2 3 1 3 1 2 1 2 3", 1, 2, 3, 3)
	both := unitTold("", "(I,I,I,I,I)I 5 / a: / load I 0 / load I 3 / store I 0 / store I 3 / load I 2 / load I 1 / store I 2 / store I 1 / inc 4 -1 / load I 4 / if gt a / load I 0 / load I 1 / sub I / load I 2 / mul I / load I 3 / sub I / return I")
	for n, want := range []string{"", "done 1 | :", "done -7 | :", "done 1 | :", "done -7 | :"} {
		if n > 0 {
			regsDo(t, both, []int64{6 + 3*int64(n) + 7*int64(n-1) + 4}, want, 1, 2, 3, 4, int64(n))
		}
	}
	fib := unitTold("", "(I)J 3 / const J 0 / store J 1 / const J 1 / store J 2 / a: / load I 0 / if le out / load J 2 / load J 1 / load J 2 / add J / store J 2 / store J 1 / inc 0 -1 / goto a / out: / load J 1 / return J")
	for level := range int64(5) {
		o := impl.RegRun(fib, level, 0, []int64{90}, impl.MaxFuel)
		same(t, "a row of sums", shownUnitOut(o), "done 2880067194370816120 | :")
	}
	// The same place by three ways, two of them of one block.
	ways := unitTold("", "(I)I 2 / const I 1 / store I 1 / load I 0 / if eq b / const I 2 / store I 1 / load I 0 / switch 1 b a b c / a: / const I 3 / store I 1 / goto b / c: / const I 4 / store I 1 / b: / load I 1 / load I 0 / const I 10 / mul I / add I / return I")
	for n, want := range []string{"1", "13", "22", "34", "42"} {
		for level := range int64(5) {
			o := levelRun(impl.RegRun).ran(t, ways, level, 0, int64(n))
			same(t, "by its way", shownUnitOut(o), "done "+want+" | :")
		}
	}
}

func TestRegRunsBranches(t *testing.T) {
	for _, x := range graphConds[1:] {
		u := unitTold("", "(I,I)I 3 / const I 0 / store I 2 / load I 0 / if "+x+" a / inc 2 1 / a: / load I 0 / load I 1 / ifint "+x+" b / inc 2 10 / b: / load I 2 / return I")
		for _, a := range []int64{minInt, -1, 0, 1, maxInt} {
			for _, b := range []int64{minInt, -1, 0, 1, maxInt} {
				want := impl.UnitRun(u, 0, []int64{a, b}, 100)
				for level := range int64(5) {
					got := impl.RegRun(u, level, 0, []int64{a, b}, 100)
					want.Steps = got.Steps
					same(t, fmt.Sprint(x, a, b), got, want)
				}
			}
		}
	}
	u := unitTold("", "(I)I 1 / load I 0 / switch 2147483646 a b c b / a: / const I 5 / return I / b: / const I 6 / return I / c: / const I 7 / return I")
	for n, want := range map[int64]string{2147483645: "5", 2147483646: "6", 2147483647: "7", minInt: "5", minInt + 1: "5", 0: "5"} {
		regsDo(t, u, []int64{5}, "done "+want+" | :", n)
	}
	u = unitTold("", "(I)I 1 / load I 0 / switch -2 a b c / a: / const I 5 / return I / b: / const I 6 / return I / c: / const I 7 / return I")
	for n, want := range map[int64]string{-3: "5", -2: "6", -1: "7", 0: "5", 1: "5", maxInt: "5", minInt: "5"} {
		regsDo(t, u, []int64{5}, "done "+want+" | :", n)
	}
}

func TestRegRunsCalls(t *testing.T) {
	u := unitTold("I J", "(I,J)J 3 / const I 9 / store I 2 / load J 1 / load I 0 / load J 1 / call 2 / call -1 / load I 2 / call 1 / add J / return J",
		"(I)J 2 / inc 0 1 / load I 0 / dup / store I 1 / dup / put 0 / conv I J / dup / put 1 / return J",
		"(I,J)I 4 / load I 0 / load J 1 / conv J I / dup / store I 2 / sub I / return I")
	// f2 has six steps, f1 eight. Where they are filled, the calls go, with parameters, gotos and returns, and then two constants that are folded.
	regsDo(t, u, []int64{9 + 6 + 8, 23, 23, 23, 9 - 2 + 2 + 5 - 2}, "done 110 | 10 10 : -95", 5, 100)
	// Each frame has registers of its own: those of the caller stand as they were behind a call.
	fib := unitTold("", "(I)I 1 / load I 0 / const I 2 / ifint lt small / load I 0 / const I 1 / sub I / call 0 / load I 0 / const I 2 / sub I / call 0 / add I / return I / small: / load I 0 / return I")
	for level := range int64(5) {
		same(t, "fib", shownUnitOut(levelRun(impl.RegRun).ran(t, fib, level, 0, 10)), "done 55 | :")
	}
	deep := unitTold("", "(I,I,I,I,I)I 5 / load I 1 / load I 2 / load I 3 / load I 4 / load I 0 / if le out / inc 0 -1 / load I 0 / load I 4 / load I 3 / load I 2 / load I 1 / call 0 / add I / out: / const I 3 / mul I / add I / const I 5 / mul I / add I / const I 7 / mul I / add I / return I")
	for n := range int64(12) {
		args := []int64{n, 2, 30, 400, 5000}
		want := impl.UnitRun(deep, 0, args, impl.MaxFuel)
		for level := range int64(5) {
			got := levelRun(impl.RegRun).ran(t, deep, level, 0, args...)
			want.Steps = got.Steps
			same(t, "what is kept behind calls", got, want)
		}
	}
	odd := unitTold("", "(I)I 1 / load I 0 / if eq no / inc 0 -1 / load I 0 / call 1 / return I / no: / const I 0 / return I", "(I)I 1 / load I 0 / if eq yes / inc 0 -1 / load I 0 / call 0 / return I / yes: / const I 1 / return I")
	regsDo(t, odd, []int64{7*7 + 5}, "done 1 | :", 7)
	regsDo(t, odd, []int64{8*7 + 5}, "done 0 | :", 8)
	eight := unitTold("", "(J,I,J,I,J,I,J,I)J 8 / load I 7 / if le out / load J 6 / load I 1 / load J 0 / load I 3 / load J 2 / load I 5 / load J 4 / load I 7 / const I 1 / sub I / call 0 / return J / out: / load J 0 / load I 1 / conv I J / const J 10 / mul J / add J / return J")
	regsDo(t, eight, []int64{15}, "done 21 | :", 1, 2, 3, 4, 5, 6, 7, 0)
	regsDo(t, eight, []int64{29}, "done 27 | :", 1, 2, 3, 4, 5, 6, 7, 1)
	most := unitTold(strings.Repeat("J ", impl.MaxMany), "()J 0 / call 39 / get 39 / return J")
	for range impl.MaxMany - 2 {
		most.Funcs = append(most.Funcs, unitTold("", "()V 0 / goto 0").Funcs...)
	}
	most.Funcs = append(most.Funcs, unitTold("", "()V 0 / const J 77 / put 39 / return").Funcs...)
	regsDo(t, most, []int64{8, 8, 8, 8, 5}, "done 77 |"+strings.Repeat(" 0", impl.MaxMany-1)+" 77 :")
}

func TestRegRunArgs(t *testing.T) {
	texts := []string{"(I,J)J 2 / load I 0 / call -1 / load J 1 / return J", "()I 0 / const I 3 / return I", "(I)V 1 / return"}
	u := unitTold("I J", texts...)
	for level := range int64(5) {
		refusedRun := func(why string, u impl.Unit, f int64, args []int64, fuel int64) {
			t.Helper()
			same(t, why, impl.RegRun(u, level, f, args, fuel), impl.UnitOut{Code: impl.UnitArgs})
		}
		takenRun := func(why string, f int64, args []int64, fuel int64, want string) {
			t.Helper()
			same(t, why, shownUnitOut(impl.RegRun(u, level, f, args, fuel)), want)
		}
		for _, f := range []int64{minLong, -2, -1, 3, 4, 1 << 32, maxLong} {
			refusedRun("no function", u, f, nil, 100)
			refusedRun("no function", u, f, []int64{1}, 100)
			refusedRun("no functions", impl.Unit{}, f, nil, 100)
		}
		refusedRun("no functions", impl.Unit{}, 0, nil, 0)
		takenRun("the first", 0, []int64{1, 2}, 100, "done 2 | 0 0 : 1")
		takenRun("the last", 2, []int64{1}, 100, "done 0 | 0 0 :")
		for n := range 10 {
			for f, params := range []int{2, 0, 1} {
				if n != params {
					refusedRun("other arguments", u, int64(f), make([]int64, n), 100)
				}
			}
		}
		takenRun("no arguments", 1, []int64{}, 100, "done 3 | 0 0 :")
		for _, n := range []int64{minLong, minInt - 1, maxInt + 1, 1 << 32, maxLong} {
			refusedRun("not of 32 bits", u, 0, []int64{n, 0}, 100)
			refusedRun("not of 32 bits", u, 2, []int64{n}, 100)
			takenRun("of 64 bits", 0, []int64{0, n}, 100, fmt.Sprintf("done %d | 0 0 : 0", n))
		}
		for _, n := range []int64{minInt, -1, 0, maxInt} {
			takenRun("of 32 bits", 0, []int64{n, n}, 100, fmt.Sprintf("done %d | 0 0 : %d", n, n))
		}
		for _, fuel := range []int64{minLong, -1, impl.MaxFuel + 1, maxLong} {
			refusedRun("no fuel that can be", u, 1, nil, fuel)
		}
		takenRun("no fuel", 1, nil, 0, "fuel 0 | 0 0 :")
		takenRun("all fuel", 1, nil, impl.MaxFuel, "done 3 | 0 0 :")
		for why, change := range map[string]func(u *impl.Unit){
			"a global": func(u *impl.Unit) { u.Globals[1] = "D" }, "an instruction": func(u *impl.Unit) { u.Funcs[2].Code[0].Op = impl.OpThrow }, "a number": func(u *impl.Unit) { u.Funcs[0].Code[1].A = 3 }, "a signature": func(u *impl.Unit) { u.Funcs[2].Sig = "(D)V" },
			"no code": func(u *impl.Unit) { u.Funcs[2].Code = nil }, "locals": func(u *impl.Unit) { u.Funcs[2].Locals = 0 }, "the stack": func(u *impl.Unit) { u.Funcs[2].Code = unitTold("", "()V 1 / pop / return").Funcs[0].Code },
		} {
			wrong := unitTold("I J", texts...)
			change(&wrong)
			for f, args := range [][]int64{{1, 2}, nil, {1}} {
				refusedRun(why, wrong, int64(f), args, 100)
			}
		}
	}
	for _, level := range []int64{minLong, -2, -1, 5, 6, 1 << 32, maxLong} {
		same(t, "no level", impl.RegRun(u, level, 1, nil, 100), impl.UnitOut{Code: impl.UnitArgs})
	}
}

// Each instruction costs one, in functions that are called, too.
func TestRegRunFuel(t *testing.T) {
	u := unitTold("I J", "(I)I 1 / load I 0 / put 0 / load I 0 / call 1 / if eq out / const J 5 / put 1 / out: / load I 0 / call -1 / load I 0 / return I", "(I)I 1 / const I 8 / call -1 / load I 0 / if gt on / load I 0 / return I / on: / const I 9 / call -1 / load I 0 / return I")
	// Param and goto, put; call; param, goto, const; print; if, const; print; return, if, const; put; goto; print; return.
	rows := []string{"0 0 :", "0 0 :", "0 0 :", "7 0 :", "7 0 :", "7 0 :", "7 0 :", "7 0 :", "7 0 : 8", "7 0 : 8", "7 0 : 8", "7 0 : 8 9", "7 0 : 8 9", "7 0 : 8 9", "7 0 : 8 9", "7 5 : 8 9", "7 5 : 8 9", "7 5 : 8 9 7"}
	for level := range int64(5) {
		for fuel, row := range rows {
			o := impl.RegRun(u, level, 0, []int64{7}, int64(fuel))
			same(t, fmt.Sprint("fuel ", fuel), o.Steps, int64(fuel))
			same(t, fmt.Sprint("fuel ", fuel), shownUnitOut(o), "fuel 0 | "+row)
		}
		for _, fuel := range []int64{18, 19, impl.MaxFuel} {
			o := impl.RegRun(u, level, 0, []int64{7}, fuel)
			same(t, "enough", shownUnitOut(o), "done 7 | 7 5 : 8 9 7")
			same(t, "enough", o.Steps, 18)
		}
	}
	swap := unitTold("I", "(I,I,I)I 3 / a: / load I 0 / load I 1 / store I 0 / store I 1 / inc 2 -1 / load I 2 / put 0 / load I 2 / if gt a / load I 0 / load I 1 / sub I / return I")
	for fuel := range int64(20) {
		o, ring := impl.RegRun(swap, 0, 0, []int64{30, 10, 2}, fuel), []int64{0, 0, 0, 0, 0, 0, 0, 1, 1, 1, 1, 1, 1, 1, 1, 0, 0, 0, 0, 0}[fuel]
		want := impl.UnitOut{Code: impl.UnitFuel, Globals: []int64{ring}, Steps: fuel}
		if fuel >= 18 {
			want = impl.UnitOut{Code: impl.UnitDone, N: 20, Globals: []int64{0}, Steps: 18}
		}
		same(t, fmt.Sprint("moves with fuel ", fuel), o, want)
	}
	regsDo(t, unitTold("J", "()V 0 / again: / goto again"), []int64{impl.MaxFuel}, "fuel 0 | 0 :")
	regsDo(t, unitTold("J", "()J 0 / again: / get 0 / const J 3 / add J / put 0 / goto again"), []int64{impl.MaxFuel}, fmt.Sprintf("fuel 0 | %d :", 3*impl.MaxFuel/5))
	zero := unitTold("I", "()I 0 / const I 1 / const I 0 / div I / return I")
	for fuel := range int64(6) {
		want := impl.UnitOut{Code: impl.UnitFuel, Globals: []int64{0}, Steps: fuel}
		if fuel >= 4 {
			want = impl.UnitOut{Code: impl.UnitArith, Globals: []int64{0}, Steps: 4}
		}
		for level := range int64(5) {
			same(t, fmt.Sprint("a fault with fuel ", fuel), impl.RegRun(zero, level, 0, nil, fuel), want)
		}
	}
}

func TestRegRunArith(t *testing.T) {
	for _, k := range []string{"I", "J"} {
		for _, op := range []string{"div", "rem"} {
			u := unitTold("I "+k, fmt.Sprintf("(%s,%s)%s 2 / const I 4 / put 0 / const I 6 / call -1 / load %s 0 / load %s 1 / %s %s / dup / put 1 / return %s", k, k, k, k, k, op, k, k))
			for _, a := range []int64{0, 1, -1, minInt, maxInt} {
				regsDo(t, u, []int64{8}, "arith 0 | 4 0 : 6", a, 0)
			}
			result := map[string]int64{"div": -3, "rem": -1}[op]
			regsDo(t, u, []int64{10}, fmt.Sprintf("done %d | 4 %d : 6", result, result), -7, 2)
			// What is not in use ends the run, too.
			u = unitTold("I", fmt.Sprintf("(%s)V 1 / load %[1]s 0 / const %[1]s 0 / %[2]s %[1]s / pop / const I 3 / put 0 / return", k, op))
			regsDo(t, u, []int64{4}, "arith 0 | 0 :", 5)
			u = unitTold("I", fmt.Sprintf("(%s)V 1 / const %[1]s 0 / load %[1]s 0 / %[2]s %[1]s / pop / const I 3 / put 0 / return", k, op))
			regsDo(t, u, []int64{4}, "arith 0 | 0 :", 0)
			regsDo(t, u, []int64{7}, "done 0 | 3 :", 5)
		}
	}
	for k, n := range map[string]int64{"I": minInt, "J": minLong} {
		u := unitTold("", fmt.Sprintf("(%s,%s)%s 2 / load %s 0 / load %s 1 / div %s / return %s", k, k, k, k, k, k, k))
		regsDo(t, u, []int64{5}, fmt.Sprintf("done %d | :", n), n, -1)
		regsDo(t, u, []int64{4}, "arith 0 | :", n, 0)
	}
	u := unitTold("J", "()J 0 / const J 2 / put 0 / const J 1 / call 1 / return J", "(J)J 1 / load J 0 / get 0 / const J 2 / sub J / rem J / const J 3 / put 0 / return J")
	regsDo(t, u, []int64{11, 11, 11, 11, 7}, "arith 0 | 2 :")
}

// Each operation comes to the same as the function's, of each kind and on numbers at edges.
func TestRegRunsReckon(t *testing.T) {
	numbers := map[string][]int64{"I": {minInt, -31, -1, 0, 1, 2, 31, 33, 65536, maxInt}, "J": {minLong, minInt - 1, -1, 0, 1, 3, 63, 65, 1 << 33, maxLong}}
	reckoned := func(u impl.Unit, args ...int64) {
		t.Helper()
		want := impl.UnitRun(u, 0, args, 100)
		for _, level := range []int64{0, 3} {
			got := impl.RegRun(u, level, 0, args, 100)
			want.Steps = got.Steps
			same(t, fmt.Sprint(args, impl.PrintClass(impl.UnitClass(u))), got, want)
		}
	}
	for _, kind := range []string{"I", "J"} {
		for _, op := range append(slices.Clone(mathOps), "cmp") {
			second, result := kind, kind
			if strings.Contains(op, "sh") {
				second = "I"
			}
			code := fmt.Sprintf("load %s 0 / load %s 1 / %s %s", kind, second, op, kind)
			switch {
			case op == "neg":
				code = fmt.Sprintf("load %s 0 / neg %s", kind, kind)
			case op == "cmp" && kind == "I":
				continue
			case op == "cmp":
				result = "I"
			}
			u := unitTold("", fmt.Sprintf("(%s,%s)%s 2 / %s / return %s", kind, second, result, code, result))
			for _, a := range numbers[kind] {
				for _, b := range numbers[second] {
					reckoned(u, a, b)
				}
			}
		}
	}
	for _, to := range []string{"I J", "I B", "I C", "I S", "J I"} {
		w := words(to)
		result := strings.NewReplacer("B", "I", "C", "I", "S", "I").Replace(w[1])
		u := unitTold("", fmt.Sprintf("(%s)%s 1 / load %s 0 / conv %s / return %s", w[0], result, w[0], to, result))
		for _, a := range append(slices.Clone(numbers[w[0]]), 127, 128, -129, 32767, 32768, -32769, 65535) {
			reckoned(u, a)
		}
	}
}

func TestRegRunDeep(t *testing.T) {
	down := unitTold("I", "(I)I 1 / get 0 / const I 1 / add I / put 0 / load I 0 / if le out / load I 0 / const I 1 / sub I / call 0 / return I / out: / const I 5 / return I")
	// A frame has 7 steps up to its condition, 3 up to its call, that one too, and one behind it; the last one has two instead. The number 1 is shared.
	regsDo(t, down, []int64{9}, "done 5 | 1 :", 0)
	regsDo(t, down, []int64{(impl.MaxDepth-2)*11 + 9, (impl.MaxDepth-2)*11 + 9, (impl.MaxDepth-2)*10 + 9}, fmt.Sprintf("done 5 | %d :", impl.MaxDepth-1), impl.MaxDepth-2)
	regsDo(t, down, []int64{(impl.MaxDepth-1)*11 + 9, (impl.MaxDepth-1)*11 + 9, (impl.MaxDepth-1)*10 + 9}, fmt.Sprintf("done 5 | %d :", impl.MaxDepth), impl.MaxDepth-1)
	regsDo(t, down, []int64{impl.MaxDepth * 10, impl.MaxDepth * 10, impl.MaxDepth * 9}, fmt.Sprintf("deep 0 | %d :", impl.MaxDepth), impl.MaxDepth)
	regsDo(t, down, []int64{impl.MaxDepth * 10, impl.MaxDepth * 10, impl.MaxDepth * 9}, fmt.Sprintf("deep 0 | %d :", impl.MaxDepth), maxInt)
	regsDo(t, unitTold("", "()V 0 / call 0 / return"), []int64{impl.MaxDepth * 2}, "deep 0 | :")
	// A frame is left when its call returns, and one of a small function is none with level 4.
	wide := unitTold("I", "(I)V 1 / again: / call 1 / inc 0 -1 / load I 0 / if gt again / return", "()V 0 / get 0 / const I 1 / add I / put 0 / return")
	for level := range int64(5) {
		same(t, "one behind the other", shownUnitOut(impl.RegRun(wide, level, 0, []int64{300}, impl.MaxFuel)), "done 0 | 300 :")
	}
	one := unitTold("I", "(I)V 1 / load I 0 / if le out / inc 0 -1 / load I 0 / call 0 / return / out: / call 1 / return", "()V 0 / const I 1 / put 0 / return")
	for level, want := range []string{"deep 0 | 0 :", "deep 0 | 0 :", "deep 0 | 0 :", "deep 0 | 0 :", "done 0 | 1 :"} {
		same(t, fmt.Sprint("level ", level), shownUnitOut(impl.RegRun(one, int64(level), 0, []int64{impl.MaxDepth - 1}, impl.MaxFuel)), want)
		same(t, fmt.Sprint("level ", level), shownUnitOut(impl.RegRun(one, int64(level), 0, []int64{impl.MaxDepth - 2}, impl.MaxFuel)), "done 0 | 1 :")
	}
	// The call that finds no room is a step; where there is neither room for a frame nor fuel behind it, there is no room.
	for level := range int64(5) {
		call := unitTold("", "()V 0 / call 0 / return")
		same(t, "neither", impl.RegRun(call, level, 0, nil, impl.MaxDepth*2), impl.UnitOut{Code: impl.UnitDeep, Steps: impl.MaxDepth * 2})
		same(t, "no fuel for the call", impl.RegRun(call, level, 0, nil, impl.MaxDepth*2-1), impl.UnitOut{Code: impl.UnitFuel, Steps: impl.MaxDepth*2 - 1})
	}
}

func TestRegRunTrace(t *testing.T) {
	u := unitTold("", "(I,J)V 2 / load I 0 / call -1 / load J 1 / call -2 / load J 1 / conv J I / call -1 / load I 0 / conv I J / call -2 / return")
	regsDo(t, u, []int64{10}, "done 0 | : 2147483647 9223372036854775807 -1 2147483647", maxInt, maxLong)
	regsDo(t, u, []int64{10}, "done 0 | : -2147483648 -9223372036854775808 0 -2147483648", minInt, minLong)
	many := unitTold("", "()V 0 / again: / const J -3 / call -2 / goto again")
	o := impl.RegRun(many, 3, 0, nil, impl.MaxFuel)
	if o.Code != impl.UnitFuel || len(o.Trace) != (impl.MaxFuel-1)/3 || slices.ContainsFunc(o.Trace, func(s string) bool { return s != "-3" }) {
		t.Errorf("%d lines", len(o.Trace))
	}
}

// A place of the stack may hold numbers of two kinds where nobody looks at it.
func TestRegRunsPastWhatCantBeUsed(t *testing.T) {
	u := unitTold("", "(I)I 2 / load I 0 / if eq a / const I 3 / const J 4 / store J 1 / goto b / a: / const J 5 / const I 4 / store I 1 / b: / dup / swap / inc 0 -1 / load I 0 / if gt c / pop / pop / load I 0 / return I / c: / pop / pop / load I 0 / if ge 0 / const I 9 / return I")
	for _, n := range []int64{0, 1, 2, 7} {
		for level := range int64(5) {
			got, want := impl.RegRun(u, level, 0, []int64{n}, 1000), impl.UnitRun(u, 0, []int64{n}, 1000)
			want.Steps = got.Steps
			same(t, fmt.Sprint(n), got, want)
		}
	}
}
