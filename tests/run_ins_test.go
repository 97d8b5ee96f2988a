package tests

import (
	"fmt"
	"math"
	"slices"
	"strings"
	"testing"

	"loop.example/g00032/impl"
)

// Words that programs have again and again.
const (
	printI = "call static System print (I)V"
	printJ = "call static System print (J)V"
	printD = "call static System print (D)V"
	printS = "call static System print (@String)V"
)

// mainOf gives a class M whose method main has some code, and gives a value of the type.
func mainOf(result, code string) string {
	return "class M Object / method main ()" + result + " static stack 9 locals 9 / " + code
}

func shownValue(v impl.Value) string {
	switch v.Kind {
	case impl.KindFloat:
		return "D " + impl.ShowFloat(v.N)
	case impl.KindInt, impl.KindLong, impl.KindRef:
		return fmt.Sprint([]string{"", "I ", "J ", "", "R "}[v.Kind], v.N)
	}
	if v != (impl.Value{}) {
		return fmt.Sprint("odd ", v)
	}
	return ""
}

// shownOutcome has all that an outcome has but its steps: the code, what belongs to it, and behind a : the lines of the trace.
func shownOutcome(o impl.Outcome) string {
	out := []string{[]string{"ok", "args", "verify", "fuel", "room", "dead", "thrown"}[o.Code]}
	add := func(some bool, text string) {
		if some {
			out = append(out, text)
		}
	}
	add(o.Value != impl.Value{}, shownValue(o.Value))
	add(o.Text != "", fmt.Sprintf("%q", o.Text))
	add(o.Thrown != "", o.Thrown)
	add(len(o.Dead) > 0, strings.Trim(fmt.Sprint(o.Dead), "[]"))
	add(len(o.Trace) > 0, ": "+strings.Join(o.Trace, " "))
	return strings.Join(out, " ")
}

// ran gives the outcome of a run with all fuel that there may be, and looks that it is the same with just enough, that one less is too little, and that more changes nothing of what was.
func ran(t *testing.T, cs []impl.Class, method string, args ...impl.Value) impl.Outcome {
	t.Helper()
	w := words(method)
	run := func(fuel int64) impl.Outcome { return impl.Run(cs, w[0], w[1], w[2], args, fuel) }
	o := run(impl.MaxFuel)
	if o.Code == impl.RunArgs || o.Code == impl.RunVerify {
		same(t, method+": refused", o, impl.Outcome{Code: o.Code})
		return o
	}
	if o.Code == impl.RunFuel {
		same(t, method+": steps", o.Steps, impl.MaxFuel)
	} else {
		same(t, method+": with just enough", run(o.Steps), o)
	}
	for _, fuel := range []int64{0, o.Steps / 3, o.Steps - 1} {
		if fuel < 0 || fuel >= o.Steps {
			continue
		}
		less := run(fuel)
		if less.Code != impl.RunFuel || less.Steps != fuel || len(less.Trace) > len(o.Trace) || !slices.Equal(less.Trace, o.Trace[:len(less.Trace)]) {
			t.Errorf("%s with %d of %d steps: %v, in the end %v", method, fuel, o.Steps, less, o)
		}
		less.Code, less.Steps, less.Trace = 0, 0, nil
		same(t, method+": with less", less, impl.Outcome{})
	}
	return o
}

// does says how main of M ends, told as shownOutcome tells it; M is made of a type and some code, and other classes stand beside it.
func does(t *testing.T, result, code, want string, more ...string) {
	t.Helper()
	cs := told(append(more, mainOf(result, code))...)
	if failures := impl.InferAll(cs); len(failures) > 0 {
		t.Fatalf("%s is not right: %v", code, failures)
	}
	if got := shownOutcome(ran(t, cs, "M main ()"+result)); got != want {
		t.Errorf("%s: %s\nnot %s", code, got, want)
	}
}

func TestRunCodes(t *testing.T) {
	for k, code := range []int64{impl.RunOk, impl.RunArgs, impl.RunVerify, impl.RunFuel, impl.RunRoom, impl.RunDead, impl.RunThrown} {
		same(t, "code", code, int64(k))
	}
	same(t, "limits", []int64{impl.MaxObjects, impl.MaxDepth, impl.MaxArray, impl.MaxFuel, impl.MaxThreads}, []int64{4000, 100, 1000, 100000, 16})
}

func TestConstants(t *testing.T) {
	for _, row := range []string{"I 0", "I -5", "I 2147483647", "I -2147483648", "J 0", "J 9223372036854775807", "J -9223372036854775808", "D 0p0", "D -0p0", "D nan", "D inf", "D -inf", "D 1p-1074", "D -3p7"} {
		k := row[:1]
		does(t, k, "const "+row+" / return "+k, "ok "+row)
		does(t, k, "const "+row+" / store "+k+" 3 / load "+k+" 3 / return "+k, "ok "+row)
	}
	does(t, "@M", "null / return R", "ok R 0")
	does(t, "@M", "null / store R 8 / load R 8 / return R", "ok R 0")
	does(t, "V", "return", "ok")
}

func TestTexts(t *testing.T) {
	does(t, "@String", `text "ab" / return R`, `ok R 1 "ab"`)
	does(t, "@Object", `text "" / return R`, `ok R 1`)
	does(t, "@Object", `text "\00\ff\22" / return R`, `ok R 1 "\x00\xff\""`)
	does(t, "@String", `text "a" / pop / text "b" / pop / text "c" / return R`, `ok R 3 "c"`)
	// The same text is the same object, wherever it stands, and no other one is.
	const both = ` / ifsame eq same / const I 0 / return I / same: / const I 1 / return I`
	does(t, "I", `text "a" / text "a"`+both, "ok I 1")
	does(t, "I", `text "a" / text "b"`+both, "ok I 0")
	does(t, "I", `text "a" / text "b" / pop / text "c" / pop / call static T t ()@String`+both, "ok I 1", `class T Object / method t ()@String static stack 1 locals 0 / text "a" / return R`)
	does(t, "I", `text "" / call static T t ()@String`+both, "ok I 0", `class T Object / method t ()@String static stack 1 locals 0 / text "a" / return R`)
	does(t, "@String", `text "x" / pop / text "a" / pop / text "x" / pop / text "a" / return R`, `ok R 2 "a"`)
	// One of the same text that was made otherwise is another object.
	does(t, "I", `text "ab" / text "a" / text "b" / call virtual String join (@String)@String`+both, "ok I 0")
	does(t, "@String", `text "a" / text "b" / call virtual String join (@String)@String / pop / text "ab" / return R`, `ok R 4 "ab"`)
}

func TestMoves(t *testing.T) {
	does(t, "I", "const I 10 / const I 3 / pop / return I", "ok I 10")
	does(t, "I", "const I 10 / dup / mul I / return I", "ok I 100")
	does(t, "I", "const I 10 / const I 3 / swap / sub I / return I", "ok I -7")
	does(t, "I", "const I 10 / const J 3 / swap / return I", "ok I 10")
	// Under: 2 lies beneath, and on top.
	does(t, "I", "const I 1 / const I 2 / under / const I 10 / mul I / add I / const I 10 / mul I / add I / return I", "ok I 212")
	does(t, "I", "const I 7 / const I 1 / const I 2 / under / pop / pop / pop / return I", "ok I 7")
	does(t, "D", "const D 1p1 / store D 0 / const J 5 / store J 1 / const I 7 / store I 0 / const D 3p0 / store D 1 / load D 1 / return D", "ok D 3p0")
	// Each frame has locals of its own.
	does(t, "I", "const I 5 / store I 0 / const I 6 / call static T t (I)V / load I 0 / return I", "ok I 5 : 6", "class T Object / method t (I)V static stack 1 locals 1 / load I 0 / "+printI+" / const I 9 / store I 0 / return")
	// A call that is made again begins anew.
	does(t, "V", "const I 3 / call static T t (I)V / const I 4 / call static T t (I)V / return", "ok : 103 104", "class T Object / method t (I)V static stack 2 locals 1 / inc 0 100 / load I 0 / "+printI+" / return")
}

func TestIncrease(t *testing.T) {
	for _, row := range [][3]int64{{0, 1, 1}, {0, -1, -1}, {0, 0, 0}, {100, 32767, 32867}, {100, -32768, -32668}, {math.MaxInt32, 1, math.MinInt32}, {math.MaxInt32, 32767, math.MinInt32 + 32766}, {math.MinInt32, -1, math.MaxInt32}, {math.MinInt32, -32768, math.MaxInt32 - 32767}, {math.MinInt32, 1, math.MinInt32 + 1}} {
		does(t, "I", fmt.Sprintf("const I %d / store I 2 / inc 2 %d / load I 2 / return I", row[0], row[1]), fmt.Sprint("ok I ", row[2]))
	}
}

// operands are texts of numbers of a kind, the edges among them.
func operands(kind string) []int64 {
	switch kind {
	case "I":
		return []int64{0, 1, -1, 2, 7, -7, 31, 33, math.MaxInt32, math.MinInt32, 123456789}
	case "J":
		return []int64{0, 1, -1, 3, -7, 63, 65, math.MaxInt64, math.MinInt64, math.MinInt32, 1 << 40}
	}
	return []int64{0, signBit, bitsOf(1), bitsOf(-1.5), bitsOf(0.1), infinity, minusInfinity, impl.NaNBits, 1, bitsOf(math.MaxFloat64), bitsOf(1e300), bitsOf(3e9)}
}

func kindNumber(k string) int64 { return int64(strings.Index("?IJDR", k)) }

func constText(kind string, n int64) string {
	if kind == "D" {
		return "const D " + impl.ShowFloat(n)
	}
	return fmt.Sprintf("const %s %d", kind, n)
}

// computed runs main of some code with arguments, without looking further.
func computed(t *testing.T, sig, code string, args ...impl.Value) impl.Outcome {
	t.Helper()
	cs := told("class M Object / method main " + sig + " static stack 9 locals 9 / " + code)
	if failures := impl.InferAll(cs); len(failures) > 0 {
		t.Fatalf("%s is not right: %v", code, failures)
	}
	return impl.Run(cs, "M", "main", sig, args, 1000)
}

func TestArithmetic(t *testing.T) {
	t.Parallel()
	names := words("add sub mul div rem neg shl shr ushr and or xor")
	for k, name := range names {
		op := int64(11 + k)
		for _, kind := range words("I J D") {
			if kind == "D" && !slices.Contains(words("add sub mul div neg"), name) {
				continue
			}
			second := kind
			if strings.Contains(name, "sh") {
				second = "I"
			}
			for _, a := range operands(kind) {
				for _, b := range operands(second) {
					testArithmetic(t, name, op, kind, second, a, b)
				}
			}
		}
	}
}

func testArithmetic(t *testing.T, name string, op int64, kind, second string, a, b int64) {
	t.Helper()
	n, ok := map[string]func(op, a, b int64) (int64, bool){"I": impl.IntOp, "J": impl.LongOp, "D": impl.FloatOp}[kind](op, a, b)
	args := []impl.Value{{Kind: kindNumber(kind), N: a}, {Kind: kindNumber(second), N: b}}
	code := fmt.Sprintf("load %s 0 / load %s 1 / %s %s / return %s", kind, second, name, kind, kind)
	want := impl.Outcome{Value: impl.Value{Kind: kindNumber(kind), N: n}, Steps: 4}
	if name == "neg" {
		code = fmt.Sprintf("load %s 0 / %s %s / return %s", kind, name, kind, kind)
		want.Steps = 3
	}
	if !ok {
		want = impl.Outcome{Code: impl.RunThrown, Thrown: "ArithError", Steps: 3}
	}
	got := computed(t, fmt.Sprintf("(%s,%s)%s", kind, second, kind), code, args...)
	if !alike(got, want) {
		t.Errorf("%s %s of %d and %d: %v, not %v", name, kind, a, b, got, want)
	}
}

func TestComparesAndConversions(t *testing.T) {
	t.Parallel()
	compared := func(kind, words string, a, b, want int64) {
		t.Helper()
		got := computed(t, fmt.Sprintf("(%s,%s)I", kind, kind), fmt.Sprintf("load %s 0 / load %s 1 / cmp %s / return I", kind, kind, words), impl.Value{Kind: kindNumber(kind), N: a}, impl.Value{Kind: kindNumber(kind), N: b})
		if want := (impl.Value{Kind: impl.KindInt, N: want}); got.Value != want {
			t.Errorf("cmp %s of %d and %d: %v, not %v", words, a, b, got.Value, want)
		}
	}
	for _, a := range operands("J") {
		for _, b := range operands("J") {
			want := int64(0)
			if a < b {
				want = -1
			} else if a > b {
				want = 1
			}
			compared("J", "J", a, b, want)
		}
	}
	for _, a := range operands("D") {
		for _, b := range operands("D") {
			compared("D", "D -1", a, b, impl.FloatCompare(a, b, -1))
			compared("D", "D 1", a, b, impl.FloatCompare(a, b, 1))
		}
	}
	compared("D", "D 1", impl.NaNBits, bitsOf(1), 1)
	compared("D", "D -1", impl.NaNBits, bitsOf(1), -1)
	compared("D", "D -1", bitsOf(2), bitsOf(1), 1)
	for _, pair := range words("IJ ID IB IS IC JI JD DI DJ") {
		from, to := pair[:1], pair[1:]
		result := map[string]string{"B": "I", "S": "I", "C": "I"}[to]
		if result == "" {
			result = to
		}
		for _, n := range append(operands(from), slices.DeleteFunc([]int64{255, 256, 32768, 65535, -129}, func(n int64) bool { return from == "D" })...) {
			want, _ := impl.Convert(kindNumber(from), map[string]int64{"I": 1, "J": 2, "D": 3, "B": 5, "C": 6, "S": 7}[to], n)
			got := computed(t, "("+from+")"+result, fmt.Sprintf("load %s 0 / conv %s %s / return %s", from, from, to, result), impl.Value{Kind: kindNumber(from), N: n})
			if got.Value != (impl.Value{Kind: kindNumber(result), N: want}) {
				t.Errorf("conv %s %s of %d: %v", from, to, n, got)
			}
		}
	}
}

func TestJumps(t *testing.T) {
	t.Parallel()
	conds := map[string]func(a, b int64) bool{"eq": func(a, b int64) bool { return a == b }, "ne": func(a, b int64) bool { return a != b }, "lt": func(a, b int64) bool { return a < b }, "ge": func(a, b int64) bool { return a >= b }, "gt": func(a, b int64) bool { return a > b }, "le": func(a, b int64) bool { return a <= b }}
	const ends = " yes / const I 0 / return I / yes: / const I 1 / return I"
	yes := map[bool]string{true: "ok I 1", false: "ok I 0"}
	for cond, so := range conds {
		for _, a := range []int64{0, 1, -1, 5, math.MaxInt32, math.MinInt32} {
			does(t, "I", fmt.Sprintf("const I %d / if %s%s", a, cond, ends), yes[so(a, 0)])
			for _, b := range []int64{0, 1, -1, 5, math.MaxInt32, math.MinInt32} {
				does(t, "I", fmt.Sprintf("const I %d / const I %d / ifint %s%s", a, b, cond, ends), yes[so(a, b)])
			}
		}
	}
	const made = "new Object / dup / call special Object new ()V"
	for _, eq := range words("eq ne") {
		is, not := yes[eq == "eq"], yes[eq != "eq"]
		does(t, "I", "null / ifnull "+eq+ends, is)
		does(t, "I", made+" / ifnull "+eq+ends, not)
		does(t, "I", "null / null / ifsame "+eq+ends, is)
		does(t, "I", made+" / null / ifsame "+eq+ends, not)
		does(t, "I", "null / "+made+" / ifsame "+eq+ends, not)
		does(t, "I", made+" / dup / ifsame "+eq+ends, is)
		does(t, "I", made+" / "+made+" / ifsame "+eq+ends, not)
	}
	does(t, "I", "goto there / back: / const I 4 / return I / there: / goto back", "ok I 4")
	does(t, "I", "const I 0 / store I 0 / loop: / inc 0 3 / load I 0 / const I 30 / ifint lt loop / load I 0 / return I", "ok I 30")
}

func TestSwitches(t *testing.T) {
	const ends = " / a: / const I 0 / return I / t0: / const I 1 / return I / t1: / const I 2 / return I / t2: / const I 3 / return I"
	for _, row := range [][3]int64{
		{0, 0, 1}, {0, 1, 2}, {0, 2, 3}, {0, 3, 0}, {0, -1, 0}, {0, math.MaxInt32, 0}, {0, math.MinInt32, 0}, {-5, -5, 1}, {-5, -3, 3}, {-5, -2, 0}, {-5, -6, 0}, {-1, 1, 3}, {7, 0, 0},
		// The difference is exact: it is not wrapped.
		{math.MinInt32, math.MinInt32, 1}, {math.MinInt32, math.MinInt32 + 2, 3}, {math.MinInt32, math.MinInt32 + 3, 0}, {math.MinInt32, math.MaxInt32, 0}, {math.MinInt32, 0, 0},
		{math.MaxInt32, math.MaxInt32, 1}, {math.MaxInt32, math.MinInt32, 0}, {math.MaxInt32, math.MinInt32 + 1, 0}, {math.MaxInt32, math.MaxInt32 - 1, 0}, {math.MaxInt32 - 1, math.MaxInt32, 2}, {math.MaxInt32 - 1, math.MinInt32, 0},
	} {
		does(t, "I", fmt.Sprintf("const I %d / switch %d a t0 t1 t2%s", row[1], row[0], ends), fmt.Sprint("ok I ", row[2]))
	}
	// A stands anywhere.
	does(t, "I", "const I 9 / switch 0 t1 t0 t2"+ends, "ok I 2")
	does(t, "I", "const I -1 / switch 0 t2 t0 t1"+ends, "ok I 3")
	does(t, "I", "const I 5 / switch 5 a t2"+ends, "ok I 3")
	does(t, "I", "const I 6 / switch 5 a t2"+ends, "ok I 0")
	does(t, "I", "const I 99 / switch 0 a"+strings.Repeat(" t0", 99)+" t1"+ends, "ok I 2")
	does(t, "I", "const I 100 / switch 0 a"+strings.Repeat(" t0", 99)+" t1"+ends, "ok I 0")
}

// What lies beneath stays: each instruction takes just what it takes.
func TestWhatLiesBeneath(t *testing.T) {
	t.Parallel()
	o := made("Object")
	for _, code := range []string{
		"const J 1 / pop", `text "a" / pop`, "null / pop", "null / store R 1", "const I 1 / store I 1", "const J 1 / store J 1 / load J 1 / pop", "const I 1 / store I 1 / inc 1 1", "null / dup / pop / pop", "null / const I 1 / swap / pop / pop", "null / const I 1 / under / pop / pop / pop",
		"const I 1 / const I 2 / add I / pop", "const J 1 / const I 2 / shl J / pop", "const D 1p0 / neg D / pop", "const J 1 / const J 2 / cmp J / pop", "const D 1p0 / const D nan / cmp D 1 / pop", "const I 1 / conv I D / pop",
		"goto on / on:", "const I 0 / if eq on / on:", "const I 1 / if eq on / on:", "const I 1 / const I 2 / ifint eq on / on:", "null / ifnull eq on / on:", "null / ifnull ne on / on:", "null / null / ifsame eq on / on:", "null / null / ifsame ne on / on:", "const I 1 / switch 0 on on / on:", "const I 0 / switch 0 on on / on:",
		"getstatic S n I / pop", "const I 1 / putstatic S n I", made("F") + " / get F f J / pop", made("F") + " / const J 1 / put F f J", "const I 1 / newarray I / pop", "const I 1 / newarray I / length / pop", "const I 1 / newarray D / const I 0 / aload D / pop", "const I 1 / newarray D / const I 0 / const D 1p0 / astore D",
		o + " / pop", "null / cast @F / pop", o + " / is @F / pop", o + " / dup / enter / pop", o + " / dup / enter / exit", o + " / dup / enter / dup / call virtual Object notify ()V / dup / call virtual Object wake ()V / exit", o + " / call virtual Object hash ()I / pop",
		say(1), printCode("J"), printCode("D"), "null / " + printS, `text "a" / call virtual String length ()I / pop`, `text "a" / const I 0 / call virtual String at (I)I / pop`, `text "a" / dup / call virtual String join (@String)@String / pop`, `text "a" / null / call virtual String same (@Object)I / pop`, `text "a" / const I 0 / const I 1 / call virtual String part (I,I)@String / pop`,
		made("Thread") + " / dup / call virtual Thread begin ()V / dup / call virtual Thread stop ()V / dup / call virtual Thread stopped ()I / pop / call virtual Thread join ()V", "const J 1 / const D 1p0 / call static F s (J,D)V", "const J 1 / call static F g (J)J / pop", made("F") + " / const I 1 / call virtual F v (I)V", made("F") + " / const I 1 / call interface H v (I)V",
	} {
		cs := told(shared, mainOf("I", "const I 5 / "+code+" / return I"), "class H Object abstract interface / method v (I)V abstract",
			"class F Object / implements H / field f J"+makesSuper("Object")+" / method s (J,D)V static stack 0 locals 2 / return / method g (J)J static stack 1 locals 1 / load J 0 / return J / method v (I)V stack 0 locals 2 / return / method start ()V static stack 0 locals 0 / return")
		if o := ran(t, cs, "M main ()I"); o.Value != (impl.Value{Kind: 1, N: 5}) {
			t.Errorf("%s: %v", code, o)
		}
	}
}

func printCode(kind string) string {
	return constText(kind, 0) + " / call static System print (" + kind + ")V"
}
