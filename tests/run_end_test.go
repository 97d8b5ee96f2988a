package tests

import (
	"math"
	"slices"
	"testing"

	"loop.example/g00032/impl"
)

// endClasses have methods that a run may begin with, and others.
func endClasses() []impl.Class {
	return told("class A Object abstract / method m (I,J,D,@A,[I)I static stack 1 locals 5 / load I 0 / return I / method s ()V static stack 0 locals 0 / return / method v ()V stack 0 locals 1 / return / method n ()V static native / method a ()V abstract"+
		" / method p ()V static private stack 0 locals 0 / return / method y ()V static final sync stack 0 locals 0 / return / method start ()V static stack 0 locals 0 / return / method new ()V stack 1 locals 1 / load R 0 / call special Object new ()V / return", "class B A", "class I Object abstract interface / method s ()V static stack 0 locals 0 / return")
}

func rightArgs() []impl.Value {
	return []impl.Value{{Kind: impl.KindInt, N: 7}, {Kind: impl.KindLong, N: 8}, {Kind: impl.KindFloat, N: 9}, {Kind: impl.KindRef}, {Kind: impl.KindRef}}
}

func TestRunArgs(t *testing.T) {
	cs := endClasses()
	refuses := func(why string, cs []impl.Class, class, name, sig string, args []impl.Value, fuel int64) {
		t.Helper()
		same(t, why, impl.Run(cs, class, name, sig, args, fuel), impl.Outcome{Code: impl.RunArgs})
	}
	const sig = "(I,J,D,@A,[I)I"
	takes := func(why string, args []impl.Value, fuel int64, want impl.Outcome) {
		t.Helper()
		same(t, why, impl.Run(cs, "A", "m", sig, args, fuel), want)
	}
	seven := impl.Outcome{Value: impl.Value{Kind: impl.KindInt, N: 7}, Steps: 2}
	takes("all is right", rightArgs(), 10, seven)
	// Fuel.
	takes("the most fuel", rightArgs(), impl.MaxFuel, seven)
	takes("just enough", rightArgs(), 2, seven)
	takes("one too few", rightArgs(), 1, impl.Outcome{Code: impl.RunFuel, Steps: 1})
	takes("none", rightArgs(), 0, impl.Outcome{Code: impl.RunFuel})
	for _, fuel := range []int64{-1, math.MinInt64, impl.MaxFuel + 1, math.MaxInt64} {
		refuses("fuel", cs, "A", "m", sig, rightArgs(), fuel)
	}
	// Classes and methods.
	for why, cs := range brokenSpaces() {
		refuses(why, cs, "A", "good", "()V", nil, 10)
	}
	for why, cs := range wrongSpaces() {
		refuses(why, append(told("class Q Object"+goodMethod), cs...), "Q", "good", "()V", nil, 10)
	}
	for _, class := range []string{"", "Nope", "@A", "B", "Object", "System", "Thread", "a"} {
		refuses("class "+class, cs, class, "s", "()V", nil, 10)
	}
	for _, m := range []string{"A v ()V", "A n ()V", "A a ()V", "A new ()V", "A s ()I", "A s (I)V", "A S ()V", "A none ()V", "System print (I)V", "Object new ()V", "Object hash ()I", "Thread run ()V", "B s ()V", "B start ()V"} {
		w := words(m)
		refuses(m, cs, w[0], w[1], w[2], nil, 10)
		refuses(m, cs, w[0], w[1], w[2], []impl.Value{{Kind: impl.KindInt}}, 10)
	}
	refuses("no name", cs, "A", "", "", nil, 10)
	for _, m := range []string{"A s ()V", "A p ()V", "A y ()V", "A start ()V", "I s ()V"} {
		w := words(m)
		same(t, m, impl.Run(cs, w[0], w[1], w[2], nil, 10), impl.Outcome{Steps: 1})
		same(t, m, impl.Run(cs, w[0], w[1], w[2], []impl.Value{}, 10), impl.Outcome{Steps: 1})
		refuses(m+" takes nothing", cs, w[0], w[1], w[2], rightArgs()[:1], 10)
	}
	// Arguments: too few, too many, of another kind.
	for n := range 5 {
		refuses("too few", cs, "A", "m", sig, rightArgs()[:n], 10)
		args := rightArgs()
		for _, kind := range []int64{math.MinInt64, -1, 0, 1, 2, 3, 4, 5, 6, 7, 8, math.MaxInt64} {
			args[n] = impl.Value{Kind: kind}
			if kind == rightArgs()[n].Kind {
				if o := impl.Run(cs, "A", "m", sig, args, 10); o.Code != impl.RunOk {
					t.Errorf("argument %d of 0: %v", n, o)
				}
				continue
			}
			refuses("another kind", cs, "A", "m", sig, args, 10)
		}
	}
	refuses("too many", cs, "A", "m", sig, append(rightArgs(), impl.Value{Kind: impl.KindInt}), 10)
	// Values that can be, and such as can't.
	values := map[int][2][]int64{
		0: {{0, -1, math.MaxInt32, math.MinInt32}, {math.MaxInt32 + 1, math.MinInt32 - 1, 1 << 32, math.MaxInt64, math.MinInt64}},
		1: {{0, -1, math.MaxInt64, math.MinInt64}, nil},
		2: {{0, signBit, infinity, minusInfinity, impl.NaNBits, 1, bitsOf(0.1)}, {impl.NaNBits + 1, impl.NaNBits | signBit, -1, loud, infinity + 1}},
		3: {{0}, {1, -1, 2, 4000, math.MaxInt64, math.MinInt64}},
		4: {{0}, {1, -1, math.MinInt64}},
	}
	for n, lists := range values {
		args := rightArgs()
		for _, args[n].N = range lists[0] {
			if o := impl.Run(cs, "A", "m", sig, args, 10); o.Code != impl.RunOk || o.Value != args[0] {
				t.Errorf("%v: %v", args, o)
			}
		}
		for _, args[n].N = range lists[1] {
			refuses("a value that can't be", cs, "A", "m", sig, args, 10)
		}
	}
}

// Every method of every class has to be right, also such as nobody calls; frames that are told do not matter.
func TestRunVerify(t *testing.T) {
	const good = "class A Object / method m ()V static stack 0 locals 0 / return"
	wrong := impl.Outcome{Code: impl.RunVerify}
	for _, bad := range []string{" / method b ()V static stack 0 locals 0 / pop / return", " / method b ()I static stack 1 locals 0 / null / return R", " / method b ()V stack 0 locals 1 / inc 0 1 / return", " / method new ()V stack 0 locals 1 / return"} {
		same(t, bad, impl.Run(told(good+bad), "A", "m", "()V", nil, 10), wrong)
		same(t, bad, impl.Run(told(good, "class B Object"+bad), "A", "m", "()V", nil, 0), wrong)
		same(t, bad, impl.Run(told("class B A"+bad, good), "A", "m", "()V", nil, 10), wrong)
		// What is wrong with the arguments comes ahead.
		same(t, bad, impl.Run(told(good+bad), "A", "m", "()V", nil, -1), impl.Outcome{Code: impl.RunArgs})
		same(t, bad, impl.Run(told(good+bad), "A", "n", "()V", nil, 10), impl.Outcome{Code: impl.RunArgs})
		same(t, bad, impl.Run(told(good+bad), "A", "m", "()V", rightArgs(), 10), impl.Outcome{Code: impl.RunArgs})
	}
	const loop = "class A Object / method m (I)I static stack 1 locals 1 / load I 0 / if eq 4 / inc 0 -1 / goto 0 / load I 0 / return I"
	for _, frames := range []string{"", " / frame 0 J | J", " / frame 0 I | / frame 4 I |"} {
		same(t, "frames"+frames, impl.Run(told(loop+frames), "A", "m", "(I)I", []impl.Value{{Kind: 1, N: 3}}, 100), impl.Outcome{Value: impl.Value{Kind: 1}, Steps: 3*4 + 4})
	}
	// Code to which nothing leads is not looked at.
	same(t, "unreached", impl.Run(told(good+" / pop / pop"), "A", "m", "()V", nil, 10), impl.Outcome{Steps: 1})
}

func TestFuel(t *testing.T) {
	cs := told(mainOf("I", say(1)+" / "+say(2)+" / const I 9 / return I"))
	for fuel := range int64(8) {
		want := impl.Outcome{Code: impl.RunFuel, Steps: fuel, Trace: []string{"1", "2"}[:min(2, fuel/2)]}
		if fuel >= 6 {
			want = impl.Outcome{Value: impl.Value{Kind: 1, N: 9}, Steps: 6, Trace: []string{"1", "2"}}
		}
		same(t, "fuel", impl.Run(cs, "M", "main", "()I", nil, fuel), want)
	}
	// One that never ends uses up all.
	does(t, "V", "here: / goto here", "fuel")
	// A thread that has not ended yet needs steps, too.
	cs = told(mainOf("V", made("Thread")+" / call virtual Thread begin ()V / return"))
	full := ran(t, cs, "M main ()V")
	same(t, "with a thread", full, impl.Outcome{Steps: 10})
	same(t, "with a thread, one too few", impl.Run(cs, "M", "main", "()V", nil, 9), impl.Outcome{Code: impl.RunFuel, Steps: 9})
	// What is thrown, and what is dead, needs no step behind it.
	cs = told(mainOf("V", "null / throw"))
	same(t, "thrown", impl.Run(cs, "M", "main", "()V", nil, 2), impl.Outcome{Code: impl.RunThrown, Thrown: "NullError", Steps: 2})
	same(t, "thrown, one too few", impl.Run(cs, "M", "main", "()V", nil, 1), impl.Outcome{Code: impl.RunFuel, Steps: 1})
	cs = told(mainOf("V", "new Object / dup / call special Object new ()V / dup / enter / call virtual Object wait ()V / return"))
	same(t, "dead", impl.Run(cs, "M", "main", "()V", nil, 7), impl.Outcome{Code: impl.RunDead, Dead: []int64{0}, Steps: 7})
	same(t, "dead, one too few", impl.Run(cs, "M", "main", "()V", nil, 6), impl.Outcome{Code: impl.RunFuel, Steps: 6})
}

// What a run gives: a value of the method's type, and a text where it is an object of String.
func TestValues(t *testing.T) {
	for _, row := range [][2]string{{"I", "ok I 5"}, {"J", "ok J 5"}} {
		does(t, row[0], "const "+row[0]+" 5 / return "+row[0], row[1])
	}
	does(t, "D", "const D 5p0 / return D", "ok D 5p0")
	does(t, "@String", `text "x" / return R`, `ok R 1 "x"`)
	does(t, "@Object", `text "x" / return R`, `ok R 1 "x"`)
	does(t, "@I", `text "x" / return R`, `ok R 1 "x"`, "class I Object abstract interface")
	does(t, "[I", "const I 1 / newarray I / return R", "ok R 1")
	does(t, "@Object", "const I 1 / newarray @String / return R", "ok R 1")
	does(t, "@Error", "new Error / dup / "+`text "x" / call special Error new (@String)V / return R`, "ok R 1")
	does(t, "@String", "null / return R", "ok R 0")
	does(t, "V", "const I 5 / return", "ok")
	// What another thread gives does not count, nor how it ends.
	does(t, "I", made("T")+" / dup / call virtual T begin ()V / call virtual T join ()V / const I 1 / return I", "ok I 1 : 2", "class T Thread"+makesSuper("Thread")+" / method run ()V stack 1 locals 1 / "+say(2)+" / null / throw")
}

// The steps of each end, with what was printed up to there.
func TestEndsTellAll(t *testing.T) {
	const lines = "const I 3 / " + printI + " / "
	trace := []string{"3"}
	for _, row := range []struct {
		code string
		want impl.Outcome
	}{
		{"const I 4 / return I", impl.Outcome{Value: impl.Value{Kind: 1, N: 4}, Steps: 4}},
		{"here: / goto here", impl.Outcome{Code: impl.RunFuel, Steps: impl.MaxFuel}},
		{"here: / new Object / pop / goto here", impl.Outcome{Code: impl.RunRoom, Steps: 2 + 3*impl.MaxObjects + 1}},
		{"new Object / dup / call special Object new ()V / dup / enter / call virtual Object wait ()V / const I 0 / return I", impl.Outcome{Code: impl.RunDead, Steps: 9, Dead: []int64{0}}},
		{"null / throw", impl.Outcome{Code: impl.RunThrown, Steps: 4, Thrown: "NullError"}},
	} {
		row.want.Trace = trace
		same(t, row.code, ran(t, told(mainOf("I", lines+row.code)), "M main ()I"), row.want)
	}
}

// A run that is looked at ever more often, by ever more fuel, is the same run.
func TestMoreFuelGoesOn(t *testing.T) {
	t.Parallel()
	cs := told(mainOf("I", "const I 0 / store I 0 / loop: / load I 0 / "+printI+" / inc 0 1 / load I 0 / const I 30 / ifint lt loop / "+made("T")+" / dup / call virtual T begin ()V / call virtual T join ()V / getstatic T n I / return I"),
		"class T Thread / field n I static"+makesSuper("Thread")+" / method run ()V stack 2 locals 1 / "+say(77)+" / const I 5 / putstatic T n I / return")
	whole := ran(t, cs, "M main ()I")
	same(t, "the whole", whole.Value, impl.Value{Kind: 1, N: 5})
	last := 0
	for fuel := range whole.Steps + 20 {
		o := impl.Run(cs, "M", "main", "()I", nil, fuel)
		if fuel >= whole.Steps {
			same(t, "enough", o, whole)
			continue
		}
		if o.Code != impl.RunFuel || o.Steps != fuel || len(o.Trace) < last || !slices.Equal(o.Trace, whole.Trace[:len(o.Trace)]) {
			t.Fatalf("with %d: %v", fuel, o)
		}
		last = len(o.Trace)
	}
}
