package tests

import (
	"fmt"
	"math"
	"reflect"
	"slices"
	"strings"
	"testing"

	"loop.example/g00032/impl"
)

// Every function of chapter 9 answers at every argument: a panic, or one that never ends, fails the run.

func oddArgs() [][]impl.Value {
	out := [][]impl.Value{nil, {}, {{}}, make([]impl.Value, 8), make([]impl.Value, 9), make([]impl.Value, 100000)}
	for _, n := range extremes() {
		out = append(out, []impl.Value{{Kind: n, N: n}}, []impl.Value{{Kind: impl.KindInt, N: n}}, []impl.Value{{Kind: impl.KindFloat, N: n}}, []impl.Value{{Kind: impl.KindRef, N: n}}, []impl.Value{{Kind: impl.KindInt, N: 1}, {Kind: impl.KindLong, N: n}})
	}
	return out
}

func oddMembers() [][2]string {
	return [][2]string{{"m", "(I)I"}, {"m", "()V"}, {"main", "()I"}, {"new", "()V"}, {"work", "(D)I"}, {"start", "()V"}, {"", ""}, {"hash", "()I"}, {"\xff", "(\xff)V"}, {strings.Repeat("m", 1000), strings.Repeat("(", 1000)}}
}

func TestMachinesAnswerEverywhere(t *testing.T) {
	t.Parallel()
	spaces := oddSpaces()
	for _, m := range oddMethods() {
		spaces = append(spaces, append(told("class A Object"), impl.Class{Name: "B", Super: "A", Methods: []impl.Method{m}}))
	}
	for k, cs := range spaces {
		holds := impl.SpaceOk(cs) && len(impl.LinkFaults(cs)) == 0
		right := holds && len(impl.InferAll(cs)) == 0
		classes, members := []string{"", "A", "B", "N100", "Object", "Error", "System", "R.one$", "\xff", "@A"}, oddMembers()
		if k > 12 {
			classes, members = []string{"A", "B", "Error"}, members[:3]
		}
		for _, class := range classes {
			order := impl.InitOrder(cs, class)
			if !holds && len(order) > 0 || len(order) > 0 && order[len(order)-1] != class {
				t.Errorf("%.40q begins by %v", class, order)
			}
			for _, member := range members {
				testMachineAt(t, cs, holds, right, class, member[0], member[1])
			}
		}
		if k > 12 && k%50 > 0 {
			continue
		}
		for _, args := range oddArgs() {
			for _, fuel := range []int64{math.MinInt64, -1, 0, 1, 100, impl.MaxFuel, impl.MaxFuel + 1, math.MaxInt64} {
				o := impl.Run(cs, "B", "m", "(I)I", args, fuel)
				if !right && o.Code != impl.RunArgs && o.Code != impl.RunVerify || o.Steps > max(fuel, 0) {
					t.Errorf("%v with %d: %v", args, fuel, o)
				}
			}
		}
	}
}

// testMachineAt holds what the functions tell of one method against each other.
func testMachineAt(t *testing.T, cs []impl.Class, holds, right bool, class, name, sig string) {
	t.Helper()
	own := slices.IndexFunc(append(impl.Boot(), cs...), func(c impl.Class) bool { return c.Name == class })
	for _, at := range []int64{math.MinInt64, -1, 0, 1, 7, 399, 400, math.MaxInt64} {
		got, ok := impl.Resolve(cs, class, name, sig, at)
		if ok && (!holds || own < 0 || at < 0 || at >= impl.MaxCode) || !ok && got != "" {
			t.Errorf("%.40q %.40q at %d means %q, %v", class, name, at, got, ok)
		}
	}
	for _, args := range [][]impl.Value{nil, {{Kind: impl.KindInt, N: 3}}} {
		o := impl.Run(cs, class, name, sig, args, 100)
		bare := impl.Outcome{Code: o.Code}
		if o.Code < impl.RunOk || o.Code > impl.RunThrown || o.Steps < 0 || o.Steps > 100 || !holds && o.Code != impl.RunArgs || !right && o.Code > impl.RunVerify || (o.Code == impl.RunArgs || o.Code == impl.RunVerify) && !alike(o, bare) {
			t.Errorf("%.40q %.40q: %v", class, name, o)
		}
	}
}

func TestCaughtAnswersEverywhere(t *testing.T) {
	t.Parallel()
	methods := oddMethods()
	for _, n := range extremes() {
		for _, u := range extremes() {
			methods = append(methods, impl.Method{Handlers: []impl.Handler{{From: n, To: u, At: n, Type: "Error"}, {From: u, To: n, At: u}, {From: n, To: maxLong, Type: strings.Repeat("[", 1000)}}})
		}
	}
	methods = append(methods, impl.Method{Handlers: make([]impl.Handler, 100000)})
	spaces := oddSpaces()[:18]
	for k, m := range methods {
		cs := spaces[k%len(spaces)]
		for _, at := range extremes() {
			for _, class := range []string{"", "A", "Error", "NullError", "\xff"} {
				got := impl.Caught(cs, m, at, class)
				if got < -1 || got >= int64(len(m.Handlers)) {
					t.Errorf("%q at %d is caught by %d", class, at, got)
				}
				if got >= 0 && (m.Handlers[got].From > at || m.Handlers[got].To <= at) {
					t.Errorf("%q at %d is caught by %v", class, at, m.Handlers[got])
				}
			}
		}
	}
}

// someRuns are spaces with a method main of M.
func someRuns() [][]impl.Class {
	b := builder{numbers{state: 96}}
	out := [][]impl.Class{nil, told(mainOf("I", "const I 1 / return I")), told(mainOf("I", "pop / return I")), told(mainOf("I", "const I 1 / return I"), "class B Nope"),
		told(append(lineClasses(), mainOf("I", "new D / pop / getstatic D c I / return I"))...), told(shared, sleeper("A", 1), mainOf("I", objects+begun("A", "a")+" / "+begun("A", "b")+" / const I 1 / return I"))}
	for range 14 {
		out = append(out, b.program())
	}
	return out
}

func askMachines(cs []impl.Class, args []impl.Value) []any {
	out := []any{impl.Run(cs, "M", "main", "()I", args, 2000), impl.Run(cs, "M", "helper", "(I)I", args, 300), impl.Run(cs, "M", "helper", "(I)I", append(slices.Clone(args), impl.Value{Kind: 1, N: 4})[:1], 300)}
	for _, c := range append(slices.Clone(cs), impl.Boot()...) {
		out = append(out, impl.InitOrder(cs, c.Name))
		for _, m := range c.Methods {
			for at := int64(0); at < int64(len(m.Code)); at += 7 {
				class, ok := impl.Resolve(cs, c.Name, m.Name, m.Sig, at)
				out = append(out, class, ok, impl.Caught(cs, m, at, "StopError"))
			}
		}
	}
	return out
}

func TestRunsStay(t *testing.T) {
	t.Parallel()
	all := someRuns()
	for _, cs := range wrongSpaces() {
		all = append(all, cs)
	}
	for _, m := range oddMethods() {
		all = append(all, []impl.Class{{Name: "M", Super: "Object", Methods: []impl.Method{m}}})
	}
	for _, cs := range all {
		v, w := roomy(reflect.ValueOf(cs)), roomy(reflect.ValueOf([]impl.Value{}))
		before, args := full(v), full(w)
		askMachines(v.Interface().([]impl.Class), w.Interface().([]impl.Value))
		if !reflect.DeepEqual(before, full(v)) {
			t.Error("classes are not as they were")
		}
		if !reflect.DeepEqual(args, full(w)) {
			t.Error("arguments are not as they were")
		}
	}
	args := roomy(reflect.ValueOf([]impl.Value{{Kind: 1, N: 7}, {Kind: 2, N: 8}, {Kind: 3, N: 9}, {Kind: 4}, {Kind: 4}}))
	before := full(args)
	o := impl.Run(endClasses(), "A", "m", "(I,J,D,@A,[I)I", args.Interface().([]impl.Value), 10)
	if o.Value.N != 7 || !reflect.DeepEqual(before, full(args)) {
		t.Errorf("arguments are not as they were: %v", o)
	}
	for _, m := range oddMethods() {
		v := roomy(reflect.ValueOf(m))
		before := full(v)
		impl.Caught(nil, v.Interface().(impl.Method), 1, "Error")
		if !reflect.DeepEqual(before, full(v)) {
			t.Error("a method is not as it was")
		}
	}
}

// What stands in the spare room behind code, handlers and arguments is not looked at.
func TestSpareRoomIsNotRun(t *testing.T) {
	t.Parallel()
	for _, cs := range someRuns() {
		given := roomy(reflect.ValueOf(cs)).Interface().([]impl.Class)
		args := roomy(reflect.ValueOf([]impl.Value{})).Interface().([]impl.Value)
		if fmt.Sprintf("%+v", askMachines(given, args)) != fmt.Sprintf("%+v", askMachines(cs, nil)) {
			t.Error("spare room changes a run")
		}
	}
}

func TestRunsShareNothing(t *testing.T) {
	t.Parallel()
	lists := 0
	for k, cs := range someRuns() {
		cs = roomy(reflect.ValueOf(cs)).Interface().([]impl.Class)
		one, two := askMachines(cs, nil), askMachines(cs, nil)
		apart(t, fmt.Sprint("space ", k), append(append([]any{cs}, one...), two...)...)
		for j := range one {
			v := reflect.New(reflect.TypeOf(one[j])).Elem()
			v.Set(reflect.ValueOf(one[j]))
			if o, ok := one[j].(impl.Outcome); ok {
				lists += len(o.Trace) + len(o.Dead)
			}
			if v.Kind() == reflect.Struct || v.Kind() == reflect.Slice {
				spoil(v)
			}
		}
		if fmt.Sprint(askMachines(cs, nil)) != fmt.Sprint(two) {
			t.Error("an answer is to be seen in another")
		}
	}
	if lists < 30 {
		t.Errorf("only %d lines and threads", lists)
	}
}

// What a run leaves behind is not to be seen in the next: statics, texts, locks, classes that began.
func TestRunsAnswerTheSameAgain(t *testing.T) {
	t.Parallel()
	cs := told(append(lineClasses(), shared, "class T Object / field n I static", mainOf("I", objects+lines(enterO, "getstatic T n I / const I 1 / add I / putstatic T n I", "new D / pop", `text "a" / call virtual Object hash ()I`, printI, "getstatic T n I / return I")))...)
	want := impl.Run(cs, "M", "main", "()I", nil, 1000)
	same(t, "once", shownOutcome(want), "ok I 1 : 1 2 4 4")
	for k := range 30 {
		impl.Run(cs, "M", "main", "()I", nil, int64(k))
		impl.Run(someOther(k), "B", fmt.Sprint("m", k), "()V", nil, 5)
		same(t, "again", impl.Run(cs, "M", "main", "()I", nil, 1000), want)
	}
}

// The longest runs: all fuel, spent in a row of frames, objects, lines and threads.
func TestTheLongestRuns(t *testing.T) {
	t.Parallel()
	does(t, "V", "loop: / "+say(7)+" / goto loop", "fuel : "+strings.TrimSuffix(strings.Repeat("7 ", impl.MaxFuel/3), " "))
	const deep = " / method deep ()V static stack 1 locals 40 / call static M deep ()V / return"
	does(t, "V", "loop: / call static M deep ()V / back: / goto loop / caught: / pop / goto loop / handler loop back caught SizeError"+deep, "fuel")
	// As many arrays as there may be, each of the greatest.
	does(t, "V", "loop: / const I 1000 / newarray [D / pop / goto loop", "room")
	// Threads that wake each other and wait, in turn.
	spun(t, lines(begins("L", 14), begun("L", "a"), joined("a")), "fuel", runner("L", "", "loop: / "+lines(enterO, wakeO, waitO, exitO, "goto loop")))
	// Handlers that take nothing, all that there may be, in each frame.
	handlers := strings.Repeat(" / handler 0 2 2 StopError", impl.MaxHandlers-1) + " / handler 0 2 2 NullError"
	does(t, "V", "loop: / call static M f ()V / goto loop / method f ()V static stack 1 locals 0 / null / throw / pop / return"+handlers, "room")
}
