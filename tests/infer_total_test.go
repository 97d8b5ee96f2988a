package tests

import (
	"fmt"
	"reflect"
	"slices"
	"strings"
	"testing"

	"loop.example/g00032/impl"
)

// Every function of chapter 8 answers at every argument: a panic, or one that never ends, fails the run.

func TestFindersAnswerEverywhere(t *testing.T) {
	t.Parallel()
	spaces := oddSpaces()
	for _, m := range oddMethods() {
		spaces = append(spaces, append(told("class A Object"), impl.Class{Name: "B", Super: "A", Methods: []impl.Method{m}}))
	}
	for _, cs := range spaces {
		holds := impl.SpaceOk(cs) && len(impl.LinkFaults(cs)) == 0
		failures, again := impl.InferAll(cs), impl.WithFrames(cs)
		if !holds && len(failures)+len(again) > 0 {
			t.Errorf("failures and frames where nothing holds: %v %v", failures, again)
		}
		if holds && (len(again) != len(cs) || !impl.SpaceOk(again) || len(impl.LinkFaults(again)) > 0) {
			t.Errorf("with frames it is no space that holds: %v", again)
		}
		for _, class := range []string{"", "A", "B", "N100", "Object", "Error", "R.one$", "\xff", "@A"} {
			for _, member := range [][2]string{{"m", "(I)I"}, {"m", "()V"}, {"new", "()V"}, {"work", "(D)I"}, {"start", "()V"}, {"", ""}, {"hash", "()I"}, {strings.Repeat("m", 1000), strings.Repeat("(", 1000)}} {
				testFinderAt(t, cs, holds, failures, class, member[0], member[1])
			}
		}
	}
}

// testFinderAt holds what the functions tell of one method against each other.
func testFinderAt(t *testing.T, cs []impl.Class, holds bool, failures []impl.Failure, class, name, sig string) {
	t.Helper()
	v, checked := impl.Infer(cs, class, name, sig), impl.Check(cs, class, name, sig)
	if v.Code < impl.VerOk || v.Code > impl.VerMerge || v.At < 0 || v.At >= impl.MaxCode || v.At != 0 && v.Code <= impl.VerArgs || !holds && v.Code != impl.VerArgs || v.Code != impl.VerOk && len(v.Frames) > 0 {
		t.Errorf("%.40q %q: %v", class, name, v)
	}
	if (v.Code == impl.VerArgs) != (checked.Code == impl.VerArgs) || checked.Code == impl.VerOk && v.Code != impl.VerOk {
		t.Errorf("%.40q %q: %v, but it is checked as %v", class, name, v, checked)
	}
	own := slices.ContainsFunc(cs, func(c impl.Class) bool { return c.Name == class })
	told := slices.Contains(failures, impl.Failure{Class: class, Name: name, Sig: sig, Code: v.Code, At: v.At})
	if own && told != (v.Code > impl.VerArgs) {
		t.Errorf("%.40q %q: %v, but %v are all", class, name, v, failures)
	}
}

func TestJoinsAnswerEverywhere(t *testing.T) {
	t.Parallel()
	texts := append(linkTexts(), wrongShapes()...)
	texts = append(texts, fitShapes()...)
	for k, cs := range oddSpaces() {
		if k > 16 && k%9 > 0 {
			continue
		}
		for _, s := range texts[:min(len(texts), 2000/(k+1))] {
			for _, u := range []string{"", "-", "@A", "@Object", "[@A", "0", "!!", "!7", "I", "\xff", s} {
				got := impl.JoinShapes(cs, s, u)
				if !impl.ShapeOk(got) || (!impl.ShapeOk(s) || !impl.ShapeOk(u)) && got != "-" || impl.ShapeOk(s) && s == u && got != s {
					t.Errorf("%.40q and %.40q are joined to %.40q", s, u, got)
				}
			}
		}
	}
}

// someInferred are spaces that hold, with methods of all sorts, right and wrong.
func someInferred() [][]impl.Class {
	b := builder{numbers{state: 95}}
	out := someChecked()
	for range 12 {
		cs := checkSpace("class B A")
		for k := range 5 {
			m := b.drifting()
			m.Name += strings.Repeat("x", k)
			cs[0].Methods = append(cs[0].Methods, m)
		}
		cs[0].Fields = []impl.Field{{Name: "f", Type: "@A"}, {Name: "g", Type: "I", Flags: impl.FlagStatic}}
		cs[0].Methods[0].Lines = []impl.Line{{At: 0, N: 1}, {At: 1, N: 7}}
		out = append(out, cs)
	}
	return out
}

func askFinders(cs []impl.Class) []any {
	out := []any{impl.InferAll(cs), impl.WithFrames(cs)}
	for _, c := range append(slices.Clone(cs), impl.Boot()...) {
		for _, m := range c.Methods {
			out = append(out, impl.Infer(cs, c.Name, m.Name, m.Sig))
		}
	}
	for _, s := range []string{"@B", "[@B", "0", "!!", ""} {
		out = append(out, impl.JoinShapes(cs, s, "@A"), impl.JoinShapes(cs, s, "[@A"), impl.JoinShapes(cs, s, "!!"))
	}
	return out
}

func TestInferredStay(t *testing.T) {
	t.Parallel()
	all := someInferred()
	for _, cs := range wrongSpaces() {
		all = append(all, cs)
	}
	for _, m := range oddMethods() {
		all = append(all, []impl.Class{{Name: "B", Super: "Object", Methods: []impl.Method{m}}})
	}
	for _, cs := range all {
		v := roomy(reflect.ValueOf(cs))
		before := full(v)
		askFinders(v.Interface().([]impl.Class))
		if !reflect.DeepEqual(before, full(v)) {
			t.Error("classes are not as they were")
		}
	}
}

// What stands in the spare room behind code and handlers is not looked at.
func TestSpareRoomIsNotInferred(t *testing.T) {
	for _, cs := range someInferred() {
		given := roomy(reflect.ValueOf(cs)).Interface().([]impl.Class)
		if fmt.Sprintf("%+v", askFinders(given)) != fmt.Sprintf("%+v", askFinders(cs)) {
			t.Error("spare room changes what is found")
		}
	}
}

func TestFindersShareNothing(t *testing.T) {
	t.Parallel()
	frames := 0
	for k, cs := range someInferred() {
		cs = roomy(reflect.ValueOf(cs)).Interface().([]impl.Class)
		one, two := askFinders(cs), askFinders(cs)
		apart(t, fmt.Sprint("space ", k), append(append([]any{cs}, one...), two...)...)
		for j := range one {
			v := reflect.New(reflect.TypeOf(one[j])).Elem()
			v.Set(reflect.ValueOf(one[j]))
			if found, ok := one[j].(impl.Inferred); ok {
				frames += len(found.Frames)
			}
			if v.Kind() == reflect.Struct || v.Kind() == reflect.Slice {
				spoil(v)
			}
		}
		if !reflect.DeepEqual(askFinders(cs), two) {
			t.Error("an answer is to be seen in another")
		}
	}
	if frames < 100 {
		t.Errorf("only %d frames", frames)
	}
}

// No two lists of one answer share memory: to write into a method is not to be seen in another.
func TestWithFramesSharesNothingWithin(t *testing.T) {
	for _, cs := range someInferred()[1:] {
		want := impl.WithFrames(cs)
		apart(t, "within", want)
		for k := range want[0].Methods {
			got := impl.WithFrames(cs)
			spoil(reflect.ValueOf(&got[0].Methods[k]).Elem())
			for j := range got[0].Methods {
				if j != k && !alike(got[0].Methods[j], want[0].Methods[j]) {
					t.Errorf("method %d shares memory with method %d", j, k)
				}
			}
		}
	}
}

func TestFindersAnswerTheSameAgain(t *testing.T) {
	cs := checkSpace("class B A" + shortMethod + goodMethod + loopMethod)
	want := []any{}
	for k := range 30 {
		got := askFinders(cs)
		if k == 0 {
			want = got
		}
		impl.Infer(told("class A Nope"), "A", "m", "()V")
		impl.WithFrames(someOther(k))
		if !reflect.DeepEqual(got, want) {
			t.Fatal("an answer hangs on the calls ahead")
		}
	}
}

// towerOf gives the most classes, each below the one ahead of it.
func towerOf() []impl.Class {
	cs := manyClasses(impl.MaxClasses)
	for k := 1; k < len(cs); k++ {
		cs[k].Super = cs[k-1].Name
	}
	return cs
}

// The most rounds that are easily had: each turn of a long loop moves what all locals have by one place, each of another class of a tower, and as many handlers as there may be cover all.
func TestTheLongestLoop(t *testing.T) {
	t.Parallel()
	cs := towerOf()
	m := impl.Method{Name: "m", Sig: "()V", Flags: impl.FlagStatic, Stack: 2, Locals: impl.MaxLocals}
	add := func(i impl.Ins) { m.Code = append(m.Code, i) }
	for k := range int64(impl.MaxLocals) {
		add(impl.Ins{Op: impl.OpNull})
		add(impl.Ins{Op: impl.OpCast, Type: "@" + cs[impl.MaxClasses-1-k].Name})
		add(impl.Ins{Op: impl.OpStore, Kind: impl.KindRef, A: k})
	}
	loop := int64(len(m.Code))
	for k := range int64(impl.MaxLocals - 1) {
		add(impl.Ins{Op: impl.OpLoad, Kind: impl.KindRef, A: k + 1})
		add(impl.Ins{Op: impl.OpStore, Kind: impl.KindRef, A: k})
	}
	for len(m.Code) < impl.MaxCode-2 {
		add(impl.Ins{Op: impl.OpGoto, A: int64(len(m.Code)) + 1})
	}
	add(impl.Ins{Op: impl.OpGoto, A: loop})
	add(impl.Ins{Op: impl.OpThrow})
	for range impl.MaxHandlers {
		m.Handlers = append(m.Handlers, impl.Handler{From: loop, To: impl.MaxCode, At: impl.MaxCode - 1, Type: "StopError"})
	}
	cs[7].Methods = []impl.Method{m}
	got := impl.Infer(cs, cs[7].Name, "m", "()V")
	top := "@" + cs[impl.MaxClasses-impl.MaxLocals].Name
	all := shapes(impl.MaxLocals, top)
	same(t, "the loop's frame", got.Frames[0], impl.Frame{At: loop, Locals: all})
	same(t, "the handler's frame", got.Frames[len(got.Frames)-1], impl.Frame{At: impl.MaxCode - 1, Locals: all, Stack: []string{"@StopError"}})
	same(t, "how many", len(got.Frames), impl.MaxCode-1-int(loop)-2*(impl.MaxLocals-1)+1)
	same(t, "with its frames", len(impl.CheckAll(impl.WithFrames(cs))), 0)
}

// As many targets as there may be, wherever one may be named, with all locals of a class far below that at the target.
func TestTheMostTargets(t *testing.T) {
	t.Parallel()
	cs := towerOf()
	low, high := cs[impl.MaxClasses-1].Name, cs[0].Name
	m := impl.Method{Name: "m", Sig: "()V", Flags: impl.FlagStatic, Stack: 1, Locals: impl.MaxLocals}
	add := func(i impl.Ins) { m.Code = append(m.Code, i) }
	fill := func(class string) {
		for k := range int64(impl.MaxLocals) {
			add(impl.Ins{Op: impl.OpNull})
			add(impl.Ins{Op: impl.OpCast, Type: "@" + class})
			add(impl.Ins{Op: impl.OpStore, Kind: impl.KindRef, A: k})
		}
	}
	const most, begin = impl.MaxTable, 2*(3*impl.MaxLocals+2) + 2
	pair := func(at int64) int64 { return begin + 2*(at%((impl.MaxCode-begin)/2)) }
	scatter := func(from int64) {
		i := impl.Ins{Op: impl.OpSwitch, A: pair(from)}
		for k := range int64(most) {
			i.Table = append(i.Table, pair(from+k))
		}
		add(impl.Ins{Op: impl.OpConst, Kind: impl.KindInt})
		add(i)
	}
	add(impl.Ins{Op: impl.OpConst, Kind: impl.KindInt})
	add(impl.Ins{Op: impl.OpIf, A: 2 + 3*impl.MaxLocals + 2, B: impl.CondEq})
	fill(high)
	scatter(0)
	fill(low)
	scatter(0)
	for len(m.Code) < impl.MaxCode {
		scatter(int64(len(m.Code)))
	}
	cs[7].Methods = []impl.Method{m}
	got := impl.Infer(cs, cs[7].Name, "m", "()V")
	same(t, "the code", got.Code, impl.VerOk)
	same(t, "a frame at each pair, and ahead of them", len(got.Frames), (impl.MaxCode-begin)/2+1)
	for _, f := range got.Frames[1:] {
		same(t, "a frame", f, impl.Frame{At: f.At, Locals: shapes(impl.MaxLocals, "@"+high)})
	}
	same(t, "with its frames", len(impl.CheckAll(impl.WithFrames(cs))), 0)
}
