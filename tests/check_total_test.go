package tests

import (
	"fmt"
	"reflect"
	"slices"
	"strings"
	"testing"

	"loop.example/g00032/impl"
)

// Every function of chapter 7 answers at every argument: a panic, or one that never ends, fails the run.

// oddMethods are such as can't be, in a class that is otherwise right; the list is no space then.
func oddMethods() []impl.Method {
	base := func() impl.Method {
		return told("class B A / method m (I)I static stack 2 locals 2 / load I 0 / if eq 3 / null / const I 1 / return I / pop / null / throw / handler 0 4 5 * / frame 3 - - | / frame 5 I - | @Throwable")[0].Methods[0]
	}
	out := []impl.Method{{}, {Name: "m"}, {Name: "m", Sig: "(I)I"}}
	for _, n := range extremes() {
		for _, change := range []func(m *impl.Method){
			func(m *impl.Method) { m.Stack = n }, func(m *impl.Method) { m.Locals = n }, func(m *impl.Method) { m.Flags = n },
			func(m *impl.Method) { m.Code[0].A = n }, func(m *impl.Method) { m.Code[0].Kind = n }, func(m *impl.Method) { m.Code[1].A = n }, func(m *impl.Method) { m.Code[1].Op = n },
			func(m *impl.Method) { m.Handlers[0].From = n }, func(m *impl.Method) { m.Handlers[0].To = n }, func(m *impl.Method) { m.Handlers[0].At = n },
			func(m *impl.Method) { m.Frames[0].At = n }, func(m *impl.Method) { m.Frames[1].At = n },
			func(m *impl.Method) { m.Code = []impl.Ins{{Op: impl.OpSwitch, A: n, Table: []int64{n, 0}}} },
		} {
			m := base()
			change(&m)
			out = append(out, m)
		}
	}
	for _, s := range []string{"", "-", "!400", "!!", "\xff", strings.Repeat("[", 1<<16)} {
		m := base()
		m.Frames[0].Locals = []string{s}
		m.Frames[1].Stack = []string{s, s, s}
		out = append(out, m)
		m = base()
		m.Frames[0].Locals[1], m.Sig = s, "(I)I"
		m.Handlers[0].Type = s
		out = append(out, m)
	}
	for _, n := range []int{39, 40, 41, 100, 100000} {
		m := base()
		m.Stack, m.Locals = int64(n), int64(n)
		m.Frames = []impl.Frame{{Locals: shapes(n, "-"), Stack: shapes(n, "-")}, {At: 3, Locals: shapes(n, "-"), Stack: shapes(n, "-")}}
		out = append(out, m)
	}
	return out
}

func TestCheckersAnswerEverywhere(t *testing.T) {
	t.Parallel()
	spaces := oddSpaces()
	for _, m := range oddMethods() {
		spaces = append(spaces, append(told("class A Object"), impl.Class{Name: "B", Super: "A", Methods: []impl.Method{m}}))
	}
	for _, cs := range spaces {
		holds := impl.SpaceOk(cs) && len(impl.LinkFaults(cs)) == 0
		failures := impl.CheckAll(cs)
		if !holds && len(failures) > 0 {
			t.Errorf("failures where nothing holds: %v", failures)
		}
		for _, class := range []string{"", "A", "B", "N100", "Object", "Error", "R.one$", "\xff", "@A"} {
			for _, member := range [][2]string{{"m", "(I)I"}, {"m", "()V"}, {"new", "()V"}, {"work", "(D)I"}, {"start", "()V"}, {"", ""}, {"hash", "()I"}, {strings.Repeat("m", 1000), strings.Repeat("(", 1000)}} {
				testCheckerAt(t, cs, holds, failures, class, member[0], member[1])
			}
		}
	}
}

// testCheckerAt holds what the functions tell of one method against each other.
func testCheckerAt(t *testing.T, cs []impl.Class, holds bool, failures []impl.Failure, class, name, sig string) {
	t.Helper()
	v, start := impl.Check(cs, class, name, sig), impl.StartFrame(cs, class, name, sig)
	if v.Code < impl.VerOk || v.Code > impl.VerFall || v.At < 0 || v.At >= impl.MaxCode || v.At != 0 && v.Code <= impl.VerArgs || !holds && v.Code != impl.VerArgs {
		t.Errorf("%.40q %q: %v", class, name, v)
	}
	if start.At != 0 || len(start.Stack) != 0 || len(start.Locals) > impl.MaxLocals {
		t.Errorf("%.40q %q starts with %v", class, name, start)
	}
	for _, s := range start.Locals {
		if !impl.ShapeOk(s) {
			t.Errorf("%.40q %q starts with %v", class, name, start)
		}
	}
	own := slices.ContainsFunc(cs, func(c impl.Class) bool { return c.Name == class })
	told := slices.Contains(failures, impl.Failure{Class: class, Name: name, Sig: sig, Code: v.Code, At: v.At})
	if own && told != (v.Code > impl.VerArgs) {
		t.Errorf("%.40q %q: %v, but %v are all", class, name, v, failures)
	}
}

func TestShapesAnswerEverywhere(t *testing.T) {
	t.Parallel()
	texts := append(linkTexts(), wrongShapes()...)
	texts = append(texts, fitShapes()...)
	for k, cs := range oddSpaces() {
		if k > 16 && k%9 > 0 {
			continue
		}
		for _, s := range texts[:min(len(texts), 2000/(k+1))] {
			for _, u := range []string{"", "-", "@A", "@Object", "[@A", "0", "!!", "!7", "I", "\xff", s} {
				got := impl.ShapeFits(cs, s, u)
				if got && (!impl.ShapeOk(s) || !impl.ShapeOk(u)) || impl.ShapeOk(s) && !got && (u == "-" || u == s) {
					t.Errorf("%.40q fits %.40q: %v", s, u, got)
				}
			}
		}
	}
}

// someChecked are spaces that hold, with methods of all sorts, right and wrong.
func someChecked() [][]impl.Class {
	b := builder{numbers{state: 94}}
	out := [][]impl.Class{nil}
	for range 12 {
		cs := checkSpace("class B A")
		g := walker{builder: &b, reviewer: reviewer{w: checkWorld(), owner: cs[0]}, all: candidates()}
		for k := range 4 {
			m := g.anyMethod()
			if m.Name == "new" && k > 0 {
				m.Name = "renew"
			}
			m.Name += strings.Repeat("x", k)
			cs[0].Methods = append(cs[0].Methods, m)
		}
		out = append(out, cs)
	}
	return out
}

func askCheckers(cs []impl.Class) []any {
	out := []any{impl.CheckAll(cs)}
	for _, c := range append(slices.Clone(cs), impl.Boot()...) {
		for _, m := range c.Methods {
			out = append(out, impl.StartFrame(cs, c.Name, m.Name, m.Sig), impl.Check(cs, c.Name, m.Name, m.Sig))
		}
	}
	for _, s := range []string{"@B", "[@B", "0", "!!"} {
		out = append(out, impl.ShapeFits(cs, s, "@A"), impl.ShapeFits(cs, s, "[@A"), impl.ShapeFits(cs, s, "!!"))
	}
	return out
}

func TestCheckedStay(t *testing.T) {
	t.Parallel()
	all := someChecked()
	for _, cs := range wrongSpaces() {
		all = append(all, cs)
	}
	for _, m := range oddMethods() {
		all = append(all, []impl.Class{{Name: "B", Super: "Object", Methods: []impl.Method{m}}})
	}
	for _, cs := range all {
		v := roomy(reflect.ValueOf(cs))
		before := full(v)
		askCheckers(v.Interface().([]impl.Class))
		if !reflect.DeepEqual(before, full(v)) {
			t.Error("classes are not as they were")
		}
	}
}

// What stands in the spare room behind code, handlers and frames is not looked at.
func TestSpareRoomIsNotChecked(t *testing.T) {
	for _, cs := range someChecked() {
		given := roomy(reflect.ValueOf(cs)).Interface().([]impl.Class)
		if !reflect.DeepEqual(askCheckers(given), askCheckers(cs)) {
			t.Error("spare room changes a verdict")
		}
	}
}

func TestCheckersShareNothing(t *testing.T) {
	t.Parallel()
	for k, cs := range someChecked() {
		cs = roomy(reflect.ValueOf(cs)).Interface().([]impl.Class)
		one, two := askCheckers(cs), askCheckers(cs)
		apart(t, fmt.Sprint("space ", k), append(append([]any{cs}, one...), two...)...)
		for j := range one {
			v := reflect.New(reflect.TypeOf(one[j])).Elem()
			v.Set(reflect.ValueOf(one[j]))
			if v.Kind() == reflect.Struct || v.Kind() == reflect.Slice {
				spoil(v)
			}
		}
		if !reflect.DeepEqual(askCheckers(cs), two) {
			t.Error("an answer is to be seen in another")
		}
	}
}

func TestCheckersAnswerTheSameAgain(t *testing.T) {
	cs := checkSpace("class B A" + shortMethod + goodMethod)
	want := []any{}
	for k := range 30 {
		got := askCheckers(cs)
		if k == 0 {
			want = got
		}
		impl.Check(told("class A Nope"), "A", "m", "()V")
		impl.CheckAll(someOther(k))
		if !reflect.DeepEqual(got, want) {
			t.Fatal("an answer hangs on the calls ahead")
		}
	}
}

func someOther(k int) []impl.Class {
	return told(fmt.Sprintf("class B Object / method m%d ()V static stack 0 locals 0 / pop", k))
}

// The most of everything: as much code, as many locals, handlers, frames and targets as there may be, each local of a class far below the one that the frames tell.
func TestTheGreatestMethod(t *testing.T) {
	t.Parallel()
	cs := manyClasses(impl.MaxClasses)
	for k := range cs {
		cs[k].Super = "Object"
		if k > 0 {
			cs[k].Super = cs[k-1].Name
		}
	}
	low, high := "@"+cs[len(cs)-1].Name, "@"+cs[0].Name
	const last = impl.MaxCode - 1
	m := impl.Method{Name: "m", Sig: "()V", Flags: impl.FlagStatic, Stack: impl.MaxStack, Locals: impl.MaxLocals, Code: make([]impl.Ins, impl.MaxCode)}
	table := make([]int64, impl.MaxTable)
	for k := range table {
		table[k] = last
	}
	for k := range m.Code {
		m.Code[k] = impl.Ins{Op: impl.OpSwitch, A: last, Table: table}
		m.Frames = append(m.Frames, impl.Frame{At: int64(k), Locals: shapes(impl.MaxLocals, low), Stack: append(shapes(impl.MaxStack-1, low), "I")})
	}
	m.Code[0], m.Frames[0] = impl.Ins{Op: impl.OpReturn}, impl.Frame{Locals: shapes(impl.MaxLocals, "-")}
	m.Code[last], m.Frames[last].Locals, m.Frames[last].Stack = impl.Ins{Op: impl.OpReturn}, shapes(impl.MaxLocals, high), shapes(impl.MaxStack-1, high)
	m.Code[last-1], m.Frames[last-1] = impl.Ins{Op: impl.OpReturn}, impl.Frame{At: last - 1, Locals: shapes(impl.MaxLocals, high), Stack: []string{"@Throwable"}}
	for range impl.MaxHandlers {
		m.Handlers = append(m.Handlers, impl.Handler{From: 1, To: last - 1, At: last - 1, Type: "StopError"})
	}
	cs[7].Methods = []impl.Method{m}
	same(t, "the greatest", impl.Check(cs, cs[7].Name, "m", "()V"), impl.Verdict{})
	m.Handlers[19].Type = "Object"
	same(t, "the greatest, wrong at the last", impl.CheckAll(cs), []impl.Failure{failure(cs[7].Name, "m", "()V", impl.VerFrame, 1)})
	m.Handlers[19] = m.Handlers[0]
	m.Frames[last].Stack[38] = low
	same(t, "the greatest", impl.Check(cs, cs[7].Name, "m", "()V"), impl.Verdict{})
	m.Frames[last].Stack[38] = "@String"
	same(t, "the greatest, wrong at the last", impl.Check(cs, cs[7].Name, "m", "()V"), impl.Verdict{Code: impl.VerFrame, At: 1})
}
