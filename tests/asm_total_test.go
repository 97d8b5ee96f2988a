package tests

import (
	"reflect"
	"strings"
	"testing"

	"loop.example/g00032/impl"
)

// Every function of chapter 3 answers at every argument: a panic, or one that never ends, fails the run.

func oddSources() []string {
	out := append(oddTexts(), oddLines()...)
	for _, piece := range []string{"a", " ", "\n", "\"", "\\", ";", ":", "0", "-", "|", "\x00", "\xff", "é", "\r", "\t", "\" ", "\"\n", "a:\n", "pop\n", "class A B\n", "end\n", "!", "@", "[", "goto a\n", "switch 0 ", "text \"\n", "text \"\\\n", "const D ", "const J "} {
		for _, size := range []int{1, 2, 59, impl.MaxSource, impl.MaxSource + 1} {
			rest := strings.Repeat(piece, size/len(piece))
			out = append(out, rest, trimmed("class A B\n"+rest), trimmed("class A B\nmethod m ()V static\n"+rest), trimmed("class A B\nmethod m ()V static\ntext \""+rest), trimmed("class A B\nmethod m ()V static\nswitch 0 0 "+rest), trimmed("class A B\nmethod m ()V static\nframe 0 "+rest+" | "+rest), trimmed("class A B\nend\n"+rest))
		}
	}
	return out
}

func trimmed(s string) string { return s[:min(len(s), impl.MaxSource)] }

func TestAssembleAnswersEverywhere(t *testing.T) {
	for _, s := range oddSources() {
		got := impl.Assemble(s)
		lines := int64(strings.Count(s, "\n")) + 1
		switch got.Code {
		case impl.AsmOk:
			if got.Line != 0 || !impl.ClassOk(got.Class) {
				t.Errorf("%.60q is read as a class that is none, line %d", s, got.Line)
			}
			continue
		case impl.AsmLine, impl.AsmLabel:
			if got.Line < 1 || got.Line > lines || len(s) > impl.MaxSource {
				t.Errorf("%.60q, of %d lines, is at fault at %d", s, lines, got.Line)
			}
		case impl.AsmSize, impl.AsmEnd, impl.AsmClass:
			if got.Line != 0 || (got.Code == impl.AsmSize) != (len(s) > impl.MaxSource) {
				t.Errorf("%.60q, of %d bytes: %d, line %d", s, len(s), got.Code, got.Line)
			}
		default:
			t.Errorf("%.60q: code %d", s, got.Code)
		}
		if !alike(got.Class, impl.Class{}) {
			t.Errorf("%.60q: a class beside %d", s, got.Code)
		}
	}
}

// Each beginning of a text is one, too.
func TestBeginningsOfTexts(t *testing.T) {
	for k := range len(richText) - 1 {
		if got := impl.Assemble(richText[:k]); got.Code == impl.AsmOk {
			t.Errorf("%d bytes of the text are a class", k)
		}
		if got := impl.Assemble(richText[k+1:]); got.Code == impl.AsmOk {
			t.Errorf("the text but %d bytes is a class", k+1)
		}
	}
}

func TestShowInsAnswersEverywhere(t *testing.T) {
	long := strings.Repeat("\xff", 1<<20)
	for op := int64(-3); op < 50; op++ {
		for _, n := range extremes() {
			for _, m := range extremes() {
				for _, i := range []impl.Ins{
					{Op: op, Kind: n, A: m, B: n, Text: long, Class: long, Name: long, Type: long, Table: []int64{n, m}},
					{Op: op, Kind: n, A: m, B: n}, {Op: op, A: n, B: m, Table: []int64{}}, {Op: n, Kind: m}, {Op: op, Kind: 1, A: n, B: m}, {Op: op, Kind: 3, A: n, B: m}, {Op: op, Class: "A", Name: "m", Type: "()V", B: n}, {Op: op, Class: "A", Name: "m", Type: "I", B: m},
				} {
					if got := impl.ShowIns(i); (got != "") != impl.InsOk(i, impl.MaxCode, impl.MaxLocals) {
						t.Errorf("ShowIns of op %d is %.60q", i.Op, got)
					}
				}
			}
		}
	}
	if impl.ShowIns(impl.Ins{Op: impl.OpSwitch, Table: make([]int64, 1<<22)}) != "" || impl.ShowIns(impl.Ins{Op: impl.OpText, Text: long}) != "" {
		t.Error("what is very long is shown")
	}
}

func TestPrintClassAnswersEverywhere(t *testing.T) {
	for _, n := range extremes() {
		for _, s := range []string{"", "A", "I", "()V", "new", "start", "Object", "|", "*", "-", "\n", "\xff", strings.Repeat("[", 100000)} {
			c := richClass()
			spread(reflect.ValueOf(&c).Elem(), n, s)
			if got := impl.PrintClass(c); got != "" {
				t.Errorf("a class of %d and %.20q alone is shown: %.60q", n, s, got)
			}
		}
	}
	many := 1 << 18
	for _, c := range []impl.Class{
		{}, {Name: "A", Super: "B", Interfaces: make([]string, many)}, {Name: "A", Super: "B", Fields: make([]impl.Field, many)}, {Name: "A", Super: "B", Methods: make([]impl.Method, many)},
		{Name: "A", Super: "B", Methods: []impl.Method{{Name: "m", Sig: "()V", Flags: 1, Code: pops(many)}}},
	} {
		if got := impl.PrintClass(c); got != "" {
			t.Errorf("%.60q is shown", got)
		}
	}
	empty := impl.Class{Name: "A", Super: "B", Interfaces: []string{}, Permits: []string{}, Fields: []impl.Field{}, Methods: []impl.Method{{Name: "m", Sig: "()V", Flags: impl.FlagNative, Code: []impl.Ins{}, Handlers: []impl.Handler{}, Frames: []impl.Frame{}, Lines: []impl.Line{}}}}
	if got := impl.PrintClass(empty); got != "class A B\nmethod m ()V native\nend\n" {
		t.Errorf("empty lists are shown as %q", got)
	}
}

// The greatest class that there is has far more text than may be shown.
func TestGreatestClass(t *testing.T) {
	c := impl.Class{Name: "A", Super: "B"}
	shape := "[[[[@" + longName(40)
	for _, name := range manyNames(impl.MaxMany) {
		m := impl.Method{Name: name, Sig: "()V", Flags: impl.FlagStatic, Stack: impl.MaxStack, Locals: impl.MaxLocals, Code: pops(impl.MaxCode)}
		for k := range impl.MaxCode {
			m.Frames = append(m.Frames, impl.Frame{At: int64(k), Locals: shapes(impl.MaxLocals, shape), Stack: shapes(impl.MaxStack, shape)})
		}
		c.Methods = append(c.Methods, m)
	}
	if !impl.ClassOk(c) || impl.PrintClass(c) != "" {
		t.Error("the greatest class is shown, or none")
	}
}

func TestAsmArgumentsStay(t *testing.T) {
	for _, base := range append(impl.Boot(), richClass(), plainInterface(), impl.Class{Name: "1"}) {
		v := roomy(reflect.ValueOf(base))
		c := v.Interface().(impl.Class)
		before := full(v)
		impl.PrintClass(c)
		for _, m := range c.Methods {
			for _, i := range m.Code {
				impl.ShowIns(i)
			}
		}
		if !reflect.DeepEqual(before, full(v)) {
			t.Errorf("%s is not as it was", base.Name)
		}
	}
}

// A stretch is the memory of a list, its spare room too.
type stretch struct{ from, to uintptr }

func stretches(v reflect.Value) []stretch {
	out := []stretch{}
	switch v.Kind() {
	case reflect.Struct:
		for k := range v.NumField() {
			out = append(out, stretches(v.Field(k))...)
		}
	case reflect.Slice:
		if size := uintptr(v.Cap()) * v.Type().Elem().Size(); size > 0 {
			out = append(out, stretch{v.Pointer(), v.Pointer() + size})
		}
		for k := range v.Len() {
			out = append(out, stretches(v.Index(k))...)
		}
	}
	return out
}

// No two lists of one answer share memory, nor of two answers.
func TestAssembledSharesNothing(t *testing.T) {
	b := builder{numbers{state: 8}}
	texts := []string{richText, objectText, interfaceText}
	for range 20 {
		texts = append(texts, impl.PrintClass(b.class()))
	}
	for _, text := range texts {
		one, two := impl.Assemble(text), impl.Assemble(text)
		all := append(stretches(reflect.ValueOf(one)), stretches(reflect.ValueOf(two))...)
		for k, a := range all {
			for _, b := range all[:k] {
				if a.from < b.to && b.from < a.to {
					t.Errorf("%.40q: two lists share memory", text)
				}
			}
		}
		want := impl.PrintClass(two.Class)
		spoil(reflect.ValueOf(&one).Elem())
		if impl.PrintClass(two.Class) != want || impl.PrintClass(impl.Assemble(text).Class) != want {
			t.Errorf("%.40q: an answer is to be seen in another", text)
		}
	}
}

func TestAsmAnswersAreTheSameAgain(t *testing.T) {
	for range 50 {
		fails(t, "class A B\nmethod m ()V static\na:\na:\nend", impl.AsmLabel, 4)
		reads(t, "class A B\nmethod m ()V static\na:\nreturn\nend", impl.Class{Name: "A", Super: "B", Methods: []impl.Method{{Name: "m", Sig: "()V", Flags: 1, Code: []impl.Ins{{Op: 44}}}}})
		fails(t, "class A B\nmethod m ()V static\ngoto a\nend", impl.AsmLabel, 3)
		if impl.PrintClass(richClass()) != richText {
			t.Fatal("an answer hangs on the calls ahead")
		}
	}
}
