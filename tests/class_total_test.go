package tests

import (
	"reflect"
	"strings"
	"testing"

	"loop.example/g00032/impl"
)

// Every function of chapter 2 answers at every argument: a panic, or one that never ends, fails the run.

func oddTexts() []string {
	long := 1 << 20
	out := append(insTexts(), "\x00", "\xff\xfe", "\xed\xa0\x80", "(", ")", ",", "((", "))", ",,", "@(", "[(", "!", "!!", "!!!")
	for _, s := range []string{"a", "[", "@", "!", "(", ")", ",", "I,", "(I)", "0", "9", "é", "\xff", "\x00", "[I,"} {
		out = append(out, strings.Repeat(s, long), "("+strings.Repeat(s, long)+")V", "()"+strings.Repeat(s, long), "!"+strings.Repeat(s, long), "@"+strings.Repeat(s, long), "["+strings.Repeat(s, long))
	}
	return out
}

func TestClassTextsAnswerEverywhere(t *testing.T) {
	for _, s := range oddTexts() {
		if impl.TypeOk(s) != (impl.KindOf(s) != 0) {
			t.Errorf("TypeOk(%.40q) is %v, KindOf %d", s, impl.TypeOk(s), impl.KindOf(s))
		}
		if !impl.SigOk(s) && (len(impl.Params(s)) != 0 || impl.Result(s) != "") {
			t.Errorf("%.40q is no signature, but has parts", s)
		}
		if impl.TypeOk(s) && !impl.ShapeOk(s) {
			t.Errorf("%.40q is a type, but no shape", s)
		}
		if impl.NameOk(s) != impl.TypeOk("@"+s) {
			t.Errorf("@ and %.40q is a type: %v", s, !impl.NameOk(s))
		}
		if len(s) > 1000 && (impl.NameOk(s) || impl.TypeOk(s) || impl.SigOk(s) || impl.ShapeOk(s)) {
			t.Errorf("%.40q, of %d bytes, is something", s, len(s))
		}
	}
}

func TestInstructionsAnswerEverywhere(t *testing.T) {
	long := strings.Repeat("[", 1<<20)
	for op := int64(-3); op < 50; op++ {
		for _, n := range extremes() {
			for _, m := range extremes() {
				i := impl.Ins{Op: op, Kind: n, A: m, B: n, Text: long, Class: long, Name: long, Type: long, Table: []int64{n, m}}
				if impl.InsOk(i, n, m) {
					t.Errorf("op %d with all fields is right", op)
				}
				impl.InsOk(impl.Ins{Op: op, Kind: 1, A: n, B: m}, m, n)
				impl.InsOk(impl.Ins{Op: n, Table: []int64{}}, m, m)
			}
		}
	}
	if impl.InsOk(impl.Ins{Op: impl.OpSwitch, Table: make([]int64, 1<<22)}, 1, 0) {
		t.Error("a very long table is right")
	}
}

// spread lays n into every number and s into every text of a value.
func spread(v reflect.Value, n int64, s string) {
	switch v.Kind() {
	case reflect.Struct:
		for k := range v.NumField() {
			spread(v.Field(k), n, s)
		}
	case reflect.Slice:
		for k := range v.Len() {
			spread(v.Index(k), n, s)
		}
	case reflect.String:
		v.SetString(s)
	case reflect.Int64:
		v.SetInt(n)
	}
}

func TestClassesAnswerEverywhere(t *testing.T) {
	for _, n := range extremes() {
		for _, s := range []string{"", "A", "I", "()V", "new", "start", "Object", "\xff", strings.Repeat("[", 100000)} {
			c := plainClass()
			c.Methods = append(c.Methods, plainMethod())
			spread(reflect.ValueOf(&c).Elem(), n, s)
			if impl.ClassOk(c) {
				t.Errorf("a class of %d and %.20q alone is right", n, s)
			}
			for _, m := range c.Methods {
				if impl.MethodOk(m) {
					t.Errorf("a method of %d and %.20q alone is right", n, s)
				}
			}
		}
	}
}

func TestEmptyAndHugeLists(t *testing.T) {
	if impl.MethodOk(impl.Method{}) || impl.ClassOk(impl.Class{}) || impl.InsOk(impl.Ins{}, 0, 0) {
		t.Error("a zero value is right")
	}
	many := 1 << 18
	for _, m := range []impl.Method{
		{Name: "m", Sig: "()V", Flags: 1, Code: pops(many)},
		{Name: "m", Sig: "()V", Flags: 1, Code: pops(1), Handlers: make([]impl.Handler, many)},
		{Name: "m", Sig: "()V", Flags: 1, Code: pops(1), Frames: make([]impl.Frame, many)},
		{Name: "m", Sig: "()V", Flags: 1, Code: pops(1), Lines: make([]impl.Line, many)},
		{Name: "m", Sig: "()V", Flags: 1, Code: pops(1), Frames: []impl.Frame{{Locals: make([]string, many), Stack: make([]string, many)}}},
	} {
		if impl.MethodOk(m) {
			t.Error("a method of a huge list is right")
		}
	}
	for _, c := range []impl.Class{
		{Name: "A", Super: "B", Interfaces: make([]string, many)},
		{Name: "A", Super: "B", Flags: impl.FlagSealed, Permits: make([]string, many)},
		{Name: "A", Super: "B", Fields: make([]impl.Field, many)},
		{Name: "A", Super: "B", Methods: make([]impl.Method, many)},
	} {
		if impl.ClassOk(c) {
			t.Error("a class of a huge list is right")
		}
	}
	empty := impl.Class{Name: "A", Super: "B", Interfaces: []string{}, Permits: []string{}, Fields: []impl.Field{}, Methods: []impl.Method{}}
	if !impl.ClassOk(empty) {
		t.Error("empty lists are not taken as nil is")
	}
	m := impl.Method{Name: "m", Sig: "()V", Flags: impl.FlagNative, Code: []impl.Ins{}, Handlers: []impl.Handler{}, Frames: []impl.Frame{}, Lines: []impl.Line{}}
	if !impl.MethodOk(m) {
		t.Error("a method's empty lists are not taken as nil is")
	}
}

// roomy copies a value so that each list has spare room behind it, filled with what is told.
func roomy(v reflect.Value) reflect.Value {
	out := reflect.New(v.Type()).Elem()
	out.Set(v)
	switch v.Kind() {
	case reflect.Struct:
		for k := range v.NumField() {
			out.Field(k).Set(roomy(v.Field(k)))
		}
	case reflect.Slice:
		list := reflect.MakeSlice(v.Type(), v.Len()+3, v.Len()+3)
		for k := range v.Len() {
			list.Index(k).Set(roomy(v.Index(k)))
		}
		for k := v.Len(); k < list.Len(); k++ {
			spread(list.Index(k), -5, "spare")
		}
		out.Set(list.Slice(0, v.Len()))
	}
	return out
}

// full shows a value with the spare room of its lists.
func full(v reflect.Value) any {
	switch v.Kind() {
	case reflect.Struct:
		out := []any{}
		for k := range v.NumField() {
			out = append(out, full(v.Field(k)))
		}
		return out
	case reflect.Slice:
		out := []any{v.Len()}
		all := v.Slice(0, v.Cap())
		for k := range all.Len() {
			out = append(out, full(all.Index(k)))
		}
		return out
	}
	return v.Interface()
}

func TestClassArgumentsStay(t *testing.T) {
	unsorted := plainClass()
	unsorted.Permits, unsorted.Interfaces = []string{"D", "C"}, []string{"b", "a", "b"}
	for _, base := range []impl.Class{plainClass(), plainInterface(), plainObject(), unsorted} {
		base.Methods = append(base.Methods, plainMethod())
		v := roomy(reflect.ValueOf(base))
		c := v.Interface().(impl.Class)
		before := full(v)
		impl.ClassOk(c)
		for _, m := range c.Methods {
			impl.MethodOk(m)
			for _, i := range m.Code {
				impl.InsOk(i, 9, 9)
			}
		}
		if !reflect.DeepEqual(before, full(v)) {
			t.Errorf("%s is not as it was", base.Name)
		}
	}
	table := impl.Ins{Op: impl.OpSwitch, Table: []int64{3, 1, 2, 9, 9}[:3]}
	impl.InsOk(table, 4, 0)
	if !reflect.DeepEqual(table.Table[:5], []int64{3, 1, 2, 9, 9}) {
		t.Errorf("a table is %v", table.Table[:5])
	}
}

func TestClassAnswersAreTheSameAgain(t *testing.T) {
	c := plainClass()
	for range 50 {
		if !impl.ClassOk(c) || impl.ClassOk(impl.Class{Name: "B"}) || !impl.NameOk("A") || impl.NameOk("1") {
			t.Fatal("an answer hangs on the calls ahead")
		}
	}
}
