package tests

import (
	"fmt"
	"slices"
	"strings"
	"testing"

	"loop.example/g00032/impl"
)

// told gives the classes of some texts: the lines of each, without its end, with / between.
func told(texts ...string) []impl.Class {
	out := []impl.Class{}
	for _, text := range texts {
		got := impl.Assemble(strings.ReplaceAll(text, " / ", "\n") + "\nend\n")
		if got.Code != impl.AsmOk {
			panic(fmt.Sprintf("%q is no class: %d in line %d", text, got.Code, got.Line))
		}
		out = append(out, got.Class)
	}
	return out
}

// loader and first make a loader of such classes; first looks at itself ahead of its parent.
func loader(parent int64, texts ...string) impl.Loader {
	return impl.Loader{Parent: parent, Classes: told(texts...)}
}

func first(parent int64, texts ...string) impl.Loader {
	return impl.Loader{Parent: parent, First: true, Classes: told(texts...)}
}

func loaders(all ...impl.Loader) []impl.Loader { return all }

func testLoaders(t *testing.T, why string, ls []impl.Loader, want bool) {
	t.Helper()
	if impl.LoadersOk(ls) != want {
		t.Errorf("%s: LoadersOk is %v", why, !want)
	}
}

// row gives so many loaders, each the parent of the next.
func rowOfLoaders(n int) []impl.Loader {
	out := []impl.Loader{}
	for k := range n {
		out = append(out, impl.Loader{Parent: int64(k - 1)})
	}
	return out
}

func TestHowManyLoaders(t *testing.T) {
	testLoaders(t, "none", nil, false)
	testLoaders(t, "none", []impl.Loader{}, false)
	for n := 1; n <= impl.MaxLoaders; n++ {
		testLoaders(t, fmt.Sprint(n), rowOfLoaders(n), true)
	}
	testLoaders(t, "one more", rowOfLoaders(impl.MaxLoaders+1), false)
	testLoaders(t, "many more", rowOfLoaders(5000), false)
}

func TestParentsOfLoaders(t *testing.T) {
	numbers := []int64{minLong, minInt, -9, -2, -1, 0, 1, 2, 3, 4, 5, 6, 7, 8, 9, 10, maxInt, maxLong}
	for size := 1; size <= impl.MaxLoaders; size++ {
		for k := range size {
			for _, parent := range numbers {
				ls := rowOfLoaders(size)
				ls[k].Parent = parent
				want := parent == -1
				if k > 0 {
					want = parent >= 0 && parent < int64(k)
				}
				testLoaders(t, fmt.Sprintf("loader %d of %d with the parent %d", k, size, parent), ls, want)
				ls[k].First = true
				testLoaders(t, fmt.Sprintf("loader %d of %d, first, with the parent %d", k, size, parent), ls, want)
			}
		}
	}
}

// At each place among some loaders a list of classes is taken, or not.
func testOwnClasses(t *testing.T, why string, want bool, cs ...impl.Class) {
	t.Helper()
	for k := range 3 {
		for _, first := range []bool{false, true} {
			ls := rowOfLoaders(3)
			ls[k].First, ls[k].Classes = first, cs
			testLoaders(t, fmt.Sprintf("%s, at loader %d", why, k), ls, want)
		}
	}
}

func manyClasses(n int) []impl.Class {
	out := []impl.Class{}
	for _, name := range manyNames(n) {
		out = append(out, impl.Class{Name: name, Super: "Object"})
	}
	return out
}

func TestClassesOfLoaders(t *testing.T) {
	testOwnClasses(t, "none", true)
	testOwnClasses(t, "one", true, told("class A B")...)
	testOwnClasses(t, "ascending", true, told("class A B", "class AB B", "class B A", "class a A")...)
	testOwnClasses(t, "not ascending", false, told("class B Object", "class A Object")...)
	testOwnClasses(t, "not ascending at the end", false, told("class A Object", "class C Object", "class B Object")...)
	testOwnClasses(t, "small letters first", false, told("class a Object", "class B Object")...)
	testOwnClasses(t, "a beginning behind", false, told("class AB Object", "class A Object")...)
	testOwnClasses(t, "two of one name", false, told("class A Object", "class A Object")...)
	testOwnClasses(t, "two of one name that differ", false, told("class A Object", "class A B final")...)
	testOwnClasses(t, "the most", true, manyClasses(impl.MaxMany)...)
	testOwnClasses(t, "one more", false, manyClasses(impl.MaxMany+1)...)
	testOwnClasses(t, "no class", false, impl.Class{})
	testOwnClasses(t, "no name", false, impl.Class{Name: "1", Super: "Object"})
	testOwnClasses(t, "no super", false, impl.Class{Name: "A"})
	testOwnClasses(t, "a wrong one behind a right one", false, impl.Class{Name: "A", Super: "Object"}, impl.Class{Name: "B", Super: "Object", Flags: 1})
	testOwnClasses(t, "a wrong one ahead of a right one", false, impl.Class{Name: "A", Super: "Object", Flags: 1}, impl.Class{Name: "B", Super: "Object"})
	for _, c := range impl.Boot() {
		testOwnClasses(t, "Boot's own "+c.Name, false, c)
		if c.Name != "Object" {
			testOwnClasses(t, "one called "+c.Name, false, impl.Class{Name: c.Name, Super: "Object"})
		}
		testOwnClasses(t, "one nearly called "+c.Name, true, impl.Class{Name: c.Name + "s", Super: c.Name}, impl.Class{Name: strings.ToLower(c.Name), Super: c.Name})
	}
	for _, name := range []string{"A$", "A$1", "A$b", "a$$", "A.b$c"} {
		testOwnClasses(t, "one called "+name, false, impl.Class{Name: name, Super: "Object"})
		testOwnClasses(t, "one below "+name, true, impl.Class{Name: "A", Super: name, Interfaces: []string{name}})
	}
	testOwnClasses(t, "other bytes", true, told("class A. Object", "class A_ Object", "class A_1.b Object")...)
}

// The same name in several loaders is no fault.
func TestOneNameInManyLoaders(t *testing.T) {
	ls := rowOfLoaders(impl.MaxLoaders)
	for k := range ls {
		ls[k].Classes = told("class A Object", "class B A")
		ls[k].Parent = min(0, int64(k-1))
	}
	testLoaders(t, "one name everywhere", ls, true)
	ls[8].Classes[1].Name = "A"
	testLoaders(t, "one name twice in the last", ls, false)
}

// A place is where a class mentions a name.
type place struct {
	what  string
	class func(name string) impl.Class
}

func withMethod(m impl.Method) impl.Class {
	return impl.Class{Name: "M", Super: "Object", Flags: impl.FlagAbstract, Methods: []impl.Method{bare("ahead", "()V", impl.FlagNative), m}}
}

func withCode(code ...impl.Ins) impl.Class {
	return withMethod(impl.Method{Name: "m", Sig: "()V", Flags: impl.FlagStatic, Code: append(pops(1), code...)})
}

// memberPlaces are the places outside of code.
func memberPlaces() []place {
	return []place{
		{"Super", func(s string) impl.Class { return impl.Class{Name: "M", Super: s} }},
		{"the one interface", func(s string) impl.Class { return impl.Class{Name: "M", Super: "Object", Interfaces: []string{s}} }},
		{"the last interface", func(s string) impl.Class {
			return impl.Class{Name: "M", Super: "Object", Interfaces: []string{"String", "Error", s}}
		}},
		{"the one permit", func(s string) impl.Class {
			return impl.Class{Name: "M", Super: "Object", Flags: impl.FlagSealed, Permits: []string{s}}
		}},
		{"a permit", func(s string) impl.Class {
			c := impl.Class{Name: "M", Super: "Object", Flags: impl.FlagSealed, Permits: []string{"Error", s, "String"}}
			slices.Sort(c.Permits)
			return c
		}},
		{"a field", func(s string) impl.Class {
			return impl.Class{Name: "M", Super: "Object", Fields: []impl.Field{{Name: "x", Type: "I"}, {Name: "y", Type: "@" + s}}}
		}},
		{"a field of arrays", func(s string) impl.Class {
			return impl.Class{Name: "M", Super: "Object", Fields: []impl.Field{{Name: "x", Type: "[[[[@" + s, Flags: impl.FlagStatic}}}
		}},
		{"a result", func(s string) impl.Class { return withMethod(bare("m", "()@"+s, impl.FlagNative)) }},
		{"a result of arrays", func(s string) impl.Class { return withMethod(bare("m", "(I,[J)[@"+s, impl.FlagAbstract)) }},
		{"the one parameter", func(s string) impl.Class { return withMethod(bare("m", "(@"+s+")V", impl.FlagNative)) }},
		{"the first parameter", func(s string) impl.Class {
			return withMethod(bare("m", "(@"+s+",I,@Object)I", impl.FlagNative))
		}},
		{"a parameter between", func(s string) impl.Class {
			return withMethod(bare("m", "(@Error,[[@"+s+",@Object)@Error", impl.FlagNative))
		}},
		{"the last parameter", func(s string) impl.Class {
			return withMethod(bare("m", "(I,J,D,@Object,[D,[@Object,I,@"+s+")[I", impl.FlagNative))
		}},
		{"all over a signature", func(s string) impl.Class {
			return withMethod(bare("m", "(@"+s+",[@"+s+",@"+s+")@"+s, impl.FlagNative))
		}},
	}
}

// codePlaces are the places within the code of a method, its handlers and frames.
func codePlaces() []place {
	out := []place{
		{"OpNew", func(s string) impl.Class { return withCode(impl.Ins{Op: impl.OpNew, Class: s}) }},
		{"a handler", func(s string) impl.Class {
			c := withCode()
			c.Methods[1].Handlers = []impl.Handler{{From: 0, To: 1, At: 0}, {From: 0, To: 1, At: 0, Type: "Error"}, {From: 0, To: 1, At: 0, Type: s}}
			return c
		}},
		{"locals of a frame", func(s string) impl.Class {
			c := withCode()
			c.Methods[1].Locals = 7
			c.Methods[1].Frames = []impl.Frame{{At: 0, Locals: []string{"I", "0", "-", "!!", "!7", "@" + s, "[@Error"}}}
			return c
		}},
		{"the stack of a frame", func(s string) impl.Class {
			c := withCode(pops(1)...)
			c.Methods[1].Stack = 7
			c.Methods[1].Frames = []impl.Frame{{At: 0, Stack: []string{"0"}}, {At: 1, Stack: []string{"J", "!0", "!!", "-", "0", "@Error", "[[@" + s}}}
			return c
		}},
	}
	for _, op := range []int64{impl.OpGet, impl.OpPut} {
		for b := range int64(2) {
			what := fmt.Sprintf("op %d with %d: ", op, b)
			out = append(out,
				place{what + "Class", func(s string) impl.Class {
					return withCode(impl.Ins{Op: op, B: b, Class: s, Name: "x", Type: "I"})
				}},
				place{what + "Type", func(s string) impl.Class {
					return withCode(impl.Ins{Op: op, B: b, Class: "Object", Name: "x", Type: "[@" + s})
				}})
		}
	}
	for b := int64(impl.CallStatic); b <= impl.CallInterface; b++ {
		what := fmt.Sprintf("a call of kind %d: ", b)
		for _, sig := range []string{"(@%s)V", "()@%s", "(I,[@%s,@Error)D", "(@Error,[J)[[@%s"} {
			out = append(out, place{what + sig, func(s string) impl.Class {
				return withCode(impl.Ins{Op: impl.OpCall, B: b, Class: "Error", Name: "x", Type: fmt.Sprintf(sig, s)})
			}})
		}
		out = append(out, place{what + "Class", func(s string) impl.Class {
			return withCode(impl.Ins{Op: impl.OpCall, B: b, Class: s, Name: "x", Type: "()V"})
		}})
	}
	for _, op := range []int64{impl.OpNewArray, impl.OpCast, impl.OpIs} {
		for _, dims := range []string{"", "[", "[[["} {
			out = append(out, place{fmt.Sprintf("op %d with %s", op, dims), func(s string) impl.Class {
				return withCode(impl.Ins{Op: op, Type: dims + "@" + s})
			}})
		}
	}
	return out
}

func places() []place { return append(memberPlaces(), codePlaces()...) }

func TestLongNamesThatAreMentioned(t *testing.T) {
	const most = impl.MaxName - 2
	testOwnClasses(t, "the longest Name", true, impl.Class{Name: longName(most), Super: "Object"})
	testOwnClasses(t, "a Name too long", false, impl.Class{Name: longName(most + 1), Super: "Object"})
	testOwnClasses(t, "a Name longer still", false, impl.Class{Name: longName(most + 2), Super: "Object"})
	for _, p := range places() {
		if c := p.class(longName(impl.MaxName)); !impl.ClassOk(c) {
			t.Fatalf("%s: no class: %+v", p.what, c)
		}
		testOwnClasses(t, p.what+": a short name", true, p.class("A"))
		testOwnClasses(t, p.what+": the longest name", true, p.class(longName(most)))
		testOwnClasses(t, p.what+": a name too long", false, p.class(longName(most+1)))
		testOwnClasses(t, p.what+": a name longer still", false, p.class(longName(most+2)))
		testOwnClasses(t, p.what+": a name with $", true, p.class("A$1"))
		testOwnClasses(t, p.what+": behind another class", false, impl.Class{Name: "A", Super: "Object"}, p.class(longName(most+1)))
	}
}

// Names of members and texts are no names of classes: they may be as long as any.
func TestLongNamesOfMembers(t *testing.T) {
	long := longName(impl.MaxName)
	testOwnClasses(t, "a field", true, impl.Class{Name: "A", Super: "Object", Fields: []impl.Field{{Name: long, Type: "I"}}})
	testOwnClasses(t, "a method", true, withMethod(bare(long, "()V", impl.FlagNative)))
	testOwnClasses(t, "a field that is used", true, withCode(impl.Ins{Op: impl.OpGet, Class: "A", Name: long, Type: "I"}))
	testOwnClasses(t, "a method that is called", true, withCode(impl.Ins{Op: impl.OpCall, B: 1, Class: "A", Name: long, Type: "()V"}))
	testOwnClasses(t, "a text", true, withCode(impl.Ins{Op: impl.OpText, Text: "@" + strings.Repeat("x", 100)}))
}
