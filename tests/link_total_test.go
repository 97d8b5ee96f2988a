package tests

import (
	"reflect"
	"slices"
	"strings"
	"testing"

	"loop.example/g00032/impl"
)

// Every function of chapter 6 answers at every argument: a panic, or one that never ends, fails the run.

func oddSpaces() [][]impl.Class {
	long := strings.Repeat("[", 100000)
	out := [][]impl.Class{
		nil, {}, {{}}, make([]impl.Class, 60), make([]impl.Class, 100000), impl.Boot(), {{Name: long, Super: long}}, {{Name: "A", Super: "A", Interfaces: []string{"A"}}},
		told("class A B", "class B A"), told("class A A"), {{Name: "A", Super: "Object", Interfaces: make([]string, 100000)}},
		{richClass(), plainClass(), plainInterface()}, manyClasses(60), {{Name: longName(40), Super: longName(40)}},
	}
	// A ring of all classes, each of which has the next forty as interfaces, too.
	names := manyNames(60)
	ring := manyClasses(60)
	for k := range ring {
		ring[k].Super = names[(k+1)%60]
		for j := range impl.MaxMany {
			ring[k].Interfaces = append(ring[k].Interfaces, names[(k+j)%60])
		}
		ring[k].Methods = []impl.Method{bare("m", "()V", impl.FlagNative)}
	}
	out = append(out, ring)
	faces := slices.Clone(ring)
	for k := range faces {
		faces[k].Super, faces[k].Flags = "Object", impl.FlagInterface|impl.FlagAbstract
	}
	out = append(out, faces)
	for _, n := range extremes() {
		for _, s := range []string{"", "A", "I", "()V", "Object", "\xff", long} {
			c := richClass()
			spread(reflect.ValueOf(&c).Elem(), n, s)
			out = append(out, []impl.Class{c})
		}
	}
	return out
}

// linkTexts are names, types and others.
func linkTexts() []string {
	return append(wrongTypes(), "0", "A", "B", "N100", "Object", "StopError", "I", "[I", "@A", "@B", "@N100", "[@N101", "@Object", "new", "start", "m", "()V", "x", "\x00", strings.Repeat("[", 1<<18), "@"+strings.Repeat("A", 1<<18))
}

func TestLinksAnswerEverywhere(t *testing.T) {
	t.Parallel()
	spaces := oddSpaces()
	for k, cs := range spaces {
		texts := linkTexts()
		if k > 18 {
			texts = []string{"", "A", "Object", "@A", "[@A", "()V"}
		}
		faults := impl.LinkFaults(cs)
		if !impl.SpaceOk(cs) && len(faults) != 0 {
			t.Errorf("a list that is no space has faults: %v", faults)
		}
		for _, a := range texts {
			testLinksAt(t, cs, a)
			for _, b := range texts {
				if impl.IsA(cs, a, b) && !impl.Fits(cs, a, b) {
					t.Errorf("%.40q is %.40q, but does not fit", a, b)
				}
				if j := impl.Join(cs, a, b); j != "" && j != "0" && impl.KindOf(j) != impl.KindRef {
					t.Errorf("%.40q and %.40q join to %.40q", a, b, j)
				}
			}
		}
	}
}

func testLinksAt(t *testing.T, cs []impl.Class, name string) {
	t.Helper()
	above, below, slots := impl.Above(cs, name), impl.Below(cs, name), impl.Layout(cs, name)
	isClass := len(above) > 0
	if isClass != slices.Contains(below, name) || !isClass && len(below)+len(slots) > 0 {
		t.Errorf("%.40q has %v above, %v below, %v as fields", name, above, below, slots)
	}
	if isClass && above[0] != name || !slices.IsSorted(below) {
		t.Errorf("%.40q has %v above, %v below", name, above, below)
	}
	for _, member := range []string{"x", "m", "new", "start", "", "message", "\xff"} {
		for _, sig := range []string{"()V", "", "V", strings.Repeat("(", 1000)} {
			class, code := impl.Select(cs, name, member, sig)
			if (class == "") != (code != impl.SelectOk) || class != "" && !slices.Contains(above, class) || code < impl.SelectOk || code > impl.SelectTwo {
				t.Errorf("%.40q %q %.20q: selected is %q, %d", name, member, sig, class, code)
			}
			if got := impl.MethodOf(cs, name, member, sig); got == "" && class != "" || got != "" && !slices.Contains(above, got) {
				t.Errorf("%.40q %q %.20q: meant is %q, selected %q", name, member, sig, got, class)
			}
		}
		class, field := impl.FieldOf(cs, name, member)
		if (class == "") != (field == impl.Field{}) || class != "" && (field.Name != member || !slices.Contains(above, class)) {
			t.Errorf("%.40q %q: the field is %q %+v", name, member, class, field)
		}
	}
}

func TestSpacesStay(t *testing.T) {
	t.Parallel()
	b := builder{numbers{state: 92}}
	all := [][]impl.Class{{richClass(), plainClass(), plainInterface()}, typeSpace()}
	for _, cs := range wrongSpaces() {
		all = append(all, cs)
	}
	for k := range 30 {
		all = append(all, b.space(k%2 == 0))
	}
	for _, cs := range all {
		v := roomy(reflect.ValueOf(cs))
		given := v.Interface().([]impl.Class)
		before := full(v)
		impl.SpaceOk(given)
		impl.LinkFaults(given)
		for _, name := range []string{"A", "B", "C", "Object", "J1"} {
			testLinksAt(t, given, name)
			for _, other := range []string{"A", "B", "C", "Object", "J1"} {
				impl.IsA(given, "@"+name, "@"+other)
				impl.Fits(given, "[@"+name, "[@"+other)
				impl.Join(given, "[@"+name, "[@"+other)
			}
		}
		if !reflect.DeepEqual(before, full(v)) {
			t.Error("a space is not as it was")
		}
	}
}

func TestLinksShareNothing(t *testing.T) {
	b := builder{numbers{state: 93}}
	for k := range 30 {
		cs := roomy(reflect.ValueOf(b.space(k%2 == 0))).Interface().([]impl.Class)
		for _, name := range []string{"A", "B", "C", "D", "Error", "Object"} {
			above, below, layout, faults := impl.Above(cs, name), impl.Below(cs, name), impl.Layout(cs, name), impl.LinkFaults(cs)
			one := []any{cs, impl.Above(cs, name), impl.Below(cs, name), impl.Layout(cs, name), impl.LinkFaults(cs), above, below, layout, faults}
			apart(t, name, one...)
			for _, v := range one[1:5] {
				spoil(reflect.ValueOf(v))
			}
			same(t, "above again", impl.Above(cs, name), above)
			same(t, "below again", impl.Below(cs, name), below)
			same(t, "layout again", impl.Layout(cs, name), layout)
			same(t, "faults again", impl.LinkFaults(cs), faults)
		}
	}
}
