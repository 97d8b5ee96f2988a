package tests

import (
	"fmt"
	"slices"
	"strings"
	"testing"

	"loop.example/g00032/impl"
)

func testSpace(t *testing.T, why string, cs []impl.Class, want bool) {
	t.Helper()
	if impl.SpaceOk(cs) != want {
		t.Errorf("%s: SpaceOk is %v", why, !want)
	}
}

func TestSpaces(t *testing.T) {
	testSpace(t, "none", nil, true)
	testSpace(t, "none", []impl.Class{}, true)
	testSpace(t, "one", told("class A Object"), true)
	testSpace(t, "in any order", told("class B A", "class a B", "class A Object"), true)
	testSpace(t, "names that are missing", told("class A Nope / implements Nope2"), true)
	testSpace(t, "a ring", told("class A A"), true)
	testSpace(t, "all that a class has", []impl.Class{richClass(), plainClass(), plainInterface(), fullClass()}, true)
	testSpace(t, "names with $, and long ones", []impl.Class{{Name: "A$", Super: "A$1"}, {Name: longName(40), Super: longName(40)}}, true)
	for n := range impl.MaxClasses + 1 {
		testSpace(t, fmt.Sprint(n), manyClasses(n), true)
	}
	testSpace(t, "one more", manyClasses(impl.MaxClasses+1), false)
	testSpace(t, "many more", manyClasses(700), false)
	testSpace(t, "two of one name", told("class A Object", "class A Object"), false)
	testSpace(t, "two of one name far off", told("class A Object", "class B Object", "class C B", "class A B final"), false)
	testSpace(t, "no class", []impl.Class{{}}, false)
	testSpace(t, "no class behind others", append(told("class A Object", "class B Object"), impl.Class{Name: "C"}), false)
	testSpace(t, "no class ahead of others", append([]impl.Class{{Name: "1", Super: "A"}}, told("class A Object", "class B Object")...), false)
	for _, c := range impl.Boot() {
		testSpace(t, "Boot's "+c.Name, []impl.Class{c}, false)
		testSpace(t, "nearly Boot's "+c.Name, []impl.Class{{Name: c.Name + "s", Super: c.Name}, {Name: c.Name + "$", Super: c.Name}}, true)
		if c.Name != "Object" {
			testSpace(t, "another "+c.Name, append(told("class A Object"), impl.Class{Name: c.Name, Super: "A"}), false)
		}
	}
	testSpace(t, "all of Boot", impl.Boot(), false)
}

// wrongSpaces are lists that are no space; in all of them B stands below A, which has all that is asked for.
func wrongSpaces() map[string][]impl.Class {
	const a, b = "class A Object / field x I / method m ()V native", "class B A / field y I / method n ()V static native"
	return map[string][]impl.Class{
		"two of one name":   told(a, b, a),
		"a name of Boot":    append(told(a, b), impl.Class{Name: "Error", Super: "Object"}),
		"a wrong class":     append(told(a, b), impl.Class{Name: "C", Super: "Object", Flags: 1}),
		"no class":          append(told(a, b), impl.Class{}),
		"Object":            append(told(a, b), impl.Boot()[0]),
		"too many":          append(told(a, b), manyClasses(59)...),
		"all of Boot again": append(told(a, b), impl.Boot()...),
	}
}

// All other functions answer for a list that is no space as for an empty one.
func TestListsThatAreNoSpace(t *testing.T) {
	for why, cs := range wrongSpaces() {
		testSpace(t, why, cs, false)
		for _, name := range append(slices.Clone(bootNames), "A", "B", "N100", "", "1") {
			same(t, why, impl.Above(cs, name), impl.Above(nil, name))
			same(t, why, impl.Below(cs, name), impl.Below(nil, name))
			same(t, why, impl.Layout(cs, name), impl.Layout(nil, name))
			for _, member := range []string{"x", "y", "message"} {
				class, field := impl.FieldOf(cs, name, member)
				other, otherField := impl.FieldOf(nil, name, member)
				same(t, why, class, other)
				same(t, why, field, otherField)
			}
			for _, member := range []string{"m", "n", "run", "new", "hash"} {
				same(t, why, impl.MethodOf(cs, name, member, "()V"), impl.MethodOf(nil, name, member, "()V"))
				class, code := impl.Select(cs, name, member, "()V")
				other, otherCode := impl.Select(nil, name, member, "()V")
				same(t, why, class, other)
				same(t, why, code, otherCode)
			}
			for _, other := range append(slices.Clone(bootNames), "A", "B", "N100") {
				t1, t2 := "@"+name, "@"+other
				same(t, why, impl.IsA(cs, t1, t2), impl.IsA(nil, t1, t2))
				same(t, why, impl.Fits(cs, t1, t2), impl.Fits(nil, t1, t2))
				same(t, why, impl.Join(cs, t1, t2), impl.Join(nil, t1, t2))
			}
		}
		same(t, why, len(impl.LinkFaults(cs)), 0)
		same(t, why, len(impl.Above(cs, "A")), 0)
		same(t, why, impl.IsA(cs, "@B", "@A"), false)
		same(t, why, impl.Join(cs, "@B", "@A"), "@Object")
	}
}

func same[T any](t *testing.T, why string, got, want T) {
	t.Helper()
	if !alike(got, want) {
		t.Errorf("%s: %v, not %v", why, got, want)
	}
}

func words(s string) []string { return strings.Fields(s) }

func TestAbove(t *testing.T) {
	cs := told(
		"class A Object / implements I J",
		"class B A / implements K I L",
		"class C B",
		"class I Object abstract interface / implements K",
		"class J Object abstract interface / implements L K",
		"class K Object abstract interface",
		"class L Object abstract interface / implements M",
		"class M Object abstract interface",
		"class E NullError / implements M",
		"class N Nope / implements Gone M",
		"class O N / implements Nope I",
	)
	for _, c := range [][2]string{
		{"Object", "Object"}, {"String", "String Object"}, {"Throwable", "Throwable Object"}, {"Error", "Error Throwable Object"}, {"NullError", "NullError Error Throwable Object"},
		{"StopError", "StopError Error Throwable Object"}, {"Thread", "Thread Object"}, {"System", "System Object"},
		{"A", "A Object I J K L M"},
		{"B", "B A K I L Object J M"},
		{"C", "C B A K I L Object J M"},
		{"I", "I Object K"}, {"J", "J Object L K M"}, {"K", "K Object"}, {"L", "L Object M"}, {"M", "M Object"},
		{"E", "E NullError M Error Object Throwable"},
		{"N", "N M Object"}, {"O", "O N I M Object K"},
		{"Nope", ""}, {"Gone", ""}, {"", ""}, {"@A", ""}, {"a", ""}, {"A ", ""}, {"-", ""},
	} {
		same(t, "above "+c[0], impl.Above(cs, c[0]), words(c[1]))
	}
	same(t, "above, of nothing", impl.Above(nil, "Error"), words("Error Throwable Object"))
	same(t, "above, of nothing", impl.Above(nil, "A"), nil)
	same(t, "below Object", impl.Below(cs, "Object"), words("A ArithError B BoundsError C CastError E Error I InitError J K L LinkError M N NullError O Object SizeError StateError StopError StoreError String System Thread Throwable"))
	for _, c := range [][2]string{
		{"A", "A B C"}, {"B", "B C"}, {"C", "C"}, {"I", "A B C I O"}, {"J", "A B C J"}, {"K", "A B C I J K O"}, {"L", "A B C J L"}, {"M", "A B C E J L M N O"}, {"N", "N O"}, {"O", "O"}, {"E", "E"},
		{"String", "String"}, {"NullError", "E NullError"}, {"Error", "ArithError BoundsError CastError E Error InitError LinkError NullError SizeError StateError StopError StoreError"},
		{"Nope", ""}, {"Gone", ""}, {"", ""}, {"@A", ""}, {"-", ""},
	} {
		same(t, "below "+c[0], impl.Below(cs, c[0]), words(c[1]))
	}
}

func TestAboveOfRings(t *testing.T) {
	cs := told("class A A", "class B C", "class C D", "class D B / implements A", "class E D", "class F Object / implements F G", "class G F / implements Object")
	for _, c := range [][2]string{{"A", "A"}, {"B", "B C D A"}, {"C", "C D B A"}, {"D", "D B A C"}, {"E", "E D B A C"}, {"F", "F Object G"}, {"G", "G F Object"}} {
		same(t, "above "+c[0], impl.Above(cs, c[0]), words(c[1]))
	}
	for _, c := range [][2]string{{"A", "A B C D E"}, {"B", "B C D E"}, {"C", "B C D E"}, {"D", "B C D E"}, {"E", "E"}, {"F", "F G"}, {"G", "F G"}} {
		same(t, "below "+c[0], impl.Below(cs, c[0]), words(c[1]))
	}
}

// A chain of all classes, told from the lowest on, and one class with as many interfaces as there may be.
func TestAboveOfTheMost(t *testing.T) {
	names := manyNames(impl.MaxClasses)
	cs := []impl.Class{}
	for k, name := range names {
		super := "StopError"
		if k+1 < len(names) {
			super = names[k+1]
		}
		cs = append(cs, impl.Class{Name: name, Super: super})
	}
	same(t, "a chain", impl.Above(cs, names[0]), append(slices.Clone(names), words("StopError Error Throwable Object")...))
	same(t, "a chain, down", impl.Below(cs, names[59]), names)
	cs = manyClasses(impl.MaxClasses)
	cs[0].Interfaces = names[20:60]
	same(t, "many interfaces", impl.Above(cs, names[0]), append([]string{names[0], "Object"}, names[20:60]...))
}
