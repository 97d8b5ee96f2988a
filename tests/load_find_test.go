package tests

import (
	"fmt"
	"strings"
	"testing"

	"loop.example/g00032/impl"
)

// finds holds what each loader finds of a name, one number a loader, against what is asked for; FlatName goes by that.
func finds(t *testing.T, why string, ls []impl.Loader, name string, want ...int64) {
	t.Helper()
	for k := range ls {
		at := int64(-1)
		if k < len(want) {
			at = want[k]
		}
		if got := impl.Find(ls, int64(k), name); got != at {
			t.Errorf("%s: loader %d finds %.40q at %d, not %d", why, k, name, got, at)
		}
		flat := name + "$"
		switch {
		case at == 0:
			flat = name
		case at > 0:
			flat = fmt.Sprint(name, "$", at)
		}
		if got := impl.FlatName(ls, int64(k), name); got != flat {
			t.Errorf("%s: loader %d calls %.40q %.50q, not %.50q", why, k, name, got, flat)
		}
	}
}

func TestFind(t *testing.T) {
	const a, b, c = "class A Object", "class B Object", "class C Object"
	chain := loaders(loader(-1, a), loader(0, a, b), loader(1, a, b, c))
	finds(t, "a chain", chain, "A", 0, 0, 0)
	finds(t, "a chain", chain, "B", -1, 1, 1)
	finds(t, "a chain", chain, "C", -1, -1, 2)
	finds(t, "a chain", chain, "D", -1, -1, -1)
	finds(t, "first in the middle", loaders(loader(-1, a), first(0, a), loader(1, a)), "A", 0, 1, 1)
	finds(t, "first at the end", loaders(loader(-1, a), loader(0, a), first(1, a)), "A", 0, 0, 2)
	finds(t, "first at the end, which has none", loaders(loader(-1, a), first(0, a), first(1)), "A", 0, 1, 1)
	finds(t, "first at the top", loaders(first(-1, a), loader(0, a), loader(1)), "A", 0, 0, 0)
	finds(t, "first at the top, which has none", loaders(first(-1), loader(0, a), loader(1, a)), "A", -1, 1, 1)
	finds(t, "first all over", loaders(first(-1, a), first(0, a), first(1, a)), "A", 0, 1, 2)
	finds(t, "first, but without it", loaders(loader(-1), first(0, b), first(1, c)), "A", -1, -1, -1)
	tree := loaders(loader(-1), loader(0, a), loader(0, a, b), loader(1), loader(2), first(4, a))
	finds(t, "a tree", tree, "A", -1, 1, 2, 1, 2, 5)
	finds(t, "a tree", tree, "B", -1, -1, 2, -1, 2, 2)
	finds(t, "a star", loaders(loader(-1, b), loader(0, a), loader(0, a), first(0, b)), "A", -1, 1, 2, -1)
	finds(t, "a star", loaders(loader(-1, b), loader(0, a), loader(0, a), first(0, b)), "B", 0, 0, 0, 3)
	// A parent that finds none leaves it to its child, which asks it first all the same.
	finds(t, "the parent below the child", loaders(loader(-1), loader(0, b), loader(1, a, b)), "B", -1, 1, 1)
	long := rowOfLoaders(9)
	long[4].Classes, long[8].Classes = told(a), told(a)
	finds(t, "the longest chain", long, "A", -1, -1, -1, -1, 4, 4, 4, 4, 4)
	long[8].First = true
	finds(t, "the longest chain, first", long, "A", -1, -1, -1, -1, 4, 4, 4, 4, 8)
}

func TestFindOfBoot(t *testing.T) {
	for _, ls := range [][]impl.Loader{rowOfLoaders(1), loaders(first(-1, "class A Object"), first(0, "class A Object"), loader(1)), rowOfLoaders(9)} {
		for _, c := range bootClasses() {
			finds(t, "Boot", ls, c.Name, make([]int64, len(ls))...)
			for _, name := range []string{c.Name + "$", c.Name + "$1", "@" + c.Name, c.Name + " ", strings.ToLower(c.Name), c.Name[1:]} {
				finds(t, "nearly Boot", ls, name)
			}
		}
	}
}

// Texts that are no names, and names that a class only mentions, nobody has.
func TestFindOfOtherTexts(t *testing.T) {
	ls := loaders(loader(-1, "class A B / implements C D / field E @F / method G (@H)V native"), first(0, "class A B"))
	finds(t, "A", ls, "A", 0, 1)
	for _, name := range append(oddTexts(), "B", "C", "D", "E", "F", "G", "H", "A$1", "A$", "@A", "a", "A ", "AA", "-1", "0", "1") {
		if name != "A" {
			finds(t, "no class", ls, name)
		}
	}
}

func TestFindAtNumbersThatAreNone(t *testing.T) {
	ls := loaders(loader(-1, "class A Object"), first(0, "class A Object"))
	for _, k := range append(extremes(), 2, 3, 8, 9) {
		if k == 0 || k == 1 {
			continue
		}
		for _, name := range []string{"A", "B", "Object", ""} {
			if got := impl.Find(ls, k, name); got != -1 {
				t.Errorf("loader %d, which is none, finds %q at %d", k, name, got)
			}
			if got := impl.FlatName(ls, k, name); got != name+"$" {
				t.Errorf("loader %d, which is none, calls %q %q", k, name, got)
			}
		}
	}
}

// wrongLoaders are lists that can't be, each for a reason of its own.
func wrongLoaders() map[string][]impl.Loader {
	a := told("class A Object")
	return map[string][]impl.Loader{
		"none":             nil,
		"a wrong top":      {{Parent: 0, Classes: a}},
		"a wrong parent":   {{Parent: -1, Classes: a}, {Parent: 1}},
		"a second top":     {{Parent: -1, Classes: a}, {Parent: -1, Classes: a}},
		"too many":         append(rowOfLoaders(9), impl.Loader{Classes: a}),
		"no class":         {{Parent: -1, Classes: append(a, impl.Class{Name: "B"})}},
		"not ascending":    {{Parent: -1, Classes: told("class B A", "class A Object")}},
		"two of one name":  {{Parent: -1, Classes: told("class A Object", "class A Object")}},
		"a name of Boot":   {{Parent: -1, Classes: told("class A Object", "class Error Object")}},
		"a $":              {{Parent: -1, Classes: told("class A Object", "class A$1 Object")}},
		"a long name":      {{Parent: -1, Classes: told("class A "+longName(39), "class B A")}},
		"too many classes": {{Parent: -1, Classes: manyClasses(41)}},
		"wrong far off":    {{Parent: -1, Classes: a}, {Parent: 0}, {Parent: 0}, {Parent: 9}},
	}
}

func TestLoadersThatCannotBe(t *testing.T) {
	for why, ls := range wrongLoaders() {
		testLoaders(t, why, ls, false)
		for k := int64(-2); k < 12; k++ {
			for _, name := range []string{"A", "Object", "N100", "B", ""} {
				if got := impl.Find(ls, k, name); got != -1 {
					t.Errorf("%s: loader %d finds %q at %d", why, k, name, got)
				}
				if got := impl.FlatName(ls, k, name); got != name+"$" {
					t.Errorf("%s: loader %d calls %q %q", why, k, name, got)
				}
			}
		}
		if got := impl.Flatten(ls); len(got) != 0 {
			t.Errorf("%s: Flatten has %d classes", why, len(got))
		}
		if got := impl.Clashes(ls); len(got) != 0 {
			t.Errorf("%s: Clashes are %v", why, got)
		}
	}
}
