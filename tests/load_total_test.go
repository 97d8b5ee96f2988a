package tests

import (
	"reflect"
	"slices"
	"strings"
	"testing"

	"loop.example/g00032/impl"
)

// Every function of chapter 5 answers at every argument: a panic, or one that never ends, fails the run.

func oddLoaders() [][]impl.Loader {
	long := strings.Repeat("[", 100000)
	out := [][]impl.Loader{
		nil, {}, {{}}, {{Parent: -1}}, make([]impl.Loader, 9), make([]impl.Loader, 100000), {{Parent: -1, Classes: []impl.Class{}}},
		{{Parent: -1, Classes: make([]impl.Class, 40)}}, {{Parent: -1, Classes: make([]impl.Class, 100000)}}, {{Parent: -1, Classes: impl.Boot()}}, {{Parent: -1}, {Parent: 0, Classes: impl.Boot()}},
		{{Parent: -1, Classes: []impl.Class{{Name: long, Super: long}}}}, {{Parent: -1, Classes: []impl.Class{{Name: "A", Super: long}}}},
	}
	for _, n := range extremes() {
		out = append(out, []impl.Loader{{Parent: n}}, []impl.Loader{{Parent: -1}, {Parent: n}}, []impl.Loader{{Parent: -1}, {Parent: n, First: true, Classes: []impl.Class{{Name: "A", Super: "A", Flags: n}}}})
		for _, s := range []string{"", "A", "I", "()V", "@A", "(@A)V", "Object", "\xff", long} {
			c := richClass()
			spread(reflect.ValueOf(&c).Elem(), n, s)
			out = append(out, []impl.Loader{{Parent: -1, Classes: []impl.Class{c}}})
		}
	}
	return out
}

func TestLoadersAnswerEverywhere(t *testing.T) {
	t.Parallel()
	texts := []string{"", "A", "Object", "@A", "$", "\xff\x00", strings.Repeat("A", 1<<20)}
	for _, ls := range oddLoaders() {
		ok := impl.LoadersOk(ls)
		for _, k := range []int64{minLong, -1, 0, 1, 8, 9, maxLong} {
			for _, name := range texts {
				at := impl.Find(ls, k, name)
				if at < -1 || at >= int64(len(ls)) || at != -1 && !ok {
					t.Errorf("%.40q is found at %d", name, at)
				}
				if got := impl.FlatName(ls, k, name); !strings.HasPrefix(got, name) || len(got) > len(name)+2 {
					t.Errorf("%.40q is called %.50q", name, got)
				}
			}
		}
		flat, clashes := impl.Flatten(ls), impl.Clashes(ls)
		if !ok && (len(flat) != 0 || len(clashes) != 0) {
			t.Errorf("loaders that can't be come to %d classes, %d clashes", len(flat), len(clashes))
		}
	}
}

// The most of all at once: every loader full of classes with rings of Supers and as many methods as there may be.
func TestFullLoaders(t *testing.T) {
	ls := rowOfLoaders(impl.MaxLoaders)
	names := manyNames(impl.MaxMany)
	for k := range ls {
		ls[k].First = true
		for j, name := range names {
			c := impl.Class{Name: name, Super: names[(j+1)%len(names)]}
			for _, m := range names[:20] {
				c.Methods = append(c.Methods, bare(m, "(@N100,@N101)[@N102", impl.FlagNative))
			}
			ls[k].Classes = append(ls[k].Classes, c)
		}
	}
	clash(t, "each its own", ls)
	for k := range ls {
		ls[k].Classes = slices.Clone(ls[k].Classes)
		if k > 0 {
			ls[k].Classes = ls[k].Classes[:3]
		}
	}
	// Of the forty above the first three classes two, one and none are the loader's own; each of the others clashes by three names.
	if got, want := len(impl.Clashes(ls)), 8*3*(38+39+40); got != want {
		t.Errorf("%d clashes, not %d", got, want)
	}
}

// someLoaders are right ones that have everything.
func someLoaders() [][]impl.Loader {
	b := builder{numbers{state: 91}}
	rich := richClass()
	rich.Name = "R"
	out := [][]impl.Loader{{{Parent: -1, Classes: []impl.Class{plainClass(), plainInterface(), rich}}, {Parent: 0, First: true, Classes: []impl.Class{plainClass(), rich}}}, rowOfLoaders(2)}
	for range 20 {
		out = append(out, b.loaders(), b.clashing())
	}
	return out
}

func TestLoadersStay(t *testing.T) {
	all := someLoaders()
	for _, ls := range wrongLoaders() {
		all = append(all, ls)
	}
	for _, ls := range all {
		v := roomy(reflect.ValueOf(ls))
		given := v.Interface().([]impl.Loader)
		before := full(v)
		impl.LoadersOk(given)
		for k := range int64(3) {
			impl.Find(given, k, "A")
			impl.FlatName(given, k, "B")
		}
		impl.Flatten(given)
		impl.Clashes(given)
		if !reflect.DeepEqual(before, full(v)) {
			t.Error("loaders are not as they were")
		}
	}
}

// apart says that no two lists of these values share memory.
func apart(t *testing.T, why string, values ...any) {
	t.Helper()
	all := []stretch{}
	for _, v := range values {
		all = append(all, stretches(reflect.ValueOf(v))...)
	}
	slices.SortFunc(all, func(a, b stretch) int { return int(int64(a.from) - int64(b.from)) })
	for k := range len(all) - 1 {
		if all[k].to > all[k+1].from {
			t.Errorf("%s: two lists share memory", why)
			return
		}
	}
}

func TestFlattenedSharesNothing(t *testing.T) {
	for _, ls := range someLoaders() {
		ls = roomy(reflect.ValueOf(ls)).Interface().([]impl.Loader)
		one, two := impl.Flatten(ls), impl.Flatten(ls)
		apart(t, "Flatten", ls, one, two)
		apart(t, "Clashes", impl.Clashes(ls), impl.Clashes(ls))
		want := flatTexts(ls)
		spoil(reflect.ValueOf(one))
		if !slices.Equal(flatTexts(ls), want) {
			t.Error("an answer is to be seen in another")
		}
		clashes := impl.Clashes(ls)
		spoil(reflect.ValueOf(impl.Clashes(ls)))
		if !alike(clashes, impl.Clashes(ls)) {
			t.Error("clashes are to be seen in others")
		}
	}
}

func TestLoadersAnswerTheSameAgain(t *testing.T) {
	for _, ls := range someLoaders()[:8] {
		flat, clashes := flatTexts(ls), impl.Clashes(ls)
		for range 10 {
			if !slices.Equal(flatTexts(ls), flat) || !slices.Equal(impl.Clashes(ls), clashes) {
				t.Fatal("an answer hangs on the calls ahead")
			}
		}
	}
}
