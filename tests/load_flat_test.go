package tests

import (
	"regexp"
	"slices"
	"strconv"
	"strings"
	"testing"

	"loop.example/g00032/impl"
)

// flatTexts shows what loaders come to, class by class.
func flatTexts(ls []impl.Loader) []string {
	out := []string{}
	for _, c := range impl.Flatten(ls) {
		out = append(out, impl.PrintClass(c))
	}
	return out
}

func flattens(t *testing.T, why string, ls []impl.Loader, want ...string) {
	t.Helper()
	got := impl.Flatten(ls)
	if !alike(got, told(want...)) {
		t.Errorf("%s: Flatten is\n%s", why, strings.Join(flatTexts(ls), ""))
	}
}

func TestFlatten(t *testing.T) {
	flattens(t, "no classes", rowOfLoaders(3))
	flattens(t, "one loader", loaders(loader(-1, "class A Object", "class B A")), "class A Object", "class B A")
	flattens(t, "one loader, names that nobody has", loaders(loader(-1, "class A B")), "class A B$")
	flattens(t, "the parent's", loaders(loader(-1, "class A Object"), loader(0, "class B A")), "class A Object", "class B$1 A")
	flattens(t, "the child's", loaders(loader(-1, "class A B"), loader(0, "class B A")), "class A B$", "class B$1 A")
	flattens(t, "by loaders, not by names", loaders(loader(-1, "class C Object"), loader(0, "class B C"), loader(0, "class A B", "class D A")),
		"class C Object", "class B$1 C", "class A$2 B$", "class D$2 A$2")
	flattens(t, "each its own", loaders(loader(-1, "class A Object", "class B A"), first(0, "class A Object", "class B A"), first(1, "class A Object", "class B A")),
		"class A Object", "class B A", "class A$1 Object", "class B$1 A$1", "class A$2 Object", "class B$2 A$2")
	flattens(t, "names with $", loaders(loader(-1, "class A A$1"), first(0, "class A A$ / implements A$$1")),
		"class A A$1$", "class A$1 A$$ / implements A$$1$")
	flattens(t, "nine loaders", append(rowOfLoaders(8), first(7, "class A A", "class B C")), "class A$8 A$8", "class B$8 C$")
}

// A class's own Name is its loader's, though the loader itself finds another of that name.
func TestFlattenOwnNames(t *testing.T) {
	const a = "class A A / implements A2 / field x @A / method m (@A)@A native / method n ()V static / new A / cast [@A / call static A n ()V"
	flattens(t, "what the parent has", loaders(loader(-1, "class A Object"), loader(0, a)),
		"class A Object", "class A$1 A / implements A2$ / field x @A / method m (@A)@A native / method n ()V static / new A / cast [@A / call static A n ()V")
	flattens(t, "what itself has first", loaders(loader(-1, "class A Object"), first(0, a)),
		"class A Object", "class A$1 A$1 / implements A2$ / field x @A$1 / method m (@A$1)@A$1 native / method n ()V static / new A$1 / cast [@A$1 / call static A$1 n ()V")
	flattens(t, "three of a name", loaders(loader(-1), loader(0, "class A Object"), loader(1, "class A A"), first(2, "class A A", "class B A"), loader(3, "class A A", "class B A")),
		"class A$1 Object", "class A$2 A$1", "class A$3 A$3", "class B$3 A$3", "class A$4 A$3", "class B$4 A$3")
}

// Permits ascend again, though names change their order; Interfaces stay in theirs.
func TestFlattenPermits(t *testing.T) {
	ls := loaders(loader(-1, "class A Object"), first(0, "class A Object", "class Z Object sealed / implements A$ A A$0 / permits A A$ A$0 A$2 AB"))
	flattens(t, "an order that changes", ls, "class A Object", "class A$1 Object", "class Z$1 Object sealed / implements A$$ A$1 A$0$ / permits A$$ A$0$ A$1 A$2$ AB$")
	ls = loaders(loader(-1, "class A Object", "class Z Object sealed / permits A A$"))
	flattens(t, "an order that stays", ls, "class A Object", "class Z Object sealed / permits A A$$")
	for _, c := range impl.Flatten(ls) {
		if !impl.ClassOk(c) {
			t.Errorf("%s is no class any more", c.Name)
		}
	}
}

// At each place where a name is mentioned stands what FlatName tells of it from there.
func TestFlattenPlaces(t *testing.T) {
	const a, b = "class A Object", "class B Object"
	for _, p := range places() {
		for _, name := range []string{"A", "B", "C", "D", "Thread", "A$", "A$1", longName(38)} {
			ls := loaders(loader(-1, a, b), first(0, a), loader(1, "class D Object"), first(2))
			for k := range ls {
				ls[k].Classes = append(ls[k].Classes, p.class(name))
				slices.SortFunc(ls[k].Classes, func(x, y impl.Class) int { return strings.Compare(x.Name, y.Name) })
			}
			flat := map[string]impl.Class{}
			for _, c := range impl.Flatten(ls) {
				if !impl.ClassOk(c) {
					t.Errorf("%s: %s is no class any more", p.what, c.Name)
				}
				flat[c.Name] = c
			}
			for k, own := range []string{"M", "M$1", "M$2", "M$3"} {
				want := p.class(impl.FlatName(ls, int64(k), name))
				want.Name = own
				if !alike(flat[own], want) {
					t.Errorf("%s: %s of %q is %+v", p.what, own, name, flat[own])
				}
			}
		}
	}
}

// What is no name of a class stays as it is.
func TestFlattenLeavesTheRest(t *testing.T) {
	c := richClass()
	c.Name = "A"
	c.Methods[3].Code[0].Text = "@A ,A) A"
	flat := impl.Flatten(loaders(loader(-1), impl.Loader{Classes: []impl.Class{c}}))
	want := strings.ReplaceAll(impl.PrintClass(c), "class A Base", "class A$1 Base$")
	for _, change := range [][2]string{{"implements J2 J1", "implements J2$ J1$"}, {"permits C D", "permits C$ D$"}, {"@R.one$", "@R.one$$"}, {"special Base", "special Base$"}, {"new R.one$", "new R.one$$"}, {"0 1 0 A", "0 1 0 A$1"}, {"@A | 0", "@A$1 | 0"}, {"| @A", "| @A$1"}} {
		if !strings.Contains(want, change[0]) {
			t.Fatalf("no %q", change[0])
		}
		want = strings.ReplaceAll(want, change[0], change[1])
	}
	if len(flat) != 1 || impl.PrintClass(flat[0]) != want {
		t.Errorf("Flatten is %+v", flat)
	}
	for _, other := range shownInstructions() {
		if c := classOf(other.ins); other.ins.Class == "" && !strings.Contains(other.ins.Type, "@") {
			if got := impl.Flatten(loaders(impl.Loader{Parent: -1, Classes: []impl.Class{c}})); len(got) != 1 || !alike(got[0], c) {
				t.Errorf("%q is not as it was", other.text)
			}
		}
	}
}

// member gives an instruction that mentions names of the builder's row.
func (b *builder) member() impl.Ins {
	switch b.below(4) {
	case 0:
		return impl.Ins{Op: impl.OpNew, Class: b.name()}
	case 1:
		return impl.Ins{Op: impl.OpCall, B: 1 + int64(b.below(4)), Class: b.pick(b.name(), "Thread"), Name: b.name(), Type: b.sig()}
	}
	return impl.Ins{Op: impl.OpGet + int64(b.below(2)), B: int64(b.below(2)), Class: b.name(), Name: b.name(), Type: b.typ()}
}

// shortened has instructions of the builder's row in the place of others that mention names, which may be longer than loaders allow.
func (b *builder) shortened(c impl.Class) impl.Class {
	for _, m := range c.Methods {
		for k, i := range m.Code {
			if i.Class+i.Type != "" && !slices.Contains([]string{"I", "J", "D"}, i.Type) || b.below(3) == 0 {
				m.Code[k] = b.member()
			}
		}
	}
	return c
}

// loaders makes some of classes that mention each other, by a fixed row of numbers.
func (b *builder) loaders() []impl.Loader {
	ls := []impl.Loader{}
	for k := range 1 + b.below(5) {
		l := impl.Loader{Parent: int64(b.below(max(1, k))), First: b.below(2) == 0}
		if k == 0 {
			l.Parent = -1
		}
		for _, name := range []string{"A", "B.c", "end", "final", "stack", "static", "x_1"} {
			if b.below(3) == 0 {
				c := b.shortened(b.class())
				c.Name = name
				l.Classes = append(l.Classes, c)
			}
		}
		ls = append(ls, l)
	}
	return ls
}

// bootNames are those of Boot, told once more.
var bootNames = strings.Fields("Object String Throwable Error NullError ArithError BoundsError CastError StoreError SizeError StateError LinkError InitError StopError Thread System")

// findOracle goes up from a loader: the way that is left ends at the top, then comes back down.
func findOracle(ls []impl.Loader, k int64, name string) int64 {
	if slices.Contains(bootNames, name) {
		return 0
	}
	has := func(k int64) bool {
		return slices.ContainsFunc(ls[k].Classes, func(c impl.Class) bool { return c.Name == name })
	}
	asked := []int64{}
	for ; k >= 0; k = ls[k].Parent {
		if ls[k].First && has(k) {
			return k
		}
		asked = append(asked, k)
	}
	for _, k := range slices.Backward(asked) {
		if has(k) {
			return k
		}
	}
	return -1
}

var typedName = regexp.MustCompile(`@[^,)]+`)

// flatOracle writes the text of a class anew, word by word: the lines of chapter 3 say which words are names of classes.
func flatOracle(ls []impl.Loader, k int64, c impl.Class) string {
	flat := func(name string) string {
		switch at := findOracle(ls, k, name); at {
		case -1:
			return name + "$"
		case 0:
			return name
		default:
			return name + "$" + strconv.FormatInt(at, 10)
		}
	}
	lines := strings.Split(impl.PrintClass(c), "\n")
	for n, line := range lines {
		words := strings.Split(line, " ")
		names := []int{}
		switch words[0] {
		case "text":
			continue
		case "class":
			names = []int{2}
			if k > 0 {
				words[1] += "$" + strconv.FormatInt(k, 10)
			}
		case "implements", "permits":
			for at := 1; at < len(words); at++ {
				names = append(names, at)
			}
		case "get", "put", "getstatic", "putstatic", "new":
			names = []int{1}
		case "call":
			names = []int{2}
		case "handler":
			if words[4] != "*" {
				names = []int{4}
			}
		}
		for _, at := range names {
			words[at] = flat(words[at])
		}
		for at, word := range words {
			words[at] = typedName.ReplaceAllStringFunc(word, func(s string) string { return "@" + flat(s[1:]) })
		}
		if words[0] == "permits" {
			slices.Sort(words[1:])
		}
		lines[n] = strings.Join(words, " ")
	}
	return strings.Join(lines, "\n")
}

func TestFlattenOfAnyLoaders(t *testing.T) {
	t.Parallel()
	b := builder{numbers{state: 71}}
	for range 300 {
		ls := b.loaders()
		testLoaders(t, "any", ls, true)
		want, count := []string{}, 0
		for k, l := range ls {
			count += len(l.Classes)
			for _, c := range l.Classes {
				want = append(want, flatOracle(ls, int64(k), c))
			}
			for _, name := range []string{"A", "B.c", "end", "Z$", "static", "Object", "StopError", "B", ""} {
				if got := impl.Find(ls, int64(k), name); got != findOracle(ls, int64(k), name) {
					t.Errorf("loader %d finds %q at %d", k, name, got)
				}
			}
		}
		if got := flatTexts(ls); !slices.Equal(got, want) {
			t.Fatalf("Flatten is\n%s, not\n%s", strings.Join(got, ""), strings.Join(want, ""))
		}
		testFlatNames(t, ls, count)
	}
}

// testFlatNames: so many classes, each by a name of its own, none of Boot's, all of them ClassOk (promise 3).
func testFlatNames(t *testing.T, ls []impl.Loader, count int) {
	t.Helper()
	flat := impl.Flatten(ls)
	if len(flat) != count {
		t.Errorf("%d classes come to %d", count, len(flat))
	}
	met := map[string]bool{}
	for _, name := range bootNames {
		met[name] = true
	}
	for _, c := range flat {
		if met[c.Name] {
			t.Errorf("%s is there twice", c.Name)
		}
		if !impl.ClassOk(c) {
			t.Errorf("%s is no class any more", c.Name)
		}
		met[c.Name] = true
	}
}

// As many classes as there may be, all of one row of names in every loader.
func TestFlattenTheMost(t *testing.T) {
	ls := rowOfLoaders(impl.MaxLoaders)
	for k := range ls {
		ls[k].First = k%2 == 0
		for _, name := range manyNames(impl.MaxMany) {
			long := name + strings.Repeat("x", impl.MaxName-2-len(name))
			ls[k].Classes = append(ls[k].Classes, impl.Class{Name: long, Super: long, Interfaces: []string{long}, Fields: []impl.Field{{Name: "x", Type: "[[[[@" + long}}})
		}
	}
	testLoaders(t, "the most", ls, true)
	testFlatNames(t, ls, impl.MaxLoaders*impl.MaxMany)
}
