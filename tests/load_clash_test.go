package tests

import (
	"fmt"
	"slices"
	"strings"
	"testing"

	"loop.example/g00032/impl"
)

func clash(t *testing.T, why string, ls []impl.Loader, want ...impl.Clash) {
	t.Helper()
	testLoaders(t, why, ls, true)
	if got := impl.Clashes(ls); !alike(got, want) {
		t.Errorf("%s: clashes are %v, not %v", why, got, want)
	}
}

const (
	classA = "class A Object"
	classB = "class B Object"
)

// using gives a class U whose method has the instructions.
func using(code string) string { return "class U Object / method m ()V static / " + code }

// Rule 1: loader 1 has its own A, but S is loader 0's.
func TestClashesOfInstructions(t *testing.T) {
	between := func(code string) []impl.Loader {
		return loaders(loader(-1, classA, "class S Object"), first(0, classA, using(code)))
	}
	want := impl.Clash{Loader: 1, Class: "U", Name: "S", Type: "A"}
	for _, code := range []string{
		"get S x @A", "put S x @A", "getstatic S x @A", "putstatic S x [[@A", "get S x [@A",
		"call static S f (@A)V", "call virtual S f ()@A", "call special S f (I,[@A)D", "call interface S f (@A,@A,[@A)[@A", "call special S new (@A)V",
		"pop / pop / get S x @A / pop", "get S x @A / put S x @A / call static S f (@A)@A", "get S x @Object / get S x @S / get S x @A",
	} {
		clash(t, code, between(code), want)
	}
	for _, code := range []string{
		"pop", "get S x I", "get S x @S", "get S x @Object", "get S x @B", "call static S f ()V", "call static S f (@S,I,[@Object,@Nope)@String",
		"get A x @A", "call static A f (@A)@A", "get U x @A", "get Nope x @A", "call static Nope f (@A)V", "get S$ x @A",
		"new S", "new A", "cast @A", "cast [@S", "is @A", "newarray @A", "text \"@A\"",
		"get Object x @Object", "call static System print (@String)V",
	} {
		clash(t, code, between(code))
	}
	// Boot's classes are loader 0's, too.
	clash(t, "Boot", between("get Object x @A"), impl.Clash{Loader: 1, Class: "U", Name: "Object", Type: "A"})
	clash(t, "Boot", between("call virtual Thread run (@A)V"), impl.Clash{Loader: 1, Class: "U", Name: "Thread", Type: "A"})
}

// Each name once, from left to right, for each class that is named.
func TestClashesInTheirOrder(t *testing.T) {
	top := loader(-1, classA, classB, "class S Object", "class T Object")
	code := "call static S f (@B,I,[@A,@B,@S,@C)@A / get T x @A / put S x @B / get T x @B / get T x @A"
	low := first(0, classA, classB, "class C Object", using(code), strings.Replace(using(code), "U", "V", 1))
	at := func(class, name, typ string) impl.Clash {
		return impl.Clash{Loader: 1, Class: class, Name: name, Type: typ}
	}
	clash(t, "two of each", loaders(top, low),
		at("U", "S", "B"), at("U", "S", "A"), at("U", "T", "A"), at("U", "T", "B"),
		at("V", "S", "B"), at("V", "S", "A"), at("V", "T", "A"), at("V", "T", "B"))
	// By methods, and by loaders.
	several := "class U Object / method a ()V static / get S x @B / method b ()V static / get S x @A / get S x @B"
	clash(t, "methods", loaders(top, first(0, classA, classB, several)), at("U", "S", "B"), at("U", "S", "A"))
	again := at("U", "S", "B")
	again.Loader = 2
	last := at("U", "S", "A")
	last.Loader = 2
	clash(t, "a class that its own loader does not find", loaders(top, first(0, classA, classB, several), loader(1, several)), at("U", "S", "B"), at("U", "S", "A"), again, last)
	clash(t, "loaders that both look first", loaders(top, first(0, classA, classB, several), first(1, several)), at("U", "S", "B"), at("U", "S", "A"), again, last)
	clash(t, "loaders side by side", loaders(top, first(0, classA, classB, several), first(0, classA, classB, several)), at("U", "S", "B"), at("U", "S", "A"), again, last)
}

// A name that one of both does not find is no clash, nor is one that both find at one place.
func TestNamesThatAreNotFoundTwice(t *testing.T) {
	clash(t, "only below", loaders(loader(-1, "class S Object"), loader(0, classA, using("get S x @A"))))
	clash(t, "only above", loaders(loader(-1, classA, "class S Object"), loader(0, using("get S x @A"))))
	clash(t, "above ahead", loaders(loader(-1, classA, "class S Object"), loader(0, classA, using("get S x @A"))))
	clash(t, "nowhere", loaders(loader(-1, "class S Object"), loader(0, using("get S x @A"))))
	clash(t, "in its own loader", loaders(loader(-1, classA), first(0, classA, "class S Object", using("get S x @A"))))
	clash(t, "one loader", loaders(loader(-1, classA, using("get U x @A"))))
	middle := loaders(loader(-1, classA), first(0, classA, "class S Object"), loader(1, using("get S x @A")))
	clash(t, "both in the middle", middle)
	middle[2] = first(1, classA, using("get S x @A"))
	clash(t, "a third", middle, impl.Clash{Loader: 2, Class: "U", Name: "S", Type: "A"})
	aside := loaders(loader(-1, classA, "class S Object"), first(0, classA), loader(0, using("get S x @A")))
	clash(t, "one aside", aside)
}

// Rule 2: loader 1 has its own A, but P is loader 0's.
func TestClashesOfMethodsAbove(t *testing.T) {
	between := func(above, below string) []impl.Loader {
		return loaders(loader(-1, classA, "class P Object / "+above), first(0, classA, "class U P / "+below))
	}
	want := impl.Clash{Loader: 1, Class: "U", Name: "P", Type: "A"}
	const native = "method m (@A)V native"
	for _, c := range [][2]string{
		{native, native}, {native, "method m (@A)V final native"}, {"method m (@A)V sync native", "method m (@A)V stack 0 locals 2 / return"},
		{"method m ()@A native", "method m ()@A native"}, {"method m (I,[[@A,@A)@A native", "method m (I,[[@A,@A)@A native"},
		{"method x ()V native / " + native, "method y ()V native / " + native},
	} {
		clash(t, c[0]+" below "+c[1], between(c[0], c[1]), want)
	}
	clash(t, "abstract ones", loaders(loader(-1, classA, "class P Object abstract / method m (@A)V abstract"), first(0, classA, "class U P abstract / method m (@A)V abstract")), want)
	for _, c := range [][2]string{
		{"method m (@A)V static native", native}, {native, "method m (@A)V static native"}, {"method m (@A)V static native", "method m (@A)V static native"},
		{"method m (@A)V private native", native}, {native, "method m (@A)V private native"},
		{"method new (@A)V stack 0 locals 2 / return", "method new (@A)V stack 0 locals 2 / return"},
		{native, "method m (@P)V native"}, {"method m (@P)V native", "method m (@P)V native"}, {"method n (@A)V native", native}, {native, "method m (@A,I)V native"}, {native, "method m (@A)I native"},
		{"method m ()V native", "method m ()V native"}, {"method m (@Object)@String native", "method m (@Object)@String native"}, {"field m @A", native},
	} {
		clash(t, c[0]+" below "+c[1], between(c[0], c[1]))
	}
}

// Both rules: the instructions of a method come first, then what it stands for above; then the next method.
func TestClashesOfBothRules(t *testing.T) {
	top := loader(-1, classA, classB, "class P Object / method m (@B,@A)V native / method n (@A)V native", "class S Object")
	low := first(0, classA, classB, "class U P / method m (@B,@A)V stack 0 locals 3 / get S x @A / get P x @A / method n (@A)V stack 0 locals 2 / get S x @B / get S x @A")
	at := func(name, typ string) impl.Clash {
		return impl.Clash{Loader: 1, Class: "U", Name: name, Type: typ}
	}
	clash(t, "both", loaders(top, low), at("S", "A"), at("P", "A"), at("P", "B"), at("S", "B"))
}

// Each class above counts, wherever it is defined, as its own loader finds its Super.
func TestClashesFarAbove(t *testing.T) {
	const m = " / method m (@A)V native"
	at := func(loader int64, class, name string) impl.Clash {
		return impl.Clash{Loader: loader, Class: class, Name: name, Type: "A"}
	}
	ls := loaders(loader(-1, classA, "class P Object"+m, "class Q P"), first(0, classA, "class R Q"+m), first(1, classA, "class U R"+m))
	clash(t, "three loaders", ls, at(1, "R", "P"), at(2, "U", "R"), at(2, "U", "P"))
	// Q's Super is loader 0's P, though loader 1 has another P.
	ls = loaders(loader(-1, classA, "class P Object", "class Q P"), first(0, classA, "class P Object"+m, "class U Q"+m))
	clash(t, "the Super of the loader above", ls)
	ls = loaders(loader(-1, classA, "class P Object"+m, "class Q P"), first(0, classA, "class P Object", "class U Q"+m))
	clash(t, "the Super of the loader above, which has one", ls, at(1, "U", "P"))
	// Where a Super is missing the way ends.
	ls = loaders(loader(-1, classA, "class P Object"+m, "class Q Nope"), first(0, classA, "class U Q"+m))
	clash(t, "a Super that is missing", ls)
	// Interfaces are no way up.
	ls = loaders(loader(-1, classA, "class P Object abstract interface / method m (@A)V abstract"), first(0, classA, "class U Object / implements P / method m (@A)V native"))
	clash(t, "an interface", ls)
	// A class of the same name in the loader above is another one.
	ls = loaders(loader(-1, classA, "class U Object"+m), first(0, classA), loader(1, "class U U"+m))
	clash(t, "its own name above", ls, at(2, "U", "U"))
	// Boot's methods name only what all find alike.
	ls = loaders(loader(-1), first(0, "class U Thread / method run ()V native", "class V String / method same (@Object)I native / method join (@String)@String native"))
	clash(t, "Boot", ls)
}

// Rings end.
func TestClashesOfRings(t *testing.T) {
	const m = " / method m (@A)V native"
	clash(t, "itself", loaders(loader(-1, classA, "class U U"+m)))
	clash(t, "a ring in one", loaders(loader(-1, classA, "class P Q"+m, "class Q P"+m)))
	ls := loaders(loader(-1, classA, "class P Q"+m, "class Q P"+m), first(0, classA, "class U P"+m))
	clash(t, "below a ring", ls, impl.Clash{Loader: 1, Class: "U", Name: "P", Type: "A"}, impl.Clash{Loader: 1, Class: "U", Name: "Q", Type: "A"})
}

// tower gives loaders whose class U has so many classes of other names ahead of P, which has the method, above it.
func tower(between int) []impl.Loader {
	const m = " / method m (@A)V native"
	top, middle := []string{classA}, []string{}
	for k := range between {
		super := fmt.Sprintf("N%03d", k+1)
		if k == between-1 {
			super = "P"
		}
		text := fmt.Sprintf("class N%03d %s", k, super)
		if k < 25 {
			middle = append(middle, text)
		} else {
			top = append(top, text)
		}
	}
	return loaders(loader(-1, append(top, "class P Object"+m)...), loader(0, middle...), first(1, classA, "class U N000"+m))
}

// At most MaxMany classes above are looked at.
func TestClashesAtMostSoFarAbove(t *testing.T) {
	want := impl.Clash{Loader: 2, Class: "U", Name: "P", Type: "A"}
	for _, n := range []int{1, 2, 24, 25, 26, impl.MaxMany - 2, impl.MaxMany - 1} {
		clash(t, fmt.Sprint(n, " between"), tower(n), want)
	}
	for _, n := range []int{impl.MaxMany, impl.MaxMany + 1, impl.MaxMany + 10} {
		clash(t, fmt.Sprint(n, " between"), tower(n))
	}
}

// clashOracle says what the document says, with findOracle and without anything kept.
func clashOracle(ls []impl.Loader) []impl.Clash {
	out := []impl.Clash{}
	names := func(k, d int64, class, name, text string) {
		for _, s := range typedName.FindAllString(text, -1) {
			c := impl.Clash{Loader: k, Class: class, Name: name, Type: s[1:]}
			here, there := findOracle(ls, k, c.Type), findOracle(ls, d, c.Type)
			if min(here, there) >= 0 && here != there && !slices.Contains(out, c) {
				out = append(out, c)
			}
		}
	}
	for k := range int64(len(ls)) {
		for _, c := range ls[k].Classes {
			for _, m := range c.Methods {
				for _, i := range m.Code {
					if d := findOracle(ls, k, i.Class); d >= 0 && d != k && slices.Contains([]int64{31, 32, 33}, i.Op) {
						names(k, d, c.Name, i.Class, i.Type)
					}
				}
				up, d := c, k
				for n := 0; n < 40 && m.Flags&9 == 0 && m.Name != "new"; n++ {
					name := up.Super
					d = findOracle(ls, d, name)
					if d < 0 || slices.Contains(bootNames, name) {
						break
					}
					up = ls[d].Classes[slices.IndexFunc(ls[d].Classes, func(x impl.Class) bool { return x.Name == name })]
					for _, over := range up.Methods {
						if over.Name == m.Name && over.Sig == m.Sig && over.Flags&9 == 0 {
							names(k, d, c.Name, name, m.Sig)
						}
					}
				}
			}
		}
	}
	return out
}

// clashing makes loaders with few names and members, so that they clash often.
func (b *builder) clashing() []impl.Loader {
	ls := rowOfLoaders(1 + b.below(5))
	for k := range ls {
		ls[k].First = b.below(3) > 0
		if k > 0 {
			ls[k].Parent = int64(b.below(k))
		}
		for _, name := range []string{"A", "B", "C", "D"} {
			if b.below(2) == 0 {
				continue
			}
			c := impl.Class{Name: name, Super: b.pick("A", "B", "C", "D", "Object", "Nope")}
			for _, name := range []string{"m", "n", "new", "p"} {
				m := impl.Method{Name: name, Sig: b.pick("(@A)V", "(@B,[@A)V", "()V", "(@Nope,@D,@C)V"), Locals: 4, Code: []impl.Ins{{Op: impl.OpReturn}}}
				if name != "new" && b.below(3) == 0 {
					m.Flags = []int64{impl.FlagStatic, impl.FlagPrivate, impl.FlagFinal, impl.FlagSync}[b.below(4)]
				}
				for range b.below(3) {
					m.Code = append(m.Code, impl.Ins{Op: impl.OpGet + int64(b.below(2)), Class: b.pick("A", "B", "C", "D", "Object"), Name: "x", Type: b.pick("@A", "[@B", "I", "@C", "@Object")},
						impl.Ins{Op: impl.OpCall, B: 1, Class: b.pick("A", "B", "C", "D"), Name: b.pick("m", "n"), Type: b.pick("(@A)V", "(@B,[@A)V", "()V")})
				}
				if b.below(2) == 0 {
					c.Methods = append(c.Methods, m)
				}
			}
			for _, name := range []string{"x", "y"} {
				c.Fields = append(c.Fields, impl.Field{Name: name, Type: b.pick("@A", "[@B", "I", "@C", "@Object")})
			}
			ls[k].Classes = append(ls[k].Classes, c)
		}
	}
	return ls
}

func TestClashesOfAnyLoaders(t *testing.T) {
	t.Parallel()
	b := builder{numbers{state: 72}}
	with, without := 0, 0
	for range 3000 {
		ls := b.clashing()
		want := clashOracle(ls)
		clash(t, "any", ls, want...)
		if len(want) > 0 {
			with++
			continue
		}
		without++
		testMembers(t, ls)
	}
	if with < 500 || without < 500 {
		t.Errorf("%d loaders clash, %d do not", with, without)
	}
	b = builder{numbers{state: 73}}
	for range 100 {
		ls := b.loaders()
		clash(t, "any", ls, clashOracle(ls)...)
	}
}

// testMembers: where there are no clashes a member that an instruction means is there in Flatten, too, with the very Type, if both loaders find all names in it.
func testMembers(t *testing.T, ls []impl.Loader) {
	t.Helper()
	flat := map[string]impl.Class{}
	row := impl.Flatten(ls)
	for _, c := range row {
		flat[c.Name] = c
	}
	at := 0
	for k := range int64(len(ls)) {
		for _, c := range ls[k].Classes {
			for n, m := range c.Methods {
				for j, i := range m.Code {
					d := findOracle(ls, k, i.Class)
					if d < 0 || slices.Contains(bootNames, i.Class) || !foundByBoth(ls, k, d, i.Type) {
						continue
					}
					meant := ls[d].Classes[slices.IndexFunc(ls[d].Classes, func(x impl.Class) bool { return x.Name == i.Class })]
					now := row[at].Methods[n].Code[j]
					if hasMember(meant, i) && !hasMember(flat[now.Class], now) {
						t.Errorf("%+v is lost as %+v", i, now)
					}
				}
			}
			at++
		}
	}
}

func foundByBoth(ls []impl.Loader, k, d int64, text string) bool {
	for _, s := range typedName.FindAllString(text, -1) {
		if findOracle(ls, k, s[1:]) < 0 || findOracle(ls, d, s[1:]) < 0 {
			return false
		}
	}
	return true
}

func hasMember(c impl.Class, i impl.Ins) bool {
	if i.Op == impl.OpCall {
		return slices.ContainsFunc(c.Methods, func(m impl.Method) bool { return m.Name == i.Name && m.Sig == i.Type })
	}
	return slices.ContainsFunc(c.Fields, func(f impl.Field) bool { return f.Name == i.Name && f.Type == i.Type })
}
