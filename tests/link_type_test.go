package tests

import (
	"slices"
	"strings"
	"testing"

	"loop.example/g00032/impl"
)

// typeSpace has two branches of classes and some interfaces.
func typeSpace() []impl.Class {
	return told(
		"class A Object / implements I", "class B A", "class C B / implements J", "class D A", "class E Object", "class X NullError", "class Y StopError",
		ifaceI, ifaceJ+" / implements K", "class K Object abstract interface", "class L Object abstract",
	)
}

// wrongTypes are texts that are no types; 0 is one of them, too, wherever it may not stand.
func wrongTypes() []string {
	return []string{"", "V", "@", "[", "A", "@1", "[V", "[0", "[[[[[I", "[[[[[@A", "()V", "-", "!!", "!3", "@A ", " @A", "@" + longName(41), "00", "@@A", "@[A", "I[", "\xff"}
}

func TestIsA(t *testing.T) {
	cs := typeSpace()
	faultsOf(t, "the space", cs)
	isA := func(want bool, pairs ...string) {
		t.Helper()
		for _, p := range pairs {
			w := words(p)
			if impl.IsA(cs, w[0], w[1]) != want {
				t.Errorf("IsA(%s) is %v", p, !want)
			}
			if want && !impl.Fits(cs, w[0], w[1]) {
				t.Errorf("%s does not fit, though it is so", p)
			}
		}
	}
	isA(true, "I I", "J J", "D D", "[I [I", "[[J [[J", "@A @A", "@Nope @Nope", "[@Nope [@Nope", "@Object @Object", "[[[[@A [[[[@A")
	isA(false, "I J", "J I", "I D", "D I", "I @Object", "J @A", "D @I", "@A I", "@Object J", "[I I", "I [I", "[I [J", "[J [I", "[D [I", "@I I")
	isA(true, "0 @A", "0 @I", "0 @Object", "0 [I", "0 [[@A", "0 @Nope", "0 @String")
	isA(false, "0 I", "0 J", "0 D", "0 0", "@A 0", "I 0", "[I 0")
	isA(true, "@A @Object", "@I @Object", "@Nope @Object", "[I @Object", "[[[[D @Object", "[@A @Object", "@String @Object")
	isA(false, "@Object @A", "@Object @I", "@Object [I", "@Object @Nope", "@Object @String")
	isA(true, "@B @A", "@C @A", "@C @B", "@D @A", "@X @NullError", "@X @Error", "@X @Throwable", "@Y @Error", "@A @I", "@B @I", "@C @J", "@C @K", "@J @K", "@NullError @Throwable")
	isA(false, "@A @B", "@B @D", "@D @B", "@E @A", "@B @J", "@K @J", "@I @A", "@J @I", "@X @Y", "@A @Nope", "@Nope @A", "@Nope @I", "@E @I", "@X @StopError", "@L @I")
	isA(true, "[@B [@A", "[[@B [[@A", "[@A [@Object", "[@A [@I", "[[I [@Object", "[[@A [@Object", "[[[I [[@Object", "[@Nope [@Object", "[[[[I [[[@Object", "[[[[@C [[[[@K")
	isA(false, "[@A [@B", "[@B [[@A", "[[@B [@A", "[@A @A", "@A [@A", "[I [@Object", "[@Object [I", "[@Object [[I", "[@E [@I", "[[I [[@Object", "[I [[I", "[I @I", "[@A @String", "@Object [@Object")
}

func TestFits(t *testing.T) {
	cs := typeSpace()
	fits := func(want bool, pairs ...string) {
		t.Helper()
		for _, p := range pairs {
			w := words(p)
			if impl.Fits(cs, w[0], w[1]) != want {
				t.Errorf("Fits(%s) is %v", p, !want)
			}
		}
	}
	fits(true, "@E @I", "@Object @J", "@K @J", "@Nope @I", "[I @I", "[@A @K", "0 @K", "@String @I", "@L @I", "[[[[I @J", "[@E [@I", "[@Object [@K", "[[I [@I", "[[@A [@I", "[[[@E [[[@J", "[[[[I [[[@J", "[@Nope [@I")
	fits(true, "I I", "@B @A", "0 [I", "[@B [@A", "[[I [@Object", "@Nope @Nope", "@Nope @Object")
	fits(false, "I @I", "J @K", "D @J", "@I I", "@E @A", "@E @L", "@E @Nope", "@I @E", "[I [@I", "[J [@J", "[[I [[@I", "@I [@I", "@E [@I", "[@I @A", "0 I", "0 0", "@I 0", "[@E [@A", "[@I [[@I", "@Object @String")
}

func TestTypesThatAreNone(t *testing.T) {
	cs := typeSpace()
	right := []string{"I", "J", "D", "@A", "@I", "@Object", "@Nope", "[I", "[@A", "[[[[@I", "0"}
	for _, wrong := range wrongTypes() {
		for _, other := range append(right, wrongTypes()...) {
			for _, p := range [][2]string{{wrong, other}, {other, wrong}} {
				if impl.IsA(cs, p[0], p[1]) || impl.Fits(cs, p[0], p[1]) {
					t.Errorf("%q is %q", p[0], p[1])
				}
				if got := impl.Join(cs, p[0], p[1]); got != "" {
					t.Errorf("Join(%q, %q) is %q", p[0], p[1], got)
				}
			}
		}
	}
	for _, plain := range []string{"I", "J", "D"} {
		for _, other := range right {
			if impl.Join(cs, plain, other) != "" || impl.Join(cs, other, plain) != "" {
				t.Errorf("%s and %s are joined", plain, other)
			}
		}
	}
}

func TestJoin(t *testing.T) {
	cs := typeSpace()
	for _, c := range []string{
		"@A @A @A", "@I @I @I", "@Nope @Nope @Nope", "[I [I [I", "0 0 0", "[[[[@I [[[[@I [[[[@I", "[@Nope [@Nope [@Nope",
		"0 @A @A", "0 @I @I", "0 [I [I", "0 @Nope @Nope", "0 [[@A [[@A", "0 @Object @Object",
		"@A @B @A", "@B @C @B", "@C @D @A", "@C @A @A", "@C @E @Object", "@X @Y @Error", "@X @NullError @NullError", "@X @Thread @Object", "@Error @Throwable @Throwable", "@A @Object @Object", "@L @A @Object", "@X @StateError @Error",
		"@A @I @Object", "@I @J @Object", "@J @K @Object", "@C @K @Object", "@I @Object @Object", "@A @Nope @Object", "@Nope @Gone @Object", "@I @Nope @Object",
		"[I [J @Object", "[I [[I @Object", "[I @A @Object", "[I [@A @Object", "[@A @A @Object", "[I @Object @Object", "[I @I @Object",
		"[@B [@D [@A", "[@A [@E [@Object", "[@A [@I [@Object", "[[@B [[@D [[@A", "[[I [@A [@Object", "[[I [[J [@Object", "[[[@C [[[@D [[[@A", "[[[[@C [[[[@B [[[[@B", "[[[I [[J [@Object", "[[[I [[@A [[@Object", "[@Nope [@A [@Object",
	} {
		w := words(c)
		for _, p := range [][2]string{{w[0], w[1]}, {w[1], w[0]}} {
			if got := impl.Join(cs, p[0], p[1]); got != w[2] {
				t.Errorf("Join(%s, %s) is %s, not %s", p[0], p[1], got, w[2])
			}
		}
	}
}

// In a space that does not hold the first of t's Supers counts, which may be another one the other way round.
func TestJoinWhereNothingHolds(t *testing.T) {
	cs := told("class A B", "class B C", "class C A", "class D C", "class E B", "class F Nope", "class G F", "class H F", "class K I", ifaceI, "class M K", "class N Nope")
	for _, c := range []string{
		"@A @B @A", "@B @A @B", "@C @A @C", "@D @E @C", "@E @D @B", "@G @H @F", "@F @N @Object", "@F @E @Object", "@G @F @F", "@K @M @K", "@M @K @K", "@K @I @Object",
		"[@A [@B [@A", "[@B [@A [@B",
	} {
		w := words(c)
		if got := impl.Join(cs, w[0], w[1]); got != w[2] {
			t.Errorf("Join(%s, %s) is %s, not %s", w[0], w[1], got, w[2])
		}
	}
}

// joinable are the types that the laws of joins are tried with.
func joinable(cs []impl.Class) []string {
	out := []string{"0", "[I", "[[J", "@Object", "@String", "[@Object", "[[@Object", "@Nope", "[@Nope", "@NullError"}
	for _, c := range cs {
		out = append(out, "@"+c.Name, "[@"+c.Name)
	}
	return out
}

// testJoins: joins hang on no order, what is joined is of the join, and the join is of all that both are of (promise 4).
func testJoins(t *testing.T, cs []impl.Class) {
	t.Helper()
	all := joinable(cs)
	for _, a := range all {
		for _, b := range all {
			j := impl.Join(cs, a, b)
			if j != impl.Join(cs, b, a) {
				t.Errorf("Join(%s, %s) is %s, the other way round %s", a, b, j, impl.Join(cs, b, a))
			}
			if j != "0" && (!impl.IsA(cs, a, j) || !impl.IsA(cs, b, j) || !impl.Fits(cs, a, j) || !impl.Fits(cs, b, j)) {
				t.Errorf("Join(%s, %s) is %s, of which they are not", a, b, j)
			}
			if j == "0" && (a != "0" || b != "0") {
				t.Errorf("Join(%s, %s) is 0", a, b)
			}
		}
	}
	for k, a := range all {
		b, c := all[(k*7+1)%len(all)], all[(k*5+3)%len(all)]
		if one, other := impl.Join(cs, impl.Join(cs, a, b), c), impl.Join(cs, a, impl.Join(cs, b, c)); one != other {
			t.Errorf("%s, %s, %s are joined as %s and as %s", a, b, c, one, other)
		}
	}
}

func TestJoinsBelongTogether(t *testing.T) { testJoins(t, typeSpace()) }

func TestIsAFollowsAbove(t *testing.T) {
	cs := typeSpace()
	names := slices.Clone(bootNames)
	for _, c := range cs {
		names = append(names, c.Name)
	}
	for _, a := range names {
		for _, b := range names {
			above := slices.Contains(impl.Above(cs, a), b)
			if impl.IsA(cs, "@"+a, "@"+b) != (above || b == "Object") {
				t.Errorf("%s has %s above: %v", a, b, above)
			}
			if dims := strings.Repeat("[", impl.MaxDim); impl.IsA(cs, dims+"@"+a, dims+"@"+b) != (above || b == "Object") {
				t.Errorf("arrays of %s have those of %s above: %v", a, b, !above)
			}
			if slices.Contains(impl.Below(cs, b), a) != above {
				t.Errorf("%s is below %s: %v", a, b, !above)
			}
		}
	}
}
