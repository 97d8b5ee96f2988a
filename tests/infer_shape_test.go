package tests

import (
	"strings"
	"testing"

	"loop.example/g00032/impl"
)

// joinRows: two shapes, and what both are joined to, whichever comes first.
func joinRows() []string {
	return []string{
		"I I I", "J J J", "D D D", "0 0 0", "- - -", "!! !! !!", "!0 !0 !0", "!399 !399 !399", "@A @A @A", "@I @I @I", "@Nope @Nope @Nope", "[I [I [I", "[[@Nope [[@Nope [[@Nope",
		"I J -", "I D -", "J D -", "I 0 -", "J 0 -", "D 0 -", "I @A -", "J @Object -", "D @I -", "I [I -", "J [J -", "D [D -", "I - -", "J - -", "D - -", "I !3 -", "J !3 -", "D !3 -", "I !! -", "J !! -", "D !! -",
		"0 @A @A", "0 @Object @Object", "0 @I @I", "0 @Nope @Nope", "0 [I [I", "0 [@I [@I", "0 [[[[@Nope [[[[@Nope", "0 - -", "0 !0 -", "0 !! -",
		"@A @B @A", "@A @C @A", "@B @C @B", "@A @Object @Object", "@B @E @Object", "@C @E @Object", "@E @X @Object", "@X @Error @Error", "@X @Throwable @Throwable", "@X @NullError @Error", "@NullError @StopError @Error", "@Error @Throwable @Throwable", "@Thread @Throwable @Object", "@String @A @Object",
		"@A @I @Object", "@B @I @Object", "@I @J @Object", "@I @Object @Object", "@I @Nope @Object", "@Nope @A @Object", "@Nope @Object @Object", "@Nope @Nope2 @Object", "@Nope @Nop @Object",
		"@A - -", "@A !3 -", "@A !! -", "@Object - -", "@Object !! -", "@I - -", "@Nope - -", "@B !0 -", "@B !! -",
		"[I [J @Object", "[I [D @Object", "[J [D @Object", "[I [@A @Object", "[I [[I @Object", "[I @A @Object", "[I @Object @Object", "[I @I @Object", "[@A @A @Object", "[@A @Object @Object", "[@A @I @Object", "[@Nope @Nope @Object",
		"[@A [@B [@A", "[@C [@B [@B", "[@B [@E [@Object", "[@A [@Object [@Object", "[@A [@I [@Object", "[@I [@J [@Object", "[@Nope [@A [@Object", "[@X [@NullError [@Error",
		"[[I [[J [@Object", "[[I [@A [@Object", "[[I [@Object [@Object", "[[@A [[@B [[@A", "[[@A [@A [@Object", "[[@A [[I [@Object", "[[@B [[@E [[@Object", "[[[[@A [[[[@C [[[[@A", "[[[[I [[[[J [[[@Object", "[[[[I [[[I [[@Object", "[[[[@A [@A [@Object", "[[[[@A [I @Object",
		"[I - -", "[I !3 -", "[I !! -", "[@A - -", "[[[[@A !! -",
		"!3 !4 -", "!3 !30 -", "!0 !! -", "!3 - -", "!! - -",
	}
}

func TestJoinShapes(t *testing.T) {
	cs := checkSpace("class B A")
	for _, row := range joinRows() {
		w := words(row)
		same(t, row, impl.JoinShapes(cs, w[0], w[1]), w[2])
		same(t, row+", the other way round", impl.JoinShapes(cs, w[1], w[0]), w[2])
	}
}

// joinShapes is chapter 8's, worked out once more.
func (w world) joinShapes(s, t string) string {
	switch {
	case s == t:
		return s
	case wholeShape(s) && wholeShape(t):
		return w.join(s, t)
	}
	return "-"
}

// Each shape with each: what both are joined to both fit, and a third that both fit it fits, too.
func TestJoinsOfAllShapes(t *testing.T) {
	cs := checkSpace("class B A")
	w := checkWorld()
	all := append(fitShapes(), checkShapes()...)
	for _, s := range all {
		for _, u := range all {
			got := impl.JoinShapes(cs, s, u)
			same(t, s+" and "+u, got, w.joinShapes(s, u))
			if !w.shapeFits(s, got) || !w.shapeFits(u, got) {
				t.Errorf("%s and %s are joined to %s", s, u, got)
			}
			for _, third := range all {
				if w.shapeFits(s, third) && w.shapeFits(u, third) && !w.shapeFits(got, third) {
					t.Errorf("%s and %s are joined to %s, which does not fit %s", s, u, got, third)
				}
			}
		}
	}
}

// A text that is no shape gives - with every other one, and with itself.
func TestJoinsOfNoShapes(t *testing.T) {
	cs := checkSpace("class B A")
	for _, wrong := range wrongShapes() {
		same(t, wrong, impl.JoinShapes(cs, wrong, wrong), "-")
		same(t, wrong, impl.JoinShapes(nil, wrong, wrong), "-")
		for _, other := range append(fitShapes(), wrongShapes()[:9]...) {
			if got := impl.JoinShapes(cs, wrong, other) + impl.JoinShapes(cs, other, wrong); got != "--" {
				t.Errorf("%.40q and %.40q are joined to %.40q", wrong, other, got)
			}
		}
	}
	for _, shape := range fitShapes() {
		same(t, "a shape with itself", impl.JoinShapes(cs, shape, shape), shape)
	}
}

func TestLongShapesJoin(t *testing.T) {
	long := longName(impl.MaxName)
	cs := told("class "+long+" Object", "class Low "+long, "class Other "+long)
	for dims := range impl.MaxDim + 1 {
		array := strings.Repeat("[", dims)
		same(t, array, impl.JoinShapes(cs, array+"@Low", array+"@"+long), array+"@"+long)
		same(t, array, impl.JoinShapes(cs, array+"@Low", array+"@Other"), array+"@"+long)
		same(t, array, impl.JoinShapes(cs, array+"@Low", array+"@"+long+"x"), "-")
		same(t, array, impl.JoinShapes(cs, array+"@"+long+"x", array+"@"+long+"x"), "-")
	}
	same(t, "five [", impl.JoinShapes(cs, "[[[[[I", "[[[[[I"), "-")
}

// In a list that is no space shapes are joined as in an empty one; a space need not hold.
func TestJoinsInOtherLists(t *testing.T) {
	all := fitShapes()
	for why, cs := range wrongSpaces() {
		for _, s := range all {
			for _, u := range all {
				same(t, why+": "+s+" and "+u, impl.JoinShapes(cs, s, u), impl.JoinShapes(nil, s, u))
			}
		}
		same(t, why, impl.JoinShapes(cs, "@B", "@A"), "@Object")
		same(t, why, impl.JoinShapes(cs, "@B", "@B"), "@B")
		same(t, why, impl.JoinShapes(cs, "@NullError", "@StopError"), "@Error")
	}
	ringed := told("class A B", "class B A", "class C B / implements Nope", "class D Nope", "class F D", ifaceI)
	for _, row := range []string{"@A @B @A", "@B @A @B", "@C @A @B", "@A @C @A", "@C @I @Object", "@D @F @D", "@F @D @D", "@D @C @Object", "[@B [@A [@B"} {
		w := words(row)
		same(t, "in a ring: "+row, impl.JoinShapes(ringed, w[0], w[1]), w[2])
	}
}

// What is joined hangs on the classes alone, not on what was joined before.
func TestJoinsHangOnTheSpace(t *testing.T) {
	const b = "class B A"
	for range 3 {
		same(t, "B below A", impl.JoinShapes(told(b, "class A Object"), "@B", "@A"), "@A")
		same(t, "B beside A", impl.JoinShapes(told("class B Object", "class A Object"), "@B", "@A"), "@Object")
		same(t, "A an interface", impl.JoinShapes(told("class B Object / implements A", "class A Object abstract interface"), "@B", "@A"), "@Object")
		same(t, "B alone", impl.JoinShapes(told(b), "@B", "@A"), "@Object")
		same(t, "A below B", impl.JoinShapes(told("class A B", "class B Object"), "@B", "@A"), "@B")
	}
}
