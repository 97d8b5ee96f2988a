package tests

import (
	"fmt"
	"slices"
	"strings"
	"testing"

	"loop.example/g00032/impl"
)

// checkSpace has the classes that the tests of chapter 7 speak of; method B.m is told by each test.
func checkSpace(more ...string) []impl.Class {
	return told(append(more, "class A Object / implements I", "class C B", "class E Object", "class X Error", ifaceI, ifaceJ)...)
}

func TestVerdictCodes(t *testing.T) {
	for k, code := range []int64{impl.VerOk, impl.VerArgs, impl.VerFrame, impl.VerStack, impl.VerShape, impl.VerFall, impl.VerMerge} {
		if code != int64(k) {
			t.Errorf("code %d is %d", k, code)
		}
	}
}

// fitRows: a shape, and all shapes of fitShapes that it fits.
func fitRows() []string {
	const faces = " @I @J @Object -"
	return []string{
		"I : I -", "J : J -", "D : D -",
		"0 : 0 @A @B @E @I @J @Object @String @Nope @Error @X [I [J [D [@A [@B [@I [@Object [@Nope [[I [[J [[@A [[[[@B -",
		"@A : @A" + faces, "@B : @B @A" + faces, "@E : @E" + faces, "@I :" + faces, "@J :" + faces, "@Object :" + faces, "@String : @String" + faces,
		"@Nope : @Nope" + faces, "@Error : @Error" + faces, "@X : @X @Error" + faces,
		"[I : [I" + faces, "[J : [J" + faces, "[D : [D" + faces,
		"[@A : [@A [@I [@Object" + faces, "[@B : [@B [@A [@I [@Object" + faces, "[@I : [@I [@Object" + faces, "[@Object : [@I [@Object" + faces, "[@Nope : [@Nope [@I [@Object" + faces,
		"[[I : [[I [@I [@Object" + faces, "[[J : [[J [@I [@Object" + faces, "[[@A : [[@A [@I [@Object" + faces, "[[[[@B : [[[[@B [@I [@Object" + faces,
		"!0 : !0 -", "!7 : !7 -", "!70 : !70 -", "!399 : !399 -", "!! : !! -", "- : -",
	}
}

// fitShapes are those whose rows stand there.
func fitShapes() []string {
	out := []string{}
	for _, row := range fitRows() {
		out = append(out, words(row)[0])
	}
	return out
}

func TestShapeFits(t *testing.T) {
	cs := checkSpace("class B A")
	for _, row := range fitRows() {
		shape, rest, _ := strings.Cut(row, " :")
		for _, other := range fitShapes() {
			want := slices.Contains(words(rest), other)
			if impl.ShapeFits(cs, shape, other) != want {
				t.Errorf("%s fits %s: %v", shape, other, !want)
			}
		}
	}
}

// wrongShapes are texts that are no shape.
func wrongShapes() []string {
	return append(slices.DeleteFunc(wrongTypes(), impl.ShapeOk), "!", "!!!", "!400", "!01", "!00", "!-1", "!+1", "! 1", "!1 ", "!!1", "--", "- ", "0 ", "[-", "[!!", "[!3", "@-", "@!!", "@0", "!9223372036854775808", "!"+strings.Repeat("0", 1<<16), strings.Repeat("-", 1<<16))
}

func TestShapesThatAreNone(t *testing.T) {
	cs := checkSpace("class B A")
	for _, wrong := range wrongShapes() {
		for _, other := range append(fitShapes(), wrongShapes()...) {
			if impl.ShapeFits(cs, wrong, other) || impl.ShapeFits(cs, other, wrong) {
				t.Errorf("%.40q and %.40q fit", wrong, other)
			}
		}
	}
}

// The longest names and most brackets are shapes like others.
func TestLongShapesFit(t *testing.T) {
	long := longName(impl.MaxName)
	cs := told("class "+long+" Object", "class Low "+long)
	for dims := range impl.MaxDim + 1 {
		array := strings.Repeat("[", dims)
		if !impl.ShapeFits(cs, array+"@Low", array+"@"+long) || impl.ShapeFits(cs, array+"@"+long, array+"@Low") {
			t.Errorf("a long name behind %d [", dims)
		}
		if impl.ShapeFits(cs, array+"@Low", array+"@"+long+"x") {
			t.Errorf("a longer name behind %d [", dims)
		}
	}
}

// Shapes fit in a list that is no space as in an empty one; and a space need not hold.
func TestShapesInOtherLists(t *testing.T) {
	all := fitShapes()
	for why, cs := range wrongSpaces() {
		for _, s := range all {
			for _, u := range all {
				if impl.ShapeFits(cs, s, u) != impl.ShapeFits(nil, s, u) {
					t.Errorf("%s: %s fits %s not as in an empty space", why, s, u)
				}
			}
		}
		if impl.ShapeFits(cs, "@B", "@A") || !impl.ShapeFits(cs, "@B", "@B") || !impl.ShapeFits(cs, "@B", "-") || !impl.ShapeFits(cs, "@B", "@Object") || !impl.ShapeFits(cs, "@X", "@X") {
			t.Errorf("%s: shapes", why)
		}
	}
	ringed := told("class A B", "class B A", "class C B / implements Nope", ifaceI)
	for _, row := range []string{"@A @B true", "@B @A true", "@C @A true", "@A @C false", "@C @I true", "@C @Nope false", "@C @Object true"} {
		w := words(row)
		if impl.ShapeFits(ringed, w[0], w[1]) != (w[2] == "true") {
			t.Errorf("in a ring: %s", row)
		}
	}
}

// starts holds the start of a method of the classes against the shapes of its locals.
func starts(t *testing.T, cs []impl.Class, method string, locals string) {
	t.Helper()
	w := words(method)
	if got := impl.StartFrame(cs, w[0], w[1], w[2]); !alike(got, impl.Frame{Locals: words(locals)}) {
		t.Errorf("%s starts with %+v", method, got)
	}
}

func TestStartFrame(t *testing.T) {
	const body = " / goto 0 / frame 0 "
	cs := told(
		"class A Object abstract / method s ()V static stack 0 locals 0"+body+"| / method s (I)V static stack 9 locals 1"+body+"- | / method s (I,J,D,@A,[I,[[@Nope,@Nope,@Object)@A static stack 0 locals 10"+body+"- - - - - - - - - - |"+
			" / method m ()V stack 0 locals 1"+body+"- | / method m (I)I private stack 0 locals 3"+body+"- - - | / method m (D,[D)V final sync stack 0 locals 3 / return"+
			" / method new ()V stack 0 locals 1 / return / method new (I,@A)V private stack 2 locals 5 / return / method start ()V static stack 0 locals 1 / return"+
			" / method a (I)V abstract / method n (I)V native / method z (I)V static native",
		"class B A / method m ()V stack 0 locals 40 / return", "class New Object / method news ()V stack 0 locals 1 / return / method m (@New)V static stack 0 locals 1 / return",
		ifaceI+" / method d (J)V stack 0 locals 2 / return / method c ()V private stack 0 locals 2 / return / method e ()V static stack 0 locals 2 / return / method f ()V abstract",
	)
	faultsOf(t, "starts", cs)
	starts(t, cs, "A s ()V", "")
	starts(t, cs, "A s (I)V", "I")
	starts(t, cs, "A s (I,J,D,@A,[I,[[@Nope,@Nope,@Object)@A", "I J D @A [I [[@Nope @Nope @Object - -")
	starts(t, cs, "A m ()V", "@A")
	starts(t, cs, "A m (I)I", "@A I -")
	starts(t, cs, "A m (D,[D)V", "@A D [D")
	starts(t, cs, "A new ()V", "!!")
	starts(t, cs, "A new (I,@A)V", "!! I @A - -")
	starts(t, cs, "A start ()V", "-")
	starts(t, cs, "B m ()V", "@B"+strings.Repeat(" -", 39))
	starts(t, cs, "New news ()V", "@New")
	starts(t, cs, "New m (@New)V", "@New")
	starts(t, cs, "I d (J)V", "@I J")
	starts(t, cs, "I c ()V", "@I -")
	starts(t, cs, "I e ()V", "- -")
	for _, none := range []string{
		"A a (I)V", "A n (I)V", "A z (I)V", "I f ()V", // without Code
		"Nope m ()V", "@A m ()V", "a m ()V", "A$ m ()V", // no class
		"A M ()V", "A m ()I", "A m (I)V", "A m (I)", "A s (J)V", "A d ()V", "A news ()V", "B s ()V", "B m (I)I", "B new ()V", "B start ()V", "I m ()V", "New new ()V", "A hash ()I", // no method of its own
	} {
		starts(t, cs, none, "")
	}
	for _, empty := range [][3]string{{"", "m", "()V"}, {"A", "", "()V"}, {"A", "m", ""}, {"", "", ""}} {
		if got := impl.StartFrame(cs, empty[0], empty[1], empty[2]); !alike(got, impl.Frame{}) {
			t.Errorf("%q starts with %+v", empty, got)
		}
	}
}

func TestStartFrameOfBoot(t *testing.T) {
	for _, cs := range [][]impl.Class{nil, {}, told("class A Object")} {
		starts(t, cs, "Object new ()V", "@Object")
		starts(t, cs, "Throwable new (@String)V", "!! @String")
		for _, name := range words("Error NullError ArithError BoundsError CastError StoreError SizeError StateError LinkError InitError StopError") {
			starts(t, cs, name+" new (@String)V", "!! @String")
			starts(t, cs, name+" new ()V", "")
		}
		starts(t, cs, "Thread new ()V", "!!")
		starts(t, cs, "Thread run ()V", "@Thread")
		for _, none := range words("Object.wait()V Object.hash()I String.length()I String.at(I)I String.new()V Thread.begin()V Thread.stopped()I System.print(I)V System.new()V Error.message()V") {
			class, rest, _ := strings.Cut(none, ".")
			name, sig, _ := strings.Cut(rest, "(")
			starts(t, cs, fmt.Sprint(class, " ", name, " (", sig), "")
		}
	}
}

// A list that is no space has Boot's classes alone; a space need not hold.
func TestStartFrameInOtherLists(t *testing.T) {
	const m = " / method m (I)V stack 0 locals 3 / return"
	wrong := wrongSpaces()
	wrong["two alike"] = told("class A Object"+m, "class A Object"+m)
	for why, cs := range wrong {
		if got := impl.StartFrame(cs, "A", "m", "(I)V"); !alike(got, impl.Frame{}) {
			t.Errorf("%s: %+v", why, got)
		}
		starts(t, cs, "Thread run ()V", "@Thread")
	}
	ringed := told("class A B"+m, "class B A", "class N Nope"+m+" / method new ()V stack 0 locals 1 / return")
	starts(t, ringed, "A m (I)V", "@A I -")
	starts(t, ringed, "N m (I)V", "@N I -")
	starts(t, ringed, "N new ()V", "!!")
}
