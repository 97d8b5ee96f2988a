package tests

import (
	"strings"
	"testing"

	"loop.example/g00032/impl"
)

func fieldIs(t *testing.T, cs []impl.Class, class, name, owner string, want impl.Field) {
	t.Helper()
	got, f := impl.FieldOf(cs, class, name)
	if got != owner || f != want {
		t.Errorf("the field %s of %s is that of %q: %+v", name, class, got, f)
	}
}

func TestFieldOf(t *testing.T) {
	cs := told(
		"class A Object / implements I / field a I / field x J private / field s D static",
		"class B A / implements J / field x @A final / field a @B static volatile",
		"class C B",
		ifaceI+" / implements K / field i I static final / field j I static final", ifaceJ+" / field i D static final / field k D static final", "class K Object abstract interface / field k J static final / field o J static final",
		"class R S / field r I", "class S R / field s I", "class T Nope / field t I", "class X Error / field message I",
	)
	field := func(name, typ string, flags int64) impl.Field { return impl.Field{Name: name, Type: typ, Flags: flags} }
	fieldIs(t, cs, "A", "a", "A", field("a", "I", 0))
	fieldIs(t, cs, "A", "x", "A", field("x", "J", impl.FlagPrivate))
	fieldIs(t, cs, "A", "s", "A", field("s", "D", impl.FlagStatic))
	fieldIs(t, cs, "B", "x", "B", field("x", "@A", impl.FlagFinal))
	fieldIs(t, cs, "B", "a", "B", field("a", "@B", impl.FlagStatic|impl.FlagVolatile))
	fieldIs(t, cs, "C", "x", "B", field("x", "@A", impl.FlagFinal))
	fieldIs(t, cs, "C", "s", "A", field("s", "D", impl.FlagStatic))
	// By Above: of A I behind Object, of B J ahead of I, which stands further up.
	fieldIs(t, cs, "A", "i", "I", field("i", "I", 3))
	fieldIs(t, cs, "B", "i", "J", field("i", "D", 3))
	fieldIs(t, cs, "B", "j", "I", field("j", "I", 3))
	fieldIs(t, cs, "C", "k", "J", field("k", "D", 3))
	fieldIs(t, cs, "C", "o", "K", field("o", "J", 3))
	fieldIs(t, cs, "I", "k", "K", field("k", "J", 3))
	fieldIs(t, cs, "R", "s", "S", field("s", "I", 0))
	fieldIs(t, cs, "S", "s", "S", field("s", "I", 0))
	fieldIs(t, cs, "S", "r", "R", field("r", "I", 0))
	fieldIs(t, cs, "T", "t", "T", field("t", "I", 0))
	fieldIs(t, cs, "X", "message", "X", field("message", "I", 0))
	fieldIs(t, cs, "Error", "message", "Throwable", field("message", "@String", 0))
	fieldIs(t, nil, "StopError", "message", "Throwable", field("message", "@String", 0))
	for _, none := range []string{"A b", "A A", "R x", "T x", "Nope a", "J j", "K i", "Object message", "Thread message", "A new", "@A a"} {
		w := words(none)
		fieldIs(t, cs, w[0], w[1], "", impl.Field{})
	}
	fieldIs(t, cs, "A", "", "", impl.Field{})
	fieldIs(t, cs, "", "a", "", impl.Field{})
}

// methods holds MethodOf and Select against rows: class, name and signature, then what both tell: the class (- for none) and, for Select, its code.
func methods(t *testing.T, cs []impl.Class, rows ...string) {
	t.Helper()
	testSpace(t, "methods", cs, true)
	for _, row := range rows {
		w := words(strings.ReplaceAll(row, "-", "\"\""))
		want, selected := strings.Trim(w[3], `"`), strings.Trim(w[4], `"`)
		if got := impl.MethodOf(cs, w[0], w[1], w[2]); got != want {
			t.Errorf("%s: MethodOf is %q", row, got)
		}
		got, code := impl.Select(cs, w[0], w[1], w[2])
		codes := map[string]int64{"ok": impl.SelectOk, "none": impl.SelectNone, "abstract": impl.SelectAbstract, "two": impl.SelectTwo}
		if known, ok := codes[w[5]]; !ok || got != selected || code != known {
			t.Errorf("%s: Select is %q, %d", row, got, code)
		}
	}
}

func TestMethodsOfClasses(t *testing.T) {
	methods(t, told(
		"class A Object / method m ()V native / method p ()V private native / method s ()V static native / method q ()V native / method z ()V static private native",
		"class B A / method m ()I native / method q ()V private native",
		"class C B / method m ()V final native / method s ()I native",
		"class D C abstract / method m ()V abstract", "class E D", "class F E / method m ()V native",
	),
		"A m ()V A A ok", "A m ()I - - none", "A m (I)V - - none", "A M ()V - - none",
		"B m ()V A A ok", "B m ()I B B ok", "C m ()V C C ok", "C m ()I B B ok", "F m ()V F F ok", "F m ()I B B ok",
		"D m ()V D - abstract", "E m ()V D - abstract",
		// Private and static ones are meant, but not selected; a private one hides none of those above from Select.
		"A p ()V A - none", "B p ()V A - none", "A s ()V A - none", "C s ()V A - none", "C s ()I C C ok", "A z ()V A - none",
		"A q ()V A A ok", "B q ()V B A ok", "C q ()V B A ok",
		"Nope m ()V - - none", "@A m ()V - - none", "A hash ()I Object Object ok", "F wait ()V Object Object ok", "A wait ()I - - none",
		"String length ()I String String ok", "Thread run ()V Thread Thread ok", "Thread hash ()I Object Object ok", "System print (I)V System - none", "StopError wake ()V Object Object ok",
	)
}

// new and start are found in the class itself alone, and never selected.
func TestNewAndStart(t *testing.T) {
	const body = " stack 0 locals 2 / return"
	methods(t, told(
		"class A Object / method new ()V"+body+" / method new (I)V private"+body+" / method start ()V static"+body,
		"class B A", "class C B / method new (J)V"+body,
		ifaceI+" / method start ()V static"+body, ifaceJ+" / implements I", "class D Object / implements I",
	),
		"A new ()V A - none", "A new (I)V A - none", "A start ()V A - none",
		"B new ()V - - none", "B new (I)V - - none", "B start ()V - - none", "C new (J)V C - none", "C new ()V - - none",
		"I start ()V I - none", "J start ()V - - none", "D start ()V - - none", "D new ()V - - none",
		"Object new ()V Object - none", "Thread new ()V Thread - none", "Error new (@String)V Error - none", "Error new ()V - - none",
	)
	if impl.MethodOf(nil, "StopError", "new", "()V") != "" || impl.MethodOf(nil, "StopError", "new", "(@String)V") != "StopError" {
		t.Error("new of StopError")
	}
}

func TestMethodsOfInterfaces(t *testing.T) {
	const m, abstract = " / method m ()V native", " / method m ()V abstract"
	// One alone.
	methods(t, told(ifaceI+m, ifaceJ+abstract, "class A Object / implements I", "class B Object / implements J", "class C A", "class D Object abstract / implements J / method m ()V abstract", "class E A / method m ()V native"),
		"A m ()V I I ok", "B m ()V J - abstract", "C m ()V I I ok", "D m ()V D - abstract", "E m ()V E E ok", "I m ()V I I ok", "J m ()V J - abstract", "A m ()I - - none")
	// Those that do not inherit do not count.
	methods(t, told(ifaceI+" / method m ()V static native", ifaceJ+" / method m ()V private native", "class A Object / implements I J", "class K Object abstract interface"+abstract, "class B A / implements K"),
		"A m ()V - - none", "B m ()V K - abstract", "I m ()V I - none", "J m ()V J - none")
	// Two that are as near.
	methods(t, told(ifaceI+m, ifaceJ+m, "class K Object abstract interface"+abstract, "class L Object abstract interface"+abstract,
		"class IJ Object / implements I J", "class JI Object / implements J I", "class IK Object / implements I K", "class KI Object / implements K I", "class KL Object / implements K L", "class LK Object / implements L K",
		"class KIJ Object / implements K I J", "class KLI Object / implements K L I", "class X Object abstract interface / implements J I"),
		"IJ m ()V I - two", "JI m ()V J - two", "IK m ()V I I ok", "KI m ()V I I ok", "KL m ()V K - abstract", "LK m ()V L - abstract",
		"KIJ m ()V K - two", "KLI m ()V I I ok", "X m ()V J - two")
	// The class that has one goes ahead of all interfaces; so do Supers, and Object.
	methods(t, told(ifaceI+m+" / method hash ()I abstract", "class A Object / method m ()V private native", "class B A / implements I", "class C A2 / implements I", "class A2 Object / method m ()V static native", "class D D2 / implements I", "class D2 Object abstract / method m ()V abstract"),
		"B m ()V A I ok", "C m ()V A2 I ok", "D m ()V D2 - abstract", "B hash ()I Object Object ok", "I hash ()I I - abstract")
}

// Of interfaces above each other only the lowest count.
func TestNearestInterfaces(t *testing.T) {
	const m, abstract = " / method m ()V native", " / method m ()V abstract"
	methods(t, told(
		"class T Object abstract interface"+m, "class U Object abstract interface / implements T"+abstract, "class V Object abstract interface / implements T"+m, "class W Object abstract interface / implements T",
		"class A Object / implements T U", "class B Object / implements T V", "class C Object / implements U V", "class D Object / implements V U", "class E Object / implements W", "class F Object / implements W T", "class G Object / implements W U", "class H E / implements V",
		"class UV Object abstract interface / implements U V"+abstract, "class K Object / implements U UV", "class K2 K / implements V T", "class X Object abstract interface / implements W", "class Y Object / implements X V", "class Z Object / implements X U",
	),
		"A m ()V U - abstract", "B m ()V V V ok", "C m ()V V V ok", "D m ()V V V ok", "E m ()V T T ok", "F m ()V T T ok", "G m ()V U - abstract", "H m ()V V V ok",
		"K m ()V UV - abstract", "K2 m ()V UV - abstract", "U m ()V U - abstract", "W m ()V T T ok", "Y m ()V V V ok", "Z m ()V U - abstract")
	// Of two rows each has its lowest, far from the class.
	methods(t, told(
		"class S Object abstract interface"+m, "class S2 Object abstract interface / implements S", "class T Object abstract interface"+m, "class T2 Object abstract interface / implements T / method m ()V abstract", "class A Object / implements S2 T2", "class B Object / implements S2 T",
	), "A m ()V S S ok", "B m ()V T - two", "S2 m ()V S S ok")
	// In a ring of interfaces none is nearest: each is above the other.
	methods(t, told(ifaceI+" / implements J"+m, ifaceJ+" / implements I"+m, "class A Object / implements I J", "class K Object abstract interface"+m, "class B Object / implements I J K"),
		"A m ()V - - none", "I m ()V I I ok", "B m ()V K K ok")
}

// Supers in a ring are looked at once each.
func TestMethodsOfRings(t *testing.T) {
	methods(t, told("class A B / method a ()V native", "class B C / method b ()V native", "class C A / method c ()V native", "class D B", "class E E", "class F Nope / method f ()V native", "class G F"),
		"A a ()V A A ok", "A b ()V B B ok", "A c ()V C C ok", "C b ()V B B ok", "D a ()V A A ok", "D d ()V - - none", "A hash ()I - - none", "E m ()V - - none", "E hash ()I - - none", "F f ()V F F ok", "G f ()V F F ok", "G hash ()I - - none")
	// A Super that is an interface is a Super all the same.
	methods(t, told("class A I", ifaceI+" / method m ()V native / method n ()V abstract", "class B A"), "A m ()V I I ok", "B n ()V I - abstract", "B hash ()I Object Object ok")
}

func laidOut(t *testing.T, cs []impl.Class, class string, want ...string) {
	t.Helper()
	slots := []impl.Slot{}
	for _, s := range want {
		w := words(s)
		slots = append(slots, impl.Slot{Class: w[0], Name: w[1], Type: w[2]})
	}
	if got := impl.Layout(cs, class); !alike(got, slots) {
		t.Errorf("an object of %s has %v, not %v", class, got, slots)
	}
}

func TestLayout(t *testing.T) {
	cs := told(
		"class B A / field y I / field x D / field s I static",
		"class A Object / implements I / field x I / field s I static / field p @A private / field v J volatile",
		"class C B", "class D C / field x [I final / field t J static final / field a I",
		ifaceI+" / field i I static final", "class E Error / field code I", "class F Nope / field f I", "class G F / field g I",
	)
	laidOut(t, cs, "A", "A x I", "A p @A", "A v J")
	laidOut(t, cs, "B", "A x I", "A p @A", "A v J", "B y I", "B x D")
	laidOut(t, cs, "C", "A x I", "A p @A", "A v J", "B y I", "B x D")
	laidOut(t, cs, "D", "A x I", "A p @A", "A v J", "B y I", "B x D", "D x [I", "D a I")
	laidOut(t, cs, "I")
	laidOut(t, cs, "E", "Throwable message @String", "E code I")
	laidOut(t, cs, "F", "F f I")
	laidOut(t, cs, "G", "F f I", "G g I")
	for _, name := range bootNames {
		if strings.HasSuffix(name, "Error") || name == "Throwable" {
			laidOut(t, cs, name, "Throwable message @String")
		} else {
			laidOut(t, cs, name)
		}
	}
	for _, name := range []string{"Nope", "", "@A", "a", "[A"} {
		laidOut(t, cs, name)
	}
	laidOut(t, nil, "A")
}

// A class that has itself as a Super has no fields at all; one below such has those of each Super once.
func TestLayoutOfRings(t *testing.T) {
	cs := told("class A A / field a I", "class B C / field b I", "class C D / field c I", "class D B / field d I", "class E C / field e I", "class F A / field f I", "class G F / field g I", "class I Object abstract interface / implements I", "class J Object / implements J / field j I")
	for _, name := range []string{"A", "B", "C", "D"} {
		laidOut(t, cs, name)
	}
	laidOut(t, cs, "F", "A a I", "F f I")
	laidOut(t, cs, "G", "A a I", "F f I", "G g I")
	laidOut(t, cs, "E", "B b I", "D d I", "C c I", "E e I")
	laidOut(t, cs, "I")
	laidOut(t, cs, "J", "J j I")
}
