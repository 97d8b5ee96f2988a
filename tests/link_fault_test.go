package tests

import (
	"testing"

	"loop.example/g00032/impl"
)

// faultsOf holds the faults of a space against rows of three: the class, the code, the name.
func faultsOf(t *testing.T, why string, cs []impl.Class, want ...impl.Fault) {
	t.Helper()
	testSpace(t, why, cs, true)
	if got := impl.LinkFaults(cs); !alike(got, want) {
		t.Errorf("%s: faults are %v, not %v", why, got, want)
	}
}

func missing(class, name string) impl.Fault { return impl.Fault{Class: class, Code: 1, Name: name} }
func ring(class, name string) impl.Fault    { return impl.Fault{Class: class, Code: 2, Name: name} }
func kind(class, name string) impl.Fault    { return impl.Fault{Class: class, Code: 3, Name: name} }
func sealed(class, name string) impl.Fault  { return impl.Fault{Class: class, Code: 4, Name: name} }
func final(class, name string) impl.Fault   { return impl.Fault{Class: class, Code: 5, Name: name} }
func twice(class, name string) impl.Fault   { return impl.Fault{Class: class, Code: 6, Name: name} }

const (
	ifaceI = "class I Object abstract interface"
	ifaceJ = "class J Object abstract interface"
)

func TestLinkCodes(t *testing.T) {
	for k, code := range []int64{impl.LinkMissing, impl.LinkRing, impl.LinkKind, impl.LinkSealed, impl.LinkFinal, impl.LinkTwice} {
		if code != int64(k+1) {
			t.Errorf("code %d is %d", k+1, code)
		}
	}
	for k, code := range []int64{impl.SelectOk, impl.SelectNone, impl.SelectAbstract, impl.SelectTwo} {
		if code != int64(k) {
			t.Errorf("code %d is %d", k, code)
		}
	}
}

func TestSpacesThatHold(t *testing.T) {
	faultsOf(t, "none", nil)
	faultsOf(t, "one", told("class A Object"))
	faultsOf(t, "below Boot", told("class A Object", "class B Throwable", "class C StopError", "class D Thread / method run ()V native"))
	faultsOf(t, "told from below", told("class C B / implements J I", "class B A / implements I", ifaceI+" / implements J", ifaceJ, "class A Object"))
	faultsOf(t, "final and sealed ones", told("class A Object sealed / permits B C", "class B A final", "class C A", "class D C", ifaceI+" sealed / permits C2 J", "class C2 A2 / implements I", "class A2 Object", ifaceJ+" / implements I"))
	faultsOf(t, "permits that are missing", told("class A Object sealed / permits Nope"))
	faultsOf(t, "the same method above and below", told("class A Object / method m ()V native / method s ()V static native", "class B A / method m ()V final native / method s ()V static final native"))
	faultsOf(t, "names that are nowhere mentioned above", told("class A Object / field x @Nope / method m (@Nope)V stack 0 locals 2 / new Nope / handler 0 1 0 Nope"))
}

func TestLinkMissing(t *testing.T) {
	faultsOf(t, "the Super", told("class A Nope"), missing("A", "Nope"))
	faultsOf(t, "an interface", told("class A Object / implements Nope"), missing("A", "Nope"))
	faultsOf(t, "the last interface", told("class A Object / implements I J Nope", ifaceI, ifaceJ), missing("A", "Nope"))
	faultsOf(t, "the first interface", told("class A Object / implements Gone I Nope", ifaceI), missing("A", "Gone"))
	faultsOf(t, "the Super ahead of interfaces", told("class A Nope / implements Gone"), missing("A", "Nope"))
	faultsOf(t, "an interface's", told(ifaceI+" / implements Nope"), missing("I", "Nope"))
	faultsOf(t, "only the one right below", told("class A Nope", "class B A", "class C B"), missing("A", "Nope"))
	faultsOf(t, "nearly", told("class A object", "class B A$"), missing("A", "object"), missing("B", "A$"))
}

func TestLinkRing(t *testing.T) {
	faultsOf(t, "itself", told("class A A"), ring("A", "A"))
	faultsOf(t, "itself as an interface", told(ifaceI+" / implements I"), ring("I", "I"))
	faultsOf(t, "two", told("class A B", "class B A"), ring("A", "B"), ring("B", "A"))
	faultsOf(t, "three, and one below", told("class D A", "class A B", "class B C", "class C A"), ring("A", "B"), ring("B", "C"), ring("C", "A"))
	faultsOf(t, "interfaces", told(ifaceI+" / implements J", ifaceJ+" / implements I", "class A Object / implements I J"), ring("I", "J"), ring("J", "I"))
	faultsOf(t, "the second interface", told(ifaceI+" / implements J K", ifaceJ, "class K Object abstract interface / implements J I"), ring("I", "K"), ring("K", "I"))
	faultsOf(t, "both", told("class A B / implements I", "class B Object / implements I", ifaceI+" / implements A"), ring("A", "B"), ring("B", "I"), ring("I", "A"))
	faultsOf(t, "the Super ahead", told("class A B / implements B", "class B A"), ring("A", "B"), ring("B", "A"))
}

func TestLinkKind(t *testing.T) {
	faultsOf(t, "an interface as Super", told("class A I", ifaceI), kind("A", "I"))
	faultsOf(t, "a final Super", told("class A F", "class F Object final"), kind("A", "F"))
	for _, name := range []string{"String", "System"} {
		faultsOf(t, "a final one of Boot", told("class A "+name), kind("A", name))
	}
	faultsOf(t, "a class as interface", told("class A Object / implements B", "class B Object"), kind("A", "B"))
	faultsOf(t, "an abstract class as interface", told("class A Object / implements B", "class B Object abstract"), kind("A", "B"))
	faultsOf(t, "Object as interface", told("class A Object / implements Object"), kind("A", "Object"))
	faultsOf(t, "Boot's as interface", told("class A Object / implements I Thread", ifaceI), kind("A", "Thread"))
	faultsOf(t, "a class as an interface's", told(ifaceI+" / implements B", "class B Object"), kind("I", "B"))
	faultsOf(t, "the Super ahead", told("class A I / implements B", ifaceI, "class B Object"), kind("A", "I"))
	faultsOf(t, "interfaces in their order", told("class A B / implements I C B", ifaceI, "class B Object", "class C Object"), kind("A", "C"))
	faultsOf(t, "the Super as an interface, too", told("class A B / implements I B", ifaceI, "class B Object"), kind("A", "B"))
	faultsOf(t, "an interface as both", told("class A I / implements I", ifaceI), kind("A", "I"))
	faultsOf(t, "a final one as interface", told("class A Object / implements F", "class F Object final"), kind("A", "F"))
	faultsOf(t, "only the one right below", told("class A I", ifaceI, "class B A"), kind("A", "I"))
}

func TestLinkSealed(t *testing.T) {
	faultsOf(t, "the Super", told("class A S", "class S Object sealed / permits B"), sealed("A", "S"))
	faultsOf(t, "an interface", told("class A Object / implements J I", ifaceI+" sealed / permits B", ifaceJ), sealed("A", "I"))
	faultsOf(t, "an interface's", told(ifaceJ+" / implements I", ifaceI+" sealed / permits B"), sealed("J", "I"))
	faultsOf(t, "the Super ahead", told("class A S / implements I", "class S Object sealed / permits A2 B", ifaceI+" sealed / permits B"), sealed("A", "S"))
	faultsOf(t, "the first of two", told("class A Object / implements J I", ifaceI+" sealed / permits B", ifaceJ+" sealed / permits B"), sealed("A", "J"))
	faultsOf(t, "the second of two", told("class A S / implements J I", "class S Object sealed / permits A", ifaceI+" sealed / permits B", ifaceJ+" sealed / permits A"), sealed("A", "I"))
	faultsOf(t, "not further below", told("class A S", "class S Object sealed / permits A", "class B A", "class C B"))
	faultsOf(t, "names that look alike", told("class A S", "class S Object sealed / permits A$ AA a"), sealed("A", "S"))
}

func TestLinkFinal(t *testing.T) {
	top := func(flags string) string { return "class A Object / method m ()V " + flags }
	const low = "class B A / method m ()V native"
	faultsOf(t, "the Super's", told(top("final native"), low), final("B", "m"))
	faultsOf(t, "far above", told(top("final native"), "class C A", "class D C", "class B D / method m ()V native"), final("B", "m"))
	faultsOf(t, "behind one that is not", told(top("final native"), "class C A", "class D C", "class B D / method x ()V native / method m ()V native"), final("B", "m"))
	faultsOf(t, "another signature", told(top("final native"), "class B A / method m ()I native / method m (I)V native / method M ()V native"))
	faultsOf(t, "final itself", told(top("final native"), "class B A / method m ()V final native"), final("B", "m"))
	faultsOf(t, "abstract itself", told(top("final native"), "class B A abstract / method m ()V abstract"), final("B", "m"))
	faultsOf(t, "only below is final", told(top("native"), "class B A / method m ()V final native"))
	faultsOf(t, "a private one above", told(top("final private native"), low))
	faultsOf(t, "a private one below", told(top("final native"), "class B A / method m ()V private native"))
	faultsOf(t, "new", told("class A Object / method new ()V stack 0 locals 1 / return", "class B A / method new ()V stack 0 locals 1 / return"))
	// A final static one counts for one that inherits, ahead of rule 6; one that is static itself does not inherit.
	faultsOf(t, "a static one above", told(top("static final native"), low), final("B", "m"))
	faultsOf(t, "static ones", told(top("static final native"), "class B A / method m ()V static native"))
	faultsOf(t, "a private static one above", told(top("static final private native"), low))
	faultsOf(t, "a static one below", told(top("final native"), "class B A / method m ()V static native"), twice("B", "m"))
	for _, name := range []string{"wait ()V", "notify ()V", "wake ()V", "hash ()I"} {
		faultsOf(t, "Object's "+name, told("class A Object / method "+name+" native"), final("A", words(name)[0]))
		faultsOf(t, "Object's "+name+" of an interface", told(ifaceI+" / method "+name+" abstract"), final("I", words(name)[0]))
	}
	for _, name := range []string{"begin ()V", "join ()V", "stop ()V", "stopped ()I"} {
		faultsOf(t, "Thread's "+name, told("class A Thread / method "+name+" native"), final("A", words(name)[0]))
		faultsOf(t, "Thread's "+name+" elsewhere", told("class A Object / method "+name+" native"))
	}
	faultsOf(t, "by methods, in order", told("class A Object / method a ()V final native / method b ()V final native", "class B A / method c ()V native / method b ()V native / method a ()V native"), final("B", "b"))
	faultsOf(t, "each class below", told(top("final native"), low, "class C B / method m ()V native"), final("B", "m"), final("C", "m"))
}

func TestLinkTwice(t *testing.T) {
	top := func(flags string) string { return "class A Object / method m ()V " + flags }
	low := func(flags string) string { return "class B A / method m ()V " + flags }
	faultsOf(t, "static above", told(top("static native"), low("native")), twice("B", "m"))
	faultsOf(t, "static below", told(top("native"), low("static native")), twice("B", "m"))
	faultsOf(t, "static below, final", told(top("native"), low("static final native")), twice("B", "m"))
	faultsOf(t, "both", told(top("static native"), low("static native")))
	faultsOf(t, "none", told(top("native"), low("native")))
	faultsOf(t, "private above", told(top("static private native"), low("native")))
	faultsOf(t, "private above", told(top("private native"), low("static native")))
	faultsOf(t, "private below", told(top("static native"), low("private native")))
	faultsOf(t, "private below", told(top("native"), low("static private native")))
	faultsOf(t, "another signature", told(top("static native"), "class B A / method m ()I native / method m (I)V native / method M ()V native"))
	faultsOf(t, "far above", told(top("static native"), "class C A", "class D C / method m ()I native", "class B D / method m ()V native"), twice("B", "m"))
	faultsOf(t, "in an interface", told(ifaceI+" / method m ()V static native", "class B Object / implements J", ifaceJ+" / implements I", "class C B / method m ()V native"), twice("C", "m"))
	faultsOf(t, "of an interface", told(ifaceI+" / method m ()V abstract", ifaceJ+" / implements I / method m ()V static native"), twice("J", "m"))
	faultsOf(t, "the second of two above", told(top("native"), ifaceI+" / method m ()V static native", "class B A / implements I / method m ()V native"), twice("B", "m"))
	faultsOf(t, "a static one over Boot's", told("class A Object / method wait ()V static native"), twice("A", "wait"))
	faultsOf(t, "a static one over Boot's", told("class A Thread / method run ()V static native"), twice("A", "run"))
	faultsOf(t, "start", told("class A Object / method start ()V static / return", "class B A / method start ()V static / return", "class C B / method start ()V static private / return"))
	faultsOf(t, "by methods, in order", told("class A Object / method a ()V native / method b ()V static native", "class B A / method c ()V native / method b ()V native / method a ()V static native"), twice("B", "b"))
}

// Where several rules are broken the first counts; each class has one fault at most, in the order of the list.
func TestTheFirstFaultCounts(t *testing.T) {
	const (
		a = "class A Object sealed / permits Q / method f ()V final native / method s ()V static native"
		m = " / method s ()V native / method f ()V native"
	)
	faultsOf(t, "1 ahead of 2", told("class B B / implements Nope"), missing("B", "Nope"))
	faultsOf(t, "1 ahead of 3", told("class B String / implements Nope"), missing("B", "Nope"))
	faultsOf(t, "1 ahead of 4 to 6", told(a, "class B A / implements Nope"+m), missing("B", "Nope"))
	faultsOf(t, "2 ahead of 3", told("class B I / implements B", ifaceI), ring("B", "B"))
	faultsOf(t, "2 ahead of 3, in one", told("class B C / implements C", "class C B final"), ring("B", "C"), ring("C", "B"))
	faultsOf(t, "2 ahead of 4 to 6", told(a, "class B A / implements B"+m), ring("B", "B"))
	faultsOf(t, "3 ahead of 4 to 6", told(a, "class B A / implements A"+m), kind("B", "A"))
	faultsOf(t, "4 ahead of 5 and 6", told(a, "class B A"+m), sealed("B", "A"))
	faultsOf(t, "5 ahead of 6", told(a, "class Q A"+m), final("Q", "f"))
	faultsOf(t, "6 at last", told(a, "class Q A / method s ()V native"), twice("Q", "s"))
	faultsOf(t, "in the order of the list", told("class Z Nope", "class B B", "class A String", "class M Object", "class C Z", "class K Object / implements M"),
		missing("Z", "Nope"), ring("B", "B"), kind("A", "String"), kind("K", "M"))
}
