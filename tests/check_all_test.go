package tests

import (
	"fmt"
	"testing"

	"loop.example/g00032/impl"
)

const (
	goodMethod  = " / method good ()V static stack 0 locals 0 / return"
	shortMethod = " / method short ()V static stack 1 locals 0 / pop / return"
)

func refused(t *testing.T, why string, cs []impl.Class, class, name, sig string) {
	t.Helper()
	if got := impl.Check(cs, class, name, sig); got != (impl.Verdict{Code: impl.VerArgs}) {
		t.Errorf("%s: %s %s %s: %v", why, class, name, sig, got)
	}
}

// brokenSpaces have a link fault of each sort, in a class beside A.
func brokenSpaces() map[string][]impl.Class {
	const a = "class A Object" + goodMethod + shortMethod
	return map[string][]impl.Class{
		"missing": told(a, "class B Nope"), "ring": told(a, "class B C", "class C B"), "itself": told(a, "class B B"), "kind": told(a, "class B Object / implements A"), "final": told(a, "class B String"),
		"sealed": told(a, "class B Object sealed / permits A", "class C B"), "over final": told(a, "class B Object / method hash ()I native"), "twice": told(a, "class B Thread / method run ()V static native"),
	}
}

func TestCheckRefuses(t *testing.T) {
	spaces := brokenSpaces()
	for why, cs := range spaces {
		testSpace(t, why, cs, true)
		if len(impl.LinkFaults(cs)) == 0 {
			t.Errorf("%s: holds", why)
		}
	}
	for why, cs := range wrongSpaces() {
		spaces["no space, "+why] = append(told("class Q Object"+goodMethod+shortMethod), cs...)
	}
	for why, cs := range spaces {
		for _, name := range []string{"good", "short", "none"} {
			refused(t, why, cs, cs[0].Name, name, "()V")
		}
		refused(t, why, cs, "B", "m", "()V")
		refused(t, why, cs, "Object", "new", "()V")
		refused(t, why, cs, "Object", "hash", "()I")
		same(t, why, len(impl.CheckAll(cs)), 0)
	}
	cs := told("class A Object"+goodMethod+shortMethod, "class B A")
	same(t, "the same, alone", impl.Check(cs, "A", "good", "()V"), impl.Verdict{})
	same(t, "the same, alone", impl.Check(cs, "A", "short", "()V"), impl.Verdict{Code: impl.VerStack})
	for _, class := range []string{"", "Nope", "@A", "a", "AA", "[@A", "Q"} {
		refused(t, "no class", cs, class, "good", "()V")
	}
	for _, member := range [][2]string{{"", "()V"}, {"good", ""}, {"good", "()I"}, {"good", "(I)V"}, {"Good", "()V"}, {"goo", "()V"}, {"new", "()V"}, {"start", "()V"}, {"hash", "()I"}} {
		refused(t, "no method", cs, "A", member[0], member[1])
	}
	// A method of a class above is not the class's own.
	refused(t, "inherited", cs, "B", "good", "()V")
	refused(t, "inherited", cs, "Thread", "hash", "()I")
	refused(t, "inherited", nil, "String", "new", "()V")
}

// The most classes are a space, one more are none.
func TestCheckTheMostClasses(t *testing.T) {
	for _, n := range []int{impl.MaxClasses - 1, impl.MaxClasses} {
		cs := append(told("class A Object"+goodMethod+shortMethod), manyClasses(n)...)
		for k := 1; k <= n; k++ {
			cs[k].Super = "Object"
		}
		want := impl.Verdict{Code: impl.VerStack}
		failures := 1
		if n == impl.MaxClasses {
			want, failures = impl.Verdict{Code: impl.VerArgs}, 0
		}
		same(t, "the most classes", impl.Check(cs, "A", "short", "()V"), want)
		same(t, "the most classes", len(impl.CheckAll(cs)), failures)
	}
}

func TestMethodsWithoutCode(t *testing.T) {
	cs := told("class A Object abstract / method a ()V abstract / method n (I)@A native / method s (J)V static native / method p ()V private native", ifaceI+" / method i ()V abstract")
	for _, m := range []string{"A a ()V", "A n (I)@A", "A s (J)V", "A p ()V", "I i ()V", "Object wait ()V", "String at (I)I", "Thread begin ()V", "System print (D)V"} {
		w := words(m)
		same(t, m, impl.Check(cs, w[0], w[1], w[2]), impl.Verdict{})
	}
	same(t, "no code at all", len(impl.CheckAll(cs)), 0)
}

func failure(class, name, sig string, code, at int64) impl.Failure {
	return impl.Failure{Class: class, Name: name, Sig: sig, Code: code, At: at}
}

func TestCheckAll(t *testing.T) {
	same(t, "none", len(impl.CheckAll(nil)), 0)
	same(t, "all are right", len(impl.CheckAll(told("class A Object"+goodMethod, "class B A"+goodMethod))), 0)
	z := "class Z Object abstract" + shortMethod + goodMethod + " / method a ()V abstract / method shape (I)V static stack 1 locals 1 / inc 0 1 / load J 0 / return / method short (I)V stack 0 locals 2 / inc 1 1 / null / return"
	a := "class A Z" + goodMethod + " / method fall ()V static stack 0 locals 0 / call static A fall ()V / method n ()V native / method frame ()V static stack 0 locals 0 / goto 0 / method new ()V stack 0 locals 1 / return"
	i := ifaceI + " / method d (I)I stack 1 locals 2 / load R 0 / return R / method e ()V abstract"
	ofZ := []impl.Failure{failure("Z", "short", "()V", impl.VerStack, 0), failure("Z", "shape", "(I)V", impl.VerShape, 1), failure("Z", "short", "(I)V", impl.VerStack, 1)}
	ofA := []impl.Failure{failure("A", "fall", "()V", impl.VerFall, 0), failure("A", "frame", "()V", impl.VerFrame, 0), failure("A", "new", "()V", impl.VerShape, 0)}
	ofI := []impl.Failure{failure("I", "d", "(I)I", impl.VerShape, 1)}
	same(t, "in their order", impl.CheckAll(told(z, "class G Object"+goodMethod, a, i)), joinedFailures(ofZ, ofA, ofI))
	same(t, "in another order", impl.CheckAll(told(i, a, "class G Object"+goodMethod, z)), joinedFailures(ofI, ofA, ofZ))
	same(t, "where something does not hold", len(impl.CheckAll(told(z, a, i, "class N Nope"))), 0)
	same(t, "where it is no space", len(impl.CheckAll(told(z, a, i, i))), 0)
	for _, f := range joinedFailures(ofZ, ofA, ofI) {
		same(t, fmt.Sprint(f), impl.Check(told(z, a, i), f.Class, f.Name, f.Sig), impl.Verdict{Code: f.Code, At: f.At})
	}
}

func joinedFailures(lists ...[]impl.Failure) []impl.Failure {
	out := []impl.Failure{}
	for _, l := range lists {
		out = append(out, l...)
	}
	return out
}

// What a method means hangs on the space: its classes above, and which of them are interfaces.
func TestCheckHangsOnTheSpace(t *testing.T) {
	const m = "class M Object / method m (@B)@A static stack 1 locals 1 / load R 0 / return R"
	for want, cs := range map[int64][]impl.Class{
		impl.VerOk:    told(m, "class B A", "class A Object"),
		impl.VerShape: told(m, "class B Object", "class A Object"),
	} {
		same(t, "B below A", impl.Check(cs, "M", "m", "(@B)@A").Code, want)
	}
	same(t, "A an interface", impl.Check(told(m, "class A Object abstract interface"), "M", "m", "(@B)@A"), impl.Verdict{})
	same(t, "A is none", impl.Check(told(m, "class B Object"), "M", "m", "(@B)@A"), impl.Verdict{Code: impl.VerShape, At: 1})
	same(t, "both are none", impl.Check(told(m), "M", "m", "(@B)@A"), impl.Verdict{Code: impl.VerShape, At: 1})
}
