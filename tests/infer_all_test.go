package tests

import (
	"fmt"
	"testing"

	"loop.example/g00032/impl"
)

const (
	loopMethod  = " / method loop (I)V static stack 1 locals 2 / inc 0 1 / load I 0 / if eq 4 / goto 0 / return"
	mergeMethod = " / method merge ()V static stack 2 locals 0 / null / goto 0"
)

func TestInferAll(t *testing.T) {
	same(t, "none", len(impl.InferAll(nil)), 0)
	same(t, "all are right", len(impl.InferAll(told("class A Object"+goodMethod+loopMethod, "class B A"+goodMethod))), 0)
	z := "class Z Object abstract" + shortMethod + goodMethod + " / method a ()V abstract / method shape (I)V static stack 1 locals 1 / inc 0 1 / load J 0 / return / method short (I)V stack 0 locals 2 / inc 1 1 / null / return" + mergeMethod
	a := "class A Z" + goodMethod + " / method fall ()V static stack 0 locals 0 / call static A fall ()V / method n ()V native" + loopMethod + " / method frame ()V static stack 1 locals 0 / null / pop / return / return / handler 1 2 3 A / method new ()V stack 0 locals 1 / return"
	i := ifaceI + " / method d (I)I stack 1 locals 2 / load R 0 / return R / method e ()V abstract"
	ofZ := []impl.Failure{failure("Z", "short", "()V", impl.VerStack, 0), failure("Z", "shape", "(I)V", impl.VerShape, 1), failure("Z", "short", "(I)V", impl.VerStack, 1), failure("Z", "merge", "()V", impl.VerMerge, 1)}
	ofA := []impl.Failure{failure("A", "fall", "()V", impl.VerFall, 0), failure("A", "frame", "()V", impl.VerFrame, 1), failure("A", "new", "()V", impl.VerShape, 0)}
	ofI := []impl.Failure{failure("I", "d", "(I)I", impl.VerShape, 1)}
	same(t, "in their order", impl.InferAll(told(z, "class G Object"+goodMethod, a, i)), joinedFailures(ofZ, ofA, ofI))
	same(t, "in another order", impl.InferAll(told(i, a, "class G Object"+goodMethod, z)), joinedFailures(ofI, ofA, ofZ))
	same(t, "where something does not hold", len(impl.InferAll(told(z, a, i, "class N Nope"))), 0)
	same(t, "where it is no space", len(impl.InferAll(told(z, a, i, i))), 0)
	for _, f := range joinedFailures(ofZ, ofA, ofI) {
		same(t, fmt.Sprint(f), impl.Infer(told(z, a, i), f.Class, f.Name, f.Sig), impl.Inferred{Code: f.Code, At: f.At})
	}
}

func TestInferAllWhereNothingHolds(t *testing.T) {
	for why, cs := range brokenSpaces() {
		same(t, why, len(impl.InferAll(cs)), 0)
		same(t, why, len(impl.WithFrames(cs)), 0)
	}
	for why, cs := range wrongSpaces() {
		cs = append(told("class Q Object"+goodMethod+shortMethod), cs...)
		same(t, why, len(impl.InferAll(cs)), 0)
		same(t, why, len(impl.WithFrames(cs)), 0)
	}
}

// The most classes are a space, one more are none.
func TestInferTheMostClasses(t *testing.T) {
	for _, n := range []int{impl.MaxClasses - 1, impl.MaxClasses} {
		cs := append(told("class A Object"+loopMethod+shortMethod), manyClasses(n)...)
		want, failures, classes := impl.Inferred{Code: impl.VerStack}, 1, impl.MaxClasses
		if n == impl.MaxClasses {
			want, failures, classes = impl.Inferred{Code: impl.VerArgs}, 0, 0
		}
		same(t, "the most classes", impl.Infer(cs, "A", "short", "()V"), want)
		same(t, "the most classes", len(impl.InferAll(cs)), failures)
		same(t, "the most classes", len(impl.WithFrames(cs)), classes)
	}
}

// The frames that are found stand in the place of those that were told, and all else is as it was.
func TestWithFrames(t *testing.T) {
	const rest = " / field x I / field y @A static final / method n (D)D native / method v (I,J)D stack 9 locals 7 / const D 1p0 / return D / line 0 3 / line 1 7"
	const loop = " / method loop (I)V static stack 1 locals 2 / inc 0 1 / load I 0 / if eq 4 / goto 0 / return"
	const caught = " / method caught (@A)V private sync stack 3 locals 3 / load R 1 / enter / return / pop / return / handler 0 3 3 * / handler 1 2 3 Error"
	const lines = " / line 2 9 / line 3 1000000"
	build := func(one, two, three string) []impl.Class {
		return told("class B A / implements I J"+rest+loop+one+lines+shortMethod, "class A Object abstract sealed / permits B C / method a ()V abstract"+caught+two+lines, "class E Object final"+mergeMethod+three+goodMethod, ifaceI, ifaceJ+" / field k J static final")
	}
	want := build(" / frame 0 I - | / frame 4 I - |", " / frame 3 @A @A - | @Throwable", "")
	same(t, "without frames", impl.WithFrames(build("", "", "")), want)
	same(t, "with them", impl.WithFrames(want), want)
	same(t, "with others", impl.WithFrames(build(" / frame 0 - - | / frame 2 - - | I / frame 3 I - |", " / frame 0 @A @A - | / frame 3 - - - | @Object", " / frame 0 |")), want)
	same(t, "with wrong ones", impl.WithFrames(build(" / frame 1 D D | D", " / frame 4 !! !7 0 | @Nope", " / frame 1 | I I")), want)
	same(t, "nothing", len(impl.WithFrames(nil)), 0)
	same(t, "nothing", len(impl.WithFrames([]impl.Class{})), 0)
	same(t, "no methods", impl.WithFrames(told("class A Object", ifaceI)), told("class A Object", ifaceI))
}

// What was found wrong has no frames, though some of its instructions have states.
func TestNoFramesOfFaults(t *testing.T) {
	const head, frames = "class B A / method m (I)V static stack 2 locals 1 / load I 0 / if eq 4 / inc 0 1 / goto 0 / ", " / frame 0 I | / frame 4 I |"
	same(t, "right", impl.WithFrames(checkSpace(head + "return"))[0], told(head + "return" + frames)[0])
	for _, end := range []string{"pop", "load J 0 / return", "inc 0 1", "null / goto 4", "return / return / handler 4 5 5 A", "return / return / handler 4 5 0 *"} {
		same(t, end, impl.WithFrames(checkSpace(head + end))[0], told(head + end)[0])
		same(t, end+" with frames", impl.WithFrames(checkSpace(head + end + frames))[0], told(head + end)[0])
		same(t, end, len(impl.WithFrames(checkSpace(head+end))), len(checkSpace("class B A")))
	}
}

// What is found hangs on the space: its classes above, and which of them are interfaces.
func TestInferHangsOnTheSpace(t *testing.T) {
	const m = "class M Object / method m (@B,@C)@A static stack 1 locals 2 / load R 1 / store R 0 / const I 0 / if eq 0 / load R 0 / return R"
	for joined, cs := range map[string][]impl.Class{
		"@A":      told(m, "class B A", "class C A", "class A Object"),
		"@D":      told(m, "class B D", "class C D", "class D A", "class A Object"),
		"@B":      told(m, "class C B", "class B A", "class A Object"),
		"@C":      told(m, "class B C", "class C A", "class A Object"),
		"@Object": told(m, "class A Object abstract interface"),
	} {
		same(t, joined, impl.Infer(cs, "M", "m", "(@B,@C)@A"), impl.Inferred{Frames: []impl.Frame{{Locals: []string{joined, "@C"}}}})
	}
	for _, cs := range [][]impl.Class{told(m, "class B A", "class C Object", "class A Object"), told(m, "class B A", "class A Object"), told(m), told(m, "class B Object / implements A2", "class C Object / implements A2", "class A2 Object abstract interface", "class A Object")} {
		same(t, "unlike", impl.Infer(cs, "M", "m", "(@B,@C)@A"), impl.Inferred{Code: impl.VerShape, At: 5})
	}
}
