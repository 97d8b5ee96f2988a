package tests

import (
	"fmt"
	"strings"
	"testing"

	"loop.example/g00032/impl"
)

// infers says that the finder takes a method of B, told by its line and code, with these frames (told as a class tells them).
func infers(t *testing.T, method string, frames ...string) {
	t.Helper()
	cs := checkSpace("class B A / method " + method)
	m := cs[0].Methods[0]
	want := framed(cs[0].Name, method, frames...)
	same(t, method, impl.Infer(cs, "B", m.Name, m.Sig), impl.Inferred{Frames: want.Frames})
	same(t, "all of "+method, len(impl.InferAll(cs)), 0)
	again := impl.WithFrames(cs)
	same(t, "with frames: "+method, again[0].Methods, []impl.Method{want})
	same(t, "again: "+method, impl.Infer(again, "B", m.Name, m.Sig), impl.Inferred{Frames: want.Frames})
	if allReached(m) {
		same(t, "checked: "+method, impl.Check(again, "B", m.Name, m.Sig), impl.Verdict{})
	}
}

// framed gives a method with other frames than those that its text tells.
func framed(class, method string, frames ...string) impl.Method {
	code, _, _ := strings.Cut(method, " / frame ")
	for _, f := range frames {
		code += " / frame " + f
	}
	return told("class " + class + " A / method " + code)[0].Methods[0]
}

// misses says that the finder finds a fault in a method of B.
func misses(t *testing.T, method string, code, at int64) {
	t.Helper()
	cs := checkSpace("class B A / method " + method)
	m := cs[0].Methods[0]
	same(t, method, impl.Infer(cs, "B", m.Name, m.Sig), impl.Inferred{Code: code, At: at})
	same(t, "all of "+method, impl.InferAll(cs), []impl.Failure{failure("B", m.Name, m.Sig, code, at)})
	same(t, "with frames: "+method, impl.WithFrames(cs)[0].Methods, []impl.Method{framed("B", method)})
	if impl.Check(cs, "B", m.Name, m.Sig).Code == impl.VerOk {
		t.Errorf("%s: the checker takes it", method)
	}
}

// allReached says whether a way leads from instruction 0 to each one: behind it, to its targets, and to handlers.
func allReached(m impl.Method) bool {
	met, row := map[int64]bool{0: true}, []int64{0}
	for len(row) > 0 {
		at := row[0]
		next, goes := jumpsOf(m.Code[at])
		if goes {
			next = append(next, at+1)
		}
		for _, h := range m.Handlers {
			if h.From <= at && at < h.To {
				next = append(next, h.At)
			}
		}
		row = row[1:]
		for _, n := range next {
			if n < int64(len(m.Code)) && !met[n] {
				met[n], row = true, append(row, n)
			}
		}
	}
	return len(met) == len(m.Code)
}

func uninferred(t *testing.T, why string, cs []impl.Class, class, name, sig string) {
	t.Helper()
	same(t, fmt.Sprintf("%s: %s %s %s", why, class, name, sig), impl.Infer(cs, class, name, sig), impl.Inferred{Code: impl.VerArgs})
}

// What Check refuses for its arguments Infer refuses.
func TestInferRefuses(t *testing.T) {
	spaces := brokenSpaces()
	for why, cs := range wrongSpaces() {
		spaces["no space, "+why] = append(told("class Q Object"+goodMethod+shortMethod), cs...)
	}
	for why, cs := range spaces {
		for _, name := range []string{"good", "short", "none"} {
			uninferred(t, why, cs, cs[0].Name, name, "()V")
		}
		uninferred(t, why, cs, "B", "m", "()V")
		uninferred(t, why, cs, "Object", "new", "()V")
		uninferred(t, why, cs, "Object", "hash", "()I")
	}
	cs := told("class A Object"+goodMethod+shortMethod, "class B A")
	same(t, "the same, alone", impl.Infer(cs, "A", "good", "()V"), impl.Inferred{})
	same(t, "the same, alone", impl.Infer(cs, "A", "short", "()V"), impl.Inferred{Code: impl.VerStack})
	for _, class := range []string{"", "Nope", "@A", "a", "AA", "[@A", "Q"} {
		uninferred(t, "no class", cs, class, "good", "()V")
	}
	for _, member := range [][2]string{{"", "()V"}, {"good", ""}, {"good", "()I"}, {"good", "(I)V"}, {"Good", "()V"}, {"goo", "()V"}, {"new", "()V"}, {"start", "()V"}, {"hash", "()I"}} {
		uninferred(t, "no method", cs, "A", member[0], member[1])
	}
	uninferred(t, "inherited", cs, "B", "good", "()V")
	uninferred(t, "inherited", cs, "Thread", "hash", "()I")
	uninferred(t, "inherited", nil, "String", "new", "()V")
}

func TestInferWithoutCode(t *testing.T) {
	cs := told("class A Object abstract / method a ()V abstract / method n (I)@A native / method s (J)V static native / method p ()V private native", ifaceI+" / method i ()V abstract")
	for _, m := range []string{"A a ()V", "A n (I)@A", "A s (J)V", "A p ()V", "I i ()V", "Object wait ()V", "String at (I)I", "Thread begin ()V", "System print (D)V"} {
		w := words(m)
		same(t, m, impl.Infer(cs, w[0], w[1], w[2]), impl.Inferred{})
	}
}

// All methods of Boot are right; none of them jumps.
func TestBootIsInferred(t *testing.T) {
	for _, cs := range [][]impl.Class{nil, {}, checkSpace("class B A")} {
		for _, c := range impl.Boot() {
			for _, m := range c.Methods {
				same(t, c.Name+" "+m.Name+m.Sig, impl.Infer(cs, c.Name, m.Name, m.Sig), impl.Inferred{})
			}
		}
	}
}

// What a method tells as frames is not looked at: neither wrong ones, nor those that lack, nor more than are needed.
func TestToldFramesCountForNothing(t *testing.T) {
	const code = withInt + "load I 0 / if eq 4 / inc 0 -1 / goto 0 / load I 0 / return I"
	for _, told := range []string{"", " / frame 0 I - |", " / frame 0 J J | J", " / frame 0 - - | / frame 4 - - |", " / frame 1 I - | I / frame 2 I - |", " / frame 4 !! !3 | @Nope 0", " / frame 3 - - | / frame 5 D D | D D"} {
		infers(t, code+told, "0 I - |", "4 I - |")
	}
	misses(t, withInt+"return / frame 0 I - |", impl.VerShape, 0)
	misses(t, withInt+"load J 0 / return J / frame 0 J - |", impl.VerShape, 0)
	// Where nothing comes to, there need be none.
	infers(t, withInt+"load I 0 / return I / pop / pop / add D")
	infers(t, withInt+"load I 0 / return I / load J 0 / if eq 0 / frame 2 J - |")
}

// A handler's Type is a Throwable, if one of its instructions has a state.
func TestHandlersOfNoThrowable(t *testing.T) {
	const m = "m ()V static stack 2 locals 0 / null / pop / return / pop / return / "
	for _, class := range words("Throwable Error NullError StopError X") {
		for from := range 4 {
			line := fmt.Sprintf("handler %d 4 3 %s", from, class)
			if from == 3 {
				infers(t, m+line)
				continue
			}
			infers(t, m+line, "3 | @"+class)
		}
	}
	for _, class := range words("A B C E I J Object String Thread Nope Throwables Erro") {
		for from := range int64(3) {
			for to := from + 1; to < 6; to++ {
				misses(t, fmt.Sprintf("%shandler %d %d 3 %s", m, from, to, class), impl.VerFrame, from)
			}
		}
		infers(t, m+"handler 3 5 3 "+class)
		infers(t, m+"handler 4 5 0 "+class)
		misses(t, m+"handler 0 3 3 * / handler 1 2 3 "+class, impl.VerFrame, 1)
		misses(t, m+"handler 2 3 3 * / handler 2 3 3 Error / handler 1 3 3 "+class, impl.VerFrame, 1)
	}
}

// Without room on the stack nothing can be caught.
func TestHandlersWithoutRoom(t *testing.T) {
	const m = "m (I)V static stack 0 locals 1 / inc 0 1 / inc 0 1 / return / return / "
	for from := range int64(3) {
		misses(t, fmt.Sprintf("%shandler %d 4 3 *", m, from), impl.VerStack, from)
		misses(t, fmt.Sprintf("%shandler %d 4 3 Error", m, from), impl.VerStack, from)
		misses(t, fmt.Sprintf("%shandler %d 4 3 B", m, from), impl.VerFrame, from)
		misses(t, fmt.Sprintf("%shandler %d 4 3 * / handler %d 4 3 B", m, from, from), impl.VerStack, from)
		misses(t, fmt.Sprintf("%shandler %d 4 3 B / handler %d 4 3 *", m, from, from), impl.VerFrame, from)
	}
	infers(t, m+"handler 3 4 3 *")
	infers(t, m+"handler 3 4 0 B")
	infers(t, strings.Replace(m, "stack 0", "stack 1", 1)+"handler 0 3 3 *", "3 I | @Throwable")
}

// Each instruction is at fault, and each one's fault is told, as by the checker.
func TestInferredInstructions(t *testing.T) {
	misses(t, "m ()V static stack 1 locals 0 / pop / return", impl.VerStack, 0)
	misses(t, "m ()V static stack 1 locals 0 / null / null / return", impl.VerStack, 1)
	misses(t, "m ()V static stack 0 locals 0 / null / return", impl.VerStack, 0)
	misses(t, "m ()V static stack 1 locals 0 / null / dup / return", impl.VerStack, 1)
	misses(t, "m ()V static stack 1 locals 0 / null / if eq 0 / return", impl.VerShape, 1)
	misses(t, "m ()I static stack 1 locals 0 / null / return I", impl.VerShape, 1)
	misses(t, "m ()I static stack 1 locals 0 / return I", impl.VerStack, 0)
	misses(t, "m ()I static stack 1 locals 0 / return", impl.VerShape, 0)
	misses(t, "new ()V stack 1 locals 1 / return", impl.VerShape, 0)
	misses(t, "new ()V stack 1 locals 1 / null / store R 0 / return", impl.VerShape, 1)
	misses(t, "m ()V static stack 1 locals 1 / new A / throw", impl.VerShape, 1)
	misses(t, "m ()V static stack 1 locals 1 / load R 0 / pop / return", impl.VerShape, 0)
}

// What falls off the end is told only where a state comes to.
func TestInferredFalls(t *testing.T) {
	for _, last := range []string{"const I 1", "null", "null / pop", "inc 0 1", "call static A s ()V", "const I 1 / if eq 0", "null / ifnull eq 0", "null / enter", "new A", "load I 0 / store I 0", "const I 1 / newarray I / length"} {
		n := int64(strings.Count(last, " / "))
		misses(t, withInt+last, impl.VerFall, n)
		misses(t, withInt+"inc 0 1 / inc 0 1 / "+last, impl.VerFall, n+2)
		infers(t, withInt+"load I 0 / return I / "+last)
		infers(t, withInt+"goto 0 / "+last, "0 I - |")
	}
	for _, last := range []string{"goto 0", "null / throw", "const I 1 / switch 0 0 0", "load I 0 / return I"} {
		frames := []string{"0 I - |"}
		if strings.HasSuffix(last, "return I") || strings.HasSuffix(last, "throw") {
			frames = nil
		}
		infers(t, withInt+last, frames...)
	}
	misses(t, "m ()V static stack 40 locals 0 / "+strings.TrimSuffix(strings.Repeat("null / pop / ", 200), " / "), impl.VerFall, 399)
	// The state comes to targets ahead of that: one with another height is told.
	misses(t, withInt+"const I 1 / const I 1 / if eq 1", impl.VerFall, 2)
	misses(t, withInt+"const I 1 / const I 1 / if eq 0", impl.VerMerge, 2)
	misses(t, withInt+"const I 1 / if eq 1", impl.VerMerge, 1)
}

// States with stacks of unlike heights don't come together; the one that comes is told.
func TestUnlikeHeights(t *testing.T) {
	for _, jump := range jumpsTo("0") {
		n := int64(strings.Count(jump, " / ")) + 1
		code := "m ()V static stack 4 locals 0 / null / " + jump + " / return"
		misses(t, code, impl.VerMerge, n)
		infers(t, strings.Replace(code, " / null / ", " / null / pop / ", 1), "0 |")
	}
	const m = "m (I)V static stack 3 locals 1 / "
	misses(t, m+"load I 0 / if eq 3 / null / return", impl.VerMerge, 2)
	infers(t, m+"load I 0 / if eq 4 / null / pop / return", "4 I |")
	misses(t, m+"load I 0 / if eq 5 / null / load I 0 / if eq 5 / return", impl.VerMerge, 4)
	misses(t, m+"null / load I 0 / if eq 5 / pop / goto 5 / return", impl.VerMerge, 4)
	infers(t, m+"null / load I 0 / if eq 6 / pop / null / goto 6 / return", "6 I | 0")
	misses(t, m+"load I 0 / switch 0 3 2 / null / return", impl.VerMerge, 2)
	misses(t, m+"null / null / null / goto 1", impl.VerMerge, 3)
}

// What is caught comes alone on the stack: where another height is, or comes, that is told.
func TestUnlikeHeightsAtHandlers(t *testing.T) {
	const m = "m ()V static stack 3 locals 0 / "
	misses(t, m+"goto 0 / handler 0 1 0 *", impl.VerMerge, 0)
	misses(t, m+"null / pop / return / handler 0 1 2 *", impl.VerMerge, 1)
	misses(t, m+"null / pop / return / handler 1 2 2 *", impl.VerMerge, 1)
	misses(t, m+"null / pop / return / handler 2 3 0 *", impl.VerMerge, 2)
	misses(t, m+"null / pop / return / handler 1 3 0 *", impl.VerMerge, 1)
	misses(t, m+"null / null / return / handler 2 3 2 *", impl.VerMerge, 2)
	infers(t, m+"null / null / return / handler 1 2 1 *", "1 | @Throwable")
	infers(t, m+"null / null / pop / return / handler 0 4 3 *", "3 | @Throwable")
	misses(t, m+"null / null / pop / return / handler 0 4 2 *", impl.VerMerge, 1)
	misses(t, m+"null / null / pop / return / handler 0 4 1 Error / handler 3 4 2 *", impl.VerMerge, 3)
	infers(t, m+"null / throw / handler 1 2 1 *", "1 | @Throwable")
}
