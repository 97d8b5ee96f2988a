package tests

import (
	"fmt"
	"strings"
	"testing"

	"loop.example/g00032/impl"
)

// judged holds the verdict of a method of B, told by its line and code, against a code and a place.
func judged(t *testing.T, method string, code, at int64) {
	t.Helper()
	cs := checkSpace("class B A / method " + method)
	m := cs[0].Methods[0]
	if got, want := impl.Check(cs, "B", m.Name, m.Sig), (impl.Verdict{Code: code, At: at}); got != want {
		t.Errorf("%s: %v, not %v", method, got, want)
	}
	want := []impl.Failure{}
	if code != impl.VerOk {
		want = append(want, impl.Failure{Class: "B", Name: m.Name, Sig: m.Sig, Code: code, At: at})
	}
	same(t, "all of "+method, impl.CheckAll(cs), want)
}

func right(t *testing.T, method string) {
	t.Helper()
	judged(t, method, impl.VerOk, 0)
}

func wrongFrame(t *testing.T, at int64, method string) {
	t.Helper()
	judged(t, method, impl.VerFrame, at)
}

const withRef, withInt = "m (@B)V static stack 2 locals 2 / ", "m (I)I static stack 2 locals 2 / "

// A state fits the frame where it comes to.
func TestFramesThatAreMet(t *testing.T) {
	for _, frame := range []string{"@B - |", "@A - |", "@I - |", "@J - |", "@Object - |", "- - |"} {
		right(t, withRef+"goto 1 / return / frame 1 "+frame)
		right(t, withRef+"null / pop / return / frame 2 "+frame)
		right(t, withRef+"return / frame 0 "+frame)
	}
	for _, frame := range []string{"@C - |", "@E - |", "@Nope - |", "0 - |", "I - |", "!! - |", "!0 - |", "[@B - |", "@B 0 |", "@B I |", "@B @Object |", "@B !! |", "@B - | I", "@B - | -", "- - | - -"} {
		wrongFrame(t, 0, withRef+"goto 1 / return / frame 1 "+frame)
		wrongFrame(t, 2, withRef+"null / pop / return / frame 2 "+frame)
		wrongFrame(t, 0, withRef+"return / frame 0 "+frame)
	}
	for _, frame := range []string{"| 0 I", "| @A I", "| [I -", "| - -", "| @Nope I"} {
		right(t, "m ()V static stack 2 locals 0 / null / const I 1 / goto 3 / return / frame 3 "+frame)
		right(t, "m ()V static stack 2 locals 0 / null / const I 1 / return / frame 2 "+frame)
	}
	for _, frame := range []string{"| I 0", "| 0", "|", "| I", "| I I", "| 0 J", "| !0 I", "| 0 0"} {
		wrongFrame(t, 2, "m ()V static stack 2 locals 0 / null / const I 1 / goto 3 / return / frame 3 "+frame)
		wrongFrame(t, 2, "m ()V static stack 2 locals 0 / null / const I 1 / return / frame 2 "+frame)
	}
}

// The frame is the state then: what it does not tell is not known any more, what it tells holds.
func TestTheFrameIsTheState(t *testing.T) {
	right(t, withInt+"load I 0 / return I / frame 0 I - |")
	judged(t, withInt+"load I 0 / return I / frame 0 - - |", impl.VerShape, 0)
	judged(t, withRef+"load R 0 / call virtual B v ()V / return / frame 0 @A - |", impl.VerShape, 1)
	right(t, withRef+"load R 0 / call virtual A v ()V / return / frame 0 @A - |")
	judged(t, withRef+"load R 0 / call virtual B v ()V / return / frame 1 - - | @Object", impl.VerShape, 1)
	right(t, withRef+"load R 0 / call virtual I v ()V / return / frame 1 - - | @Object")
	judged(t, withRef+"load R 0 / pop / load R 0 / pop / return / frame 1 - - | @Object", impl.VerShape, 2)
	// In what nothing comes to, the frame may tell anything.
	right(t, withRef+"return / load J 0 / store J 1 / load J 1 / pop / return / frame 1 J D |")
	right(t, withRef+"goto 0 / call special A new ()V / return / new A / pop / goto 3 / frame 0 - - | / frame 1 - - | !3 / frame 3 - - |")
}

// Where no state comes from above, there has to be a frame.
func TestFramesThatLack(t *testing.T) {
	for _, end := range []string{"return", "goto 0", "null / throw", "const I 0 / switch 0 0 0"} {
		n := int64(strings.Count(end, " / ") + 1)
		wrongFrame(t, n, withRef+end+" / return / frame 0 @B - |")
		right(t, withRef+end+fmt.Sprintf(" / return / frame 0 @B - | / frame %d - - |", n))
		wrongFrame(t, n+1, withRef+end+fmt.Sprintf(" / return / pop / return / frame 0 @B - | / frame %d - - |", n))
		wrongFrame(t, n, withRef+end+fmt.Sprintf(" / return / return / frame 0 @B - | / frame %d - - |", n+1))
		wrongFrame(t, n, withRef+end+" / pop / return / frame 0 @B - |")
	}
	// Those that may go on need none.
	right(t, withRef+"const I 1 / if eq 2 / return / frame 2 - - |")
	right(t, withRef+"const I 1 / if eq 0 / return / frame 0 @B - |")
	right(t, withRef+"load R 0 / ifnull ne 3 / return / return / frame 3 - - |")
}

// jumpsTo gives all sorts of jumps to a target, each behind what it takes; of those with several targets the others are 0.
func jumpsTo(target string) []string {
	return []string{
		"goto " + target, "const I 1 / if lt " + target, "const I 1 / const I 2 / ifint ge " + target, "null / ifnull eq " + target, "null / null / ifsame ne " + target,
		"const I 1 / switch 0 " + target + " 0", "const I 1 / switch 0 0 " + target, "const I 1 / switch 7 0 0 " + target + " 0", "const I 1 / switch -7 0 0 0 0 " + target,
	}
}

func TestTargets(t *testing.T) {
	const m = "m (@B)V static stack 2 locals 1 / "
	for _, jump := range jumpsTo("5") {
		n := strings.Count(jump, " / ")
		code := m + jump + strings.Repeat(" / return", 6-n)
		frames := " / frame 0 @B |"
		for k := n + 1; k < 7; k++ {
			if k != 5 {
				frames += fmt.Sprintf(" / frame %d - |", k)
			}
		}
		at := int64(n)
		wrongFrame(t, at, code+sortedFrames(frames))
		for _, frame := range []string{"@B |", "@A |", "- |", "@I |", "@Object |"} {
			right(t, code+sortedFrames(frames+" / frame 5 "+frame))
		}
		for _, frame := range []string{"@C |", "0 |", "I |", "!! |", "@E |", "- | I", "@B | @B", "- | -", "- | I I"} {
			wrongFrame(t, at, code+sortedFrames(frames+" / frame 5 "+frame))
		}
	}
	// Back to the start, or to itself.
	for _, jump := range jumpsTo("0") {
		n := strings.Count(jump, " / ")
		code := m + jump + " / return"
		wrongFrame(t, int64(n), code+fmt.Sprintf(" / frame %d - |", n+1))
		right(t, code+fmt.Sprintf(" / frame 0 @A | / frame %d - |", n+1))
		wrongFrame(t, 0, code+fmt.Sprintf(" / frame 0 @C | / frame %d - |", n+1))
	}
	wrongFrame(t, 0, m+"goto 0")
	right(t, m+"goto 0 / frame 0 @B |")
	right(t, m+"goto 0 / frame 0 - |")
}

// sortedFrames lays frames in the order of their numbers.
func sortedFrames(text string) string {
	lines := strings.Split(strings.TrimPrefix(text, " / "), " / ")
	for i := range lines {
		for j := range i {
			if words(lines[i])[1] < words(lines[j])[1] {
				lines[i], lines[j] = lines[j], lines[i]
			}
		}
	}
	return " / " + strings.Join(lines, " / ")
}

// It is the state behind the instruction that comes to a target: what was taken is gone, what was changed is changed.
func TestTheStateAtATarget(t *testing.T) {
	const m = "m (I)V static stack 3 locals 2 / "
	right(t, m+"const J 1 / const I 1 / if eq 5 / pop / return / return / frame 5 I - | J")
	right(t, m+"const J 1 / const I 1 / if eq 3 / return / frame 3 I - | J")
	wrongFrame(t, 2, m+"const J 1 / const I 1 / if eq 3 / return / frame 3 I - | J I")
	wrongFrame(t, 2, m+"const J 1 / const I 1 / if eq 3 / return / frame 3 I - |")
	right(t, m+"null / store R 0 / goto 3 / return / frame 3 @A - |")
	wrongFrame(t, 2, m+"null / store R 0 / goto 3 / return / frame 3 I - |")
	// A loop whose local is of another kind the second time.
	wrongFrame(t, 3, m+"load I 0 / conv I J / store J 0 / goto 0 / frame 0 I - |")
	right(t, m+"load I 0 / conv I J / store J 1 / goto 0 / frame 0 I - |")
	// Where an if goes on there is the very state that comes to its target.
	judged(t, m+"const J 1 / const I 1 / if eq 3 / pop / pop / return / frame 3 I - | J", impl.VerStack, 4)
}

func TestHandlers(t *testing.T) {
	const plain = "m (@B)V static stack 2 locals 1 / load R 0 / pop / return / pop / return / "
	// No frame at its At.
	wrongFrame(t, 0, plain+"handler 0 1 3 *")
	wrongFrame(t, 1, plain+"handler 1 2 3 * / frame 4 - | @Throwable")
	wrongFrame(t, 0, plain+"handler 0 5 3 Error / frame 4 - |")
	for _, frame := range []string{"@B | @Throwable", "- | @Throwable", "@A | @Object", "@I | @I", "- | -", "@Object | @J"} {
		right(t, plain+"handler 0 1 3 * / frame 3 "+frame)
		right(t, plain+"handler 0 3 3 Throwable / frame 3 "+frame)
		right(t, plain+"handler 0 3 3 Error / frame 3 "+frame)
		right(t, plain+"handler 0 3 3 X / frame 3 "+frame)
		right(t, plain+"handler 0 3 3 StopError / frame 3 "+frame)
	}
	// The locals do not fit; the stack has none, two, or one that the type does not fit.
	for _, frame := range []string{"@C | @Throwable", "I | @Throwable", "0 | @Throwable", "!! | @Throwable", "- |", "@B |", "- | @Throwable @Throwable", "- | - -", "- | @Error", "- | @X", "- | @A", "- | 0", "- | I", "- | !!", "- | !3", "- | [I", "- | @Nope", "- | @String"} {
		for k := range int64(3) {
			wrongFrame(t, k, plain+fmt.Sprintf("handler %d 3 3 * / frame 3 %s", k, frame))
			wrongFrame(t, k, plain+fmt.Sprintf("handler %d %d 3 Throwable / frame 3 %s", k, k+1, frame))
		}
	}
	for _, row := range []string{"Error @Error", "X @X", "X @Error", "NullError @Error", "NullError @NullError", "NullError @Throwable", "Error @Throwable"} {
		w := words(row)
		right(t, plain+"handler 0 3 3 "+w[0]+" / frame 3 - | "+w[1])
	}
	for _, row := range []string{"Error @X", "Error @NullError", "X @NullError", "NullError @X", "NullError @ArithError", "Throwable @Error"} {
		w := words(row)
		wrongFrame(t, 0, plain+"handler 0 3 3 "+w[0]+" / frame 3 - | "+w[1])
	}
	// What can't be thrown can't be caught, though it fits.
	for _, class := range words("A B C E I J Object String Thread Nope Throwables") {
		for _, shape := range []string{"@" + class, "@Object", "-", "@I", "@Throwable"} {
			wrongFrame(t, 1, plain+"handler 1 3 3 "+class+" / frame 3 - | "+shape)
		}
	}
}

// A handler looks after the instructions from From to ahead of To.
func TestWhereHandlersCount(t *testing.T) {
	code := "m (@B)V static stack 2 locals 1 / load R 0 / pop / load R 0 / pop / return / pop / return / frame 5 - | @Throwable"
	for from := range int64(6) {
		for to := from + 1; to <= 7; to++ {
			text := strings.Replace(code, " / frame", fmt.Sprintf(" / handler %d %d 3 * / frame", from, to), 1)
			wrongFrame(t, from, text)
			right(t, strings.Replace(text, " 3 * ", " 5 * ", 1))
		}
	}
	// Its own instructions may be among them.
	right(t, "m ()V static stack 1 locals 0 / goto 0 / pop / goto 0 / handler 0 3 1 * / frame 0 | / frame 1 | @Throwable")
	right(t, "m ()V static stack 1 locals 0 / goto 0 / throw / handler 1 2 1 Error / frame 0 | / frame 1 | @Throwable")
	wrongFrame(t, 1, "m ()V static stack 1 locals 0 / goto 0 / throw / handler 1 2 1 Object / frame 0 | / frame 1 | @Throwable")
}

// The locals are those ahead of the instruction, and behind the frame where it stands.
func TestLocalsAtHandlers(t *testing.T) {
	const m = "m (I)V static stack 2 locals 1 / null / store R 0 / return / pop / return / "
	right(t, m+"handler 0 2 3 * / frame 3 I | @Throwable")
	wrongFrame(t, 2, m+"handler 0 3 3 * / frame 3 I | @Throwable")
	wrongFrame(t, 0, m+"handler 0 3 3 * / frame 3 0 | @Throwable")
	right(t, m+"handler 2 3 3 * / frame 3 0 | @Throwable")
	right(t, m+"handler 2 3 3 * / frame 3 @A | @Throwable")
	right(t, m+"handler 0 3 3 * / frame 3 - | @Throwable")
	wrongFrame(t, 1, m+"handler 1 2 3 * / frame 1 - | 0 / frame 3 I | @Throwable")
	right(t, m+"handler 1 2 3 * / frame 1 I | 0 / frame 3 I | @Throwable")
	// What is on the stack ahead does not matter, nor what the instruction would lay.
	right(t, "m ()V static stack 2 locals 0 / null / null / pop / pop / return / pop / return / handler 0 5 5 * / frame 5 | @Throwable")
	// A new object, not yet whole, is not the same at a handler.
	const made = "m ()V static stack 2 locals 1 / new A / dup / store R 0 / call special A new ()V / return / pop / return / "
	right(t, made+"handler 3 4 5 * / frame 5 !0 | @Throwable")
	right(t, made+"handler 4 5 5 * / frame 5 @A | @Throwable")
	wrongFrame(t, 4, made+"handler 3 5 5 * / frame 5 !0 | @Throwable")
	wrongFrame(t, 3, made+"handler 3 5 5 * / frame 5 @A | @Throwable")
	right(t, made+"handler 3 5 5 * / frame 5 - | @Throwable")
}

func TestSeveralHandlers(t *testing.T) {
	const m = "m ()V static stack 2 locals 0 / null / pop / return / pop / return / pop / return / "
	right(t, m+"handler 0 3 3 X / handler 0 3 5 * / handler 1 2 3 NullError / frame 3 | @Error / frame 5 | @Throwable")
	wrongFrame(t, 1, m+"handler 0 3 3 X / handler 1 3 5 Error / handler 2 3 1 * / frame 3 | @Error / frame 5 | @X")
	wrongFrame(t, 2, m+"handler 0 3 3 X / handler 0 3 5 X / handler 2 3 1 * / frame 3 | @Error / frame 5 | @X")
	wrongFrame(t, 0, m+"handler 0 3 5 * / handler 0 3 3 X / frame 3 | @Error / frame 5 | @X")
	wrongFrame(t, 0, m+"handler 0 3 3 X / handler 0 3 5 * / frame 3 | @Error / frame 5 | @X")
}

// The last instruction does not go on.
func TestFalling(t *testing.T) {
	for _, last := range []string{"const I 1", "null", "null / pop", "inc 0 1", "call static A s ()V", "const I 1 / if eq 0", "null / ifnull eq 0", "null / enter", "new A", "load I 0 / store I 0", "const I 1 / newarray I / length"} {
		judged(t, withInt+last+" / frame 0 I - |", impl.VerFall, int64(strings.Count(last, " / ")))
		judged(t, withInt+"inc 0 1 / inc 0 1 / "+last+" / frame 0 I - |", impl.VerFall, int64(strings.Count(last, " / "))+2)
	}
	for _, last := range []string{"load I 0 / return I", "goto 0", "null / throw", "const I 1 / switch 0 0 0"} {
		right(t, withInt+last+" / frame 0 I - |")
	}
	// Whatever else is wrong there comes first.
	judged(t, withInt+"pop", impl.VerStack, 0)
	judged(t, withInt+"load J 0", impl.VerShape, 0)
	wrongFrame(t, 1, withInt+"const I 1 / if eq 0")
	wrongFrame(t, 0, withInt+"const I 1 / frame 0 J - |")
	wrongFrame(t, 0, withInt+"const I 1 / handler 0 1 0 *")
	judged(t, "m ()V static stack 40 locals 0 / "+strings.TrimSuffix(strings.Repeat("null / pop / ", 200), " / "), impl.VerFall, 399)
}

// Of several faults that of the first instruction is told, and of one instruction's first that of its frame, then of its handlers, then its own, then of its targets.
func TestWhichFaultIsTold(t *testing.T) {
	judged(t, withInt+"pop / load J 0 / return J", impl.VerStack, 0)
	judged(t, withInt+"load J 0 / pop / pop / return J", impl.VerShape, 0)
	judged(t, withInt+"const I 1 / pop / pop / load J 0 / goto 9 / pop / pop / pop / pop / pop", impl.VerStack, 2)
	wrongFrame(t, 0, withInt+"pop / return I / frame 0 D - |")
	judged(t, withInt+"pop / return I / frame 0 I - |", impl.VerStack, 0)
	judged(t, withInt+"load J 0 / return I / frame 0 I - |", impl.VerShape, 0)
	wrongFrame(t, 0, withInt+"pop / return I / handler 0 1 0 *")
	wrongFrame(t, 0, withInt+"load J 0 / return I / handler 0 1 1 *")
	judged(t, withInt+"pop / return I / handler 1 2 1 *", impl.VerStack, 0)
	judged(t, withInt+"if eq 1 / return I", impl.VerStack, 0)
	judged(t, withInt+"null / if eq 0 / return I", impl.VerShape, 1)
	judged(t, withInt+"null / switch 0 0 0 / return I", impl.VerShape, 1)
	wrongFrame(t, 1, withInt+"const I 1 / if eq 3 / pop / pop")
	wrongFrame(t, 1, withInt+"const I 1 / if eq 3 / pop / load I 0 / return I / frame 3 J - |")
	// What a later frame says wrongly is told where it is met, not where it stands.
	wrongFrame(t, 1, withInt+"const I 1 / if eq 3 / pop / load I 0 / return I / frame 2 I - | / frame 3 J - |")
	judged(t, withInt+"inc 0 1 / inc 0 1 / load D 0 / return I / pop / frame 4 - - |", impl.VerShape, 2)
}

// Methods as they are written.
func TestWholeMethods(t *testing.T) {
	right(t, "sum (I)I static stack 2 locals 2 / const I 0 / store I 1 / load I 0 / if le 9 / load I 1 / load I 0 / add I / store I 1 / goto 2 / load I 1 / return I / frame 2 I I | / frame 9 I I |")
	right(t, "new ()V stack 1 locals 1 / load R 0 / call special A new ()V / return")
	right(t, "new (I)V stack 2 locals 2 / load R 0 / load I 1 / if eq 5 / call special A new ()V / return / call special B new ()V / return / frame 5 !! I | !!")
	judged(t, "new ()V stack 1 locals 1 / return", impl.VerShape, 0)
	judged(t, "new ()V stack 1 locals 1 / load R 0 / call special Object new ()V / return", impl.VerShape, 1)
	judged(t, "new ()V stack 1 locals 1 / load R 0 / get A f I / return", impl.VerShape, 1)
	judged(t, "new ()V stack 1 locals 1 / load R 0 / return", impl.VerShape, 1)
	judged(t, "new ()V stack 1 locals 1 / load R 0 / call special A new ()V / load R 0 / call special A new ()V / return", impl.VerShape, 3)
	right(t, "m ()@A static stack 2 locals 0 / new A / dup / call special A new ()V / return R")
	judged(t, "m ()@A static stack 2 locals 0 / new A / return R", impl.VerShape, 1)
	judged(t, "m ()@A static stack 1 locals 0 / new A / dup / call special A new ()V / return R", impl.VerStack, 1)
	// An object that is made again and again: the one of the last turn is lost.
	right(t, "m ()V static stack 2 locals 1 / new A / store R 0 / goto 0 / frame 0 - |")
	wrongFrame(t, 5, "m ()V static stack 2 locals 1 / goto 3 / new A / store R 0 / new A / store R 0 / goto 1 / frame 1 !1 | / frame 3 - |")
	right(t, "m ()V static stack 2 locals 1 / goto 1 / new A / store R 0 / goto 1 / frame 1 - |")
	right(t, "m ()V static stack 2 locals 1 / goto 5 / new A / store R 0 / goto 1 / return / return / frame 1 !1 | / frame 4 - | / frame 5 - |")
	judged(t, "m ()V static stack 2 locals 1 / goto 3 / new A / goto 1 / return / frame 1 - | !1 / frame 3 - |", impl.VerShape, 1)
	right(t, "safe (@B)I sync stack 2 locals 3 / load R 1 / enter / load R 1 / call virtual B v ()I / load R 1 / exit / return I / store R 2 / load R 1 / exit / load R 2 / throw / handler 2 6 7 * / frame 7 @B @B - | @Throwable")
}

// All methods of Boot are right, in every space that holds.
func TestBootIsRight(t *testing.T) {
	for _, cs := range [][]impl.Class{nil, {}, checkSpace("class B A")} {
		for _, c := range impl.Boot() {
			for _, m := range c.Methods {
				same(t, c.Name+" "+m.Name+m.Sig, impl.Check(cs, c.Name, m.Name, m.Sig), impl.Verdict{})
			}
		}
	}
}
