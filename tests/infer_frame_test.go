package tests

import (
	"fmt"
	"strings"
	"testing"

	"loop.example/g00032/impl"
)

// Frames are told of targets, ascending and each once; of nothing else.
func TestFramesOfTargets(t *testing.T) {
	const m = "m (I)V static stack 2 locals 1 / "
	infers(t, m+"return")
	infers(t, m+"inc 0 1 / inc 0 1 / null / pop / return")
	infers(t, m+"goto 0", "0 I |")
	infers(t, m+"goto 1 / return", "1 I |")
	infers(t, m+"goto 2 / return / goto 1", "1 I |", "2 I |")
	for _, jump := range jumpsTo("5") {
		n := strings.Count(jump, " / ")
		want := []string{"5 I |"}
		if strings.Contains(jump, "switch") {
			want = []string{"0 I |", "5 I |"}
		}
		infers(t, m+jump+strings.Repeat(" / return", 6-n), want...)
	}
	infers(t, m+"load I 0 / switch 0 5 3 4 3 5 2 / return / return / return / return / return", "2 I |", "3 I |", "4 I |", "5 I |")
	infers(t, m+"load I 0 / switch 0 6 6 6 6 / return / return / return / return / return", "6 I |")
	infers(t, m+"load I 0 / if eq 4 / load I 0 / if eq 4 / load I 0 / if eq 4 / load I 0 / if eq 0 / return", "0 I |", "4 I |")
	// A jump to the instruction behind it, and both ways to one.
	infers(t, m+"load I 0 / if eq 2 / return", "2 I |")
	infers(t, m+"load I 0 / load I 0 / if eq 1 / return", "1 I | I")
}

// The target of an instruction that has no state has no frame, though it has a state itself.
func TestFramesThatNobodyAsksFor(t *testing.T) {
	const m = "m (I)V static stack 2 locals 1 / "
	infers(t, m+"inc 0 1 / return / goto 0")
	infers(t, m+"inc 0 1 / return / goto 1")
	infers(t, m+"inc 0 1 / return / goto 2")
	infers(t, m+"inc 0 1 / return / load I 0 / switch 0 0 1 0 / return")
	infers(t, m+"goto 2 / goto 0 / return", "2 I |")
	infers(t, m+"goto 3 / goto 2 / goto 1 / return", "3 I |")
	infers(t, m+"goto 2 / goto 2 / return", "2 I |")
	infers(t, m+"load I 0 / if eq 4 / return / goto 0 / return", "4 I |")
}

func TestFramesOfHandlers(t *testing.T) {
	const m = "m (I)V static stack 2 locals 1 / null / pop / return / pop / return / null / goto 3 / "
	// Some instruction that it covers has a state; 5 and 6 have none.
	for from := range 7 {
		for to := from + 1; to <= 7; to++ {
			want := []string{"3 I | @Throwable"}
			if from >= 3 {
				want = nil
			}
			infers(t, fmt.Sprintf("%shandler %d %d 3 *", m, from, to), want...)
		}
	}
	infers(t, m+"handler 5 7 0 * / handler 5 6 1 Error / handler 6 7 2 A / handler 6 7 5 *")
	infers(t, m+"handler 5 7 0 * / handler 2 7 3 Error / handler 6 7 2 A", "3 I | @Error")
	// What is caught may be caught where something else jumps to, or is caught: one frame.
	infers(t, m+"handler 0 1 3 * / handler 1 2 3 * / handler 2 3 3 *", "3 I | @Throwable")
	infers(t, "m (I)V static stack 2 locals 1 / null / goto 2 / pop / return / handler 0 1 2 *", "2 I | @Throwable")
	infers(t, "m (I)V static stack 2 locals 1 / null / pop / null / pop / return / handler 2 3 1 * / handler 4 5 3 X", "1 I | @Throwable", "3 I | @X")
	infers(t, "m (I)V static stack 2 locals 1 / null / pop / null / pop / return / handler 2 3 3 * / handler 4 5 1 X", "1 I | @X", "3 I | @Throwable")
	// One that is caught within another.
	infers(t, "m (I)V static stack 2 locals 1 / return / pop / return / pop / return / handler 1 2 3 X / handler 0 1 1 Error", "1 I | @Error", "3 I | @X")
	infers(t, "m (I)V static stack 2 locals 1 / return / pop / return / pop / return / handler 1 2 3 X / handler 2 3 1 Error")
}

// A frame tells as many locals as the method has, and its stack from the bottom.
func TestFramesAreWhole(t *testing.T) {
	infers(t, "m ()V static stack 0 locals 0 / goto 0", "0 |")
	infers(t, "m ()V stack 0 locals 1 / goto 0", "0 @B |")
	infers(t, "m ()V static stack 0 locals 40 / goto 0", "0"+strings.Repeat(" -", 40)+" |")
	infers(t, "m (I,J,D,@A,[I,[[@Nope,@Nope)V stack 0 locals 10 / goto 0", "0 @B I J D @A [I [[@Nope @Nope - - |")
	infers(t, "new (I)V stack 0 locals 3 / goto 0", "0 !! I - |")
	infers(t, "start ()V static stack 0 locals 1 / goto 0", "0 - |")
	infers(t, `m ()V static stack 7 locals 0 / const I 0 / const J 0 / const D 0p0 / text "" / null / new A / const I 1 / newarray @A / goto 8`, "8 | I J D @String 0 !5 [@A")
	fill := strings.Repeat("null / ", 40)
	infers(t, "m ()V static stack 40 locals 0 / "+fill+"goto 40", "40 |"+strings.Repeat(" 0", 40))
	same(t, "the frame is that of StartFrame", impl.Infer(checkSpace("class B A / method m (@B,J)V stack 0 locals 5 / goto 0"), "B", "m", "(@B,J)V").Frames,
		[]impl.Frame{impl.StartFrame(checkSpace("class B A / method m (@B,J)V stack 0 locals 5 / return"), "B", "m", "(@B,J)V")})
}

// Every instruction is a target: as many frames as there may be.
func TestTheMostFrames(t *testing.T) {
	code := []string{}
	want := []string{"0 I |"}
	for k := range impl.MaxCode - 1 {
		code = append(code, fmt.Sprintf("goto %d", k+1))
		want = append(want, fmt.Sprintf("%d I |", k+1))
	}
	infers(t, "m (I)V static stack 0 locals 1 / "+strings.Join(append(code, "goto 0"), " / "), want...)
}

// Methods as they are written.
func TestWholeMethodsAreInferred(t *testing.T) {
	infers(t, "sum (I)I static stack 2 locals 2 / const I 0 / store I 1 / load I 0 / if le 9 / load I 1 / load I 0 / add I / store I 1 / goto 2 / load I 1 / return I", "2 I I |", "9 I I |")
	infers(t, "new ()V stack 1 locals 1 / load R 0 / call special A new ()V / return")
	infers(t, "m ()@A static stack 2 locals 0 / new A / dup / call special A new ()V / return R")
	misses(t, "m ()@A static stack 2 locals 0 / new A / return R", impl.VerShape, 1)
	infers(t, "safe (@B)I sync stack 2 locals 3 / load R 1 / enter / load R 1 / call virtual B v ()I / load R 1 / exit / return I / store R 2 / load R 1 / exit / load R 2 / throw / handler 2 6 7 *", "7 @B @B - | @Throwable")
	infers(t, "safe (@B)I sync stack 2 locals 3 / load R 1 / enter / load R 1 / call virtual B v ()I / load R 1 / exit / return I / store R 2 / load R 1 / exit / load R 2 / throw / handler 2 6 7 * / handler 7 10 7 *", "7 @B @B - | @Throwable")
	// The longest array among some, and its greatest number: two loops, a handler, locals that are of use here and there.
	infers(t, "most ([[I)I static stack 3 locals 5 / const I 0 / store I 1 / const I 0 / store I 2 / load I 1 / load R 0 / length / ifint ge 24 / load R 0 / load I 1 / aload R / store R 3 / load R 3 / length / load I 2 / ifint le 22 / load R 3 / length / store I 2 / goto 22 / pop / goto 22 / inc 1 1 / goto 4 / load I 2 / return I / handler 12 19 20 NullError",
		"4 [[I I I - - |", "20 [[I I I [I - | @NullError", "22 [[I I I [I - |", "24 [[I I I - - |")
}
