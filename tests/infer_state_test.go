package tests

import (
	"fmt"
	"strings"
	"testing"

	"loop.example/g00032/impl"
)

// A state that comes to an instruction that has one: what changes nothing stays so, what changes a local changes it.
func TestLocalsAreJoined(t *testing.T) {
	for _, row := range []string{
		"@A @B : @A", "@B @A : @A", "@B @E : @Object", "@X @NullError : @Error", "@A @I : @Object", "@I @A : @Object", "@I @I : @I", "@Object @A : @Object", "@Nope @A : @Object", "@Nope @Nope : @Nope",
		"[@C [@B : [@B", "[@B [@C : [@B", "[@B [@E : [@Object", "[I [J : @Object", "[I [I : [I", "[@A [I : @Object", "[I @A : @Object", "[[@B [[@A : [[@A", "[[I [[J : [@Object",
		"I I : I", "J J : J", "D D : D", "I J : -", "J D : -", "D I : -", "I @A : -", "@A I : -", "[I I : -", "J @Object : -",
	} {
		from, to, _ := strings.Cut(row, " : ")
		w := words(from)
		k := kindLetter(w[1])
		infers(t, fmt.Sprintf("m (%s,%s)V static stack 1 locals 2 / load %s 1 / store %s 0 / goto 0", w[0], w[1], k, k), fmt.Sprintf("0 %s %s |", to, w[1]))
		infers(t, fmt.Sprintf("m (%s,%s)V stack 1 locals 5 / goto 1 / load %s 2 / store %s 1 / const I 0 / if eq 1 / return", w[0], w[1], k, k), fmt.Sprintf("1 @B %s %s - - |", to, w[1]))
	}
	// Null comes, and is there.
	infers(t, withRef+"null / store R 0 / goto 0", "0 @B - |")
	infers(t, withRef+"null / store R 1 / load R 1 / pop / load R 0 / store R 1 / goto 2", "2 @B @B |")
	infers(t, withRef+"null / store R 1 / goto 0", "0 @B - |")
	infers(t, withRef+"null / store R 1 / null / store R 1 / goto 2", "2 @B 0 |")
}

func kindLetter(typ string) string {
	if len(typ) == 1 {
		return typ
	}
	return "R"
}

func TestStacksAreJoined(t *testing.T) {
	for _, row := range []string{
		"@A @B : @A", "@B @A : @A", "@B @E : @Object", "@A @I : @Object", "@I @I : @I", "[@C [@B : [@B", "[I [J : @Object", "I I : I", "I J : -", "J @A : -", "@A D : -", "@Nope @B : @Object",
	} {
		from, to, _ := strings.Cut(row, " : ")
		w := words(from)
		one, two := "load "+kindLetter(w[0])+" 0", "load "+kindLetter(w[1])+" 1"
		sig := fmt.Sprintf("m (%s,%s)V static stack 4 locals 2 / ", w[0], w[1])
		locals := fmt.Sprintf("%s %s | ", w[0], w[1])
		infers(t, sig+one+" / pop / "+two+" / goto 1", "1 "+locals+to)
		// At the bottom, in the middle, at the top.
		infers(t, sig+one+" / null / new A / pop / pop / pop / "+two+" / null / new E / goto 3", "3 "+locals+to+" 0 -")
		infers(t, sig+"null / "+one+" / const D 1p0 / pop / pop / pop / null / "+two+" / const D 1p0 / goto 3", "3 "+locals+"0 "+to+" D")
		infers(t, sig+"const I 0 / const J 0 / "+one+" / pop / pop / pop / const I 0 / const J 0 / "+two+" / goto 3", "3 "+locals+"I J "+to)
	}
	infers(t, withRef+"null / pop / load R 0 / goto 1", "1 @B - | @B")
	infers(t, withRef+"load R 0 / pop / null / goto 1", "1 @B - | @B")
	// A place that is of no use any more can be moved, and taken away, but no more.
	misses(t, withRef+"null / store R 1 / const I 0 / goto 1", impl.VerShape, 1)
	infers(t, "m ()V static stack 2 locals 0 / null / dup / pop / pop / const I 0 / goto 1", "1 | -")
	infers(t, "m ()V static stack 3 locals 0 / null / const J 0 / swap / swap / under / pop / pop / pop / const D 0p0 / const I 0 / goto 2", "2 | - -")
}

// A change goes on to all that follows, as far as it changes something there.
func TestChangesGoOn(t *testing.T) {
	const m = "m (@C,@A)V static stack 1 locals 3 / "
	infers(t, m+"load R 0 / store R 2 / const I 0 / if eq 5 / return / load R 1 / store R 0 / goto 0", "0 @A @A - |", "5 @A @A @A |")
	infers(t, m+"load R 0 / store R 2 / const I 0 / if eq 5 / return / null / store R 0 / goto 0", "0 @C @A - |", "5 @C @A @C |")
	infers(t, m+"load R 0 / cast @E / store R 2 / const I 0 / if eq 6 / return / load R 1 / store R 0 / goto 0", "0 @A @A - |", "6 @A @A @E |")
	misses(t, m+"load R 0 / call virtual B v ()V / const I 0 / if eq 5 / return / load R 1 / store R 0 / goto 0", impl.VerShape, 1)
	infers(t, m+"load R 0 / call virtual A v ()V / const I 0 / if eq 5 / return / load R 1 / store R 0 / goto 0", "0 @A @A - |", "5 @A @A - |")
	// To a handler as well, and from there.
	infers(t, m+"load R 0 / pop / const I 0 / if eq 5 / return / load R 1 / store R 0 / goto 0 / pop / return / handler 1 2 8 *", "0 @A @A - |", "5 @A @A - |", "8 @A @A - | @Throwable")
	infers(t, "m (@X,@A)V static stack 1 locals 2 / load R 0 / throw / store R 0 / goto 0 / handler 1 2 2 *", "0 @Throwable @A |", "2 @Throwable @A | @Throwable")
	infers(t, "m (@C,@E)V static stack 1 locals 2 / const I 0 / if eq 4 / null / throw / return / store R 0 / goto 0 / handler 2 4 5 Error", "0 @Object @E |", "4 @Object @E |", "5 @Object @E | @Error")
}

// Loops that need several rounds: each one moves what the locals have by one place.
func TestRounds(t *testing.T) {
	infers(t, "m (@C,@B,@A)V static stack 1 locals 3 / load R 1 / store R 0 / load R 2 / store R 1 / goto 0", "0 @A @A @A |")
	infers(t, "m (@C,@B,@A,@E)V static stack 1 locals 4 / load R 1 / store R 0 / load R 2 / store R 1 / load R 3 / store R 2 / goto 0", "0 @Object @Object @Object @E |")
	misses(t, "m (@C,@B,@A,@E,I)V static stack 1 locals 5 / load R 1 / store R 0 / load R 2 / store R 1 / load R 3 / store R 2 / load I 4 / store I 3 / goto 0", impl.VerShape, 4)
	infers(t, "m (I,I,I,J)V static stack 2 locals 4 / load I 0 / pop / goto 0", "0 I I I J |")
	for n := 2; n <= impl.MaxParams; n++ {
		types := strings.Repeat("@C,", n-1)
		code, locals := "", strings.TrimSuffix(strings.Repeat("@A ", n), " ")
		for k := range n - 1 {
			code += fmt.Sprintf("load R %d / store R %d / ", k+1, k)
		}
		infers(t, fmt.Sprintf("m (%s@A)V static stack 1 locals %d / %sgoto 0", types, n, code), "0 "+locals+" |")
		// What is asked of the first local holds for so many rounds, and no longer.
		misses(t, fmt.Sprintf("m (%s@A)V static stack 1 locals %d / load R 0 / call virtual B v ()V / %sgoto 0", types, n, code), impl.VerShape, 1)
		infers(t, fmt.Sprintf("m (%s@A)V static stack 1 locals %d / load R 0 / call virtual A v ()V / %sgoto 0", types, n, code), "0 "+locals+" |")
	}
	// On the stack likewise.
	infers(t, "m (@C,@A)V static stack 2 locals 2 / load R 0 / load R 0 / swap / pop / load R 1 / goto 2", "2 @C @A | @A @A")
	infers(t, "m (@C,I)V static stack 2 locals 2 / load R 0 / load R 0 / swap / pop / load I 1 / goto 2", "2 @C I | - -")
	// Two loops, one within the other.
	infers(t, "m (@C,@B,@A)V static stack 1 locals 3 / load R 1 / store R 0 / const I 0 / if eq 0 / load R 2 / store R 1 / const I 0 / if eq 0 / return", "0 @A @A @A |")
	infers(t, "m (@C,@B,@E)V static stack 1 locals 4 / load R 0 / store R 3 / const I 0 / if eq 8 / load R 1 / store R 0 / load R 2 / store R 1 / const I 0 / if eq 0 / load R 3 / pop / return", "0 @Object @Object @E - |", "8 @Object @Object @E @Object |")
}

// Shapes that are not yet whole stay so where they are the same, and are of no use else.
func TestUnfinishedShapesAreJoined(t *testing.T) {
	const m = "m (I)V static stack 2 locals 2 / "
	infers(t, m+"new A / load I 0 / if eq 3 / call special A new ()V / return", "3 I - | !0")
	infers(t, m+"load I 0 / if eq 4 / new A / goto 5 / new A / pop / return", "4 I - |", "5 I - | -")
	misses(t, m+"load I 0 / if eq 4 / new A / goto 5 / new A / call special A new ()V / return", impl.VerShape, 5)
	infers(t, m+"new A / store R 1 / load I 0 / if eq 6 / load R 1 / call special A new ()V / return", "6 I - |")
	misses(t, m+"new A / store R 1 / load I 0 / if eq 6 / load R 1 / call special A new ()V / load R 1 / pop / return", impl.VerShape, 6)
	infers(t, m+"new A / store R 1 / load I 0 / if eq 6 / null / store R 1 / return", "6 I - |")
	// This: whole on one way alone, it is of no use.
	const n = "new (I)V stack 2 locals 2 / "
	misses(t, n+"load I 1 / if eq 4 / load R 0 / call special A new ()V / return", impl.VerShape, 4)
	infers(t, n+"load I 1 / if eq 5 / load R 0 / call special A new ()V / return / load R 0 / call special B new ()V / return", "5 !! I |")
	infers(t, n+"load R 0 / load I 1 / if eq 5 / call special A new ()V / return / call special B new ()V / return", "5 !! I | !!")
	infers(t, n+"load I 1 / if eq 4 / goto 4 / null / load R 0 / call special A new ()V / return", "4 !! I |")
	infers(t, n+"load R 0 / call special A new ()V / return / pop / goto 0 / handler 0 1 3 *", "0 !! I |", "3 !! I | @Throwable")
	misses(t, n+"load R 0 / call special A new ()V / return / pop / goto 0 / handler 0 3 3 *", impl.VerShape, 0)
	infers(t, "new (I)V stack 2 locals 2 / load R 0 / call special A new ()V / inc 1 1 / load I 1 / if eq 2 / return", "2 @B I |")
}

// An OpNew in a loop: what it made in the turn before is of no use when it is gone through again, wherever it is held.
func TestNewInLoops(t *testing.T) {
	infers(t, "m ()V static stack 1 locals 1 / new A / store R 0 / goto 0", "0 - |")
	infers(t, "m ()V static stack 1 locals 2 / goto 1 / new A / store R 0 / load R 0 / store R 1 / goto 1", "1 - - |")
	infers(t, "m ()V static stack 2 locals 0 / null / new A / swap / pop / goto 1", "1 | -")
	infers(t, "m ()V static stack 2 locals 1 / null / store R 0 / new A / store R 0 / goto 2", "2 - |")
	infers(t, "m ()V static stack 2 locals 1 / new A / dup / store R 0 / call special A new ()V / goto 0", "0 - |")
	infers(t, "m ()V static stack 2 locals 1 / null / store R 0 / new A / dup / call special A new ()V / store R 0 / goto 2", "2 @A |")
	misses(t, "m ()V static stack 2 locals 1 / new A / store R 0 / load R 0 / const I 0 / if eq 0 / return", impl.VerMerge, 4)
	misses(t, "m ()V static stack 2 locals 1 / goto 1 / new A / goto 1", impl.VerMerge, 2)
	infers(t, "m ()V static stack 2 locals 1 / goto 3 / load R 0 / pop / new A / store R 0 / goto 1", "1 !3 |", "3 - |")
	infers(t, "m (I)V static stack 2 locals 3 / new A / store R 1 / new A / store R 2 / load I 0 / if eq 0 / load I 0 / if eq 2 / return", "0 I - - |", "2 I !0 - |")
}

// At a handler all states ahead of the instructions that it covers are joined, and what it catches.
func TestHandlersAreJoined(t *testing.T) {
	const m = "m (I)V static stack 2 locals 2 / const J 0 / store J 1 / null / store R 1 / return / pop / return / "
	for _, row := range []string{
		"0 1 : I -", "0 2 : I -", "0 5 : I -", "1 2 : I -", "1 3 : I -", "2 3 : I J", "2 4 : I J", "2 5 : I -", "3 4 : I J", "3 5 : I -", "4 5 : I 0", "4 6 : I 0", "4 7 : I 0",
	} {
		span, locals, _ := strings.Cut(row, " : ")
		infers(t, m+"handler "+span+" 5 *", "5 "+locals+" | @Throwable")
	}
	for _, span := range []string{"5 6", "5 7", "6 7"} {
		infers(t, m+"handler "+span+" 5 *")
	}
	const p = "m ()V static stack 2 locals 0 / null / pop / return / pop / return / "
	for _, row := range []string{
		"handler 0 1 3 X / handler 0 1 3 X : @X", "handler 0 1 3 X / handler 0 1 3 NullError : @Error", "handler 0 1 3 X / handler 1 2 3 NullError : @Error", "handler 2 3 3 StopError / handler 0 1 3 Error : @Error",
		"handler 0 3 3 X / handler 1 2 3 * : @Throwable", "handler 0 3 3 X / handler 3 4 3 * : @Throwable", "handler 0 3 3 X / handler 4 5 3 X : @X", "handler 0 3 3 Throwable / handler 0 3 3 * : @Throwable",
	} {
		handlers, caught, _ := strings.Cut(row, " : ")
		infers(t, p+handlers, "3 | "+caught)
	}
	infers(t, p+"handler 0 2 3 X / handler 1 3 3 Error / handler 0 3 1 NullError", "1 | @NullError", "3 | @Error")
}
