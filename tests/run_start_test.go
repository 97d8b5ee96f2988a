package tests

import (
	"fmt"
	"testing"

	"loop.example/g00032/impl"
)

// say is code that prints a number.
func say(n int) string { return fmt.Sprintf("const I %d / %s", n, printI) }

// starting is a class with a method start of some code behind which it returns, and a static field x.
func starting(class, code string) string {
	return "class " + class + " / field x I static / method start ()V static stack 4 locals 4 / " + code + " / return"
}

// lineClasses: A, B below A, C below B without start, D below C; each says so when it begins.
func lineClasses() []string {
	return []string{
		starting("D C", say(4)) + says("s ()V static", 40), starting("A Object", say(1)) + makesSuper("Object") + says("s ()V static", 10), "class C B / field y I static" + says("sc ()V static", 30), starting("B A / implements I", say(2)) + says("m ()V", 20),
		"class I Object abstract interface / field c I static final / method start ()V static stack 1 locals 0 / const I 7 / putstatic I c I / " + say(5) + " / return" + says("si ()V static", 50) + says("d ()V", 51), "class J Object abstract interface / implements I / field j I static final", "class E Object / field x I static",
	}
}

func TestClassesBegin(t *testing.T) {
	cs := lineClasses()
	for code, want := range map[string]string{
		"getstatic A x I / pop": "1", "getstatic B x I / pop": "1 2", "getstatic C x I / pop": "1 2", "getstatic C y I / pop": "1 2", "getstatic D x I / pop": "1 2 4", "getstatic D y I / pop": "1 2", "getstatic E x I / pop": "",
		"const I 1 / putstatic D x I": "1 2 4", "const I 1 / putstatic D y I": "1 2", "call static A s ()V": "1 10", "call static B s ()V": "1 10", "call static D s ()V": "1 2 4 40", "call static D sc ()V": "1 2 30", "new A / pop": "1", "new B / pop": "1 2", "new C / pop": "1 2", "new D / pop": "1 2 4",
		"getstatic I c I / " + printI: "5 7", "getstatic D c I / " + printI: "5 7", "getstatic J c I / " + printI: "5 7", "getstatic J j I / " + printI: "0", "call static I si ()V": "5 50",
		// Nothing else uses a class.
		"null / cast @D / pop": "", "null / is @D / pop": "", "const I 1 / newarray @D / pop": "", made("A") + " / call virtual A hash ()I / pop": "1", "new Thread / pop": "", "new Object / pop": "", "const I 3 / " + printI: "3",
		// Once for all.
		"getstatic A x I / pop / getstatic A x I / pop / call static B s ()V / new A / pop": "1 10", "getstatic A x I / pop / getstatic D x I / pop / getstatic B x I / pop / new D / pop": "1 2 4", "new D / pop / call static I si ()V / getstatic I c I / pop": "1 2 4 5 50",
	} {
		if want != "" {
			want = " : " + want
		}
		does(t, "V", code+" / return", "ok"+want, cs...)
	}
	// What lies on the stack stays there meanwhile, and the field has what is put last.
	does(t, "I", "const I 7 / const I 5 / putstatic P x I / getstatic P x I / sub I / return I", "ok I 2", starting("P Object", "const I 9 / putstatic P x I"))
	does(t, "I", "const I 7 / getstatic P x I / sub I / return I", "ok I -2", starting("P Object", "const I 9 / putstatic P x I"))
	does(t, "I", "const I 7 / const I 5 / call static P sub (I,I)I / return I", "ok I 2 : 1", starting("P Object", say(1))+" / method sub (I,I)I static stack 2 locals 2 / load I 0 / load I 1 / sub I / return I")
}

// The run's first call uses no class; its own class begins when it is used.
func TestTheFirstCallUsesNone(t *testing.T) {
	m := starting("M Object", say(1)) + " / method main ()V static stack 4 locals 1 / " + say(2) + " / getstatic M x I / pop / " + say(3) + " / return / method plain ()V static stack 4 locals 1 / " + say(4) + " / return"
	same(t, "main", shownOutcome(ran(t, told(m), "M main ()V")), "ok : 2 1 3")
	same(t, "plain", shownOutcome(ran(t, told(m), "M plain ()V")), "ok : 4")
	// A method start that is called so is a method like any other.
	same(t, "start", shownOutcome(ran(t, told(m), "M start ()V")), "ok : 1")
	same(t, "start that uses its class", shownOutcome(ran(t, told(starting("M Object", say(1)+" / const I 5 / putstatic M x I / "+say(2))), "M start ()V")), "ok : 1 1 2 2")
	same(t, "start that fails", shownOutcome(ran(t, told(starting("M Object", "null / throw")), "M start ()V")), "thrown NullError")
	same(t, "below a class that would begin", shownOutcome(ran(t, told(starting("A Object", say(1)), "class M A / method main ()V static stack 1 locals 0 / return"), "M main ()V")), "ok")
}

// A class is used while it is beginning: the thread goes on with what is there.
func TestUseWhileBeginning(t *testing.T) {
	does(t, "I", "getstatic A x I / return I", "ok I 7 : 0", starting("A Object", "getstatic A x I / "+printI+" / const I 7 / putstatic A x I"))
	does(t, "I", "getstatic A x I / return I", "ok I 7", starting("A Object", "call static A set ()V")+" / method set ()V static stack 1 locals 0 / const I 7 / putstatic A x I / return")
	does(t, "V", "new A / pop / return", "ok : 1", starting("A Object", "new A / pop / "+say(1)))
	// A and B use each other.
	a := starting("A Object", say(1)+" / const I 5 / putstatic A x I / getstatic B x I / "+printI+" / const I 6 / putstatic A x I / "+say(2))
	b := starting("B Object", say(11)+" / getstatic A x I / "+printI+" / const I 50 / putstatic B x I / "+say(12))
	does(t, "V", "getstatic A x I / "+printI+" / getstatic B x I / "+printI+" / return", "ok : 1 11 5 12 50 2 6 50", a, b)
	does(t, "V", "getstatic B x I / "+printI+" / getstatic A x I / "+printI+" / return", "ok : 11 1 0 2 6 12 50 6", a, b)
	// A class above uses one below: that begins, as its Super is beginning by this thread.
	up := starting("A Object", say(1)+" / getstatic B x I / "+printI+" / "+say(2))
	down := starting("B A", say(11)+" / const I 3 / putstatic B x I")
	does(t, "V", "getstatic B x I / "+printI+" / return", "ok : 1 11 3 2 3", up, down)
	does(t, "V", "getstatic A x I / "+printI+" / return", "ok : 1 11 3 2 0", up, down)
}

// What is thrown out of a start is an InitError at the frame below, and the class is broken.
func TestBrokenClasses(t *testing.T) {
	broken := starting("A Object", say(1)+" / null / throw")
	below := starting("B A", say(2)) + says("s ()V static", 20)
	for _, use := range []string{"getstatic A x I / pop", "const I 5 / putstatic A x I", "new A / pop", "call static A none ()V", "getstatic B x I / pop", "new B / pop", "call static B s ()V"} {
		want := "thrown InitError : 1"
		if use == "call static A none ()V" {
			want = "thrown LinkError"
		}
		does(t, "V", use+" / return", want, broken, below)
	}
	// Again it is a LinkError, also for a class below, which does not begin.
	const caught = "use: / getstatic A x I / pop / return / once: / pop / " // InitError is caught here
	const handled = " / handler use once once InitError"
	does(t, "V", caught+"getstatic A x I / pop / return"+handled, "thrown LinkError : 1", broken, below)
	does(t, "V", caught+"getstatic B x I / pop / return"+handled, "thrown LinkError : 1", broken, below)
	does(t, "V", caught+"new B / pop / return"+handled, "thrown LinkError : 1", broken, below)
	does(t, "V", caught+say(8)+" / return"+handled, "ok : 1 8", broken, below)
	does(t, "V", caught+"two: / getstatic A x I / pop / return / other: / pop / three: / new B / pop / return / end: / pop / "+say(9)+" / return"+handled+" / handler two other other LinkError / handler three end end LinkError", "ok : 1 9", broken, below)
	// A class below that fails leaves the one above ready.
	does(t, "V", "use: / getstatic B x I / pop / return / once: / pop / getstatic A x I / "+printI+" / getstatic B x I / pop / return / handler use once once InitError", "thrown LinkError : 1 2 0", starting("A Object", say(1)), starting("B A", say(2)+" / null / throw"))
	// What was thrown first is seen no more.
	for handler, want := range map[string]string{"NullError": "thrown InitError : 1", "InitError": "ok : 1 5", "Error": "ok : 1 5", "Throwable": "ok : 1 5", "*": "ok : 1 5", "LinkError": "thrown InitError : 1"} {
		does(t, "V", "getstatic A x I / pop / return / here: / pop / "+say(5)+" / return / handler 0 1 here "+handler, want, broken)
	}
	// It is thrown at the instruction that used the class.
	does(t, "V", "getstatic A x I / pop / return / here: / pop / return / handler 1 3 here *", "thrown InitError : 1", broken)
	// A start that catches what is thrown in it is as good as any.
	does(t, "V", "getstatic A x I / "+printI+" / return", "ok : 9 0", "class A Object / field x I static / method start ()V static stack 1 locals 0 / null / throw / here: / pop / "+say(9)+" / return / handler 0 2 here NullError")
	// One start within another: each class that is left is broken, and each has an InitError of its own.
	outer := starting("O Object", say(3)+" / getstatic A x I / pop")
	does(t, "V", "use: / getstatic O x I / pop / return / once: / call virtual Object hash ()I / "+printI+" / two: / getstatic A x I / pop / return / other: / pop / getstatic O x I / pop / return / handler use once once InitError / handler two other other LinkError", "thrown LinkError : 3 1 3", broken, outer)
	// One that catches it is not.
	does(t, "I", "getstatic O x I / return I", "ok I 0 : 1 4", broken, "class O Object / field x I static / method start ()V static stack 1 locals 0 / use: / getstatic A x I / pop / return / here: / pop / "+say(4)+" / return / handler use here here InitError")
	// In a class that is broken while it is beginning the thread goes on.
	does(t, "V", "getstatic A x I / pop / return", "thrown InitError : 1", starting("A Object", say(1)+" / call static A f ()V")+" / method f ()V static stack 1 locals 0 / getstatic A x I / pop / null / throw")
}

// At the last frame no start goes on top; the class stays new.
func TestBeginAtTheLastFrame(t *testing.T) {
	const down = " / method down (I)V static stack 4 locals 1 / load I 0 / if eq flat / load I 0 / const I 1 / sub I / call static M down (I)V / return / flat: / "
	use := "const I 98 / call static M down (I)V / return / caught: / pop / " + say(5) + " / getstatic Z x I / " + printI + " / return / handler 0 2 caught SizeError" + down
	does(t, "V", use+"getstatic Z x I / pop / return", "ok : 5 1 7", starting("Z Object", say(1)+" / const I 7 / putstatic Z x I"))
	does(t, "V", use+"new Z / pop / return", "ok : 5 1 7", starting("Z Object", say(1)+" / const I 7 / putstatic Z x I"))
	// One frame below there is room for start, but for nothing that it calls.
	almost := "const I 97 / call static M down (I)V / return / caught: / pop / " + say(5) + " / return / handler 0 2 caught InitError" + down + "getstatic Z x I / pop / return"
	does(t, "V", almost, "ok : 5", starting("Z Object", "call static Z s ()V / "+say(1))+says("s ()V static", 2))
	does(t, "V", almost, "ok : 1", starting("Z Object", say(1)))
	// A class above without start is passed over.
	does(t, "V", "const I 98 / call static M down (I)V / return"+down+"getstatic Y y I / pop / return", "ok", "class Z Object", "class Y Z / field y I static")
}

// Each frame of start, and each turn of the instruction that uses the class, is a step.
func TestStepsOfStart(t *testing.T) {
	steps := func(want int64, code string, more ...string) {
		t.Helper()
		o := ran(t, told(append(more, mainOf("V", code+" / return"))...), "M main ()V")
		if o.Steps != want {
			t.Errorf("%s: %d steps, not %d", code, o.Steps, want)
		}
	}
	const start = " / field x I static / method start ()V static stack 1 locals 0 / return"
	steps(3, "getstatic A x I / pop", "class A Object / field x I static")
	steps(5, "getstatic A x I / pop", "class A Object"+start)
	steps(7, "getstatic B x I / pop", "class A Object"+start, "class B A"+start)
	steps(7, "getstatic C x I / pop", "class A Object"+start, "class B A / field y I static", "class C B"+start)
	steps(5, "getstatic C x I / pop", "class C B"+start, "class B A", "class A Object")
	steps(7, "getstatic A x I / pop / getstatic B x I / pop", "class A Object"+start, "class B Object / field x I static")
	steps(7, "new A / pop / const I 1 / pop", "class A Object / method start ()V static stack 0 locals 0 / return")
	// It throws in two steps: that of the use, and that of the throw.
	o := ran(t, told("class A Object / field x I static / method start ()V static stack 1 locals 0 / null / throw", mainOf("I", "getstatic A x I / return I")), "M main ()I")
	same(t, "a start that throws", o, impl.Outcome{Code: impl.RunThrown, Thrown: "InitError", Steps: 3})
}
