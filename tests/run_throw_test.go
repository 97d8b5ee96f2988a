package tests

import (
	"fmt"
	"strings"
	"testing"

	"loop.example/g00032/impl"
)

// thrown is code that throws an object of a class below Throwable, in 5 instructions.
func thrown(class string) string {
	return "new " + class + " / dup / null / call special " + class + " new (@String)V / throw"
}

// below is a class below another one that is made like it.
func below(class, super string) string {
	return "class " + class + " " + super + " / method new (@String)V stack 2 locals 2 / load R 0 / load R 1 / call special " + super + " new (@String)V / return"
}

func throwClasses() []string {
	return []string{below("X", "Error"), below("Y", "X"), below("Z", "Throwable")}
}

// The first handler that covers the place and takes the class is where it goes on.
func TestHandlersInOrder(t *testing.T) {
	t.Parallel()
	cs := throwClasses()
	// Each handler of the list says its number.
	at := "/ return / h0: / pop / " + say(0) + " / return / h1: / pop / " + say(1) + " / return / h2: / pop / " + say(2) + " / return"
	run := func(class, handlers, want string) {
		t.Helper()
		code := thrown(class) + " " + at
		for k, h := range strings.Split(handlers, ", ") {
			code += fmt.Sprintf(" / handler %s h%d %s", h[:strings.LastIndex(h, " ")], k, h[strings.LastIndex(h, " ")+1:])
		}
		does(t, "V", code, want, cs...)
	}
	for _, row := range []string{
		"Y : 0 5 Y, 0 5 X, 0 5 * : ok : 0", "X : 0 5 Y, 0 5 X, 0 5 * : ok : 1", "Z : 0 5 Y, 0 5 X, 0 5 * : ok : 2", "Y : 0 5 X, 0 5 Y, 0 5 * : ok : 0", "Y : 0 5 *, 0 5 Y, 0 5 X : ok : 0", "Y : 0 5 Error, 0 5 Throwable, 0 5 Y : ok : 0", "Z : 0 5 Error, 0 5 Throwable, 0 5 Z : ok : 1",
		"Y : 0 5 NullError, 0 5 StopError, 0 5 Z : thrown Y", "X : 0 5 Y, 0 5 Y, 0 5 Y : thrown X", "Throwable : 0 5 Error, 0 5 Z, 0 5 X : thrown Throwable", "Throwable : 0 5 Error, 0 5 Z, 0 5 Throwable : ok : 2", "StopError : 0 5 X, 0 5 Error, 0 5 * : ok : 1",
		// It covers from From to ahead of To: the throw is at 4.
		"X : 4 5 X, 0 5 X, 0 5 X : ok : 0", "X : 0 4 X, 4 5 X, 0 5 X : ok : 1", "X : 0 4 X, 5 6 X, 3 5 X : ok : 2", "X : 0 1 *, 1 4 *, 5 9 * : thrown X", "X : 5 6 *, 4 6 *, 4 5 * : ok : 1",
	} {
		p := strings.Split(row, " : ")
		run(p[0], p[1], strings.Join(p[2:], " : "))
	}
	// Errors of the machine are caught like others, at the instruction that fails.
	for class, code := range map[string]string{
		"NullError": "null / throw", "ArithError": "const I 1 / const I 0 / div I / pop", "BoundsError": "const I 1 / newarray I / const I 1 / aload I / pop", "CastError": `text "x" / cast @Error / pop`, "StoreError": `const I 1 / newarray @Error / const I 0 / text "x" / astore R`, "SizeError": "const I -1 / newarray I / pop",
		"StateError": "new Object / dup / call special Object new ()V / exit", "LinkError": "new Nope / pop", "InitError": "getstatic S x I / pop",
	} {
		last := strings.Count(strings.TrimSuffix(code, " / pop"), " / ")
		s := starting("S Object", "null / throw")
		body := code + " / return / here: / pop / " + say(1) + " / return / handler %d %d here %s"
		for _, typ := range []string{class, "Error", "Throwable", "*"} {
			does(t, "V", fmt.Sprintf(body, last, last+1, typ), "ok : 1", s)
			does(t, "V", fmt.Sprintf(body, last+1, last+3, typ), "thrown "+class, s)
			if last > 0 {
				does(t, "V", fmt.Sprintf(body, 0, last, typ), "thrown "+class, s)
			}
		}
		does(t, "V", fmt.Sprintf(body, 0, last+1, "StopError"), "thrown "+class, s)
	}
}

// What was thrown lies on the stack alone, and the locals have what they had.
func TestStatesAtHandlers(t *testing.T) {
	cs := throwClasses()
	does(t, "@Throwable", thrown("Y")+" / here: / return R / handler 4 5 here X", "ok R 1", cs...)
	does(t, "I", "const I 1 / const I 2 / const J 3 / "+thrown("X")+" / here: / is @X / return I / handler 7 8 here *", "ok I 1", cs...)
	does(t, "I", "const I 5 / store I 0 / inc 0 1 / null / throw / here: / pop / load I 0 / return I / handler 2 5 here *", "ok I 6")
	does(t, "I", "const I 5 / store I 0 / const I 7 / load I 0 / const I 0 / div I / sub I / store I 0 / load I 0 / return I / here: / pop / load I 0 / return I / handler 2 9 here ArithError", "ok I 5")
	// The whole stack is there for what follows.
	does(t, "I", "const I 1 / const I 1 / const I 1 / const I 1 / const I 1 / const I 1 / const I 1 / null / throw / here: / pop / const I 1 / const I 2 / const I 3 / const I 4 / const I 5 / const I 6 / const I 7 / const I 8 / const I 9 / "+strings.Repeat("add I / ", 8)+"return I / handler 8 9 here *", "ok I 45")
}

// throws is a method that prints, throws, and has handlers of its own.
func throws(head string, handlers string) string {
	return " / method " + head + " static stack 4 locals 1 / " + say(1) + " / call static M deep ()V / " + say(2) + " / return / here: / pop / " + say(3) + " / return" + handlers
}

// Frames without a handler go; it is thrown at the one below, at its call.
func TestFramesGo(t *testing.T) {
	cs := throwClasses()
	const deep = " / method deep ()V static stack 4 locals 1 / "
	main := "call static M mid ()V / " + say(4) + " / return / there: / pop / " + say(5) + " / return"
	for _, row := range []struct{ mid, main, want string }{
		{"", "", "thrown X : 1"}, {" / handler 2 3 here *", "", "ok : 1 3 4"}, {" / handler 2 3 here X", "", "ok : 1 3 4"}, {" / handler 2 3 here Y", "", "thrown X : 1"}, {" / handler 0 2 here *", "", "thrown X : 1"}, {" / handler 3 6 here *", "", "thrown X : 1"},
		{"", " / handler 0 1 there *", "ok : 1 5"}, {"", " / handler 1 3 there *", "thrown X : 1"}, {" / handler 2 3 here Y", " / handler 0 1 there Error", "ok : 1 5"}, {" / handler 2 3 here *", " / handler 0 1 there *", "ok : 1 3 4"}, {" / handler 0 6 here Z", " / handler 0 4 there Z", "thrown X : 1"},
	} {
		does(t, "V", main+row.main+throws("mid ()V", row.mid)+deep+thrown("X"), row.want, cs...)
	}
	// A handler of a frame that does not cover the place, or takes another class, is passed by, also in the frame that throws.
	does(t, "V", main+" / handler 0 1 there *"+throws("mid ()V", "")+deep+thrown("X")+" / here: / pop / return / handler 0 4 here * / handler 4 5 here Y", "ok : 1 5", cs...)
	// Thrown anew in a handler, it is thrown there: a handler that covers itself takes it again.
	does(t, "V", "null / throw / here: / throw / handler 0 2 here *", "thrown NullError")
	does(t, "V", "null / throw / here: / throw / handler 0 3 here *", "fuel")
	does(t, "V", "null / throw / here: / pop / "+thrown("X")+" / there: / pop / "+say(6)+" / return / handler 0 2 here * / handler 2 8 there X", "ok : 6", cs...)
	does(t, "V", "null / throw / here: / pop / null / throw / handler 0 2 here *", "thrown NullError")
	// Through a hundred frames at once.
	const down = " / method down (I)V static stack 2 locals 1 / load I 0 / if eq flat / load I 0 / const I 1 / sub I / call static M down (I)V / return / flat: / null / throw"
	o := ran(t, told(mainOf("I", "const I 98 / call static M down (I)V / const I 0 / return I / here: / pop / const I 1 / return I / handler 0 3 here *"+down)), "M main ()I")
	same(t, "through all frames", o, impl.Outcome{Value: impl.Value{Kind: 1, N: 1}, Steps: 2 + 98*6 + 4 + 3})
	// Virtual calls and methods new are left in the same way.
	does(t, "V", "use: / new N / call special N new ()V / return / here: / pop / "+say(8)+" / return / handler use here here NullError", "ok : 7 8", "class N Object / method new ()V stack 1 locals 1 / load R 0 / call special Object new ()V / "+say(7)+" / null / throw")
}

// The first thread ends by what nobody takes: its class is told, whatever the object is.
func TestThrownToTheEnd(t *testing.T) {
	cs := throwClasses()
	for _, class := range words("Throwable Error NullError StopError InitError X Y Z") {
		does(t, "I", thrown(class), "thrown "+class, cs...)
	}
	does(t, "V", say(1)+" / null / throw", "thrown NullError : 1")
	// The message does not matter, nor what it is held as.
	does(t, "V", `new Y / dup / text "why" / call special Y new (@String)V / cast @Throwable / throw`, "thrown Y", cs...)
	does(t, "V", "null / cast @Y / throw", "thrown NullError", cs...)
}
