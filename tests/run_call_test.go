package tests

import (
	"fmt"
	"strings"
	"testing"

	"loop.example/g00032/impl"
)

// says is a method that prints a number.
func says(head string, n int) string {
	locals := 1 + strings.Count(head, ",")
	if strings.Contains(head, "static") {
		locals--
	}
	return fmt.Sprintf(" / method %s stack 1 locals %d / const I %d / %s / return", head, locals, n, printI)
}

func TestStaticCalls(t *testing.T) {
	const s = "class S Object / method sub (I,I)I static stack 2 locals 2 / load I 0 / load I 1 / sub I / return I / method mix (I,J,D,@String,[I)J static stack 3 locals 6 / load R 3 / " + printS + " / load D 2 / " + printD + " / load I 0 / " + printI + " / load R 4 / length / " + printI + " / load J 1 / return J / method quiet ()V static stack 0 locals 0 / return"
	does(t, "I", "const I 10 / const I 3 / call static S sub (I,I)I / return I", "ok I 7", s)
	does(t, "I", "const I 1 / const I 10 / const I 3 / call static S sub (I,I)I / sub I / return I", "ok I -6", s)
	does(t, "J", `const I 1 / const J 2 / const D 3p0 / text "four" / const I 5 / newarray I / call static S mix (I,J,D,@String,[I)J / return J`, "ok J 2 : four 3p0 1 5", s)
	does(t, "I", "const I 4 / call static S quiet ()V / return I", "ok I 4", s)
	// By a class below; private ones at home.
	does(t, "I", "const I 10 / const I 3 / call static T sub (I,I)I / return I", "ok I 7", s, "class T S")
	does(t, "V", "call static M p ()V / return"+says("p ()V static private", 5), "ok : 5")
	does(t, "V", "call static S p ()V / return", "thrown LinkError", "class S Object"+says("p ()V static private", 5))
	does(t, "V", "call static I s ()V / return", "ok : 5", "class I Object abstract interface"+says("s ()V static", 5))
	does(t, "V", "call static S a ()V / return", "ok : 5", "class S Object abstract"+says("a ()V static", 5))
	// All parameters that there may be, each at its place.
	const eight = "class E Object / method m (I,J,D,I,J,D,I,J)V static stack 1 locals 9 / load I 0 / " + printI + " / load J 1 / " + printJ + " / load D 2 / " + printD + " / load I 3 / " + printI + " / load J 4 / " + printJ + " / load D 5 / " + printD + " / load I 6 / " + printI + " / load J 7 / " + printJ + " / return"
	does(t, "V", "const I 1 / const J 2 / const D 3p0 / const I 4 / const J 5 / const D 3p1 / const I 7 / const J 8 / call static E m (I,J,D,I,J,D,I,J)V / return", "ok : 1 2 3p0 4 5 3p1 7 8", eight)
}

// callClasses: B below A, C below B, each with methods of its own; I and J have some with and without code.
func callClasses() []string {
	return []string{
		"class A Object / implements I" + makesSuper("Object") + says("m ()V", 1) + says("n ()V", 2) + says("p ()V private", 3) + says("f ()V final", 4) + says("im ()V", 5) +
			" / method callp (@A)V stack 1 locals 2 / load R 1 / call virtual A p ()V / return / method me ()@A stack 1 locals 1 / load R 0 / return R",
		"class B A" + makesSuper("A") + says("m ()V", 11) + says("p ()V", 13) + " / method up ()V stack 1 locals 1 / load R 0 / call special A m ()V / load R 0 / call special B m ()V / load R 0 / call virtual A m ()V / return",
		"class C B / implements J" + makesSuper("B") + says("m ()V", 21) + says("jm ()V", 22) + " / method up2 ()V stack 1 locals 1 / load R 0 / call special C n ()V / load R 0 / call special A p ()V / return",
		"class I Object abstract interface / method im ()V abstract" + says("d ()V", 101) + says("q ()V private", 104) + " / method callq (@I)V stack 1 locals 2 / load R 1 / call interface I q ()V / return",
		"class J Object abstract interface / implements I / method jm ()V abstract" + says("d ()V", 102),
		"class K Object abstract interface" + says("d ()V", 103) + " / method none ()V abstract",
		"class E Object" + makesSuper("Object"),
	}
}

func TestVirtualCalls(t *testing.T) {
	cs := callClasses()
	for _, row := range []string{
		"A A m : 1", "B A m : 11", "B B m : 11", "C A m : 21", "C B m : 21", "C C m : 21", "B A n : 2", "C B n : 2", "C A f : 4", "A A im : 5", "C C im : 5", "C C jm : 22", "C C d : 102", "B B d : 101", "B B p : 13", "C B p : 13", "C C p : 13",
	} {
		call, want, _ := strings.Cut(row, " : ")
		w := words(call)
		does(t, "V", made(w[0])+" / call virtual "+w[1]+" "+w[2]+" ()V / return", "ok : "+want, cs...)
		does(t, "V", "null / call virtual "+w[1]+" "+w[2]+" ()V / return", "thrown NullError", cs...)
	}
	// A private one is called as it is meant, whatever stands below; elsewhere it can't be.
	for _, class := range words("A B C") {
		does(t, "V", made("A")+" / "+made(class)+" / call virtual A callp (@A)V / return", "ok : 3", cs...)
		does(t, "V", made(class)+" / call virtual A p ()V / return", "thrown LinkError", cs...)
	}
	does(t, "@A", made("C")+" / call virtual B me ()@A / return R", "ok R 1", cs...)
	does(t, "V", made("C")+" / call virtual C up ()V / return", "ok : 1 11 21", cs...)
	does(t, "V", made("C")+" / call virtual C up2 ()V / return", "thrown LinkError : 2", cs...)
}

func TestInterfaceCalls(t *testing.T) {
	cs := callClasses()
	for _, row := range []string{"A I im : 5", "C I im : 5", "C J im : 5", "C J jm : 22", "A I d : 101", "B I d : 101", "C I d : 102", "C J d : 102"} {
		call, want, _ := strings.Cut(row, " : ")
		w := words(call)
		does(t, "V", made(w[0])+" / call interface "+w[1]+" "+w[2]+" ()V / return", "ok : "+want, cs...)
		does(t, "V", "null / call interface "+w[1]+" "+w[2]+" ()V / return", "thrown NullError", cs...)
	}
	// Any object fits an interface, but is it below it?
	for _, object := range []string{made("E"), made("Object"), `text "x"`, "const I 1 / newarray I", "const I 1 / newarray @A", made("Thread")} {
		does(t, "V", object+" / call interface I im ()V / return", "thrown LinkError", cs...)
		does(t, "V", object+" / call interface I d ()V / return", "thrown LinkError", cs...)
		does(t, "V", object+" / call interface I hash ()I / pop / return", "thrown LinkError", cs...)
	}
	does(t, "V", made("A")+" / call interface J d ()V / return", "thrown LinkError", cs...)
	does(t, "I", made("A")+" / call interface I hash ()I / return I", "ok I 1", cs...)
	// Private ones of an interface.
	does(t, "V", made("A")+" / "+made("C")+" / call interface I callq (@I)V / return", "ok : 104", cs...)
	does(t, "V", made("A")+" / "+made("E")+" / call interface I callq (@I)V / return", "thrown LinkError", cs...)
	does(t, "V", made("A")+" / null / call interface I callq (@I)V / return", "thrown NullError", cs...)
	does(t, "V", made("A")+" / call interface I q ()V / return", "thrown LinkError", cs...)
}

// What Select does not give is not called: none, an abstract one, two.
func TestSelectedCalls(t *testing.T) {
	cs := append(callClasses(), "class F Object abstract / implements K / method a ()V abstract"+makesSuper("Object"), "class G F"+makesSuper("F"), "class H G / implements I J K"+makesSuper("G")+says("im ()V", 31), "class L A / implements K"+makesSuper("A"), "class N Object / implements K"+makesSuper("Object")+" / method d ()V private stack 0 locals 1 / return")
	does(t, "V", made("G")+" / call virtual F a ()V / return", "thrown LinkError", cs...)
	does(t, "V", made("G")+" / call virtual G a ()V / return", "thrown LinkError", cs...)
	does(t, "V", made("G")+" / call interface K none ()V / return", "thrown LinkError", cs...)
	does(t, "V", made("G")+" / call interface K d ()V / return", "ok : 103", cs...)
	// J's hides I's, but K's stands beside it.
	does(t, "V", made("H")+" / call interface I d ()V / return", "thrown LinkError", cs...)
	does(t, "V", made("H")+" / call interface K d ()V / return", "thrown LinkError", cs...)
	does(t, "V", made("H")+" / call virtual H d ()V / return", "thrown LinkError", cs...)
	does(t, "V", made("H")+" / call interface J im ()V / return", "ok : 31", cs...)
	does(t, "V", made("H")+" / call interface J jm ()V / return", "thrown LinkError", cs...)
	does(t, "V", made("L")+" / call interface K d ()V / return", "thrown LinkError", cs...)
	does(t, "V", made("L")+" / call virtual L d ()V / return", "thrown LinkError", cs...)
	does(t, "V", made("L")+" / call interface I im ()V / return", "ok : 5", cs...)
	// A private one is none that Select finds.
	does(t, "V", made("N")+" / call interface K d ()V / return", "ok : 103", cs...)
	// NullError comes ahead.
	does(t, "V", "null / call virtual F a ()V / return", "thrown NullError", cs...)
}

func TestSpecialCalls(t *testing.T) {
	cs := callClasses()
	does(t, "V", made("C")+" / call virtual C up ()V / return", "ok : 1 11 21", cs...)
	does(t, "V", made("B")+" / call virtual B up ()V / return", "ok : 1 11 11", cs...)
	// An interface's own, with any object.
	const i = "class P Object abstract interface / method sp (@P)I stack 1 locals 2 / load R 1 / call special P y ()I / return I / method y ()I stack 1 locals 1 / load R 0 / call special Object hash ()I / return I / method z ()I abstract / method sz (@P)I stack 1 locals 2 / load R 1 / call special P z ()I / return I"
	q := "class Q Object / implements P" + makesSuper("Object") + " / method y ()I stack 1 locals 1 / const I 70 / return I"
	for _, object := range []string{made("Q"), made("Object"), "const I 2 / newarray D"} {
		does(t, "I", made("Q")+" / "+object+" / call interface P sp (@P)I / return I", "ok I 2", i, q)
	}
	does(t, "I", made("Q")+" / null / call interface P sp (@P)I / return I", "thrown NullError", i, q)
	does(t, "I", made("Q")+" / null / call interface P sz (@P)I / return I", "thrown LinkError", i, q)
	does(t, "I", made("Q")+" / call interface P y ()I / return I", "ok I 70", i, q)
	// Natives by CallSpecial.
	does(t, "I", made("T")+" / call virtual T h ()I / return I", "ok I 1", "class T Thread"+makesSuper("Thread")+" / method h ()I stack 2 locals 1 / load R 0 / call special Thread hash ()I / load R 0 / call special Thread stopped ()I / add I / return I")
	// Methods new: each class's own, with parameters; one that is none.
	const v = "class V Object / field n I / method new (I)V stack 2 locals 2 / load R 0 / call special Object new ()V / load R 0 / load I 1 / put V n I / return / method new ()V stack 2 locals 1 / load R 0 / const I 6 / call special V new (I)V / return"
	does(t, "I", "new V / dup / const I 5 / call special V new (I)V / get V n I / return I", "ok I 5", v)
	does(t, "I", "new V / dup / call special V new ()V / get V n I / return I", "ok I 6", v)
	does(t, "V", "new V / const J 5 / call special V new (J)V / return", "thrown LinkError", v)
	does(t, "V", "new W / call special W new ()V / return", "thrown LinkError", v, "class W V")
	does(t, "V", "new String / call special String new ()V / return", "thrown LinkError")
}

// An array is an object of Object's methods.
func TestArraysAreCalled(t *testing.T) {
	const array = "const I 2 / newarray @M"
	does(t, "I", array+" / call virtual Object hash ()I / return I", "ok I 1")
	does(t, "V", array+" / dup / enter / dup / call virtual Object notify ()V / dup / call virtual Object wake ()V / exit / return", "ok")
	does(t, "V", array+" / call virtual Object notify ()V / return", "thrown StateError")
	does(t, "V", array+" / call virtual Object wait ()V / return", "thrown StateError")
}

func TestDepth(t *testing.T) {
	// main is the first frame; each call of deep adds one, and fails at the last.
	const deep = " / method deep ()V static stack 2 locals 0 / getstatic M n I / const I 1 / add I / putstatic M n I / call static M deep ()V / return / field n I static"
	does(t, "V", "call static M deep ()V / return / caught: / pop / getstatic M n I / "+printI+" / return / handler 0 2 caught SizeError"+deep, "ok : 99")
	does(t, "V", "call static M deep ()V / return"+deep, "thrown SizeError")
	// To such a depth, and no deeper: the argument tells how many frames go on top.
	const down = " / method down (I)I static stack 2 locals 1 / load I 0 / if eq flat / load I 0 / const I 1 / sub I / call static M down (I)I / const I 1 / add I / return I / flat: / const I 0 / return I"
	does(t, "I", "const I 98 / call static M down (I)I / return I"+down, "ok I 98")
	does(t, "I", "const I 99 / call static M down (I)I / return I"+down, "thrown SizeError")
	// At the last frame: natives have no frame; all others fail, whatever their flags, and NullError and LinkError come ahead.
	last := func(code string) string {
		return "const I 98 / call static M down (I)V / return / method down (I)V static stack 4 locals 1 / load I 0 / if eq flat / load I 0 / const I 1 / sub I / call static M down (I)V / return / flat: / " + code + " / return"
	}
	for code, want := range map[string]string{
		"const I 5 / " + printI: "ok : 5", `text "ab" / dup / call virtual String join (@String)@String / ` + printS: "ok : abab", "call static M s ()V": "thrown SizeError", "call static Y s ()V": "thrown SizeError", "call static M n ()V": "thrown LinkError", "null / call virtual Y v ()V": "thrown NullError", "null / call virtual Y none ()V": "thrown LinkError",
		"new Y / call special Y new ()V": "thrown SizeError", "new Object / call special Object new ()V": "thrown SizeError", "new Thread / pop / new Y / pop / const I 6 / " + printI: "ok : 6",
		`text "a" / call interface F i ()V`: "thrown LinkError", "const I 1 / newarray I / call virtual Object hash ()I / " + printI: "ok : 1",
	} {
		does(t, "V", last(code)+" / method s ()V static stack 0 locals 0 / return / method n ()V static native", want, "class Y Object / method s ()V static sync stack 0 locals 0 / return / method v ()V stack 0 locals 1 / return"+makesSuper("Object"), "class F Object abstract interface / method i ()V abstract")
	}
	does(t, "V", last("getstatic Z x I / pop"), "thrown SizeError", "class Z Object / field x I static"+says("start ()V static", 1))
}

func TestStringNatives(t *testing.T) {
	for _, row := range []string{`"" : 0`, `"a" : 1`, `"abc" : 3`, `"\00\ff" : 2`} {
		text, want, _ := strings.Cut(row, " : ")
		does(t, "I", "text "+text+" / call virtual String length ()I / return I", "ok I "+want)
	}
	for _, row := range []string{"0 : ok I 97", "2 : ok I 255", "1 : ok I 0", "3 : thrown BoundsError", "-1 : thrown BoundsError", "2147483647 : thrown BoundsError", "-2147483648 : thrown BoundsError"} {
		at, want, _ := strings.Cut(row, " : ")
		does(t, "I", `text "a\00\ff" / const I `+at+" / call virtual String at (I)I / return I", want)
	}
	does(t, "I", `text "" / const I 0 / call virtual String at (I)I / return I`, "thrown BoundsError")
	const join = " / call virtual String join (@String)@String / return R"
	does(t, "@String", `text "ab" / text "cd"`+join, `ok R 3 "abcd"`)
	does(t, "@String", `text "ab" / dup`+join, `ok R 2 "abab"`)
	does(t, "@String", `text "ab" / text ""`+join, `ok R 3 "ab"`)
	does(t, "@String", `text "" / text ""`+join, `ok R 2`)
	does(t, "@String", `text "ab" / null`+join, "thrown NullError")
	does(t, "@String", `null / text "ab"`+join, "thrown NullError")
	long := func(n int) string { return `text "` + strings.Repeat("x", n) + `"` }
	does(t, "@String", long(150)+" / "+long(50)+join, fmt.Sprintf("ok R 3 %q", strings.Repeat("x", 200)))
	does(t, "@String", long(150)+" / "+long(51)+join, "thrown SizeError")
	does(t, "@String", long(200)+` / text ""`+join, fmt.Sprintf("ok R 3 %q", strings.Repeat("x", 200)))
	does(t, "@String", long(200)+` / text "y"`+join, "thrown SizeError")
	does(t, "@String", long(200)+` / dup`+join, "thrown SizeError")
	const same = " / call virtual String same (@Object)I / return I"
	for _, row := range []string{`text "ab" : 1`, `text "aB" : 0`, `text "a" : 0`, `text "a" / text "b" / call virtual String join (@String)@String : 1`, "null : 0", made("Object") + " : 0", "const I 1 / newarray I : 0", `text "" : 0`} {
		other, want, _ := strings.Cut(row, " : ")
		does(t, "I", `text "ab" / `+other+same, "ok I "+want)
	}
	does(t, "I", `text "" / `+made("Object")+same, "ok I 0")
	does(t, "I", `null / text ""`+same, "thrown NullError")
	for _, row := range []string{
		`0 3 : ok R 2 "abc"`, `0 0 : ok R 2`, `3 3 : ok R 2`, `1 2 : ok R 2 "b"`, `1 3 : ok R 2 "bc"`, "2 1 : thrown BoundsError", "-1 2 : thrown BoundsError", "0 4 : thrown BoundsError", "4 4 : thrown BoundsError", "-1 -1 : thrown BoundsError", "0 -1 : thrown BoundsError",
		"-2147483648 2147483647 : thrown BoundsError", "2147483647 -2147483648 : thrown BoundsError", "2147483647 2147483647 : thrown BoundsError",
	} {
		bounds, want, _ := strings.Cut(row, " : ")
		w := words(bounds)
		does(t, "@String", `text "abc" / const I `+w[0]+" / const I "+w[1]+" / call virtual String part (I,I)@String / return R", want)
	}
	does(t, "@String", "null / const I 5 / const I 1 / call virtual String part (I,I)@String / return R", "thrown NullError")
	for _, native := range words("length()I at(I)I") {
		name, sig, _ := strings.Cut(native, "(")
		does(t, "I", "null / "+strings.Repeat("const I 9 / ", strings.Count(sig, "I)"))+"call virtual String "+name+" ("+sig+" / return I", "thrown NullError")
	}
}

func TestPrint(t *testing.T) {
	for _, row := range []string{"I 0", "I -5", "I 2147483647", "I -2147483648", "J 9223372036854775807", "J -9223372036854775808", "D 1p0", "D -0p0", "D nan", "D -inf", "D 3p-1074"} {
		does(t, "V", "const "+row+" / call static System print ("+row[:1]+")V / return", "ok : "+row[2:])
	}
	does(t, "V", "null / "+printS+" / return", "ok : null")
	lines := ran(t, told(mainOf("V", `text "" / `+printS+` / text "null" / `+printS+` / text "a\0ab \ff" / `+printS+" / const I 7 / "+printI+` / text "7" / `+printS+" / return")), "M main ()V")
	same(t, "lines", lines, impl.Outcome{Trace: []string{"", "null", "a\nb \xff", "7", "7"}, Steps: 11})
}

// A native of any other class, wherever it stands, can't be called.
func TestOtherNatives(t *testing.T) {
	n := "class N Object / implements I" + makesSuper("Object") + " / method s ()V static native / method v (I)I native / method p ()V private native / method k ()V sync native / method i ()V native / method y ()V static sync native" +
		" / method callp ()V stack 1 locals 1 / load R 0 / call virtual N p ()V / return / method calls ()V stack 1 locals 1 / load R 0 / call special N k ()V / return"
	i := "class I Object abstract interface / method i ()V abstract / method d ()V native / method st ()V static native"
	for _, code := range []string{
		"call static N s ()V", "call static N y ()V", made("N") + " / const I 1 / call virtual N v (I)I / pop", made("N") + " / call virtual N callp ()V", made("N") + " / call virtual N k ()V", made("N") + " / call virtual N calls ()V", made("N") + " / call interface I i ()V", made("N") + " / call interface I d ()V", made("N") + " / call virtual N d ()V", "call static I st ()V", "call static M own ()V",
	} {
		does(t, "V", code+" / return / method own ()V static native", "thrown LinkError", n, i)
	}
	does(t, "V", "null / const I 1 / call virtual N v (I)I / pop / return", "thrown NullError", n, i)
	// One of Boot's names in another class is not Boot's.
	t1 := "class T Thread" + makesSuper("Thread") + " / method begin ()V private native / method go ()V stack 1 locals 1 / load R 0 / call virtual T begin ()V / return / method print (I)V static native / method length ()I native"
	does(t, "V", made("T")+" / call virtual T go ()V / return", "thrown LinkError", t1)
	does(t, "V", "const I 1 / call static T print (I)V / return", "thrown LinkError", t1)
	does(t, "V", made("T")+" / call virtual T length ()I / pop / return", "thrown LinkError", t1)
	does(t, "V", made("T")+" / call virtual Thread begin ()V / return", "ok", t1)
	// Natives above an override.
	does(t, "I", made("W")+" / call interface L length ()I / return I", "ok I 3", "class L Object abstract interface / method length ()I abstract", "class W Object / implements L"+makesSuper("Object")+" / method length ()I stack 1 locals 1 / const I 3 / return I")
}
