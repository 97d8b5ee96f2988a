package tests

import (
	"fmt"
	"slices"
	"strings"
	"testing"

	"loop.example/g00032/impl"
)

// takenIs looks for what a unit takes of the class A, and that this is a unit that can be.
func takenIs(t *testing.T, why string, cs []impl.Class, want impl.Unit) {
	t.Helper()
	got := impl.UnitOf(cs, "A")
	same(t, why, got, want)
	if impl.UnitClass(got).Name != "U" {
		t.Errorf("%s: no class comes of %v", why, got)
	}
}

const (
	nMethod  = " / method n (I)I static stack 9 locals 1 / load I 0 / return I"
	nInUnit  = "(I)I 1 / load I 0 / return I"
	oneField = " / field x I static"
)

func TestUnitOf(t *testing.T) {
	takenIs(t, "nothing", told("class A Object"), impl.Unit{})
	takenIs(t, "a field", told("class A Object"+oneField), unitTold("I"))
	takenIs(t, "a method", told("class A Object"+nMethod), unitTold("", nInUnit))
	takenIs(t, "all", told("class B Object", "class A Object / field low J static / field high I static"+
		" / method b (I,J)J static stack 4 locals 5 / again: / load I 0 / call static A a (I)I / putstatic A high I / getstatic A low J / load J 1 / add J / dup / putstatic A low J / call static System print (J)V / load I 0 / call static System print (I)V / load I 0 / if gt again / getstatic A low J / return J / frame 0 I J - - - | / line 3 7"+
		" / method a (I)I static final private stack 2 locals 1 / load I 0 / call static A a (I)I / getstatic A high I / switch 0 c c / c: / load I 0 / return I"),
		unitTold("J I", "(I,J)J 5 / again: / load I 0 / call 1 / put 1 / get 0 / load J 1 / add J / dup / put 0 / call -2 / load I 0 / call -1 / load I 0 / if gt again / get 0 / return J",
			"(I)I 1 / load I 0 / call 1 / get 1 / switch 0 c c / c: / load I 0 / return I"))
	// Whether code is right is not asked.
	takenIs(t, "not right", told("class A Object / method m (J)I static stack 0 locals 2 / pop / load I 1 / return"), unitTold("", "(J)I 2 / pop / load I 1 / return"))
	takenIs(t, "the class of a unit", []impl.Class{impl.UnitClass(unitTold("I"))}, impl.Unit{})
	u := unitTold("I J", "()V 0 / call 1 / call -1 / return", "()I 3 / get 1 / put 0 / return I")
	same(t, "the class of a unit", impl.UnitOf([]impl.Class{impl.UnitClass(u)}, "U"), u)
	// What kind of a class it is does not matter.
	for _, head := range []string{"class A Object final", "class A Object abstract / implements I", "class A Object sealed / permits B", "class A Object abstract interface / implements I", "class A Object abstract / method v ()V abstract"} {
		takenIs(t, head, told(ifaceI, head+" / field c J static final / method m (J)J static stack 2 locals 1 / getstatic A c J / return J"), unitTold("J", "(J)J 1 / get 0 / return J"))
	}
	for _, instruction := range unitInstructions() {
		body := strings.Repeat("return / ", 3) + instruction + strings.Repeat(" / return", 3)
		takenIs(t, instruction, told("class A Object / method m ()V static stack 0 locals 6 / "+body), unitTold("", "()V 6 / "+body))
	}
}

func TestUnitOfOtherArguments(t *testing.T) {
	none := func(why string, cs []impl.Class, class string) {
		t.Helper()
		same(t, why, impl.UnitOf(cs, class), impl.Unit{})
	}
	right := "class A Object" + oneField + nMethod
	same(t, "right", impl.UnitOf(told(right), "A"), unitTold("I", nInUnit))
	for _, name := range append(slices.Clone(bootNames), "", "B", "a", "A ", "@A", "U", "\xff", strings.Repeat("A", 1000)) {
		none(name, told(right), name)
	}
	none("no classes", nil, "A")
	none("no classes", []impl.Class{}, "Object")
	none("start", told(right+" / method start ()V static stack 0 locals 0 / return"), "A")
	none("start with a lock", told("class A Object / method start ()V static private sync stack 0 locals 0 / return"+oneField+nMethod), "A")
	for _, super := range []string{"Thread", "Throwable", "Error", "StopError", "B", "C"} {
		none(super, told("class B Object", "class C B", "class A "+super+oneField+nMethod), "A")
	}
	same(t, "below is another one", impl.UnitOf(told("class B A"+oneField, right), "A"), unitTold("I", nInUnit))
	same(t, "start in another one", impl.UnitOf(told("class B A / method start ()V static stack 0 locals 0 / return", right), "A"), unitTold("I", nInUnit))
	for why, cs := range wrongSpaces() {
		none("no space, "+why, append(told("class Q Object"+oneField+nMethod), cs...), "Q")
	}
	for why, cs := range brokenSpaces() {
		none("does not hold, "+why, append(told("class Q Object"+oneField+nMethod), cs...), "Q")
	}
	// Failures of the checker and the finder do not count: the space holds all the same.
	same(t, "holds", impl.UnitOf(told(right, "class Q Object"+shortMethod), "A"), unitTold("I", nInUnit))
}

// Fields that are no globals count nothing; those that are have their numbers in order.
func TestUnitOfFields(t *testing.T) {
	const fields = " / field a D static / field b I / field c I static / field d @A static / field e J static private volatile / field f [I static / field g J / field h J static final / field i [[J / field j I static final private / field k @String static"
	takenIs(t, "all", told("class A Object"+fields), unitTold("I J J I"))
	for access, want := range map[string]string{
		"getstatic A c I": "get 0", "getstatic A e J": "get 1", "getstatic A h J": "get 2", "getstatic A j I": "get 3", "putstatic A c I": "put 0", "putstatic A e J": "put 1",
		// Final ones may be put to by no function.
		"putstatic A h J": "", "putstatic A j I": "",
		// Another type, another class, or none.
		"getstatic A c J": "", "getstatic A e I": "", "putstatic A c J": "", "putstatic A e I": "", "getstatic A c D": "", "getstatic B c I": "", "getstatic B o I": "", "putstatic B o I": "", "getstatic A o I": "", "getstatic A nope I": "", "putstatic A nope I": "", "getstatic Nope c I": "", "getstatic Object c I": "", "getstatic A length I": "",
		// What is no global.
		"getstatic A a D": "", "getstatic A d @A": "", "getstatic A f [I": "", "getstatic A b I": "", "putstatic A g J": "", "get A b I": "", "put A g J": "", "get A c I": "", "put A e J": "", "putstatic A k @String": "", "get B p I": "",
	} {
		cs := told("class A Object"+fields+nMethod+" / method m ()V static stack 3 locals 0 / "+access+" / return"+strings.Replace(nMethod, " n ", " o ", 1), "class B A / field o I static / field p I / field q I static")
		u := unitTold("I J J I", nInUnit, "()V 0 / "+want+" / return", nInUnit)
		if want == "" {
			u = unitTold("I J J I", nInUnit, nInUnit)
		}
		takenIs(t, access, cs, u)
	}
}

func TestUnitOfMethods(t *testing.T) {
	for method, want := range map[string]string{
		"m ()V static": "()V 0", "m ()V static final": "()V 0", "m ()V static private": "()V 0", "m ()V static final private": "()V 0",
		"m ()V": "", "m ()V private": "", "m ()V final": "", "m ()V static sync": "", "m ()V sync": "", "m ()V static private sync": "", "new ()V": "", "new (I)V private": "",
		"m (I,J,J,I,J,J,J,I)J static": "(I,J,J,I,J,J,J,I)J 0", "m ()I static": "()I 0", "m (D)V static": "", "m ()D static": "", "m (I,@A)I static": "", "m ()@A static": "", "m ([I)V static": "", "m ()[J static": "", "m (J,J,J,J,J,J,J,D)V static": "",
		"main ()V static": "()V 0", "run ()V static": "()V 0", "g0 ()V static": "()V 0",
	} {
		places := len(impl.Params(words(method)[1]))
		if !strings.Contains(method, "static") {
			places++
		}
		text := fmt.Sprintf("class A Object%s%s / method %s stack 3 locals %d / return%s", oneField, nMethod, method, places, strings.Replace(nMethod, " n ", " o ", 1))
		u := unitTold("I", nInUnit, nInUnit)
		if want != "" {
			u = unitTold("I", nInUnit, fmt.Sprintf("%s %d / return", words(want)[0], places), nInUnit)
		}
		takenIs(t, method, told(text), u)
	}
	const more = " / method a ()V static native / method b ()V abstract / method c ()I static sync native / method d ()I native"
	takenIs(t, "native and abstract ones", told("class A Object abstract"+oneField+more+nMethod), unitTold("I", nInUnit))
	for _, handler := range []string{"handler 0 1 0 *", "handler 1 2 1 ArithError"} {
		takenIs(t, handler, told("class A Object / method m ()V static stack 1 locals 0 / goto 0 / goto 0 / "+handler+nMethod), unitTold("", nInUnit))
	}
	for _, instruction := range otherInstructions() {
		takenIs(t, instruction, told("class A Object / method m ()V static stack 3 locals 1 / return"+strings.Repeat(" / goto 0", 6)+" / "+instruction+nMethod), unitTold("", nInUnit))
	}
}

func TestUnitOfCalls(t *testing.T) {
	const methods = " / method v ()V stack 0 locals 1 / return / method s ()V static sync stack 0 locals 0 / return / method s (I)V static stack 0 locals 1 / return / method s (J)I static stack 0 locals 1 / return / method s (D)V static stack 0 locals 1 / return / method nat ()V static native / method print (I)V static native / method p ()V static private stack 0 locals 0 / return"
	const inUnit = "(I)V 1 / return; (J)I 1 / return; ()V 0 / return"
	for call, want := range map[string]string{
		"static A s (I)V": "call 0", "static A s (J)I": "call 1", "static A p ()V": "call 2", "static A m ()V": "call 3",
		// What is no function of the class.
		"static A s ()V": "", "static A s (D)V": "", "static A nat ()V": "", "static A print (I)V": "", "static A s (I)I": "", "static A nope ()V": "", "static B s (I)V": "", "static B b ()V": "", "static Nope s (I)V": "", "static Object s (I)V": "",
		// Other kinds of calls.
		"virtual A v ()V": "", "special A v ()V": "", "interface I v ()V": "", "static A v ()V": "", "virtual A s (I)V": "", "special A s (I)V": "", "interface A s (J)I": "", "special A p ()V": "", "virtual A m ()V": "", "special Object new ()V": "", "virtual Object hash ()I": "",
		// Printing.
		"static System print (I)V": "call -1", "static System print (J)V": "call -2", "static System print (D)V": "", "static System print (@String)V": "", "static System print ()V": "", "static System print (I)I": "", "static System s (I)V": "", "virtual System print (I)V": "", "special System print (J)V": "", "static String print (I)V": "",
	} {
		cs := told("class A Object"+methods+" / method m ()V static stack 3 locals 0 / return / call "+call, "class B A / method b ()V static stack 0 locals 0 / return", ifaceI)
		funcs := strings.Split(inUnit, "; ")
		if want != "" {
			funcs = append(funcs, "()V 0 / return / "+want)
		}
		takenIs(t, call, cs, unitTold("", funcs...))
	}
}

// callers makes a class whose methods a, b and so on call those that are told for each; one that is told as ! has an instruction besides that no unit has.
func callers(rows ...string) []impl.Class {
	text := "class A Object"
	for k, row := range rows {
		text += fmt.Sprintf(" / method %c ()V static stack 1 locals 0", 'a'+k)
		for _, c := range row {
			if c == '!' {
				text += " / null / pop"
			} else {
				text += fmt.Sprintf(" / call static A %c ()V", c)
			}
		}
		text += " / return"
	}
	return told(text)
}

// called is what a unit is to take of such a class: the rows that are left, with numbers for letters.
func called(rows ...string) impl.Unit {
	funcs := []string{}
	for _, row := range rows {
		f := "()V 0"
		for _, c := range row {
			f += fmt.Sprintf(" / call %c", c)
		}
		funcs = append(funcs, f+" / return")
	}
	return unitTold("", funcs...)
}

func TestUnitOfRowsAndRings(t *testing.T) {
	takenIs(t, "one that calls itself", callers("a"), called("0"))
	takenIs(t, "one that calls itself, and is none", callers("a!"), impl.Unit{})
	takenIs(t, "a row", callers("b", "c", "d", ""), called("1", "2", "3", ""))
	takenIs(t, "a row that ends in none", callers("b", "c", "d", "!"), impl.Unit{})
	takenIs(t, "a row that ends in none, upwards", callers("!", "a", "b", "c"), impl.Unit{})
	takenIs(t, "a row that is broken within", callers("b", "c", "d!", "e", ""), called("1", ""))
	takenIs(t, "a row that is broken within, upwards", callers("", "a", "b!", "c", "bba"), called("", "0", "110"))
	takenIs(t, "two rows", callers("cx", "d", "e", "f", "!", ""), called("1", "2", ""))
	takenIs(t, "a ring", callers("b", "c", "a"), called("1", "2", "0"))
	takenIs(t, "a ring, one of which is none", callers("b", "c!", "a"), impl.Unit{})
	takenIs(t, "a ring that leads to none", callers("b", "c", "ad", "e", "!"), impl.Unit{})
	takenIs(t, "a ring to which one leads that is none", callers("b!", "c", "d", "b"), called("1", "2", "0"))
	takenIs(t, "two rings", callers("b", "a", "d", "c!", "ab", "ca"), called("1", "0", "01"))
	takenIs(t, "two rings, one of which leads to the other", callers("b", "ac", "d", "c"), called("1", "02", "3", "2"))
	takenIs(t, "two rings, one of which leads to the other, which is none", callers("b", "ac", "d", "c!", "e"), called("0"))
	takenIs(t, "all call all", callers("abcd", "abcd", "abcd", "abcd"), called("0123", "0123", "0123", "0123"))
	takenIs(t, "all call all, and one is none", callers("abcd", "abcd", "abcd!", "abcd"), impl.Unit{})
	// The longest row.
	funcs := []string{}
	for k := range impl.MaxMany - 1 {
		funcs = append(funcs, fmt.Sprintf("()V 0 / call %d / return", k+1))
	}
	takenIs(t, "the longest row", told(callersRow("return")), unitTold("", append(funcs, "()V 0 / return")...))
	takenIs(t, "the longest row, which ends in none", told(callersRow("null / return")), impl.Unit{})
}

// callersRow is a class of the most methods, each of which calls the next; the last one has this code.
func callersRow(last string) string {
	text := "class A Object"
	for k := range impl.MaxMany - 1 {
		text += fmt.Sprintf(" / method m%d ()V static stack 1 locals 0 / call static A m%d ()V / return", k, k+1)
	}
	return text + fmt.Sprintf(" / method m%d ()V static stack 1 locals 0 / %s", impl.MaxMany-1, last)
}
