package tests

import (
	"fmt"
	"math"
	"strings"
	"testing"

	"loop.example/g00032/impl"
)

// resolveClasses have members of every sort. E stands beside the others.
func resolveClasses() map[string]string {
	return map[string]string{
		"A": "class A Object / field a I / field s J static / field p D private / field q D static private / field f I final / field g J static final / field h I final private / field k I static final private / field v I volatile" +
			" / method vm ()V stack 0 locals 1 / return / method sm ()V static stack 0 locals 0 / return / method pm ()V private stack 0 locals 1 / return / method ps ()V static private stack 0 locals 0 / return" +
			" / method fm ()V final stack 0 locals 1 / return / method nm ()V native / method new ()V stack 1 locals 1 / load R 0 / call special Object new ()V / return / method new (D)V private stack 0 locals 2 / return",
		"B": "class B A / field a J / field own @B / method vm ()V stack 0 locals 1 / return / method pm (I)V stack 0 locals 2 / return",
		"C": "class C B abstract / implements J / method am ()V abstract / method both ()V abstract",
		"D": "class D C / field s I",
		"E": "class E Object",
		"I": "class I Object abstract interface / field c I static final / method im ()V abstract / method dm ()V stack 0 locals 1 / return / method is ()V static stack 0 locals 0 / return / method ip ()V private stack 0 locals 1 / return",
		"J": "class J Object abstract interface / implements I / field d @J static final / method jm (I)V abstract",
	}
}

// resolving gives the classes, with a method in one of them that has an instruction; it stands at 1.
func resolving(owner, method, ins string) []impl.Class {
	sigs := map[string]string{"m": "m (@Nope)I static stack 4 locals 4", "w": "w (@Nope)I stack 4 locals 4", "new": "new (@Nope)V stack 4 locals 4", "start": "start ()V static stack 4 locals 4"}
	texts := []string{}
	for _, name := range words("A B C D E I J") {
		text := resolveClasses()[name]
		if name == owner {
			text += " / method " + sigs[method] + " / goto 0 / " + ins
		}
		texts = append(texts, text)
	}
	return told(texts...)
}

func sigOf(method string) string {
	return map[string]string{"m": "(@Nope)I", "w": "(@Nope)I", "new": "(@Nope)V", "start": "()V"}[method]
}

// resolves wants rows of the places, by class and method, an instruction and the class that it means: - where it is wrong, nothing where it means none.
func resolves(t *testing.T, rows ...string) {
	t.Helper()
	for _, row := range rows {
		places, rest, _ := strings.Cut(row, ": ")
		ins, want, _ := strings.Cut(rest, " =")
		want = strings.TrimSpace(want)
		for _, place := range words(places) {
			owner, method, _ := strings.Cut(place, ".")
			cs := resolving(owner, method, ins)
			class, ok := impl.Resolve(cs, owner, method, sigOf(method), 1)
			if ok != (want != "-") || ok && class != want || !ok && class != "" {
				t.Errorf("%s in %s means %q, %v, not %q", ins, place, class, ok, want)
			}
		}
	}
}

const allPlaces = "A.m A.w A.new A.start B.m B.new B.start E.m E.w I.m I.w I.start D.new"

func TestResolveNew(t *testing.T) {
	for _, class := range words("A B D E Object String Throwable NullError Thread System") {
		resolves(t, allPlaces+": new "+class+" = "+class)
	}
	for _, class := range words("C I J Nope a AA M") {
		resolves(t, allPlaces+": new "+class+" = -")
	}
}

func TestResolveFields(t *testing.T) {
	for _, word := range words("get put") {
		resolves(t,
			allPlaces+": "+word+" A a I = A", allPlaces+": "+word+" B a J = B", allPlaces+": "+word+" D a J = B", allPlaces+": "+word+" B v I = A", allPlaces+": "+word+" D v I = A", allPlaces+": "+word+" C own @B = B",
			allPlaces+": "+word+" Throwable message @String = Throwable", allPlaces+": "+word+" StopError message @String = Throwable", allPlaces+": "+word+"static A s J = A", allPlaces+": "+word+"static C s J = A", allPlaces+": "+word+" D s I = D",
			// None, of another class, or of another Type.
			allPlaces+": "+word+" A none I = -", allPlaces+": "+word+" A own @B = -", allPlaces+": "+word+" Nope a I = -", allPlaces+": "+word+" Object a I = -", allPlaces+": "+word+" A a J = -", allPlaces+": "+word+" B a I = -", allPlaces+": "+word+" A a [I = -",
			allPlaces+": "+word+" C own @A = -", allPlaces+": "+word+"static A none I = -", allPlaces+": "+word+"static Nope s J = -", allPlaces+": "+word+"static A s I = -", allPlaces+": "+word+"static A s @A = -",
			// Static or not.
			allPlaces+": "+word+" A s J = -", allPlaces+": "+word+"static A a I = -", allPlaces+": "+word+"static Throwable message @String = -", allPlaces+": "+word+"static D s I = -", allPlaces+": "+word+"static D s J = -", allPlaces+": "+word+" I c I = -", allPlaces+": "+word+" C d @J = -",
			// Private.
			"A.m A.w A.new A.start: "+word+" A p D = A", "A.m: "+word+" B p D = A", "A.m: "+word+" D p D = A", "A.m A.w A.new A.start: "+word+"static A q D = A", "A.new: "+word+"static D q D = A",
			"B.m B.new B.start E.m I.w D.new: "+word+" A p D = -", "B.m B.new: "+word+" B p D = -", "B.m B.new B.start E.m E.w I.m: "+word+"static A q D = -", "B.m: "+word+"static B q D = -",
		)
	}
	// Final ones are got anywhere.
	resolves(t, allPlaces+": get A f I = A", allPlaces+": get D f I = A", allPlaces+": getstatic A g J = A", allPlaces+": getstatic B g J = A", allPlaces+": getstatic I c I = I", allPlaces+": getstatic J c I = I", allPlaces+": getstatic D c I = I", allPlaces+": getstatic D d @J = J", "A.w: get A h I = A", "E.w: get A h I = -")
	// They are put where they belong alone.
	resolves(t, "A.new: put A f I = A", "A.new: put B f I = A", "A.m A.w A.start B.m B.new B.start E.m I.w I.start D.new: put A f I = -", "B.new: put B f I = -", "A.new: put A h I = A", "A.w A.start B.new: put A h I = -")
	resolves(t, "A.start: putstatic A g J = A", "A.start: putstatic C g J = A", "A.m A.w A.new B.m B.new B.start E.m I.start D.new: putstatic A g J = -", "B.start: putstatic B g J = -", "A.start: putstatic A k I = A", "A.new B.start: putstatic A k I = -")
	resolves(t, "I.start: putstatic I c I = I", "I.start: putstatic J c I = I", "I.start: putstatic D c I = I", "J.start: putstatic J d @J = J", "A.start A.new B.start I.m I.w J.start: putstatic I c I = -", "I.start: putstatic J d @J = -", "I.start: putstatic I c J = -")
}

func TestResolveCalls(t *testing.T) {
	resolves(t,
		allPlaces+": call static A sm ()V = A", allPlaces+": call static D sm ()V = A", allPlaces+": call static I is ()V = I", allPlaces+": call static System print (I)V = System", allPlaces+": call static System print (@String)V = System",
		allPlaces+": call virtual A vm ()V = A", allPlaces+": call virtual B vm ()V = B", allPlaces+": call virtual D vm ()V = B", allPlaces+": call virtual A fm ()V = A", allPlaces+": call virtual B nm ()V = A", allPlaces+": call virtual A hash ()I = Object", allPlaces+": call virtual Thread run ()V = Thread",
		allPlaces+": call virtual String join (@String)@String = String", allPlaces+": call virtual C am ()V = C", allPlaces+": call virtual D am ()V = C", allPlaces+": call virtual D im ()V = I", allPlaces+": call virtual C dm ()V = I", allPlaces+": call virtual B pm (I)V = B",
		allPlaces+": call interface I im ()V = I", allPlaces+": call interface J im ()V = I", allPlaces+": call interface J jm (I)V = J", allPlaces+": call interface J dm ()V = I", allPlaces+": call interface I hash ()I = Object",
		allPlaces+": call special A vm ()V = A", allPlaces+": call special B vm ()V = B", allPlaces+": call special D vm ()V = B", allPlaces+": call special I dm ()V = I", allPlaces+": call special J dm ()V = I", allPlaces+": call special D dm ()V = I", allPlaces+": call special A nm ()V = A", allPlaces+": call special Object hash ()I = Object",
		allPlaces+": call special A new ()V = A", allPlaces+": call special Object new ()V = Object", allPlaces+": call special SizeError new (@String)V = SizeError",
		// None of that name and signature.
		allPlaces+": call static A none ()V = -", allPlaces+": call virtual A vm (I)V = -", allPlaces+": call virtual A vm ()I = -", allPlaces+": call virtual E vm ()V = -", allPlaces+": call virtual Nope vm ()V = -", allPlaces+": call static Nope sm ()V = -", allPlaces+": call interface Nope im ()V = -", allPlaces+": call special Nope new ()V = -",
		allPlaces+": call special E new ()V = -", allPlaces+": call special String new ()V = -", allPlaces+": call special D new ()V = -", allPlaces+": call static D is ()V = -", allPlaces+": call interface I jm (I)V = -", allPlaces+": call special A new (J)V = -", allPlaces+": call static System print (@Object)V = -",
		// Static or not.
		allPlaces+": call virtual A sm ()V = -", allPlaces+": call special A sm ()V = -", allPlaces+": call interface I is ()V = -", allPlaces+": call static A vm ()V = -", allPlaces+": call static I dm ()V = -", allPlaces+": call static A new ()V = -", allPlaces+": call virtual System print (I)V = -",
		// Interfaces and others.
		allPlaces+": call virtual I im ()V = -", allPlaces+": call virtual J dm ()V = -", allPlaces+": call virtual I hash ()I = -", allPlaces+": call interface A vm ()V = -", allPlaces+": call interface D im ()V = -", allPlaces+": call interface Object hash ()I = -",
		// Abstract ones are not called by CallSpecial.
		allPlaces+": call special C am ()V = -", allPlaces+": call special D am ()V = -", allPlaces+": call special I im ()V = -", allPlaces+": call special D im ()V = -", allPlaces+": call special J jm (I)V = -",
		// Private ones.
		"A.m A.w A.new A.start: call virtual A pm ()V = A", "A.m: call virtual B pm ()V = A", "A.m: call special A pm ()V = A", "A.w: call special D pm ()V = A", "A.m A.start: call static A ps ()V = A", "A.m: call static D ps ()V = A", "A.new A.m: call special A new (D)V = A",
		"B.m B.new E.w I.m D.new: call virtual A pm ()V = -", "B.m: call virtual B pm ()V = -", "B.new: call special A pm ()V = -", "B.m B.start E.m I.start: call static A ps ()V = -", "B.new E.m: call special A new (D)V = -",
		"I.m I.w I.start: call interface I ip ()V = I", "I.w: call special I ip ()V = I", "A.m J.m J.start: call interface I ip ()V = -", "I.m: call interface J ip ()V = -", "I.w: call virtual I ip ()V = -",
	)
}

func TestResolveTypes(t *testing.T) {
	for _, word := range words("cast is") {
		for _, class := range words("A C D I Object String Error Thread System") {
			for _, dims := range words("@ [@ [[@ [[[[@") {
				resolves(t, allPlaces+": "+word+" "+dims+class+" = "+class)
			}
		}
		for _, typ := range words("[I [J [D [[I [[[[D") {
			resolves(t, allPlaces+": "+word+" "+typ+" =")
		}
		for _, typ := range words("@Nope [@Nope [[[[@Nope @I.I @M [@AA") {
			resolves(t, allPlaces+": "+word+" "+typ+" = -")
		}
	}
}

// All other instructions mean no class, whatever they have.
func TestResolveOthers(t *testing.T) {
	for _, i := range append(shownInstructions(), shownMembers()...) {
		w := words(i.text)
		switch w[0] {
		case "get", "getstatic", "put", "putstatic", "call", "new", "cast", "is":
			continue
		}
		c := told("class A Object / method m ()V static stack 1 locals 40 / goto 0")[0]
		c.Methods[0].Code = append(c.Methods[0].Code, i.ins)
		for len(c.Methods[0].Code) < impl.MaxCode {
			c.Methods[0].Code = append(c.Methods[0].Code, returns())
		}
		class, ok := impl.Resolve([]impl.Class{c}, "A", "m", "()V", 1)
		if class != "" || !ok {
			t.Errorf("%s means %q, %v", i.text, class, ok)
		}
	}
	resolves(t, allPlaces+": newarray @Nope =", allPlaces+": newarray [@C =", allPlaces+": text \"Nope\" =", allPlaces+": return =", allPlaces+": throw =", allPlaces+": enter =")
}

func unresolved(t *testing.T, why string, cs []impl.Class, class, name, sig string, at int64) {
	t.Helper()
	if got, ok := impl.Resolve(cs, class, name, sig, at); got != "" || ok {
		t.Errorf("%s: %s %s %s %d means %q, %v", why, class, name, sig, at, got, ok)
	}
}

func TestResolvePlaces(t *testing.T) {
	cs := resolving("A", "m", "new B / null / cast @Nope / cast [@C / return")
	want := []struct {
		class string
		ok    bool
	}{{"", true}, {"B", true}, {"", true}, {"", false}, {"C", true}, {"", true}}
	for at, w := range want {
		if class, ok := impl.Resolve(cs, "A", "m", "(@Nope)I", int64(at)); class != w.class || ok != w.ok {
			t.Errorf("at %d: %q, %v", at, class, ok)
		}
	}
	for _, at := range []int64{math.MinInt64, -2, -1, 6, 7, 400, 1 << 32, math.MaxInt64} {
		unresolved(t, "no such instruction", cs, "A", "m", "(@Nope)I", at)
	}
	for _, class := range []string{"", "Nope", "@A", "B", "Object", "System"} {
		unresolved(t, "no such method", cs, class, "m", "(@Nope)I", 0)
	}
	for _, member := range [][2]string{{"", "(@Nope)I"}, {"m", ""}, {"m", "()V"}, {"M", "(@Nope)I"}, {"w", "(@Nope)I"}, {"hash", "()I"}, {"nm", "()V"}} {
		unresolved(t, "no such method", cs, "A", member[0], member[1], 0)
	}
	unresolved(t, "a method above is not its own", cs, "D", "vm", "()V", 0)
	unresolved(t, "no code", cs, "C", "am", "()V", 0)
	unresolved(t, "no code", cs, "System", "print", "(I)V", 0)
	// Boot's methods are there with any space.
	for _, cs := range [][]impl.Class{nil, cs} {
		for at, class := range []string{"", "Object", "", "", "Throwable", ""} {
			if got, ok := impl.Resolve(cs, "Throwable", "new", "(@String)V", int64(at)); got != class || !ok {
				t.Errorf("Throwable's new, at %d: %q, %v", at, got, ok)
			}
		}
		unresolved(t, "behind its end", cs, "Throwable", "new", "(@String)V", 6)
		if got, ok := impl.Resolve(cs, "Thread", "run", "()V", 0); got != "" || !ok {
			t.Errorf("Thread's run: %q, %v", got, ok)
		}
	}
	for why, cs := range brokenSpaces() {
		unresolved(t, why, cs, "A", "good", "()V", 0)
		unresolved(t, why, cs, "Throwable", "new", "(@String)V", 1)
	}
	for why, cs := range wrongSpaces() {
		cs = append(told("class Q Object"+goodMethod), cs...)
		unresolved(t, why, cs, "Q", "good", "()V", 0)
		unresolved(t, why, cs, "Object", "new", "()V", 0)
	}
	// It need not be right: verifiers are not asked.
	wrong := told("class A Object / method m ()V static stack 0 locals 0 / pop / new A")
	if got, ok := impl.Resolve(wrong, "A", "m", "()V", 1); got != "A" || !ok {
		t.Errorf("in wrong code: %q, %v", got, ok)
	}
}

func TestInitOrder(t *testing.T) {
	const start = " / method start ()V static stack 0 locals 0 / return"
	cs := told("class C B"+start, "class A Object", "class B A / implements J"+start, "class D A / implements I J", "class I Object abstract interface"+start, "class J Object abstract interface / implements I", "class X StopError"+start, "class Y X", "class T Thread", "class F Object final / field s I static", "class G C abstract")
	for _, row := range []string{
		"A : A", "B : A B", "C : A B C", "D : A D", "I : I", "J : J", "X : X", "Y : X Y", "T : T", "F : F", "G : A B C G",
		"Object :", "String :", "Throwable :", "Error :", "StopError :", "Thread :", "System :", "Nope :", "@A :", "[A :", "a :",
	} {
		name, want, _ := strings.Cut(row, " :")
		same(t, "to use "+name, impl.InitOrder(cs, name), words(want))
	}
	same(t, "to use nothing", impl.InitOrder(cs, ""), nil)
	same(t, "of no classes", impl.InitOrder(nil, "A"), nil)
	same(t, "of no classes", impl.InitOrder(nil, "Error"), nil)
	names := manyNames(impl.MaxClasses)
	same(t, "a tower", impl.InitOrder(towerOf(), names[59]), names)
	same(t, "half a tower", impl.InitOrder(towerOf(), names[30]), names[:31])
	same(t, "one class too many", impl.InitOrder(append(towerOf(), told("class A Object")...), names[59]), nil)
	for why, cs := range brokenSpaces() {
		for _, name := range words("A B C Error") {
			same(t, why, impl.InitOrder(cs, name), nil)
		}
	}
	for why, cs := range wrongSpaces() {
		same(t, why, impl.InitOrder(append(told("class Q Object"), cs...), "Q"), nil)
	}
}

// caughtBy wants the lines of handlers, with / between.
func caughtBy(t *testing.T, cs []impl.Class, handlers string, at int64, class string, want int64) {
	t.Helper()
	m := impl.Method{}
	for _, line := range strings.Split(handlers, " / ") {
		h := impl.Handler{}
		fmt.Sscan(line, &h.From, &h.To, &h.At, &h.Type)
		if h.Type == "*" {
			h.Type = ""
		}
		m.Handlers = append(m.Handlers, h)
	}
	if got := impl.Caught(cs, m, at, class); got != want {
		t.Errorf("%s: %s at %d is caught by %d, not %d", handlers, class, at, got, want)
	}
}

func TestCaught(t *testing.T) {
	cs := told("class X Error / implements I", "class Y X", "class Z Error", "class I Object abstract interface", "class J Object abstract interface", "class A Object")
	const all = "0 9 1 Y / 0 9 1 X / 0 9 1 I / 0 9 1 Error / 0 9 1 Throwable / 0 9 1 Object / 0 9 1 *"
	for class, want := range map[string]int64{"Y": 0, "X": 1, "I": 2, "Z": 3, "Error": 3, "NullError": 3, "Throwable": 4, "Object": 5, "A": 5, "String": 5, "J": 5, "Nope": 6, "": 6, "*": 6, "@Y": 6} {
		caughtBy(t, cs, all, 4, class, want)
	}
	// The first one counts, also where a later one is nearer.
	caughtBy(t, cs, "0 9 1 Error / 0 9 1 Y / 0 9 1 *", 4, "Y", 0)
	caughtBy(t, cs, "0 9 1 * / 0 9 1 Y", 4, "Y", 0)
	caughtBy(t, cs, "0 9 1 Z / 0 9 1 J / 0 9 1 I", 4, "Y", 2)
	caughtBy(t, cs, "0 9 1 Z / 0 9 1 J", 4, "Y", -1)
	caughtBy(t, cs, "0 9 1 Nope / 0 9 1 A", 4, "Y", -1)
	caughtBy(t, cs, "0 9 1 Nope", 4, "Nope", -1)
	caughtBy(t, cs, "0 9 1 Y", 4, "X", -1)
	// From and To.
	for at, want := range map[int64]int64{math.MinInt64: -1, -1: -1, 0: -1, 1: -1, 2: 0, 3: 0, 4: 0, 5: 1, 6: 1, 7: -1, 8: 2, 9: -1, 400: -1, math.MaxInt64: -1} {
		caughtBy(t, cs, "2 5 1 X / 4 7 0 X / 8 9 8 *", at, "X", want)
	}
	caughtBy(t, cs, "5 5 1 *", 5, "X", -1)
	caughtBy(t, cs, "6 2 1 *", 4, "X", -1)
	caughtBy(t, cs, "-9223372036854775808 9223372036854775807 1 *", 4, "X", 0)
	caughtBy(t, cs, "-9223372036854775808 9223372036854775807 1 *", math.MaxInt64, "X", -1)
	if got := impl.Caught(cs, impl.Method{}, 0, "X"); got != -1 {
		t.Errorf("without handlers: %d", got)
	}
	// A list that is no space is as good as an empty one; one with faults is a space.
	for why, cs := range wrongSpaces() {
		cs = append(told("class Q Error"), cs...)
		caughtBy(t, cs, "0 9 1 Error", 4, "Q", -1)
		caughtBy(t, cs, "0 9 1 Q", 4, "Q", -1)
		caughtBy(t, cs, "0 9 1 Q / 0 9 1 *", 4, "Q", 1)
		caughtBy(t, cs, "0 9 1 Error / 0 9 1 *", 4, "NullError", 0)
		if t.Failed() {
			t.Fatal(why)
		}
	}
	caughtBy(t, nil, "0 9 1 StateError / 0 9 1 Error", 4, "NullError", 1)
	faulty := told("class B C", "class C B", "class D C / implements Nope")
	caughtBy(t, faulty, "0 9 1 D / 0 9 1 C / 0 9 1 *", 4, "B", 1)
	caughtBy(t, faulty, "0 9 1 Error / 0 9 1 B / 0 9 1 *", 4, "D", 1)
}
