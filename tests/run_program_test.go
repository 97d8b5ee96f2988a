package tests

import (
	"fmt"
	"slices"
	"strings"

	"loop.example/g00032/impl"
)

// Programs of any form, with threads, locks, classes that begin and things that are thrown: made statement by statement, so that all are right.

// scribe writes the code of one method. A local has always values of one type, and is told by a word; those that are used have a place, and a first value.
type scribe struct {
	*builder
	base     int
	lines    []string
	handlers []string
	places   []string
	labels   int
	room     int
	depth    int
	busy     bool
	calm     bool
}

// firstCode gives what a local begins with; its type is that of what is stored there later.
func firstCode(local string) string {
	switch local[0] {
	case 'i':
		return "const I 1 / store I"
	case 'j':
		return "const J 5 / store J"
	case 'd':
		return "const D 3p-1 / store D"
	}
	return map[string]string{"a1": "getstatic S p @A", "o1": "getstatic S o @Object", "t1": "getstatic S t @T", "s1": `text "xyz"`, "ai": "const I 3 / newarray I", "aa": "const I 3 / newarray @A", "bb": "const I 3 / newarray @B", "e1": "null"}[local] + " / store R"
}

func (s *scribe) place(local string) string {
	k := slices.Index(s.places, local)
	if k < 0 {
		k = len(s.places)
		s.places = append(s.places, local)
	}
	return fmt.Sprint(s.base + k)
}

func (s *scribe) add(code ...string) {
	for _, c := range code {
		for _, line := range strings.Split(c, " / ") {
			s.lines = append(s.lines, line)
			s.room--
		}
	}
}

func (s *scribe) label() string {
	s.labels++
	return fmt.Sprint("l", s.labels)
}

func (s *scribe) mark(label string) { s.lines = append(s.lines, label+":") }

func (s *scribe) load(local string) string {
	k := map[byte]string{'i': "I", 'j': "J", 'd': "D"}[local[0]]
	if k == "" {
		k = "R"
	}
	return "load " + k + " " + s.place(local)
}

func (s *scribe) store(local string) string {
	return "store" + strings.TrimPrefix(s.load(local), "load")
}

// whole32 is code that leaves an int.
func (s *scribe) whole(depth int) string {
	if depth <= 0 {
		return s.pick("const I 0", "const I 1", "const I 2", "const I -3", "const I 7", "const I 2147483647", "const I -2147483648", s.load("i1"), s.load("i2"), "getstatic S n I", "getstatic S m I")
	}
	a, b := s.whole(depth-1), s.whole(depth-2)
	switch s.below(16) {
	case 0, 1, 2:
		return a + " / " + b + " / " + s.pick("add I", "sub I", "mul I", "xor I", "shl I", "ushr I", "and I")
	case 3:
		return a + " / " + b + " / " + s.pick("div I", "rem I")
	case 4:
		return s.object(depth-1) + " / get A x I"
	case 5:
		return a + " / call static " + s.pick("A st", "B st", "M helper", "A ss") + " (I)I"
	case 6:
		if s.below(4) == 0 {
			return s.object(depth-1) + " / cast @B / " + a + " / call virtual B " + s.pick("v", "sy", "pr", "d") + " (I)I"
		}
		return s.object(depth-1) + " / " + a + " / call " + s.pick("virtual A v", "virtual A sy", "interface I d", "interface I im", "virtual A v") + " (I)I"
	case 7:
		return s.anything(depth-1) + " / call virtual Object hash ()I"
	case 8:
		return s.load("ai") + " / " + s.pick("length", b+" / aload I")
	case 9:
		return s.anything(depth-1) + " / is " + s.pick("@A", "@B", "@I", "[I", "@String", "[@A", "@Nope", "@Error")
	case 10:
		return s.text(depth-1) + " / " + s.pick("call virtual String length ()I", b+" / call virtual String at (I)I", s.anything(depth-1)+" / call virtual String same (@Object)I")
	case 11:
		return s.thread() + " / call virtual Thread stopped ()I"
	case 12:
		return s.pick("getstatic A g I", "getstatic B g I", "getstatic B h I", "getstatic I c I", "getstatic K k I", "getstatic K k I", "getstatic L k I", "getstatic Q q I", "getstatic C h I")
	case 13:
		return s.load("j1") + " / " + s.pick("conv J I", "const J 7 / cmp J", "const J 3 / mul J / dup / conv J I / swap / pop")
	case 14:
		return s.load("d1") + " / " + s.pick("conv D I", "const D nan / cmp D 1", "const D 1p0 / div D / conv D I")
	}
	return s.whole(0)
}

// object is code that leaves an A, or null.
func (s *scribe) object(depth int) string {
	if depth <= 0 {
		return s.pick(s.load("a1"), s.load("a1"), s.load("a1"), "getstatic S p @A", "getstatic S p @A", "getstatic S p @A", "null", s.fresh(), s.fresh())
	}
	switch s.below(6) {
	case 0:
		return s.object(depth-1) + " / get A y @A"
	case 1:
		return s.load("aa") + " / " + s.whole(depth-1) + " / aload R"
	case 2:
		return s.anything(depth-1) + " / cast " + s.pick("@A", "@A", "@B")
	}
	return s.object(0)
}

func (s *scribe) fresh() string { return made(s.pick("A", "B", "C")) }

func (s *scribe) text(depth int) string {
	if depth <= 0 || s.below(3) == 0 {
		return s.pick(`text "ab"`, `text ""`, `text "abcdefgh"`, s.load("s1"), s.load("s1"), "getstatic S s @String")
	}
	if s.below(2) == 0 {
		return s.text(depth-1) + " / " + s.whole(0) + " / " + s.pick("const I 2", s.whole(0)) + " / call virtual String part (I,I)@String"
	}
	return s.text(depth-1) + " / " + s.text(0) + " / call virtual String join (@String)@String"
}

func (s *scribe) thread() string {
	return s.pick(s.load("t1"), "getstatic S t @T", "getstatic S u @T", "getstatic S t @T", "getstatic S u @T", "getstatic S u @T")
}

// monitor is code that leaves an object that other threads may have, too.
func (s *scribe) monitor() string {
	return s.pick("getstatic S o @Object", "getstatic S o @Object", "getstatic S p @A", "getstatic S t @T", s.load("o1"))
}

func (s *scribe) anything(depth int) string {
	switch s.below(7) {
	case 0:
		return s.object(depth)
	case 1:
		return s.text(depth)
	case 2:
		return s.thread()
	case 3:
		return s.load("aa")
	case 4:
		return s.load("ai")
	}
	return s.pick(s.load("o1"), s.monitor(), s.load("e1"))
}

// statement writes one; it may hold others.
func (s *scribe) statement() {
	if s.room < 30 {
		return
	}
	s.depth++
	defer func() { s.depth-- }()
	if s.busy && s.below(3) == 0 {
		s.meet()
		return
	}
	pick := s.below(30)
	if s.calm && pick >= 14 && pick <= 21 {
		pick = 0
	}
	switch pick {
	case 0, 1, 2:
		s.add(s.whole(2), printI)
	case 3, 4:
		s.add(s.whole(2), s.store(s.pick("i1", "i2")))
	case 5:
		s.add(s.whole(2), s.pick("putstatic S n I", "putstatic S m I", "putstatic A g I", "putstatic B h I", "putstatic K k I"))
	case 6:
		s.add(s.object(1), s.pick(s.whole(1)+" / put A x I", s.object(1)+" / put A y @A"))
	case 7:
		s.add(s.object(2), s.pick(s.store("a1"), "putstatic S p @A"))
	case 8:
		s.add(s.anything(1), s.pick(s.store("o1"), s.store("o1"), "putstatic S o @Object"))
	case 9:
		s.branch()
	case 10:
		s.loop()
	case 11, 12, 13:
		s.try()
	case 14:
		s.add(s.pick(thrown("X"), thrown("StopError"), s.load("e1")+" / throw", "null / throw"))
	case 15, 16:
		s.begin()
	case 17:
		s.add(s.thread(), "call virtual Thread "+s.pick("join", "join", "stop", "stop", "begin")+" ()V")
	case 18, 19:
		s.locked()
	case 20:
		s.add(s.monitor(), "call virtual Object "+s.pick("wait", "notify", "wake")+" ()V")
	case 21:
		s.add(s.monitor(), s.pick("enter", "exit"))
	case 22, 28:
		s.arrays()
	case 23:
		s.add(s.text(2), s.pick(printS, s.store("s1"), "putstatic S s @String"))
	case 24:
		s.add(s.pick("new K / pop", "new L / pop", "new I / pop", "new Nope / pop", "getstatic Nope n I / pop", "call static A none ()V", "const I 1 / putstatic I c I", "call static Z z ()V", "new Q / pop"))
	case 25:
		s.choice()
	case 26:
		s.add("const J 3", s.load("j1"), "mul J", s.store("j1"), s.load("j1"), printJ)
	case 27:
		s.add(s.load("d1"), "const D 3p-1", "mul D", s.store("d1"), s.load("d1"), printD)
	default:
		s.add(s.whole(3), "pop")
	}
}

func (s *scribe) some(n int) {
	for range n {
		s.statement()
	}
}

func (s *scribe) branch() {
	other, end := s.label(), s.label()
	s.add(s.whole(1), "if "+s.pick("eq", "ne", "lt", "ge", "gt", "le")+" "+other)
	s.some(1 + s.below(2))
	s.add("goto " + end)
	s.mark(other)
	s.some(s.below(2))
	s.mark(end)
}

func (s *scribe) loop() {
	counter := fmt.Sprint("in", s.depth)
	again := s.label()
	s.add("const I 0", s.store(counter))
	s.mark(again)
	s.some(1 + s.below(2))
	s.add("inc "+s.place(counter)+" 1", s.load(counter), fmt.Sprint("const I ", 1+s.below(4)), "ifint lt "+again)
}

func (s *scribe) try() {
	if len(s.handlers) > 17 {
		return
	}
	from, at, end := s.label(), s.label(), s.label()
	s.mark(from)
	s.add(s.pick("const I 9 / pop", "getstatic S n I / pop"))
	s.some(1 + s.below(3))
	s.add("goto " + end)
	s.mark(at)
	s.add(s.store("e1"))
	if s.below(3) == 0 {
		s.add(s.load("e1"), "call virtual Object hash ()I", printI)
	}
	s.mark(end)
	typ := s.pick("*", "*", "*", "*", "*", "*", "Error", "Error", "Throwable", "NullError", "X", "StopError", "InitError", "LinkError", "StateError")
	if s.calm && s.below(8) > 0 {
		typ = "*"
	}
	s.handlers = append(s.handlers, fmt.Sprintf("handler %s %s %s %s", from, at, at, typ))
}

func (s *scribe) begin() {
	s.add(made(s.pick("T", "T", "U", "U", "V", "W")), s.store("t1"))
	s.add(s.load("t1"), s.pick("putstatic S t @T", "putstatic S t @T", "putstatic S u @T"))
	s.add(s.load("t1"), "call virtual Thread begin ()V")
}

// meet is what threads do with each other.
func (s *scribe) meet() {
	o := s.pick("getstatic S o @Object", "getstatic S o @Object", "getstatic S p @A")
	with := func(call string) string {
		return o + " / enter / " + o + " / call virtual Object " + call + " ()V / " + o + " / exit"
	}
	switch s.below(9) {
	case 0, 1:
		s.add(with("wait"))
	case 2:
		s.add(with("notify"))
	case 3:
		s.add(with("wake"))
	case 4, 5:
		s.add(s.thread(), "call virtual Thread stop ()V")
	case 6:
		s.add(s.thread(), "call virtual Thread join ()V")
	case 7:
		s.begin()
	default:
		s.add(o, "enter", o, "call virtual Object "+s.pick("notify", "wake")+" ()V")
		s.some(1)
		s.add(o, "exit")
	}
}

// locked enters and exits, mostly the same object, with something between.
func (s *scribe) locked() {
	o := s.monitor()
	s.add(o, "enter")
	if s.below(2) == 0 {
		s.add(o, "call virtual Object "+s.pick("wait", "notify", "wake", "notify")+" ()V")
	}
	s.some(s.below(3))
	s.add(o, "exit")
}

func (s *scribe) arrays() {
	switch s.below(4) {
	case 0:
		s.add(s.pick("const I 3", "const I 3", s.whole(1)), "newarray I", s.store("ai"))
	case 1:
		s.add("const I 3", "newarray "+s.pick("@A", "@B", "@A"), s.store("aa"))
	case 2:
		s.add(s.load("ai"), s.pick("const I 1", s.whole(1)), s.whole(1), "astore I")
	default:
		s.add(s.load(s.pick("aa", "bb", "bb")), s.pick("const I 1", "const I 1", s.whole(0)), s.object(1), "astore R")
	}
}

func (s *scribe) choice() {
	a, b, end := s.label(), s.label(), s.label()
	s.add(s.whole(1), fmt.Sprintf("switch %s %s %s %s %s", s.pick("0", "-1", "2147483647", "-2147483648"), a, b, end, a))
	s.mark(a)
	s.some(1)
	s.mark(b)
	s.some(1)
	s.mark(end)
}

// scribed gives a method, a calm one without meetings of threads: head is its line without stack and locals, base tells how many locals a call fills, first and last are what it does ahead of its statements and behind them.
func (b *builder) scribed(calm bool, head string, base, size int, first, last string) string {
	s := &scribe{builder: b, base: base, room: 260, calm: calm, busy: !calm && slices.Contains(words("main run start"), words(head)[0])}
	if first != "" {
		s.add(first)
	}
	for range size {
		if b.below(20) > 0 {
			s.try()
		} else {
			s.statement()
		}
	}
	if last == "return I" {
		s.add(s.load("i1"))
	}
	s.add(last)
	out := " / method " + head + fmt.Sprintf(" stack 14 locals %d", base+len(s.places))
	for k, local := range s.places {
		out += " / " + firstCode(local) + fmt.Sprint(" ", base+k)
	}
	return out + " / " + strings.Join(append(s.lines, s.handlers...), " / ")
}

// setUp is what main does first: all that is shared is there, and two threads are.
func (b *builder) setUp() string {
	keep := func(class, field string) string { return made(class) + " / putstatic S " + field }
	begin := func(field string) string { return "getstatic S " + field + " @T / call virtual Thread begin ()V" }
	out := []string{keep("Object", "o @Object"), keep("A", "p @A"), keep(b.pick("T", "U"), "t @T"), keep(b.pick("T", "U", "V"), "u @T"), `text "s" / putstatic S s @String`}
	for _, field := range []string{"t", "u"} {
		if b.below(6) > 0 {
			out = append(out, begin(field))
		}
	}
	return strings.Join(out, " / ")
}

// program has the classes that the statements speak of. M.main is where it begins.
func (b *builder) program() []impl.Class {
	calm := b.below(3) == 0
	start := func(n int) string {
		if b.below(n) > 0 {
			return ""
		}
		return b.scribed(calm, "start ()V static", 0, 1+b.below(3), "", "return")
	}
	code := func(head string, base int) string {
		if b.below(2) == 0 {
			return " / method " + head + fmt.Sprintf(" stack 2 locals %d / load I %d / const I 1 / add I / return I", base, base-1)
		}
		return b.scribed(calm, head, base, 1+b.below(2), "", "return I")
	}
	run := func(first string) string {
		if calm || b.below(2) == 0 {
			first = ""
		}
		return b.scribed(calm, "run ()V"+b.pick("", "", " sync"), 1, 2+b.below(5), first, "return")
	}
	return told(
		"class S Object / field n I static / field m I static / field o @Object static / field p @A static / field t @T static / field u @T static / field s @String static"+start(9),
		"class A Object / implements I / field x I / field y @A / field g I static"+makesSuper("Object")+code("v (I)I", 2)+code("sy (I)I sync", 2)+code("st (I)I static", 1)+code("ss (I)I static sync", 1)+code("im (I)I", 2)+start(3),
		"class B A / field z J / field h I static"+makesSuper("A")+code("v (I)I sync", 2)+code("pr (I)I private", 2)+start(3), "class C B"+makesSuper("B")+code("sy (I)I", 2)+start(5),
		"class I Object abstract interface / field c I static final / method im (I)I abstract"+code("d (I)I", 2)+start(3),
		"class X Error / method new (@String)V stack 2 locals 2 / load R 0 / load R 1 / call special Error new (@String)V / return",
		"class K Object / field k I static"+b.scribed(calm, "start ()V static", 0, 1+b.below(2), "", b.pick("return", "null / throw")), "class L K"+start(2), "class Q Object / field q I static"+start(1),
		"class Z Object / method z ()V static native",
		"class T Thread"+makesSuper("Thread")+run(lines(enterO, waitO, exitO)), "class U T"+makesSuper("T")+run("getstatic S t @T / call virtual Thread stop ()V"), "class V T"+makesSuper("T")+b.pick("", " / method run ()V native", " / method run ()V private stack 0 locals 1 / return"), "class Y T abstract"+makesSuper("T")+" / method run ()V abstract", "class W Y"+makesSuper("Y"),
		"class M Object"+code("helper (I)I static", 1)+b.scribed(calm, "main ()I static"+b.pick("", "", "", " sync"), 0, 6+b.below(8), b.setUp(), "return I"),
	)
}
