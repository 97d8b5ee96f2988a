package tests

import (
	"fmt"
	"slices"
	"strings"

	"loop.example/g00032/impl"
)

// Units of any form, made statement by statement, so that all are right.

// unitScribe writes the code of one function of a unit. A local has always numbers of one kind; places are their kinds, by number, those of the parameters first.
type unitScribe struct {
	*builder
	globals []string
	sigs    []string
	sig     string
	places  []string
	lines   []string
	labels  int
	room    int
	height  int
}

func (s *unitScribe) add(lines ...string) {
	s.lines = append(s.lines, lines...)
	s.room -= len(lines)
}

func (s *unitScribe) label() string {
	s.labels++
	return fmt.Sprint("l", s.labels)
}

func (s *unitScribe) mark(label string) { s.lines = append(s.lines, label+":") }

// one picks a place or a global of a kind; it says no where there is none.
func (s *unitScribe) one(kinds []string, kind string) (int, bool) {
	all := []int{}
	for k, x := range kinds {
		if x == kind {
			all = append(all, k)
		}
	}
	if len(all) == 0 {
		return 0, false
	}
	return all[s.below(len(all))], true
}

func (s *unitScribe) fresh(kind string) int {
	s.places = append(s.places, kind)
	return len(s.places) - 1
}

func (s *unitScribe) constant(kind string) string {
	if s.below(6) == 0 {
		return fmt.Sprint("const ", kind, " ", s.numberOf(impl.KindOf(kind)))
	}
	return "const " + kind + " " + s.pick("0", "1", "-1", "2", "3", "7", "-5", "10", "31", "100")
}

// number is code that leaves a number of a kind. The height is what lies beneath it.
func (s *unitScribe) number(kind string, depth int) {
	if depth <= 0 || s.room < 30 || s.height > 25 {
		s.leaf(kind)
		return
	}
	switch s.below(12) {
	case 0, 1, 2, 3:
		s.number(kind, depth-1)
		s.beneath(kind, depth-2)
		s.add(s.pick("add", "add", "sub", "mul", "and", "or", "xor", "div", "rem") + " " + kind)
	case 4:
		s.number(kind, depth-1)
		s.beneath("I", depth-2)
		s.add(s.pick("shl", "shr", "ushr") + " " + kind)
	case 5:
		s.number(kind, depth-1)
		s.add("neg " + kind)
	case 6:
		s.converted(kind, depth)
	case 7:
		s.either(kind, depth)
	case 8, 9:
		s.called(kind, depth)
	case 10:
		s.juggled(kind, depth)
	default:
		s.leaf(kind)
	}
}

// beneath is a number that lies on another one.
func (s *unitScribe) beneath(kind string, depth int) {
	s.height++
	s.number(kind, depth)
	s.height--
}

func (s *unitScribe) leaf(kind string) {
	if k, ok := s.one(s.globals, kind); ok && s.below(4) == 0 {
		s.add(fmt.Sprint("get ", k))
	} else if k, ok := s.one(s.places, kind); ok && s.below(4) > 0 {
		s.add(fmt.Sprint("load ", kind, " ", k))
	} else {
		s.add(s.constant(kind))
	}
}

func (s *unitScribe) converted(kind string, depth int) {
	switch s.below(3) {
	case 0:
		if kind == "I" {
			s.number("I", depth-1)
			s.add("conv I " + s.pick("B", "C", "S"))
			return
		}
		fallthrough
	case 1:
		if kind == "J" {
			s.number("I", depth-1)
			s.add("conv I J")
			return
		}
		s.number("J", depth-1)
		s.add("conv J I")
	default:
		s.number("J", depth-1)
		s.beneath("J", depth-1)
		s.add("cmp J")
		if kind == "J" {
			s.add("conv I J")
		}
	}
}

// condition jumps somewhere, or goes on.
func (s *unitScribe) condition(to string, depth int) {
	x := s.pick("eq", "ne", "lt", "ge", "gt", "le")
	s.number("I", depth)
	if s.below(2) == 0 {
		s.add("if " + x + " " + to)
		return
	}
	s.beneath("I", depth-1)
	s.add("ifint " + x + " " + to)
}

// either is one of two numbers, with what lies beneath them on both ways.
func (s *unitScribe) either(kind string, depth int) {
	other, end := s.label(), s.label()
	s.condition(other, depth-1)
	s.number(kind, depth-2)
	s.add("goto " + end)
	s.mark(other)
	s.number(kind, depth-2)
	s.mark(end)
}

func (s *unitScribe) called(kind string, depth int) {
	results := []string{}
	for _, sig := range s.sigs {
		results = append(results, impl.Result(sig))
	}
	k, ok := s.one(results, kind)
	if !ok {
		s.leaf(kind)
		return
	}
	s.call(k, depth)
}

func (s *unitScribe) call(k, depth int) {
	params := impl.Params(s.sigs[k])
	for _, kind := range params {
		s.number(kind, depth-2)
		s.height++
	}
	s.height -= len(params)
	s.add(fmt.Sprint("call ", k))
}

func (s *unitScribe) juggled(kind string, depth int) {
	s.number(kind, depth-1)
	switch s.below(4) {
	case 0:
		s.add("dup", s.pick("add", "sub", "xor")+" "+kind)
	case 1:
		s.beneath(kind, depth-2)
		s.add("swap", "sub "+kind)
	case 2:
		s.beneath(kind, depth-2)
		s.add("under", "sub "+kind, "add "+kind)
	default:
		s.beneath("J", depth-2)
		s.add("pop")
	}
}

func (s *unitScribe) statement(depth int) {
	kind := s.pick("I", "J")
	switch s.below(14) {
	case 0, 1, 2, 3:
		if k, ok := s.one(s.places, kind); ok {
			s.number(kind, 3)
			s.add(fmt.Sprint("store ", kind, " ", k))
		}
	case 4:
		if k, ok := s.one(s.places, "I"); ok {
			s.add(fmt.Sprint("inc ", k, " ", s.pick("1", "-1", "5", "-32768", "32767")))
		}
	case 5, 6:
		if k, ok := s.one(s.globals, kind); ok {
			s.number(kind, 3)
			s.add(fmt.Sprint("put ", k))
		}
	case 7, 8:
		s.number(kind, 2)
		s.add(map[string]string{"I": "call -1", "J": "call -2"}[kind])
	case 9:
		k := s.below(len(s.sigs))
		s.call(k, 3)
		if impl.Result(s.sigs[k]) != "V" {
			s.add("pop")
		}
	case 10, 11:
		s.branch(depth)
	case 12:
		s.loop(depth)
	default:
		s.choice(depth)
	}
}

func (s *unitScribe) some(n, depth int) {
	for range n {
		if s.room > 60 && depth > 0 {
			s.statement(depth)
		}
	}
}

func (s *unitScribe) branch(depth int) {
	other, end := s.label(), s.label()
	s.condition(other, 2)
	s.some(1+s.below(2), depth-1)
	if s.below(8) == 0 {
		s.leave()
	} else {
		s.add("goto " + end)
	}
	s.mark(other)
	s.some(s.below(2), depth-1)
	s.mark(end)
}

// loop goes round a few times, or has nothing that ends it.
func (s *unitScribe) loop(depth int) {
	if len(s.places) > 30 {
		return
	}
	again := s.label()
	counter := len(s.places)
	s.places = append(s.places, "counter")
	s.add("const I "+s.pick("2", "3", "5", "9"), fmt.Sprint("store I ", counter))
	s.mark(again)
	s.some(1+s.below(3), depth-1)
	if s.below(12) > 0 {
		s.add(fmt.Sprint("inc ", counter, " -1"))
	}
	s.add(fmt.Sprint("load I ", counter), "if gt "+again)
}

func (s *unitScribe) choice(depth int) {
	labels := []string{}
	for range 2 + s.below(4) {
		labels = append(labels, s.label())
	}
	s.number("I", 2)
	s.add("switch " + s.pick("0", "-1", "-2", "1", "2147483647", "-2147483648") + " " + strings.Join(labels, " ") + " " + labels[0])
	slices.Sort(labels)
	for _, label := range labels {
		s.mark(label)
		s.some(s.below(2), depth-1)
	}
}

func (s *unitScribe) leave() {
	result := impl.Result(s.sig)
	if result == "V" {
		s.add("return")
		return
	}
	s.number(result, 2)
	s.add("return " + result)
}

func (s *unitScribe) function(statements int) string {
	s.places = impl.Params(s.sig)
	for range s.below(4) {
		kind := s.pick("I", "J")
		s.add(s.constant(kind))
		s.add(fmt.Sprint("store ", kind, " ", s.fresh(kind)))
	}
	s.some(statements, 3)
	s.leave()
	return fmt.Sprintf("%s %d / %s", s.sig, len(s.places)+s.below(2), strings.Join(s.lines, " / "))
}

// unit makes one of some functions, which call each other, and themselves.
func (b *builder) unit() impl.Unit {
	globals, funcs := b.unitTexts()
	return unitTold(globals, funcs...)
}

// unitTexts has more functions behind those that are made, which call them, too.
func (b *builder) unitTexts(more ...string) (string, []string) {
	globals, sigs, funcs := []string{}, []string{}, []string{}
	for range b.below(5) {
		globals = append(globals, b.pick("I", "J"))
	}
	for range 1 + b.below(4) {
		sigs = append(sigs, "("+strings.Join(words(b.pick("", "I", "J", "I I", "I J", "J I J")), ",")+")"+b.pick("I", "J", "I", "J", "V"))
	}
	made := len(sigs)
	for _, f := range more {
		sigs = append(sigs, words(f)[0])
	}
	for _, sig := range sigs[:made] {
		s := &unitScribe{builder: b, globals: globals, sigs: sigs, sig: sig, room: 330}
		funcs = append(funcs, s.function(1+b.below(7)))
	}
	return strings.Join(globals, " "), append(funcs, more...)
}
