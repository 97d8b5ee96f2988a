package tests

import (
	"fmt"
	"maps"
	"slices"
	"strconv"
	"strings"
	"testing"

	"loop.example/g00032/impl"
)

// Chapter 8 worked out once more, with the instructions of chapter 7's second working out.

// inference has the states that instructions have, those that wait, and how often each was gone through.
type inference struct {
	reviewer
	states  map[int64]situation
	waiting map[int64]bool
	turns   map[int64]int
}

func (f *inference) come(at int64, now situation) int64 {
	has, known := f.states[at]
	if !known {
		f.states[at], f.waiting[at] = now.copied(), true
		return 0
	}
	if len(has.stack) != len(now.stack) {
		return 6
	}
	next := situation{}
	for k := range has.locals {
		next.locals = append(next.locals, f.w.joinShapes(has.locals[k], now.locals[k]))
	}
	for k := range has.stack {
		next.stack = append(next.stack, f.w.joinShapes(has.stack[k], now.stack[k]))
	}
	if next.String() != has.String() {
		f.states[at], f.waiting[at] = next, true
	}
	return 0
}

// turn goes on from one instruction, and gives its fault.
func (f *inference) turn(at int64) int64 {
	now := f.states[at].copied()
	f.turns[at]++
	for _, h := range f.m.Handlers {
		if at < h.From || at >= h.To {
			continue
		}
		typ := h.Type
		if typ == "" {
			typ = "Throwable"
		}
		if !f.w.has(typ) || !f.w.isAbove(typ, "Throwable") {
			return 2
		}
		if f.m.Stack == 0 {
			return 3
		}
		if code := f.come(h.At, situation{now.locals, []string{"@" + typ}}); code != 0 {
			return code
		}
	}
	next, code := f.step(int(at), now)
	if code != 0 {
		return code
	}
	targets, goes := jumpsOf(f.m.Code[at])
	for _, target := range targets {
		if code := f.come(target, next); code != 0 {
			return code
		}
	}
	if goes && int(at) == len(f.m.Code)-1 {
		return 5
	}
	if goes {
		return f.come(at+1, next)
	}
	return 0
}

func (f *inference) frames() []impl.Frame {
	out := []impl.Frame{}
	for _, at := range slices.Sorted(maps.Keys(f.states)) {
		asked := false
		for other := range f.states {
			targets, _ := jumpsOf(f.m.Code[other])
			asked = asked || slices.Contains(targets, at)
			for _, h := range f.m.Handlers {
				asked = asked || h.At == at && h.From <= other && other < h.To
			}
		}
		if asked {
			out = append(out, impl.Frame{At: at, Locals: f.states[at].locals, Stack: f.states[at].stack})
		}
	}
	return out
}

// inferred gives what the second working out says of the method, and how it came to that.
func (r reviewer) inferred() (impl.Inferred, *inference) {
	f := &inference{r, map[int64]situation{0: r.start()}, map[int64]bool{0: true}, map[int64]int{}}
	for len(f.waiting) > 0 {
		at := slices.Min(slices.Collect(maps.Keys(f.waiting)))
		delete(f.waiting, at)
		if code := f.turn(at); code != 0 {
			return impl.Inferred{Code: code, At: at}, f
		}
	}
	return impl.Inferred{Frames: f.frames()}, f
}

// tally counts what the methods of a test come to.
type tally struct {
	codes, places, turns map[int64]int
	frames, useless      int
	unreached            int
	bothTake, onlyFinder int
}

func newTally() *tally {
	return &tally{codes: map[int64]int{}, places: map[int64]int{}, turns: map[int64]int{}}
}

func (c *tally) add(got impl.Inferred, f *inference) {
	c.codes[got.Code]++
	c.places[got.At]++
	most := 0
	for _, n := range f.turns {
		most = max(most, n)
	}
	c.turns[int64(most)]++
	c.frames += len(got.Frames)
	for _, frame := range got.Frames {
		if slices.Contains(frame.Stack, "-") {
			c.useless++
		}
	}
	if len(f.states) < len(f.m.Code) {
		c.unreached++
	}
}

// testInferred holds the program against the second working out, and against promise 5, for the method m of cs[0].
func (g *walker) testInferred(t *testing.T, cs []impl.Class, m impl.Method, c *tally) {
	t.Helper()
	g.m = m
	cs[0].Methods = []impl.Method{m}
	if !impl.SpaceOk(cs) {
		t.Fatalf("no space: %+v", m)
	}
	want, f := g.inferred()
	got := impl.Infer(cs, cs[0].Name, m.Name, m.Sig)
	if !alike(got, want) {
		t.Fatalf("%s is %v, not %v", impl.PrintClass(cs[0]), got, want)
	}
	c.add(got, f)
	checked := impl.Check(cs, cs[0].Name, m.Name, m.Sig)
	if checked.Code == impl.VerOk && got.Code != impl.VerOk {
		t.Fatalf("%s: the checker takes it, the finder says %v", impl.PrintClass(cs[0]), got)
	}
	again := impl.WithFrames(cs)
	m.Frames = want.Frames
	if len(again) != len(cs) || !alike(again[0].Methods, []impl.Method{m}) {
		t.Fatalf("%s with frames is %+v", impl.PrintClass(cs[0]), again)
	}
	if got.Code != impl.VerOk {
		return
	}
	if checked.Code == impl.VerOk {
		c.bothTake++
	} else {
		c.onlyFinder++
	}
	if found := impl.Infer(again, cs[0].Name, m.Name, m.Sig); !alike(found, got) {
		t.Fatalf("%s: again it is %v", impl.PrintClass(again[0]), found)
	}
	if v := impl.Check(again, cs[0].Name, m.Name, m.Sig); len(f.states) == len(m.Code) && v.Code != impl.VerOk {
		t.Fatalf("%s: the checker says %v", impl.PrintClass(again[0]), v)
	}
}

// enough says that each code, many places, frames of all sorts and unreached instructions came up.
func (c *tally) enough(t *testing.T, codes []int64, least, places int) {
	t.Helper()
	for _, code := range codes {
		if c.codes[code] < least {
			t.Errorf("only %d methods come to %d: %v", c.codes[code], code, c.codes)
		}
	}
	for n := range int64(places) {
		if c.places[n] < 20 {
			t.Errorf("only %d faults at %d", c.places[n], n)
		}
	}
	for what, n := range map[string]int{"frames": c.frames, "frames with - on the stack": c.useless, "with unreached code": c.unreached, "taken by both": c.bothTake, "taken by the finder alone": c.onlyFinder} {
		if n < least {
			t.Errorf("only %d %s", n, what)
		}
	}
}

func TestAnyMethodIsInferred(t *testing.T) {
	t.Parallel()
	owners := []string{"class B A", "class B A / implements J", "class B E", "class B Object", "class B Error"}
	c := newTally()
	for k, owner := range owners {
		b := builder{numbers{state: uint64(2000 + k)}}
		cs := checkSpace(owner)
		g := walker{builder: &b, reviewer: reviewer{w: newWorld(cs), owner: cs[0]}, all: candidates()}
		for range 300 {
			m := g.anyMethod()
			for range 6 {
				g.testInferred(t, cs, m, c)
				m = g.disturbed(m)
			}
		}
	}
	c.enough(t, []int64{impl.VerOk, impl.VerFrame, impl.VerStack, impl.VerShape, impl.VerFall, impl.VerMerge}, 150, 14)
}

// phrase gives a few instructions that leave as many shapes on the stack as there are (height of them), with a * for each target.
func (b *builder) phrase(height, locals int) string {
	place := func() string { return strconv.Itoa(b.below(locals)) }
	switch b.below(16) {
	case 0, 1:
		return "const I 0 / if eq *"
	case 2:
		return "load R " + place() + " / ifnull ne *"
	case 3:
		return b.pick("goto *", "const I 0 / switch 0 * *", "const I 0 / switch -1 * * *")
	case 4:
		return "null / store R " + place()
	case 5:
		return "load R " + place() + " / cast " + b.pick("@A", "@B", "@C", "@E", "@I", "[@B", "[I", "@X", "@Nope") + " / store R " + place()
	case 6:
		return b.pick("const I 1 / store I 0", "const J 0 / store J 1", "new A / store R "+place(), "load R 2 / call special A new ()V", "load R 0 / call virtual A v ()V", "load R 1 / const I 0 / aload R / store R "+place(), "return", "null / throw", "inc 0 1", "pop", "null")
	case 7, 8:
		if height == 2 {
			return b.pick("swap", "swap / pop / load R "+place(), "pop / load R "+place())
		}
		fallthrough
	case 9:
		if height > 0 {
			return b.pick("pop / load R "+place(), "dup / store R "+place(), "pop / const I 0", "pop / new A")
		}
	}
	return "load R " + place() + " / store R " + place()
}

// drifting is a method that moves objects about between its locals and its stack, in loops of many turns.
func (b *builder) drifting() impl.Method {
	types := []string{}
	for range 3 + b.below(5) {
		types = append(types, b.pick("@A", "@B", "@C", "@E", "@I", "@X", "@NullError", "[@B", "[@C", "@Object", "[[@C"))
	}
	height, locals := b.below(3), len(types)+b.below(2)
	phrases := slices.Repeat([]string{"null"}, height)
	for range 4 + b.below(12) {
		phrases = append(phrases, b.phrase(height, len(types)))
	}
	phrases = append(phrases, b.pick("return", "goto *", "goto *", "null / throw", "inc 0 1"))
	starts, at := []int{}, 0
	for k, p := range phrases {
		if k >= height {
			starts = append(starts, at)
		}
		at += 1 + strings.Count(p, " / ")
	}
	target := func() string { return strconv.Itoa(starts[b.below(len(starts))]) }
	text := strings.Join(phrases, " / ")
	for strings.Contains(text, "*") {
		text = strings.Replace(text, "*", target(), 1)
	}
	handlers := 0
	if height == 1 || b.below(20) == 0 {
		handlers = b.below(4)
	}
	for range handlers {
		from := b.below(at)
		text += fmt.Sprintf(" / handler %d %d %s %s", from, from+1+b.below(at-from), target(), b.pick("*", "X", "Error", "NullError", "X"))
	}
	stack := height + 2
	if b.below(12) == 0 {
		stack = b.below(stack)
	}
	return told(fmt.Sprintf("class B A / method m (%s)V static stack %d locals %d / %s", strings.Join(types, ","), stack, locals, text))[0].Methods[0]
}

func TestAnyLoopIsInferred(t *testing.T) {
	t.Parallel()
	b := builder{numbers{state: 31}}
	c := newTally()
	cs := checkSpace("class B A")
	g := walker{builder: &b, reviewer: reviewer{w: newWorld(cs), owner: cs[0]}, all: candidates()}
	for range 4000 {
		g.testInferred(t, cs, b.drifting(), c)
	}
	c.enough(t, []int64{impl.VerOk, impl.VerStack, impl.VerShape, impl.VerMerge}, 30, 20)
	for n := range int64(5) {
		if c.turns[n+1] < 20 {
			t.Errorf("only %d methods need %d turns: %v", c.turns[n+1], n+1, c.turns)
		}
	}
}

// InferAll and WithFrames tell what Infer tells, method by method; and what the checker takes of a whole space the finder takes.
func TestAllOfAnyInferred(t *testing.T) {
	t.Parallel()
	b := builder{numbers{state: 78}}
	cs := checkSpace("class B A")
	g := walker{builder: &b, reviewer: reviewer{w: newWorld(cs), owner: cs[0]}, all: candidates()}
	wrong, found := 0, 0
	for range 60 {
		want := []impl.Failure{}
		for k := range cs {
			if cs[k].Flags != 0 {
				continue
			}
			g.owner, cs[k].Methods = cs[k], nil
			for j := range b.below(4) {
				m := g.disturbed(g.anyMethod())
				if m.Name != "new" || j > 0 { // no two of one class, nor of classes above each other
					m.Name += cs[k].Name + strconv.Itoa(j)
				}
				if g.m = m; b.below(3) == 0 && m.Name != "new" {
					m = bare(m.Name, m.Sig, impl.FlagNative)
				} else if v, _ := g.inferred(); v.Code != impl.VerOk {
					want = append(want, failure(cs[k].Name, m.Name, m.Sig, v.Code, v.At))
				}
				cs[k].Methods = append(cs[k].Methods, m)
			}
		}
		faultsOf(t, "all", cs)
		same(t, "all", impl.InferAll(cs), want)
		wrong += len(want)
		again := impl.WithFrames(cs)
		same(t, "with frames", impl.InferAll(again), want)
		same(t, "with frames twice", impl.WithFrames(again), again)
		for k, c := range cs {
			for j, m := range c.Methods {
				frames := impl.Infer(cs, c.Name, m.Name, m.Sig).Frames
				m.Frames = frames
				same(t, c.Name+" "+m.Name, again[k].Methods[j], m)
				found += len(frames)
			}
			c.Methods, again[k].Methods = nil, nil
			same(t, "beside the methods", again[k], c)
		}
		checked := impl.CheckAll(cs)
		for _, f := range want {
			if !slices.ContainsFunc(checked, func(c impl.Failure) bool { return c.Class == f.Class && c.Name == f.Name && c.Sig == f.Sig }) {
				t.Errorf("the checker takes what the finder refuses: %v", f)
			}
		}
	}
	if wrong < 30 || found < 100 {
		t.Errorf("only %d are wrong, and %d frames", wrong, found)
	}
}
