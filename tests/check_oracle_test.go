package tests

import (
	"maps"
	"slices"
	"strconv"
	"strings"
	"testing"

	"loop.example/g00032/impl"
)

// Chapter 7 worked out once more, by the words of instructions: what each takes and lays is a row of words, as in effects.

type reviewer struct {
	w     world
	owner impl.Class
	m     impl.Method
}

func (s situation) copied() situation {
	return situation{slices.Clone(s.locals), slices.Clone(s.stack)}
}

func (r reviewer) start() situation {
	locals := words(strings.NewReplacer("(", "", ",", " ").Replace(r.m.Sig[:strings.Index(r.m.Sig, ")")]))
	if r.m.Flags&1 == 0 {
		this := "@" + r.owner.Name
		if r.m.Name == "new" && r.owner.Name != "Object" {
			this = "!!"
		}
		locals = append([]string{this}, locals...)
	}
	for len(locals) < int(r.m.Locals) {
		locals = append(locals, "-")
	}
	return situation{locals: locals}
}

// rowOf gives the words of what an instruction takes and lays; of those that do more, what is left for this.
func (r reviewer) rowOf(i impl.Ins) (takes, lays string) {
	w := words(impl.ShowIns(i))
	k := w[len(w)-1]
	switch w[0] {
	case "const":
		return "", w[1]
	case "text":
		return "", "@String"
	case "null":
		return "", "0"
	case "pop":
		return "any", ""
	case "dup":
		return "any", "1 1"
	case "swap":
		return "any any", "1 2"
	case "under":
		return "any any", "1 2 1"
	case "neg":
		return k, k
	case "shl", "shr", "ushr":
		return "I " + k, k
	case "cmp":
		return w[1] + " " + w[1], "I"
	case "conv":
		return w[1], map[string]string{"I": "I", "J": "J", "D": "D", "B": "I", "C": "I", "S": "I"}[w[2]]
	case "if", "switch":
		return "I", ""
	case "ifint":
		return "I I", ""
	case "ifsame":
		return "whole whole", ""
	case "ifnull", "enter", "exit":
		return "whole", ""
	case "get":
		return "@" + w[1], k
	case "getstatic":
		return "", k
	case "put":
		return k + " @" + w[1], ""
	case "putstatic":
		return k, ""
	case "newarray":
		return "I", "[" + k
	case "length":
		return "array", "I"
	case "aload":
		return "I array" + k, map[string]string{"I": "I", "J": "J", "D": "D", "R": "element"}[k]
	case "astore":
		return map[string]string{"I": "I", "J": "J", "D": "D", "R": "whole"}[k] + " I array" + k, ""
	case "cast":
		return "whole", k
	case "is":
		return "whole", "I"
	case "throw":
		return "@Throwable", ""
	case "call":
		return r.rowOfCall(w)
	case "add", "sub", "mul", "div", "rem", "and", "or", "xor":
		return k + " " + k, k
	}
	return "", ""
}

func (r reviewer) rowOfCall(w []string) (takes, lays string) {
	params, result, _ := strings.Cut(strings.TrimPrefix(w[4], "("), ")")
	list := strings.Split(params, ",")
	slices.Reverse(list)
	takes = strings.Join(list, " ")
	switch {
	case w[1] == "special" && w[3] == "new":
		takes += " any"
	case w[1] == "special":
		takes += " @" + r.owner.Name
	case w[1] != "static":
		takes += " @" + w[2]
	}
	if result == "V" {
		result = ""
	}
	return takes, result
}

// step gives the state behind instruction n, or its fault.
func (r reviewer) step(n int, before situation) (situation, int64) {
	i := r.m.Code[n]
	s := before.copied()
	building := r.m.Name == "new" && r.owner.Name != "Object"
	takes, lays := r.rowOf(i)
	w := words(impl.ShowIns(i))
	kept := func(shape string) bool {
		unfinished := strings.HasPrefix(shape, "!")
		return w[1] == "R" && (unfinished || wholeShape(shape)) || w[1] != "R" && shape == w[1]
	}
	switch w[0] {
	case "load":
		if lays = s.locals[i.A]; !kept(lays) {
			return s, 4
		}
	case "store":
		takes = "any"
	case "inc":
		if s.locals[i.A] != "I" {
			return s, 4
		}
	case "new":
		if lays = "!" + strconv.Itoa(n); slices.Contains(s.stack, lays) {
			return s, 4
		}
		s = s.replaced(lays, "-")
	case "call":
		if w[3] == "start" || w[3] == "new" && w[1] != "special" {
			return s, 4
		}
	case "return":
		result := r.m.Sig[strings.Index(r.m.Sig, ")")+1:]
		kind := map[byte]string{'I': "I", 'J': "J", 'D': "D", '@': "R", '[': "R"}[result[0]]
		if strings.Join(w[1:], "") != kind {
			return s, 4
		}
		if kind != "" {
			takes = result
		}
	}
	taken := []string{}
	for _, word := range words(takes) {
		if len(s.stack) == 0 {
			return s, 3
		}
		top := s.stack[len(s.stack)-1]
		s.stack = s.stack[:len(s.stack)-1]
		if !r.w.takes(word, top) {
			return s, 4
		}
		taken = append(taken, top)
	}
	switch {
	case w[0] == "store":
		if !kept(taken[0]) || building && i.A == 0 {
			return s, 4
		}
		s.locals[i.A] = taken[0]
	case w[0] == "return" && building && s.locals[0] != "@"+r.owner.Name:
		return s, 4
	case w[0] == "call" && w[1] == "special":
		to := r.wholeBy(w, taken[len(taken)-1])
		if to == "" {
			return s, 4
		}
		s = s.replaced(taken[len(taken)-1], to)
	}
	for _, shape := range (effect{lays: words(lays)}).laid(taken) {
		if len(s.stack) == int(r.m.Stack) {
			return s, 3
		}
		s.stack = append(s.stack, shape)
	}
	return s, 0
}

// wholeBy gives what an object becomes by a special call: itself, but for new; nothing where the call is wrong.
func (r reviewer) wholeBy(w []string, object string) string {
	if w[3] != "new" {
		if r.w.isAbove(r.owner.Name, w[2]) {
			return object
		}
		return ""
	}
	for n, i := range r.m.Code {
		if object == "!"+strconv.Itoa(n) && i.Op == impl.OpNew && i.Class == w[2] {
			return "@" + w[2]
		}
	}
	if object == "!!" && r.m.Name == "new" && (w[2] == r.owner.Name || w[2] == r.owner.Super) {
		return "@" + r.owner.Name
	}
	return ""
}

func (s situation) replaced(shape, to string) situation {
	for _, list := range [][]string{s.locals, s.stack} {
		for k := range list {
			if list[k] == shape && shape != to {
				list[k] = to
			}
		}
	}
	return s
}

func (r reviewer) fits(s, frame situation) bool {
	if len(s.stack) != len(frame.stack) {
		return false
	}
	all, other := append(slices.Clone(s.locals), s.stack...), append(slices.Clone(frame.locals), frame.stack...)
	for k := range all {
		if !r.w.shapeFits(all[k], other[k]) {
			return false
		}
	}
	return true
}

// jumpsOf gives the targets of an instruction, and whether it goes on.
func jumpsOf(i impl.Ins) ([]int64, bool) {
	switch i.Op {
	case 25:
		return []int64{i.A}, false
	case 26, 27, 28, 29:
		return []int64{i.A}, true
	case 30:
		return append([]int64{i.A}, i.Table...), false
	}
	return nil, i.Op != 41 && i.Op != 44
}

func (r reviewer) caught(h impl.Handler, s situation, frames map[int64]situation) bool {
	typ := h.Type
	if typ == "" {
		typ = "Throwable"
	}
	f, ok := frames[h.At]
	return ok && r.w.has(typ) && r.w.isAbove(typ, "Throwable") && r.fits(situation{s.locals, []string{"@" + typ}}, f)
}

func (r reviewer) verdict() impl.Verdict {
	frames := map[int64]situation{}
	for _, f := range r.m.Frames {
		frames[f.At] = situation{f.Locals, f.Stack}
	}
	s, known := r.start(), true
	for k, i := range r.m.Code {
		n := int64(k)
		f, told := frames[n]
		if told && known && !r.fits(s, f) || !told && !known {
			return impl.Verdict{Code: 2, At: n}
		}
		if told {
			s = f.copied()
		}
		for _, h := range r.m.Handlers {
			if h.From <= n && n < h.To && !r.caught(h, s, frames) {
				return impl.Verdict{Code: 2, At: n}
			}
		}
		next, code := r.step(k, s)
		if code != 0 {
			return impl.Verdict{Code: code, At: n}
		}
		var targets []int64
		targets, known = jumpsOf(i)
		for _, target := range targets {
			if f, told := frames[target]; !told || !r.fits(next, f) {
				return impl.Verdict{Code: 2, At: n}
			}
		}
		s = next
	}
	if known {
		return impl.Verdict{Code: 5, At: int64(len(r.m.Code) - 1)}
	}
	return impl.Verdict{}
}

// candidates are instructions of all sorts, with targets yet to be told.
func candidates() []impl.Ins {
	lines := []string{}
	for _, e := range effects() {
		lines = append(lines, e.ins)
	}
	for _, k := range words("I J D R R R R") {
		for _, place := range words("0 1 2 3") {
			lines = append(lines, "load "+k+" "+place, "store "+k+" "+place)
		}
	}
	for range 4 {
		lines = append(lines, "inc 0 1", "inc 2 -1", "new A", "new B", "new E", "new X", "call special A new ()V", "call special B new ()V", "call special E new (I)V", "call special Error new (@String)V", "call special X new (@String)V", "call special Object new ()V",
			"return", "return I", "return R", "dup", "dup", "goto 2", "const I 0 / if eq 2")
	}
	lines = append(lines, "return J", "return D", "call static A start ()V", "call virtual A new ()V")
	text := strings.Join(lines, " / ")
	half := strings.Index(text, "load I 0")
	code := []impl.Ins{}
	for _, part := range []string{text[:half-3], text[half:]} {
		code = append(code, told("class Q Object / method m ()V static stack 1 locals 4 / " + part)[0].Methods[0].Code...)
	}
	return code
}

// walker makes methods instruction by instruction, as the second working out goes on, so that many are right.
type walker struct {
	*builder
	reviewer
	all     []impl.Ins
	pending map[int64]situation
}

// loosened gives a state that this one fits.
func (g *walker) loosened(s situation) situation {
	s = s.copied()
	for _, list := range [][]string{s.locals, s.stack} {
		for k, shape := range list {
			if g.below(4) == 0 {
				if other := g.pick(checkShapes()...); g.w.shapeFits(shape, other) {
					list[k] = other
				}
			}
			if g.below(8) == 0 {
				list[k] = "-"
			}
		}
	}
	return s
}

func (g *walker) anything() situation {
	s := g.loosened(g.start())
	switch g.below(4) {
	case 0, 1:
		s.stack = []string{g.pick("@Throwable", "@Error", "@Object", "@Throwable", "-")}
	case 2:
		for range g.below(int(g.m.Stack) + 1) {
			s.stack = append(s.stack, g.pick(checkShapes()...))
		}
	}
	for range g.below(3) {
		s.locals[g.below(len(s.locals))] = g.pick(checkShapes()...)
	}
	return s
}

// aimed gives an instruction targets: mostly such as the state behind it can come to.
func (g *walker) aimed(i impl.Ins, n, size int) impl.Ins {
	target := func() int64 {
		if n+1 < size && g.below(3) > 0 {
			return int64(n + 1 + g.below(size-n-1))
		}
		return int64(g.below(size))
	}
	if targets, _ := jumpsOf(i); len(targets) > 0 {
		i.A = target()
		i.Table = slices.Clone(i.Table)
		for k := range i.Table {
			i.Table[k] = target()
		}
	}
	return i
}

// reaches says whether a state can come to the targets of instruction n; those ahead get a frame for it.
func (g *walker) reaches(n int, next situation) bool {
	targets, _ := jumpsOf(g.m.Code[n])
	more := map[int64]situation{}
	for _, target := range targets {
		f, ok := g.pending[target]
		if !ok && target <= int64(n) || ok && !g.fits(next, f) {
			return false
		}
		if !ok {
			more[target] = g.loosened(next)
		}
	}
	for _, target := range slices.Sorted(maps.Keys(more)) {
		if !g.fits(next, more[target]) {
			return false
		}
		g.pending[target] = more[target]
	}
	return true
}

func (g *walker) walk(m impl.Method, size int) impl.Method {
	g.m, g.pending = m, map[int64]situation{}
	s, known := g.start(), true
	for n := range size {
		f, told := g.pending[int64(n)]
		switch {
		case told && (!known || g.fits(s, f)):
			s = f
		case !known:
			s = g.anything()
			g.pending[int64(n)] = s
		case !told && g.below(6) == 0:
			s = g.loosened(s)
			g.pending[int64(n)] = s
		}
		g.m.Code = append(g.m.Code, impl.Ins{})
		s, known = g.goOn(n, size, s)
	}
	for _, at := range slices.Sorted(maps.Keys(g.pending)) {
		g.m.Frames = append(g.m.Frames, impl.Frame{At: at, Locals: g.pending[at].locals, Stack: g.pending[at].stack})
	}
	g.shield(size)
	return g.m
}

// goOn picks instruction n: one that is right, seldom another; a jump to itself where none is found.
func (g *walker) goOn(n, size int, s situation) (situation, bool) {
	for range 150 {
		g.m.Code[n] = g.aimed(g.all[g.below(len(g.all))], n, size)
		next, code := g.step(n, s)
		_, goes := jumpsOf(g.m.Code[n])
		ahead, told := g.pending[int64(n+1)]
		falls := goes && (n+1 == size || told && !g.fits(next, ahead))
		if code == 0 && !falls && g.reaches(n, next) || g.below(1200) == 0 {
			return next, goes
		}
	}
	g.m.Code[n] = impl.Ins{Op: impl.OpGoto, A: int64(n)}
	g.pending[int64(n)] = s
	return s, false
}

// shield lays handlers where they are right, or nearly anywhere.
func (g *walker) shield(size int) {
	starts := []int64{int64(g.below(size))}
	for _, f := range g.m.Frames {
		if len(f.Stack) == 1 {
			starts = append(starts, f.At, f.At)
		}
	}
	for range g.below(12) {
		h := impl.Handler{At: starts[g.below(len(starts))], Type: g.pick("", "", "Error", "X", "Throwable", "NullError", "A", "Nope")}
		h.From = int64(g.below(size))
		h.To = h.From + 1 + int64(g.below(size-int(h.From)))
		before := g.verdict()
		g.m.Handlers = append(g.m.Handlers, h)
		if g.verdict() != before && g.below(30) > 0 {
			g.m.Handlers = g.m.Handlers[:len(g.m.Handlers)-1]
		}
	}
}

func (g *walker) anyMethod() impl.Method {
	m := impl.Method{Name: g.pick("m", "m", "new"), Sig: g.pick("()V", "(I)I", "(@B,I)@A", "([I,@A)@I", "(J,D)J", "(@Nope,[@B)[@A"), Stack: int64(2 + g.below(4)), Locals: 4, Flags: int64(g.below(2))}
	if m.Name == "new" {
		m.Flags, m.Sig = 0, g.pick("()V", "(I)V", "(@B,[I)V")
	}
	return g.walk(m, 1+g.below(16))
}

// disturbed changes one thing of a method.
func (g *walker) disturbed(m impl.Method) impl.Method {
	m.Code, m.Frames, m.Handlers = slices.Clone(m.Code), slices.Clone(m.Frames), slices.Clone(m.Handlers)
	size := len(m.Code)
	switch pick := g.below(8); {
	case pick < 3 && len(m.Frames) > 0:
		k := g.below(len(m.Frames))
		f := situation{m.Frames[k].Locals, m.Frames[k].Stack}.copied()
		list := f.locals
		if g.below(2) == 0 && len(f.stack) > 0 {
			list = f.stack
		}
		list[g.below(len(list))] = g.pick(checkShapes()...)
		if g.below(6) == 0 && len(f.stack) < int(m.Stack) {
			f.stack = append(f.stack, g.pick(checkShapes()...))
		}
		m.Frames[k].Locals, m.Frames[k].Stack = f.locals, f.stack
	case pick == 3 && len(m.Frames) > 0:
		k := g.below(len(m.Frames))
		m.Frames = slices.Delete(m.Frames, k, k+1)
	case pick == 4 && len(m.Handlers) > 0:
		k := g.below(len(m.Handlers))
		m.Handlers[k].At, m.Handlers[k].Type = int64(g.below(size)), g.pick("", "Error", "X", "I", "Object")
	case pick == 5 && size > 1:
		m.Code[size-1] = g.aimed(g.all[g.below(len(g.all))], size-1, size)
	case pick == 6:
		m.Stack = int64(max(g.mostStack(m), g.below(6)))
	default:
		n := g.below(size)
		m.Code[n] = g.aimed(g.all[g.below(len(g.all))], n, size)
	}
	return m
}

// mostStack is what the frames need.
func (g *walker) mostStack(m impl.Method) int {
	most := 0
	for _, f := range m.Frames {
		most = max(most, len(f.Stack))
	}
	return most
}

func TestAnyMethod(t *testing.T) {
	t.Parallel()
	owners := []string{"class B A", "class B A / implements J", "class B E", "class B Object", "class B Error"}
	counts, places := map[int64]int{}, map[int64]int{}
	for k, owner := range owners {
		b := builder{numbers{state: uint64(1000 + k)}}
		cs := checkSpace(owner)
		g := walker{builder: &b, reviewer: reviewer{w: newWorld(cs), owner: cs[0]}, all: candidates()}
		for range 500 {
			m := g.anyMethod()
			for range 6 {
				g.m = m
				cs[0].Methods = []impl.Method{m}
				if !impl.SpaceOk(cs) {
					t.Fatalf("no space: %+v", m)
				}
				want := g.verdict()
				if got := impl.Check(cs, "B", m.Name, m.Sig); got != want {
					t.Fatalf("%s is %v, not %v", impl.PrintClass(cs[0]), got, want)
				}
				counts[want.Code]++
				places[want.At]++
				m = g.disturbed(m)
			}
		}
	}
	for _, code := range []int64{impl.VerOk, impl.VerFrame, impl.VerStack, impl.VerShape, impl.VerFall} {
		if counts[code] < 150 {
			t.Errorf("only %d methods come to %d: %v", counts[code], code, counts)
		}
	}
	for n := range int64(12) {
		if places[n] < 20 {
			t.Errorf("only %d verdicts at %d", places[n], n)
		}
	}
}

// CheckAll tells what Check tells, method by method.
func TestAllOfAnyMethods(t *testing.T) {
	t.Parallel()
	b := builder{numbers{state: 77}}
	cs := checkSpace("class B A")
	g := walker{builder: &b, reviewer: reviewer{w: newWorld(cs), owner: cs[0]}, all: candidates()}
	wrong := 0
	for range 60 {
		want := []impl.Failure{}
		for k := range cs {
			if cs[k].Flags != 0 {
				continue
			}
			g.owner, cs[k].Methods = cs[k], nil
			for j := range b.below(4) {
				m := g.anyMethod()
				if m.Name != "new" || j > 0 { // no two of one class, nor of classes above each other
					m.Name += cs[k].Name + strconv.Itoa(j)
				}
				if g.m = m; b.below(3) == 0 && m.Name != "new" {
					m = bare(m.Name, m.Sig, impl.FlagNative)
				} else if v := g.verdict(); v.Code != impl.VerOk {
					want = append(want, failure(cs[k].Name, m.Name, m.Sig, v.Code, v.At))
				}
				cs[k].Methods = append(cs[k].Methods, m)
			}
		}
		faultsOf(t, "all", cs)
		same(t, "all", impl.CheckAll(cs), want)
		wrong += len(want)
		for _, c := range cs {
			for _, m := range c.Methods {
				v := impl.Check(cs, c.Name, m.Name, m.Sig)
				if slices.Contains(want, failure(c.Name, m.Name, m.Sig, v.Code, v.At)) != (v.Code != impl.VerOk) {
					t.Errorf("%s of %s: %v, but all are %v", m.Name, c.Name, v, want)
				}
			}
		}
	}
	if wrong < 30 {
		t.Errorf("only %d are wrong", wrong)
	}
}
