package tests

import (
	"fmt"
	"maps"
	"slices"
	"strings"
	"sync"
	"testing"

	"loop.example/g00032/impl"
)

// Chapter 9, and what it takes from chapter 10, worked out once more: a state is plain data, and whether a thread can go on is seen by trying its step on a copy.

// puppet is a thread; its locks are told by names: # and an object's number, @ and a class.
type puppet struct {
	frames          []scene
	state           string
	awaits          int64
	held            int
	stopped, byStop bool
	entry           string
	gave            impl.Value
	thrown          string
}

type scene struct {
	class         string
	m             *impl.Method
	pc            int
	locals, stack []impl.Value
	lock, begins  string
}

type thing struct {
	typ, text string
	values    []impl.Value
	thread    int
}

type hold struct{ thread, times int }

type play struct {
	w       world
	threads []puppet
	things  []thing
	texts   map[string]int64
	statics map[string]impl.Value
	classes map[string]string
	locks   map[string]hold
	waiting map[int64][]int
	trace   []string
	events  map[string]int
}

// What ends the trial of a step: it can not be done now, there is no room, or a class of Boot is thrown.
type (
	standstill struct{ why string }
	noRoom     struct{}
	mishap     string
)

func (p *play) copied() *play {
	q := *p
	q.threads = slices.Clone(p.threads)
	for k := range q.threads {
		frames := slices.Clone(p.threads[k].frames)
		for j := range frames {
			frames[j].locals, frames[j].stack = slices.Clone(frames[j].locals), slices.Clone(frames[j].stack)
		}
		q.threads[k].frames = frames
	}
	q.things = slices.Clone(p.things)
	for k := range q.things {
		q.things[k].values = slices.Clone(q.things[k].values)
	}
	q.texts, q.statics, q.classes, q.locks = maps.Clone(p.texts), maps.Clone(p.statics), maps.Clone(p.classes), maps.Clone(p.locks)
	q.waiting = map[int64][]int{}
	for n, row := range p.waiting {
		q.waiting[n] = slices.Clone(row)
	}
	q.trace = slices.Clone(p.trace)
	return &q
}

func ref(n int64) impl.Value { return impl.Value{Kind: 4, N: n} }

func whole32(n int64) impl.Value { return impl.Value{Kind: 1, N: n} }

func zeroOf(typ string) impl.Value {
	return impl.Value{Kind: map[byte]int64{'I': 1, 'J': 2, 'D': 3, '@': 4, '[': 4}[typ[0]]}
}

func (p *play) make(x thing) int64 {
	if len(p.things) == 4000 {
		panic(noRoom{})
	}
	p.things = append(p.things, x)
	return int64(len(p.things))
}

func (p *play) makeOf(class string) int64 {
	x := thing{typ: "@" + class, thread: -1}
	for _, slot := range p.w.layout(class) {
		x.values = append(x.values, zeroOf(slot.Type))
	}
	return p.make(x)
}

func (p *play) makeText(text string) impl.Value {
	return ref(p.make(thing{typ: "@String", text: text, thread: -1}))
}

// classOf is Object for arrays.
func (p *play) classOf(n int64) string {
	if typ := p.things[n-1].typ; typ[0] == '@' {
		return typ[1:]
	}
	return "Object"
}

func (p *play) top(k int) *scene {
	t := &p.threads[k]
	return &t.frames[len(t.frames)-1]
}

func (s *scene) push(v impl.Value) { s.stack = append(s.stack, v) }

func (s *scene) pop() impl.Value {
	v := s.stack[len(s.stack)-1]
	s.stack = s.stack[:len(s.stack)-1]
	return v
}

func (p *play) takeLock(k int, name string, times int) {
	if h := p.locks[name]; h.times > 0 && h.thread != k {
		panic(standstill{"lock"})
	}
	p.locks[name] = hold{k, p.locks[name].times + times}
}

func (p *play) holds(k int, name string) bool {
	return p.locks[name].times > 0 && p.locks[name].thread == k
}

func (p *play) giveLock(k int, name string) {
	if p.holds(k, name) {
		p.locks[name] = hold{k, p.locks[name].times - 1}
	}
}

func (p *play) enterFrame(k int, class string, m impl.Method, args []impl.Value, lock, begins string) {
	s := scene{class: class, m: &m, locals: slices.Clone(args), lock: lock, begins: begins}
	for len(s.locals) < int(m.Locals) {
		s.locals = append(s.locals, whole32(0))
	}
	p.threads[k].frames = append(p.threads[k].frames, s)
}

func (p *play) leaveFrame(k int) scene {
	s := *p.top(k)
	if s.lock != "" {
		p.giveLock(k, s.lock)
	}
	p.threads[k].frames = p.threads[k].frames[:len(p.threads[k].frames)-1]
	return s
}

func (p *play) throwAt(k int, n int64) {
	t := &p.threads[k]
	for len(t.frames) > 0 {
		s := p.top(k)
		for _, h := range s.m.Handlers {
			if int(h.From) <= s.pc && s.pc < int(h.To) && (h.Type == "" || p.w.isAbove(p.classOf(n), h.Type)) {
				s.stack, s.pc = []impl.Value{ref(n)}, int(h.At)
				return
			}
		}
		if gone := p.leaveFrame(k); gone.begins != "" {
			p.classes[gone.begins] = "broken"
			p.events["InitError"]++
			n = p.makeOf("InitError")
		}
	}
	t.state, t.thrown = "ended", p.classOf(n)
}

// use goes through a class and its Supers, the topmost first; it says whether a frame of start was put on top.
func (p *play) use(k int, class string) bool {
	for _, c := range slices.Backward(p.w.supers(class)) {
		start, has := p.w.method(c, "start", "()V", 0)
		switch state := p.classes[c]; {
		case state == "ready" || state == fmt.Sprint("by ", k):
		case state == "broken":
			panic(mishap("LinkError"))
		case state != "":
			panic(standstill{"class"})
		case !has:
			p.classes[c] = "ready"
		case len(p.threads[k].frames) == 100:
			panic(mishap("SizeError"))
		default:
			p.classes[c] = fmt.Sprint("by ", k)
			p.enterFrame(k, c, start, nil, "", c)
			return true
		}
	}
	return false
}

// resolve gives the class that an instruction means, and whether it is right.
func (w world) resolve(owner string, m impl.Method, i impl.Ins) (string, bool) {
	v := words(impl.ShowIns(i))
	switch v[0] {
	case "new":
		return v[1], w.has(v[1]) && !w.is(v[1], 4)
	case "cast", "is":
		name := strings.TrimLeft(v[1], "[")
		if name[0] != '@' {
			return "", true
		}
		return name[1:], w.has(name[1:])
	case "get", "getstatic", "put", "putstatic":
		static := strings.HasSuffix(v[0], "static")
		home := map[bool]string{true: "start", false: "new"}[static]
		for _, c := range w.above(v[1]) {
			for _, f := range w.classes[c].Fields {
				if f.Name == v[2] {
					closed := c != owner && f.Flags&8 != 0 || v[0][0] == 'p' && f.Flags&2 != 0 && (c != owner || m.Name != home)
					return c, f.Type == v[3] && static == (f.Flags&1 == 1) && !closed
				}
			}
		}
		return "", false
	case "call":
		c := w.methodOf(v[2], v[3], v[4])
		called, has := w.method(c, v[3], v[4], 0)
		face := w.is(v[2], 128)
		wrong := (called.Flags&1 == 1) != (v[1] == "static") || called.Flags&8 != 0 && c != owner || v[1] == "interface" && !face || v[1] == "virtual" && face || v[1] == "special" && called.Flags&4 != 0
		return c, has && !wrong
	}
	return "", true
}

// step is one of thread k; it panics with a standstill where that can not go on, and with noRoom.
func (p *play) step(k int) {
	t := &p.threads[k]
	lock := fmt.Sprint("#", t.awaits)
	switch {
	case t.state == "ended" || t.state == "waits":
		panic(standstill{t.state})
	case t.state == "wakes" && p.locks[lock].times > 0:
		panic(standstill{"wakes"})
	case t.entry != "" && p.locks[t.entry].times > 0:
		panic(standstill{"entry"})
	case t.state == "wakes":
		p.locks[lock] = hold{k, t.held}
		t.state, t.awaits = "", 0
		if t.byStop {
			p.events["stopped while it waits"]++
			t.byStop, t.stopped = false, false
			p.throwAt(k, p.makeOf("StopError"))
			return
		}
		p.top(k).pop()
		p.top(k).pc++
		return
	}
	if t.entry != "" {
		p.takeLock(k, t.entry, 1)
		t.entry = ""
	}
	if what := p.attempt(k); what != "" {
		p.events[string(what)]++
		p.throwAt(k, p.makeOf(string(what)))
	}
}

// attempt does the instruction, and gives the class of Boot that is thrown by it.
func (p *play) attempt(k int) (what mishap) {
	defer func() {
		switch x := recover().(type) {
		case nil:
		case mishap:
			what = x
		default:
			panic(x)
		}
	}()
	s := p.top(k)
	i := s.m.Code[s.pc]
	w := words(impl.ShowIns(i))
	class, ok := p.w.resolve(s.class, *s.m, i)
	if !ok {
		panic(mishap("LinkError"))
	}
	uses := w[0] == "new" || strings.HasSuffix(w[0], "static") || w[0] == "call" && w[1] == "static"
	if uses && p.use(k, class) {
		return ""
	}
	switch w[0] {
	case "call":
		p.call(k, class, i, w)
	case "return":
		p.giveBack(k, len(w) > 1)
	case "throw":
		n := s.pop().N
		if n == 0 {
			panic(mishap("NullError"))
		}
		p.events["throw"]++
		p.throwAt(k, n)
	default:
		s.pc = p.plain(k, s, class, i, w)
	}
	return ""
}

// plain does what has nothing to do with frames, and gives the place of the next instruction.
func (p *play) plain(k int, s *scene, class string, i impl.Ins, w []string) int {
	switch w[0] {
	case "const":
		s.push(impl.Value{Kind: i.Kind, N: i.A})
	case "text":
		if p.texts[i.Text] == 0 {
			p.texts[i.Text] = p.makeText(i.Text).N
		}
		s.push(ref(p.texts[i.Text]))
	case "null":
		s.push(ref(0))
	case "load":
		s.push(s.locals[i.A])
	case "store":
		s.locals[i.A] = s.pop()
	case "inc":
		s.locals[i.A].N = int64(int32(s.locals[i.A].N + i.B))
	case "pop":
		s.pop()
	case "dup", "swap", "under":
		a := s.pop()
		for _, b := range map[string]func() []impl.Value{"dup": func() []impl.Value { return []impl.Value{a, a} }, "swap": func() []impl.Value { return []impl.Value{a, s.pop()} }, "under": func() []impl.Value { return []impl.Value{a, s.pop(), a} }}[w[0]]() {
			s.push(b)
		}
	case "goto", "if", "ifint", "ifnull", "ifsame", "switch":
		return s.target(i, w)
	case "get", "put", "getstatic", "putstatic", "new", "newarray", "length", "aload", "astore", "cast", "is":
		p.handle(s, class, i, w)
	case "enter", "exit":
		n := s.pop().N
		if n == 0 {
			panic(mishap("NullError"))
		}
		if lock := fmt.Sprint("#", n); w[0] == "enter" {
			p.takeLock(k, lock, 1)
		} else if !p.holds(k, lock) {
			panic(mishap("StateError"))
		} else {
			p.giveLock(k, lock)
		}
	default:
		p.compute(s, i, w)
	}
	return s.pc + 1
}

func (s *scene) target(i impl.Ins, w []string) int {
	var a, b int64
	switch w[0] {
	case "goto":
		return int(i.A)
	case "switch":
		n := s.pop().N
		for j, target := range i.Table {
			if n == i.B+int64(j) {
				return int(target)
			}
		}
		return int(i.A)
	case "if", "ifnull":
		a = s.pop().N
	default:
		b = s.pop().N
		a = s.pop().N
	}
	if map[string]bool{"eq": a == b, "ne": a != b, "lt": a < b, "ge": a >= b, "gt": a > b, "le": a <= b}[w[1]] {
		return int(i.A)
	}
	return s.pc + 1
}

func (p *play) compute(s *scene, i impl.Ins, w []string) {
	kind := i.Kind
	top := s.pop().N
	switch w[0] {
	case "conv":
		n, _ := impl.Convert(i.Kind, i.A, top)
		s.push(impl.Value{Kind: map[string]int64{"I": 1, "J": 2, "D": 3, "B": 1, "C": 1, "S": 1}[w[2]], N: n})
		return
	case "neg":
		s.push(impl.Value{Kind: kind, N: top})
		top = 0
	}
	below := s.pop().N
	if w[0] == "cmp" {
		n := impl.FloatCompare(below, top, i.B)
		if kind == 2 {
			n = map[bool]int64{true: 1}[below > top] - map[bool]int64{true: 1}[below < top]
		}
		s.push(whole32(n))
		return
	}
	n, ok := map[int64]func(op, a, b int64) (int64, bool){1: impl.IntOp, 2: impl.LongOp, 3: impl.FloatOp}[kind](i.Op, below, top)
	if !ok {
		panic(mishap("ArithError"))
	}
	s.push(impl.Value{Kind: kind, N: n})
}

// solid gives an object that is no null.
func (p *play) solid(v impl.Value) *thing {
	if v.N == 0 {
		panic(mishap("NullError"))
	}
	return &p.things[v.N-1]
}

func (p *play) place(x *thing, class, name string) *impl.Value {
	k := slices.IndexFunc(p.w.layout(x.typ[1:]), func(s impl.Slot) bool { return s.Class == class && s.Name == name })
	return &x.values[k]
}

func (p *play) handle(s *scene, class string, i impl.Ins, w []string) {
	isOf := func(v impl.Value, typ string) bool { return v.N != 0 && p.w.isA(p.things[v.N-1].typ, typ, false) }
	element := func() *impl.Value {
		at := s.pop().N
		x := p.solid(s.pop())
		if at < 0 || at >= int64(len(x.values)) {
			panic(mishap("BoundsError"))
		}
		return &x.values[at]
	}
	switch w[0] {
	case "getstatic":
		s.push(p.statics[class+"."+w[2]])
	case "putstatic":
		p.statics[class+"."+w[2]] = s.pop()
	case "get":
		s.push(*p.place(p.solid(s.pop()), class, w[2]))
	case "put":
		v := s.pop()
		*p.place(p.solid(s.pop()), class, w[2]) = v
	case "new":
		s.push(ref(p.makeOf(class)))
	case "newarray":
		n := s.pop().N
		if n < 0 || n > 1000 {
			panic(mishap("SizeError"))
		}
		s.push(ref(p.make(thing{typ: "[" + w[1], values: slices.Repeat([]impl.Value{zeroOf(w[1])}, int(n)), thread: -1})))
	case "length":
		s.push(whole32(int64(len(p.solid(s.pop()).values))))
	case "aload":
		s.push(*element())
	case "astore":
		v := s.pop()
		array := s.stack[len(s.stack)-2]
		e := element()
		if w[1] == "R" && v.N != 0 && !isOf(v, p.things[array.N-1].typ[1:]) {
			panic(mishap("StoreError"))
		}
		*e = v
	case "cast":
		if v := s.stack[len(s.stack)-1]; v.N != 0 && !isOf(v, w[1]) {
			panic(mishap("CastError"))
		}
	case "is":
		s.push(whole32(map[bool]int64{true: 1}[isOf(s.pop(), w[1])]))
	}
}

func (p *play) giveBack(k int, some bool) {
	var v impl.Value
	if some {
		v = p.top(k).pop()
	}
	t := &p.threads[k]
	gone := p.leaveFrame(k)
	switch {
	case gone.begins != "":
		p.classes[gone.begins] = "ready"
	case len(t.frames) == 0:
		t.state, t.gave = "ended", v
	default:
		p.top(k).pc++
		if some {
			p.top(k).push(v)
		}
	}
}

func (p *play) call(k int, class string, i impl.Ins, w []string) {
	s := p.top(k)
	n := len(impl.Params(w[4]))
	lock := "@" + class
	if w[1] != "static" {
		this := s.stack[len(s.stack)-1-n].N
		if this == 0 {
			panic(mishap("NullError"))
		}
		if meant, _ := p.w.method(class, w[3], w[4], 0); w[1] != "special" && meant.Flags&8 == 0 {
			class, _ = p.w.selects(p.classOf(this), w[3], w[4])
		}
		if class == "" || w[1] == "interface" && !p.w.isAbove(p.classOf(this), w[2]) {
			panic(mishap("LinkError"))
		}
		lock = fmt.Sprint("#", this)
		n++
	}
	called, _ := p.w.method(class, w[3], w[4], 0)
	args := slices.Clone(s.stack[len(s.stack)-n:])
	if called.Flags&64 != 0 {
		p.native(k, class+"."+w[3], args)
		return
	}
	if len(p.threads[k].frames) == 100 {
		panic(mishap("SizeError"))
	}
	if called.Flags&32 == 0 {
		lock = ""
	} else {
		p.takeLock(k, lock, 1)
	}
	s.stack = s.stack[:len(s.stack)-n]
	p.enterFrame(k, class, called, args, lock, "")
}

// native does a native with its arguments still on the stack.
func (p *play) native(k int, name string, args []impl.Value) {
	s := p.top(k)
	done := func(results ...impl.Value) {
		s.stack = append(s.stack[:len(s.stack)-len(args)], results...)
		s.pc++
	}
	class, call, _ := strings.Cut(name, ".")
	switch class {
	case "System":
		text := fmt.Sprint(args[0].N)
		if args[0].Kind == 3 {
			text = impl.ShowFloat(args[0].N)
		}
		if args[0].Kind == 4 {
			text = "null"
			if args[0].N != 0 {
				text = p.things[args[0].N-1].text
			}
		}
		p.trace = append(p.trace, text)
		done()
	case "String":
		done(p.textNative(call, args)...)
	case "Object":
		p.objectNative(k, call, args[0].N, done)
	case "Thread":
		p.threadNative(k, call, args[0].N, done)
	default:
		panic(mishap("LinkError"))
	}
}

func (p *play) textNative(call string, args []impl.Value) []impl.Value {
	text := p.things[args[0].N-1].text
	size := int64(len(text))
	switch call {
	case "length":
		return []impl.Value{whole32(size)}
	case "at":
		if args[1].N < 0 || args[1].N >= size {
			panic(mishap("BoundsError"))
		}
		return []impl.Value{whole32(int64(text[args[1].N]))}
	case "join":
		other := p.solid(args[1]).text
		if len(text+other) > 200 {
			panic(mishap("SizeError"))
		}
		return []impl.Value{p.makeText(text + other)}
	case "same":
		same := args[1].N != 0 && p.things[args[1].N-1].typ == "@String" && p.things[args[1].N-1].text == text
		return []impl.Value{whole32(map[bool]int64{true: 1}[same])}
	}
	if args[1].N < 0 || args[1].N > args[2].N || args[2].N > size {
		panic(mishap("BoundsError"))
	}
	return []impl.Value{p.makeText(text[args[1].N:args[2].N])}
}

func (p *play) objectNative(k int, call string, n int64, done func(...impl.Value)) {
	t, lock := &p.threads[k], fmt.Sprint("#", n)
	if call == "hash" {
		done(whole32(n))
		return
	}
	if !p.holds(k, lock) {
		panic(mishap("StateError"))
	}
	p.events[call]++
	if call == "wait" {
		if t.stopped {
			t.stopped = false
			panic(mishap("StopError"))
		}
		t.state, t.awaits, t.held = "waits", n, p.locks[lock].times
		p.locks[lock] = hold{}
		p.waiting[n] = append(p.waiting[n], k)
		return
	}
	for range p.waiting[n] {
		p.threads[p.waiting[n][0]].state = "wakes"
		p.waiting[n] = p.waiting[n][1:]
		if call == "notify" {
			break
		}
	}
	done()
}

func (p *play) threadNative(k int, call string, n int64, done func(...impl.Value)) {
	t, other := &p.threads[k], p.things[n-1].thread
	switch call {
	case "begin":
		p.begin(n)
	case "join":
		switch {
		case other < 0:
			panic(mishap("StateError"))
		case t.stopped:
			t.stopped = false
			panic(mishap("StopError"))
		case p.threads[other].state != "ended":
			panic(standstill{"join"})
		}
	case "stop":
		if other >= 0 && p.threads[other].state != "ended" {
			u := &p.threads[other]
			u.stopped = true
			if u.state == "waits" {
				u.state, u.byStop = "wakes", true
				p.waiting[u.awaits] = slices.DeleteFunc(p.waiting[u.awaits], func(x int) bool { return x == other })
			}
		}
	case "stopped":
		done(whole32(map[bool]int64{true: 1}[other >= 0 && p.threads[other].stopped]))
		return
	}
	p.events[call]++
	done()
}

func (p *play) begin(n int64) {
	class, _ := p.w.selects(p.classOf(n), "run", "()V")
	switch {
	case p.things[n-1].thread >= 0:
		panic(mishap("StateError"))
	case len(p.threads) == 16:
		panic(mishap("SizeError"))
	case class == "":
		panic(mishap("LinkError"))
	}
	m, _ := p.w.method(class, "run", "()V", 0)
	k := len(p.threads)
	p.things[n-1].thread = k
	p.threads = append(p.threads, puppet{})
	if m.Flags&64 != 0 {
		p.threads[k].state = "ended"
		return
	}
	lock := ""
	if m.Flags&32 != 0 {
		lock = fmt.Sprint("#", n)
	}
	p.enterFrame(k, class, m, []impl.Value{ref(n)}, lock, "")
	p.threads[k].entry = lock
}

// mayStand says whether the next step of a thread may be one that can not be done now.
func (p *play) mayStand(k int) bool {
	t := &p.threads[k]
	if t.state != "" || t.entry != "" {
		return true
	}
	s := p.top(k)
	switch i := s.m.Code[s.pc]; i.Op {
	case impl.OpEnter, impl.OpCall, impl.OpNew:
		return i.Class != "System"
	case impl.OpGet, impl.OpPut:
		return i.B == 1
	}
	return false
}

// tried gives the state behind a step of thread k, and how it went.
func (p *play) tried(k int) (next *play, how string) {
	next = p
	if state := p.threads[k].state; state == "ended" || state == "waits" {
		return p, state
	}
	if p.mayStand(k) {
		next = p.copied()
	}
	return next, next.went(k)
}

// went does a step of thread k, and tells how that went.
func (p *play) went(k int) (how string) {
	defer func() {
		switch x := recover().(type) {
		case nil:
		case standstill:
			how = x.why
		case noRoom:
			how = "room"
		default:
			panic(x)
		}
	}()
	p.step(k)
	return "goes"
}

func newPlay(cs []impl.Class, class, name, sig string, args []impl.Value) *play {
	p := &play{w: newWorld(cs), texts: map[string]int64{}, statics: map[string]impl.Value{}, classes: map[string]string{}, locks: map[string]hold{}, waiting: map[int64][]int{}, events: map[string]int{}}
	for _, c := range cs {
		for _, f := range c.Fields {
			if f.Flags&1 != 0 {
				p.statics[c.Name+"."+f.Name] = zeroOf(f.Type)
			}
		}
	}
	for _, c := range bootClasses() {
		p.classes[c.Name] = "ready"
	}
	m, _ := p.w.method(class, name, sig, 0)
	lock := ""
	if m.Flags&32 != 0 {
		lock = "@" + class
	}
	p.threads = []puppet{{}}
	p.enterFrame(0, class, m, args, lock, "")
	if lock != "" {
		p.takeLock(0, lock, 1)
	}
	return p
}

// played gives the outcome of a run, and what happened in it. The classes are right.
func played(cs []impl.Class, class, name, sig string, args []impl.Value, fuel int64) (impl.Outcome, map[string]int) {
	p := newPlay(cs, class, name, sig, args)
	out := impl.Outcome{}
	for {
		how := ""
		for k := 0; k < len(p.threads) && how != "goes" && how != "room"; k++ {
			var next *play
			if next, how = p.tried(k); how == "goes" || how == "room" {
				if out.Steps == fuel {
					return impl.Outcome{Code: impl.RunFuel, Steps: out.Steps, Trace: out.Trace}, p.events
				}
				out.Steps++
				p = next
			} else if how != "ended" {
				p.events["stands: "+how]++
			}
		}
		out.Trace = p.trace
		switch how {
		case "goes":
			continue
		case "room":
			out.Code = impl.RunRoom
			return out, p.events
		}
		return p.ended(out), p.events
	}
}

func (p *play) ended(out impl.Outcome) impl.Outcome {
	for k, t := range p.threads {
		if t.state != "ended" {
			out.Code, out.Dead = impl.RunDead, append(out.Dead, int64(k))
		}
	}
	first := p.threads[0]
	switch {
	case out.Code == impl.RunDead:
	case first.thrown != "":
		out.Code, out.Thrown = impl.RunThrown, first.thrown
	default:
		out.Value = first.gave
		if first.gave.Kind == 4 && first.gave.N != 0 {
			out.Text = p.things[first.gave.N-1].text
		}
	}
	return out
}

// tallied counts how runs end, and what happens in them.
type tallied struct {
	sync.Mutex
	codes  map[int64]int
	events map[string]int
}

func (c *tallied) add(code int64, events map[string]int) {
	c.Lock()
	defer c.Unlock()
	c.codes[code]++
	for what, times := range events {
		c.events[what] += times
	}
}

func TestAnyProgram(t *testing.T) {
	t.Parallel()
	c := &tallied{codes: map[int64]int{}, events: map[string]int{}}
	t.Run("groups", func(t *testing.T) {
		for group := range uint64(6) {
			t.Run(fmt.Sprint(group), func(t *testing.T) {
				t.Parallel()
				b := builder{numbers{state: 4100 + group}}
				for range 100 {
					b.testProgram(t, c)
				}
			})
		}
	})
	c.enough(t, 20, 5)
}

// testProgram holds a program against the second working out, and against itself with less fuel.
func (b *builder) testProgram(t *testing.T, c *tallied) {
	t.Helper()
	cs := b.program()
	fuel := int64([]int{300, 1000, 3000}[b.below(3)])
	got := impl.Run(cs, "M", "main", "()I", nil, fuel)
	if got.Code == impl.RunArgs || got.Code == impl.RunVerify {
		t.Fatalf("a program is not right: %v %v", impl.InferAll(cs), impl.LinkFaults(cs))
	}
	want, events := played(cs, "M", "main", "()I", nil, fuel)
	if !alike(got, want) {
		t.Fatalf("%v\nnot %v\n%s", got, want, printed(cs))
	}
	c.add(want.Code, events)
	if want.Steps > 0 {
		testLess(t, cs, got, int64(b.below(int(want.Steps))))
	}
}

func printed(cs []impl.Class) string {
	out := ""
	for _, c := range cs {
		out += impl.PrintClass(c)
	}
	return out
}

// testLess looks that a run with less fuel is the beginning of the run.
func testLess(t *testing.T, cs []impl.Class, whole impl.Outcome, fuel int64) {
	t.Helper()
	less := impl.Run(cs, "M", "main", "()I", nil, fuel)
	if less.Code != impl.RunFuel || less.Steps != fuel || len(less.Trace) > len(whole.Trace) || !slices.Equal(less.Trace, whole.Trace[:len(less.Trace)]) {
		t.Errorf("with %d of %d steps: %v\nin the end %v", fuel, whole.Steps, less, whole)
	}
}

// enough says that each end comes so often, and each thing happens so many times.
func (c *tallied) enough(t *testing.T, ends, times int) {
	t.Helper()
	for _, code := range []int64{impl.RunOk, impl.RunFuel, impl.RunDead, impl.RunThrown} {
		if c.codes[code] < ends {
			t.Errorf("only %d runs end by %d: %v", c.codes[code], code, c.codes)
		}
	}
	for _, what := range []string{"NullError", "ArithError", "BoundsError", "CastError", "StoreError", "SizeError", "StateError", "LinkError", "InitError", "StopError", "stopped while it waits", "throw", "wait", "notify", "wake", "begin", "join", "stop",
		"stands: lock", "stands: class", "stands: join", "stands: entry", "stands: waits", "stands: wakes"} {
		if c.events[what] < times {
			t.Errorf("only %d times: %s (%v)", c.events[what], what, c.events)
		}
	}
}
