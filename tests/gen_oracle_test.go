package tests

import (
	"fmt"
	"slices"
	"strconv"
	"strings"
	"testing"

	"loop.example/g00032/impl"
)

// Chapter 13 in a second way: memory is words, fields, roots and the queue hold addresses, and all of them are written anew when something moves. What is live is found by looking at all objects again and again.

type gcAbout struct{ age, kind, fields int64 }

// gcMemory has of each object that is there, at its address, its Id, then what its fields hold; the list there has the addresses, ascending.
type gcMemory struct {
	g      impl.GcConfig
	words  []int64
	there  []int64
	about  map[int64]*gcAbout
	roots  []int64
	queue  []int64
	tops   []int64
	from   int
	dirty  map[int64]bool
	cycles []int64
}

func newGcMemory(g impl.GcConfig) *gcMemory {
	m := &gcMemory{g: g, about: map[int64]*gcAbout{}, roots: make([]int64, 8), dirty: map[int64]bool{}}
	m.words = make([]int64, m.begin(4))
	for k := range 4 {
		m.tops = append(m.tops, m.begin(k))
	}
	return m
}

// begin is the first word of eden, the survivor spaces, old, and what lies behind all.
func (m *gcMemory) begin(space int) int64 {
	return []int64{1, 1 + m.g.Eden, 1 + m.g.Eden + m.g.Survivor, 1 + m.g.Eden + 2*m.g.Survivor, 1 + m.g.Eden + 2*m.g.Survivor + m.g.Old}[space]
}

func (m *gcMemory) isOld(a int64) bool { return a >= m.begin(3) }

func (m *gcMemory) isYoung(a int64) bool {
	return a > 0 && a < m.begin(1) || a >= m.begin(1+m.from) && a < m.begin(2+m.from)
}

func (m *gcMemory) of(a int64) *gcAbout { return m.about[m.words[a]] }

func (m *gcMemory) fields(a int64) []int64 { return m.words[a+1 : a+1+m.of(a).fields] }

func (m *gcMemory) card(a int64) int64 { return (a - m.begin(3)) / m.g.Card }

func (m *gcMemory) inDirty(a int64) bool { return m.isOld(a) && m.dirty[m.card(a)] }

// leading are the fields of an object by which others are live.
func (m *gcMemory) leading(a int64, hard bool) []int64 {
	kind, fields := m.of(a).kind, m.fields(a)
	if kind == 1 || kind == 3 || kind == 2 && hard {
		return fields[1:]
	}
	return fields
}

type gcFinding struct {
	*gcMemory
	minor, hard bool
	live        map[int64]bool
}

// findLive works out what is live, and queues.
func (m *gcMemory) findLive(minor, hard bool) {
	f := gcFinding{m, minor, hard, map[int64]bool{}}
	for _, a := range m.there {
		f.live[a] = minor && !m.isYoung(a)
	}
	for _, a := range slices.Concat(m.roots, m.queue) {
		f.live[a] = true
	}
	f.spread()
	f.release(1, 2)
	finals := []int64{}
	for _, a := range m.there {
		if m.of(a).kind == 4 && !f.live[a] {
			m.of(a).kind = 0
			finals = append(finals, a)
		}
	}
	m.queue = append(m.queue, finals...)
	for _, a := range finals {
		f.live[a] = true
	}
	f.spread()
	f.release(3)
	f.release(1, 2)
	m.keep(func(a int64) bool { return f.live[a] })
}

func (f gcFinding) spread() {
	for more := true; more; {
		more = false
		for _, a := range f.there {
			if !f.live[a] || f.minor && f.isOld(a) && !f.inDirty(a) {
				continue
			}
			for _, b := range f.leading(a, f.hard) {
				if b != 0 && !f.live[b] {
					f.live[b], more = true, true
				}
			}
		}
	}
}

func (f gcFinding) release(kinds ...int64) {
	for _, a := range f.there {
		kind := f.of(a).kind
		if !f.live[a] || !slices.Contains(kinds, kind) || kind == 2 && !f.hard || f.minor && f.isOld(a) && !f.inDirty(a) {
			continue
		}
		if held := f.words[a+1]; held != 0 && !f.live[held] {
			f.words[a+1] = 0
			f.queue = append(f.queue, a)
		}
	}
}

// rewrite lays what has moved into every field, root and place of the queue.
func (m *gcMemory) rewrite(moved map[int64]int64) {
	lists := [][]int64{m.roots, m.queue}
	for _, a := range m.there {
		lists = append(lists, m.fields(a))
	}
	for _, list := range lists {
		for k, a := range list {
			if to, has := moved[a]; has {
				list[k] = to
			}
		}
	}
}

// place copies the words of an object to the top of a space.
func (m *gcMemory) place(space int, words []int64) int64 {
	at := m.tops[space]
	copy(m.words[at:], words)
	m.tops[space] += int64(len(words))
	return at
}

func (m *gcMemory) room(space int, words int64) bool {
	return m.tops[space]+words <= m.begin(space+1)
}

func (m *gcMemory) keep(so func(a int64) bool) {
	m.there = slices.DeleteFunc(slices.Clone(m.there), func(a int64) bool { return !so(a) })
}

func (m *gcMemory) lookAtCards() {
	m.dirty = map[int64]bool{}
	for _, a := range m.there {
		if m.isOld(a) && slices.ContainsFunc(m.fields(a), m.isYoung) {
			m.dirty[m.card(a)] = true
		}
	}
}

func (m *gcMemory) minor(allOld bool) {
	m.cycles = append(m.cycles, 1)
	m.findLive(true, false)
	moved, copies := map[int64]int64{}, []int64{}
	take := func(a int64) {
		if _, has := moved[a]; has || !m.isYoung(a) {
			return
		}
		o := m.of(a)
		o.age = min(15, o.age+1)
		space := 2 - m.from
		if allOld || o.age >= m.g.Age || !m.room(space, o.fields+1) {
			space = 3
		}
		moved[a] = m.place(space, m.words[a:a+1+o.fields])
		copies = append(copies, moved[a])
	}
	for _, a := range slices.Concat(m.roots, m.queue) {
		take(a)
	}
	for _, a := range m.there {
		if m.inDirty(a) {
			for _, b := range m.leading(a, false) {
				take(b)
			}
		}
	}
	for k := 0; k < len(copies); k++ {
		for _, b := range m.leading(copies[k], false) {
			take(b)
		}
	}
	m.keep(m.isOld)
	m.there = append(m.there, copies...)
	slices.Sort(m.there)
	m.rewrite(moved)
	m.tops[0], m.tops[1+m.from] = m.begin(0), m.begin(1+m.from)
	m.from = 1 - m.from
	m.lookAtCards()
}

func (m *gcMemory) major(hard bool) {
	m.cycles = append(m.cycles, 2)
	if hard {
		m.cycles[len(m.cycles)-1] = 3
	}
	m.findLive(false, hard)
	moved := map[int64]int64{}
	m.tops[3] = m.begin(3)
	for k, a := range m.there {
		if m.isOld(a) {
			moved[a] = m.place(3, slices.Clone(m.words[a:a+1+m.of(a).fields]))
			m.there[k] = moved[a]
		}
	}
	m.rewrite(moved)
	m.lookAtCards()
	if m.youngFits() {
		m.minor(true)
	}
}

func (m *gcMemory) youngFits() bool {
	return m.tops[0]-m.begin(0)+m.tops[1+m.from]-m.begin(1+m.from) <= m.begin(4)-m.tops[3]
}

func (m *gcMemory) cycle(strength int64) {
	if strength == 1 && m.youngFits() {
		m.minor(false)
	} else {
		m.major(strength == 3)
	}
}

func (m *gcMemory) create(root, fields, kind int64) int64 {
	for strength := int64(1); strength <= 3 && !m.room(0, fields+1); strength++ {
		m.cycle(strength)
	}
	space := 0
	if !m.room(0, fields+1) {
		space = 3
	}
	if !m.room(space, fields+1) {
		return 3
	}
	id := int64(len(m.about) + 1)
	m.about[id] = &gcAbout{kind: kind, fields: fields}
	m.roots[root] = m.place(space, append([]int64{id}, make([]int64, fields)...))
	m.there = append(m.there, m.roots[root])
	slices.Sort(m.there)
	return 0
}

func gcRoot(n int64) bool { return n >= 0 && n <= 7 }

// code does an op.
func (m *gcMemory) code(op impl.GcOp) int64 {
	a, b := gcRoot(op.A), gcRoot(op.B)
	switch op.Kind {
	case 1:
		if !a || op.B < 0 || op.B > 6 || op.C < 0 || op.C > 4 || op.B == 0 && op.C != 0 && op.C != 4 {
			return 1
		}
		return m.create(op.A, op.B, op.C)
	case 2, 3:
		if !a || !b {
			return 1
		}
		return m.move(op)
	case 4, 5, 9:
		if !a || op.Kind == 4 && !b {
			return 1
		}
		from := int64(0)
		if op.Kind == 4 {
			from = m.roots[op.B]
		}
		if op.Kind == 9 && len(m.queue) > 0 {
			from, m.queue = m.queue[0], slices.Clone(m.queue[1:])
		}
		m.roots[op.A] = from
	case 6, 7, 8:
		m.cycle(op.Kind - 5)
	default:
		return 1
	}
	return 0
}

// move is GcGet and GcSet.
func (m *gcMemory) move(op impl.GcOp) int64 {
	object := m.roots[op.B]
	if op.Kind == 3 {
		object = m.roots[op.A]
	}
	if object == 0 {
		return 2
	}
	if op.C < 0 || op.C >= m.of(object).fields || op.Kind == 2 && op.C == 0 && m.of(object).kind == 3 {
		return 4
	}
	field := &m.words[object+1+op.C]
	if op.Kind == 2 {
		m.roots[op.A] = *field
		return 0
	}
	*field = m.roots[op.B]
	if m.isOld(object) && m.isYoung(*field) {
		m.dirty[m.card(object)] = true
	}
	return 0
}

func (m *gcMemory) do(op impl.GcOp) impl.GcObs {
	m.cycles = nil
	out := impl.GcObs{Code: m.code(op)}
	out.Cycles = m.cycles
	if out.Code == 0 && gcRoot(op.A) {
		out.N = m.words[m.roots[op.A]]
	}
	return out
}

func (m *gcMemory) ids(addresses []int64) []int64 {
	out := []int64{}
	for _, a := range addresses {
		out = append(out, m.words[a])
	}
	return out
}

func (m *gcMemory) heap() impl.GcHeap {
	h := impl.GcHeap{Roots: m.ids(m.roots), Queue: m.ids(m.queue), From: int64(m.from), Tops: slices.Clone(m.tops)}
	for _, a := range m.there {
		h.Objects = append(h.Objects, impl.GcObject{Id: m.words[a], At: a, Age: m.of(a).age, Kind: m.of(a).kind, Fields: m.ids(m.fields(a))})
	}
	for card := range m.g.Old {
		if m.dirty[card] {
			h.Dirty = append(h.Dirty, card)
		}
	}
	return h
}

func gcConfigOk(g impl.GcConfig) bool {
	space := func(n int64) bool { return n >= 8 && n <= 2000 }
	return space(g.Eden) && space(g.Survivor) && space(g.Old) && g.Age >= 1 && g.Age <= 15 && g.Card >= 1 && g.Card <= 64
}

// gcOracle is what GcRun and GcAt have to answer.
func gcOracle(g impl.GcConfig, ops []impl.GcOp) ([]impl.GcObs, impl.GcHeap) {
	if !gcConfigOk(g) || len(ops) > 300 {
		return nil, impl.GcHeap{}
	}
	m, out := newGcMemory(g), []impl.GcObs{}
	for _, op := range ops {
		out = append(out, m.do(op))
	}
	return out, m.heap()
}

// gcLiveOracle looks at all objects again and again.
func gcLiveOracle(h impl.GcHeap) []int64 {
	if len(h.Roots) > 8 || len(h.Objects) > 8000 || len(h.Queue) > 8000 {
		return nil
	}
	reached := slices.Concat(h.Roots, h.Queue)
	for before := -1; before != len(reached); {
		before = len(reached)
		for _, o := range h.Objects {
			if !slices.Contains(reached, o.Id) || o.Id == 0 {
				continue
			}
			for k, id := range o.Fields {
				if (k > 0 || o.Kind < 1 || o.Kind > 3) && !slices.Contains(reached, id) {
					reached = append(reached, id)
				}
			}
		}
	}
	out := []int64{}
	for _, o := range h.Objects {
		if o.Id != 0 && slices.Contains(reached, o.Id) {
			out = append(out, o.Id)
		}
	}
	slices.Sort(out)
	return slices.Compact(out)
}

// gcOpsOf reads ops, ; between: a word for the Kind, then A, B and C; of new a word for the kind of object.
func gcOpsOf(s string) []impl.GcOp {
	out := []impl.GcOp{}
	for _, part := range strings.Split(s, ";") {
		w := words(part)
		if len(w) == 0 {
			continue
		}
		op := impl.GcOp{Kind: int64(1 + slices.Index(words("new get set copy drop minor major hard poll"), w[0]))}
		for k, word := range w[1:] {
			n, err := strconv.ParseInt(word, 10, 64)
			if err != nil {
				n = int64(slices.Index(words(gcKinds), word))
			}
			if op.Kind == 0 || n < 0 && err != nil {
				panic(part)
			}
			*[]*int64{&op.A, &op.B, &op.C}[k] = n
		}
		out = append(out, op)
	}
	return out
}

const gcKinds = "plain weak soft phantom final"

// showGcObs shows an answer: the word of its Code, or N; then, behind a colon, its Cycles.
func showGcObs(o impl.GcObs) string {
	s := fmt.Sprint(o.N)
	if o.Code != 0 {
		s = words("ok bad null full field")[o.Code]
	}
	for k, cycle := range o.Cycles {
		if k == 0 {
			s += ":"
		}
		s += fmt.Sprint(cycle)
	}
	return s
}

// showGcHeap shows each object: Id@At+Age, the letter of its kind, and what its fields hold; then what else is not as at first: the roots that hold something, the queue, which space is from, and the dirty cards. Tops are shown apart.
func showGcHeap(h impl.GcHeap) string {
	out := []string{}
	for _, o := range h.Objects {
		out = append(out, fmt.Sprintf("%d@%d+%d%c%v", o.Id, o.At, o.Age, "pwshf"[o.Kind], o.Fields))
	}
	roots := []string{}
	for k, id := range h.Roots {
		if id != 0 {
			roots = append(roots, fmt.Sprintf("%d=%d", k, id))
		}
	}
	for name, list := range map[string]string{"1 roots": strings.Join(roots, " "), "2 queue": strings.Trim(fmt.Sprint(h.Queue), "[]"), "4 dirty": strings.Trim(fmt.Sprint(h.Dirty), "[]"), "3 from": strings.Trim(fmt.Sprint(h.From), "0")} {
		if list != "" {
			out = append(out, name+" "+list)
		}
	}
	slices.SortStableFunc(out[len(h.Objects):], strings.Compare)
	for k := len(h.Objects); k < len(out); k++ {
		out[k] = "| " + out[k][2:]
	}
	return strings.Join(out, " ")
}

// testGc holds the program against the second working out, and gives what both tell.
func testGc(t *testing.T, g impl.GcConfig, ops []impl.GcOp) ([]impl.GcObs, impl.GcHeap) {
	t.Helper()
	got, at := impl.GcRun(g, ops), impl.GcAt(g, ops)
	want, there := gcOracle(g, ops)
	for k := range want {
		if k >= len(got) || !alike(got[k], want[k]) {
			t.Fatalf("%v, op %d of %v: %v, not %v", g, k, ops, got, want)
		}
	}
	if len(got) != len(want) {
		t.Fatalf("%v, %v: %d answers, not %d", g, ops, len(got), len(want))
	}
	if !alike(at, there) {
		t.Fatalf("%v, behind %v: %s %v, not %s %v", g, ops, showGcHeap(at), at.Tops, showGcHeap(there), there.Tops)
	}
	return got, at
}
