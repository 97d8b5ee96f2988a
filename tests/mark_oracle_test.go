package tests

import (
	"fmt"
	"slices"
	"strconv"
	"strings"
	"testing"

	"loop.example/g00032/impl"
)

// Chapter 14 in a second way: no object has a colour of its own; grey are those of the row, black those of a list, and white all others, as long as a cycle goes on.

type markStory struct {
	mode   int64
	made   int64
	fields map[int64][]int64
	roots  []int64
	cycle  bool
	row    []int64
	done   []int64
}

func (s *markStory) colour(id int64) int64 {
	switch {
	case !s.cycle:
		return 0
	case slices.Contains(s.row, id):
		return 2
	case slices.Contains(s.done, id):
		return 3
	}
	return 1
}

func (s *markStory) shade(ids []int64) {
	for _, id := range ids {
		if _, there := s.fields[id]; there && s.colour(id) == 1 {
			s.row = append(s.row, id)
		}
	}
}

func (s *markStory) doFirst() {
	first := s.row[0]
	s.shade(s.fields[first])
	s.row, s.done = slices.Clone(s.row[1:]), append(s.done, first)
}

func (s *markStory) ids() []int64 {
	out := []int64{}
	for id := range s.made {
		if _, there := s.fields[id+1]; there {
			out = append(out, id+1)
		}
	}
	return out
}

// code gives why an op can't be done.
func (s *markStory) code(op impl.MarkOp) int64 {
	a, b := gcRoot(op.A), gcRoot(op.B)
	bad, phase := false, false
	switch op.Kind {
	case 1:
		bad = !a || op.B < 0 || op.B > 6 || s.made == 400
	case 2, 3, 4:
		bad = !a || !b
	case 5:
		bad = !a
	case 6:
		phase = s.cycle
	case 7:
		bad, phase = op.A < 0 || op.A > 100, !s.cycle
	case 8:
		phase = !s.cycle
	default:
		bad = true
	}
	if bad {
		return 1
	}
	if op.Kind == 2 || op.Kind == 3 {
		object := s.roots[map[int64]int64{2: op.B, 3: op.A}[op.Kind]]
		if object == 0 {
			return 2
		}
		if op.C < 0 || op.C >= int64(len(s.fields[object])) {
			return 3
		}
	}
	if phase {
		return 4
	}
	return 0
}

func (s *markStory) do(op impl.MarkOp) impl.MarkObs {
	out := impl.MarkObs{Code: s.code(op)}
	if out.Code != 0 {
		out.Grey = int64(len(s.row))
		return out
	}
	switch op.Kind {
	case 1:
		s.made++
		s.fields[s.made] = make([]int64, op.B)
		s.roots[op.A] = s.made
		if s.cycle {
			s.done = append(s.done, s.made)
		}
	case 2:
		s.roots[op.A] = s.fields[s.roots[op.B]][op.C]
	case 3:
		object, stored := s.roots[op.A], s.roots[op.B]
		field := &s.fields[object][op.C]
		if s.cycle && s.mode == 1 {
			s.shade([]int64{*field})
		}
		if s.cycle && s.mode == 2 && s.colour(object) == 3 {
			s.shade([]int64{stored})
		}
		*field = stored
	case 4:
		s.roots[op.A] = s.roots[op.B]
	case 5:
		s.roots[op.A] = 0
	case 6:
		s.cycle, s.done = true, nil
		s.shade(s.roots)
	case 7:
		for n := op.A; n > 0 && len(s.row) > 0; n-- {
			s.doFirst()
		}
	case 8:
		out.Gone = s.end()
	}
	if op.Kind < 6 {
		out.N = s.roots[op.A]
	}
	out.Grey = int64(len(s.row))
	return out
}

func (s *markStory) end() []int64 {
	if s.mode == 2 {
		s.shade(s.roots)
	}
	for len(s.row) > 0 {
		s.doFirst()
	}
	gone := slices.DeleteFunc(s.ids(), func(id int64) bool { return s.colour(id) != 1 })
	for _, id := range gone {
		delete(s.fields, id)
	}
	s.cycle = false
	return gone
}

func (s *markStory) heap() impl.MarkHeap {
	h := impl.MarkHeap{Roots: slices.Clone(s.roots), Cycle: s.cycle, Row: slices.Clone(s.row)}
	for _, id := range s.ids() {
		h.Objects = append(h.Objects, impl.MarkObject{Id: id, Fields: slices.Clone(s.fields[id]), Colour: s.colour(id)})
	}
	return h
}

// markOracle is what MarkRun and MarkAt have to answer.
func markOracle(mode int64, ops []impl.MarkOp) ([]impl.MarkObs, impl.MarkHeap) {
	if mode != 1 && mode != 2 || len(ops) > 500 {
		return nil, impl.MarkHeap{}
	}
	s, out := &markStory{mode: mode, fields: map[int64][]int64{}, roots: make([]int64, 8)}, []impl.MarkObs{}
	for _, op := range ops {
		out = append(out, s.do(op))
	}
	return out, s.heap()
}

// markReachedOracle looks at all objects again and again.
func markReachedOracle(h impl.MarkHeap) []int64 {
	if len(h.Roots) > 8 || len(h.Objects) > 400 {
		return nil
	}
	held := slices.Clone(h.Roots)
	for before := -1; before != len(held); {
		before = len(held)
		for _, o := range h.Objects {
			if o.Id == 0 || !slices.Contains(held, o.Id) {
				continue
			}
			for _, id := range o.Fields {
				if !slices.Contains(held, id) {
					held = append(held, id)
				}
			}
		}
	}
	out := []int64{}
	for _, o := range h.Objects {
		if o.Id != 0 && slices.Contains(held, o.Id) {
			out = append(out, o.Id)
		}
	}
	slices.Sort(out)
	return slices.Compact(out)
}

const markKinds = "new get set copy drop begin step end"

// markOpsOf reads ops, ; between: a word for the Kind, then A, B and C.
func markOpsOf(s string) []impl.MarkOp {
	out := []impl.MarkOp{}
	for _, part := range strings.Split(s, ";") {
		w := words(part)
		if len(w) == 0 {
			continue
		}
		op := impl.MarkOp{Kind: int64(1 + slices.Index(words(markKinds), w[0]))}
		for k, word := range w[1:] {
			n, err := strconv.ParseInt(word, 10, 64)
			if op.Kind == 0 || err != nil {
				panic(part)
			}
			*[]*int64{&op.A, &op.B, &op.C}[k] = n
		}
		out = append(out, op)
	}
	return out
}

// showMarkObs shows an answer: the word of its Code, or N; behind a / how many are grey, if any; behind a : those that are gone.
func showMarkObs(o impl.MarkObs) string {
	s := fmt.Sprint(o.N)
	if o.Code != 0 {
		s = words("ok bad null field phase")[o.Code]
		if o.N != 0 {
			s += fmt.Sprint("(", o.N, ")")
		}
	}
	if o.Grey != 0 {
		s += fmt.Sprint("/", o.Grey)
	}
	for k, id := range o.Gone {
		s += fmt.Sprint(":,"[min(k, 1):min(k, 1)+1], id)
	}
	return s
}

// showMarkHeap shows each object: its Id, the letter of its colour, if it has one, and what its fields hold; then the roots that hold something; then, if a cycle goes on, the row.
func showMarkHeap(h impl.MarkHeap) string {
	out := []string{}
	for _, o := range h.Objects {
		out = append(out, fmt.Sprintf("%d%s%v", o.Id, []string{"", "w", "g", "b"}[o.Colour], o.Fields))
	}
	for k, id := range h.Roots {
		if id != 0 {
			out = append(out, fmt.Sprintf("%d=%d", k, id))
		}
	}
	if h.Cycle || len(h.Row) > 0 {
		name := "row"
		if !h.Cycle {
			name = "row without a cycle"
		}
		out = append(out, strings.TrimSpace(name+" "+strings.Trim(fmt.Sprint(h.Row), "[]")))
	}
	return strings.Join(out, " ")
}

// testMark holds the program against the second working out, and gives what both tell.
func testMark(t *testing.T, mode int64, ops []impl.MarkOp) ([]impl.MarkObs, impl.MarkHeap) {
	t.Helper()
	got, at := impl.MarkRun(mode, ops), impl.MarkAt(mode, ops)
	want, there := markOracle(mode, ops)
	for k := range want {
		if k >= len(got) || !alike(got[k], want[k]) {
			t.Fatalf("mode %d, op %d of %v: %v, not %v", mode, k, ops, got, want)
		}
	}
	if len(got) != len(want) {
		t.Fatalf("mode %d, %v: %d answers, not %d", mode, ops, len(got), len(want))
	}
	if !alike(at, there) {
		t.Fatalf("mode %d, behind %v: %s, not %s", mode, ops, showMarkHeap(at), showMarkHeap(there))
	}
	if live := impl.MarkReached(at); !slices.Equal(live, markReachedOracle(at)) {
		t.Fatalf("mode %d, behind %v: %v are reached, not %v", mode, ops, live, markReachedOracle(at))
	}
	return got, at
}
