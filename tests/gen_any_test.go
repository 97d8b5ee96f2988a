package tests

import (
	"fmt"
	"slices"
	"testing"

	"loop.example/g00032/impl"
)

func (b *builder) gcConfig() impl.GcConfig {
	space := func() int64 {
		if b.below(3) == 0 {
			return int64(8 + b.below(60))
		}
		return int64(8 + b.below(10))
	}
	g := impl.GcConfig{Eden: space(), Survivor: space(), Old: space(), Age: int64(1 + b.below(4)), Card: int64(1 + b.below(9))}
	if b.below(4) > 0 {
		g.Old += int64(b.below(80))
	}
	if b.below(8) == 0 {
		g.Age, g.Card = int64(1+b.below(15)), int64(1+b.below(64))
	}
	return g
}

// gcOp makes an op; of plain ones all objects are plain.
func (b *builder) gcOp(plain bool) impl.GcOp {
	op := impl.GcOp{A: int64(b.below(5)), B: int64(b.below(5)), C: int64(b.below(2))}
	if b.below(12) == 0 {
		op.A, op.B, op.C = int64(b.below(10)-1), int64(b.below(10)-1), int64(b.below(8)-1)
	}
	switch pick := b.below(100); {
	case pick < 30:
		op.Kind, op.B, op.C = 1, int64(b.below(4)), 0
		if b.below(4) == 0 {
			op.B = int64(b.below(7))
		}
		if !plain && b.below(5) > 1 {
			op.B, op.C = max(1, op.B), []int64{1, 1, 2, 2, 3, 3, 4}[b.below(7)]
		}
	case pick < 58:
		op.Kind = 3
	case pick < 68:
		op.Kind = 2
	case pick < 72:
		op.Kind = 4
	case pick < 85:
		op.Kind = 5
	case pick < 90:
		op.Kind = []int64{6, 6, 7, 8}[b.below(4)]
	case pick < 99:
		op.Kind = 9
	default:
		op.Kind = int64(b.below(14) - 2)
		if plain {
			op.Kind = 0
		}
	}
	return op
}

func (b *builder) gcOps(n int, plain bool) []impl.GcOp {
	out := []impl.GcOp{}
	// Where nothing is polled the queue grows.
	polls := b.below(2) == 0
	for len(out) < n {
		if op := b.gcOp(plain); polls || op.Kind != 9 {
			out = append(out, op)
		}
	}
	return out
}

// Ops of any form come to what the second working out says, behind each of them.
func TestAnyGcRuns(t *testing.T) {
	t.Parallel()
	c := &counted{times: map[string]int{}}
	for part := range 8 {
		t.Run(fmt.Sprint(part), func(t *testing.T) {
			t.Parallel()
			b := builder{numbers{state: uint64(1310 + part)}}
			for range 800 {
				g, ops := b.gcConfig(), b.gcOps(20+b.below(100), false)
				got, h := testGc(t, g, ops)
				for _, n := range []int{b.below(len(ops)), b.below(len(ops))} {
					testGc(t, g, ops[:n])
				}
				c.countGc(g, got, h)
			}
			for range 10 {
				g, ops := b.gcConfig(), b.gcOps(300, false)
				got, h := testGc(t, g, ops)
				c.countGc(g, got, h)
			}
		})
	}
	t.Cleanup(func() {
		for what, least := range map[string]int{
			"code 1": 300, "code 2": 1000, "code 3": 300, "code 4": 1000, "cycles [1]": 1000, "cycles [2 1]": 500, "cycles [3 1]": 500, "cycles [2]": 200, "cycles [3]": 50, "cycles [2 2 3]": 300, "cycles [2 2 3 1]": 3,
			"queued": 1000, "twice": 5, "dirty": 200, "from 1": 500, "in old": 1000, "Age 0 in old": 20, "gap": 20, "weak in old": 200, "softly": 100, "final": 100,
		} {
			if c.times[what] < least {
				t.Errorf("%s: %d times alone", what, c.times[what])
			}
		}
	})
}

func (c *counted) countGc(g impl.GcConfig, got []impl.GcObs, h impl.GcHeap) {
	for _, o := range got {
		c.add(fmt.Sprint("code ", o.Code), true)
		c.add(fmt.Sprint("cycles ", o.Cycles), true)
	}
	words := int64(1)
	for _, o := range h.Objects {
		old := o.At > g.Eden+2*g.Survivor
		c.add("in old", old)
		c.add("Age 0 in old", old && o.Age == 0)
		c.add("weak in old", old && o.Kind == impl.GcWeak && o.Fields[0] != 0)
		c.add("softly", o.Kind == impl.GcSoft && o.Fields[0] != 0)
		c.add("final", o.Kind == impl.GcFinal)
		if o.At <= g.Eden {
			c.add("gap", o.At != words)
			words = o.At + 1 + int64(len(o.Fields))
		}
	}
	c.add("queued", len(h.Queue) > 0)
	sorted := slices.Sorted(slices.Values(h.Queue))
	c.add("twice", len(slices.Compact(sorted)) < len(h.Queue))
	c.add("dirty", len(h.Dirty) > 0)
	c.add("from 1", h.From == 1)
}

// Every row of three ops behind a small heap with young and old ones of each kind.
func TestEachRowOfGcOps(t *testing.T) {
	t.Parallel()
	g := impl.GcConfig{Eden: 12, Survivor: 8, Old: 12, Age: 2, Card: 3}
	starts := []string{
		"new 0 1 weak; new 1 1; set 0 1 0; minor; new 2 1 final; set 1 2 0; minor",
		"new 0 1 soft; new 1 1 phantom; set 0 1 0; minor; minor; new 2 1; set 1 2 0; set 2 0 0",
		"new 0 2; new 1 1 final; set 0 1 1; set 1 0 0; major; new 2 1 weak; set 2 1 0; set 0 2 0",
	}
	rows := gcOpsOf("new 0 5; new 1 1 weak; new 2 2 final; set 0 1 0; set 1 2 0; set 2 0 0; set 0 7 0; get 1 0 0; copy 0 2; drop 0; drop 1; drop 2; minor; major; hard; poll 2")
	for _, start := range starts {
		ahead := gcOpsOf(start)
		for _, x := range rows {
			for _, y := range rows {
				for _, z := range rows {
					testGc(t, g, append(slices.Clone(ahead), x, y, z))
				}
			}
		}
	}
}

func gcById(h impl.GcHeap) map[int64]impl.GcObject {
	out := map[int64]impl.GcObject{}
	for _, o := range h.Objects {
		out[o.Id] = o
	}
	return out
}

// testGcHeap looks that a heap is of a piece: objects in their spaces without a word in common, no field or root that names what is not there, and no old one that holds a young one outside of dirty cards.
func testGcHeap(t *testing.T, g impl.GcConfig, h impl.GcHeap) {
	t.Helper()
	there, begin := gcById(h), []int64{1, 1 + g.Eden, 1 + g.Eden + g.Survivor, 1 + g.Eden + 2*g.Survivor, 1 + g.Eden + 2*g.Survivor + g.Old}
	last := int64(1)
	for _, o := range h.Objects {
		space, _ := slices.BinarySearch(begin, o.At+1)
		space--
		end := o.At + 1 + int64(len(o.Fields))
		if o.At < last || space > 3 || end > h.Tops[space] || end > begin[space+1] || space == 2-int(h.From) || o.Age < 0 || o.Age > 15 {
			t.Errorf("%v: %v lies wrongly in %s, tops %v", g, o, showGcHeap(h), h.Tops)
		}
		last = end
		for _, id := range o.Fields {
			held, has := there[id]
			if id != 0 && !has {
				t.Errorf("%v: %v holds what is not there, in %s", g, o, showGcHeap(h))
			}
			if has && held.At < begin[3] && space == 3 && !slices.Contains(h.Dirty, (o.At-begin[3])/g.Card) {
				t.Errorf("%v: %v holds a young one in a clean card, in %s", g, o, showGcHeap(h))
			}
		}
	}
	for _, id := range slices.Concat(h.Roots, h.Queue) {
		if _, has := there[id]; !has && (id != 0 || slices.Contains(h.Queue, 0)) {
			t.Errorf("%v: %d is held and not there, in %s", g, id, showGcHeap(h))
		}
	}
}

// What GcLive tells is there behind every cycle as it was; behind a hard one just that is there. What is queued comes behind what was there, each once.
func TestWhatFollowsOfCycles(t *testing.T) {
	t.Parallel()
	b := builder{numbers{state: 1320}}
	gone, queued := 0, 0
	for range 1500 {
		g, ops := b.gcConfig(), b.gcOps(10+b.below(80), false)
		before := impl.GcAt(g, ops)
		testGcHeap(t, g, before)
		for kind := int64(6); kind <= 8; kind++ {
			after := impl.GcAt(g, append(slices.Clone(ops), impl.GcOp{Kind: kind}))
			testGcHeap(t, g, after)
			testLiveStays(t, before, after)
			if kind == 8 {
				ids := []int64{}
				for _, o := range after.Objects {
					ids = append(ids, o.Id)
				}
				slices.Sort(ids)
				same(t, "what is there behind a hard cycle", impl.GcLive(after), ids)
			}
			gone += len(before.Objects) - len(after.Objects)
			queued += len(after.Queue) - len(before.Queue)
		}
	}
	if gone < 1000 || queued < 300 {
		t.Errorf("%d went, %d were queued", gone, queued)
	}
}

func testLiveStays(t *testing.T, before, after impl.GcHeap) {
	t.Helper()
	was, is := gcById(before), gcById(after)
	same(t, "roots", after.Roots, before.Roots)
	for _, id := range impl.GcLive(before) {
		one, other := was[id], is[id]
		weak := one.Kind >= 1 && one.Kind <= 3
		if weak && other.Id == id && other.Fields[0] == 0 {
			one.Fields = slices.Clone(one.Fields)
			one.Fields[0] = 0
		}
		if other.Id != id || other.Kind != one.Kind || !slices.Equal(other.Fields, one.Fields) {
			t.Errorf("%v was live, and is %v, behind %s", one, other, showGcHeap(before))
		}
	}
	if len(after.Queue) < len(before.Queue) || !slices.Equal(after.Queue[:len(before.Queue)], before.Queue) {
		t.Errorf("the queue %v became %v", before.Queue, after.Queue)
		return
	}
	fresh := after.Queue[len(before.Queue):]
	if len(slices.Compact(slices.Sorted(slices.Values(fresh)))) < len(fresh) {
		t.Errorf("one cycle queues %v", fresh)
	}
	for _, id := range fresh {
		if o := is[id]; o.Kind == impl.GcFinal || o.Kind != impl.GcPlain && o.Fields[0] != 0 {
			t.Errorf("%v is queued", o)
		}
	}
}

// plainRun does ops on plain objects that never go; an op that found no room is left out.
func plainRun(ops []impl.GcOp, full func(k int) bool) []impl.GcObs {
	roots, objects, out := make([]int64, 8), [][]int64{nil}, []impl.GcObs{}
	for k, op := range ops {
		o := impl.GcObs{}
		a, b := gcRoot(op.A), gcRoot(op.B)
		switch {
		case op.Kind < 1 || op.Kind > 9 || !a && (op.Kind < 6 || op.Kind > 8) || !b && op.Kind >= 2 && op.Kind <= 4 || op.Kind == 1 && (op.B < 0 || op.B > 6):
			o.Code = impl.GcBad
		case op.Kind == 1 && full(k):
			o.Code = impl.GcFull
		case op.Kind == 1:
			objects = append(objects, make([]int64, op.B))
			roots[op.A] = int64(len(objects) - 1)
		case op.Kind == 2 || op.Kind == 3:
			at := roots[op.B]
			if op.Kind == 3 {
				at = roots[op.A]
			}
			switch fields := objects[at]; {
			case at == 0:
				o.Code = impl.GcNull
			case op.C < 0 || op.C >= int64(len(fields)):
				o.Code = impl.GcField
			case op.Kind == 2:
				roots[op.A] = fields[op.C]
			default:
				fields[op.C] = roots[op.B]
			}
		case op.Kind == 4:
			roots[op.A] = roots[op.B]
		case op.Kind == 5 || op.Kind == 9:
			roots[op.A] = 0
		}
		if o.Code == 0 && a {
			o.N = roots[op.A]
		}
		out = append(out, o)
	}
	return out
}

func withoutCycles(got []impl.GcObs) []impl.GcObs {
	out := slices.Clone(got)
	for k := range out {
		out[k].Cycles = nil
	}
	return out
}

// Whoever looks through plain objects sees no cycle, nor how large the spaces are (promise 11).
func TestPlainObjectsSeeNoCycle(t *testing.T) {
	t.Parallel()
	b := builder{numbers{state: 1330}}
	cycles, fulls := 0, 0
	for range 1500 {
		ops := b.gcOps(20+b.below(150), true)
		for range 4 {
			g := b.gcConfig()
			got := impl.GcRun(g, ops)
			want := plainRun(ops, func(k int) bool { return got[k].Code == impl.GcFull })
			for k := range got {
				cycles += len(got[k].Cycles)
			}
			if !alike(withoutCycles(got), want) {
				t.Fatalf("%v, %v: %v, not %v", g, ops, withoutCycles(got), want)
			}
			if slices.ContainsFunc(got, func(o impl.GcObs) bool { return o.Code == impl.GcFull }) {
				fulls++
			}
		}
		// With room for all of it, and with cycles between all ops.
		large := impl.GcConfig{Eden: 2000, Survivor: 2000, Old: 2000, Age: int64(1 + b.below(15)), Card: int64(1 + b.below(64))}
		never := func(int) bool { return false }
		if got := impl.GcRun(large, ops); !alike(withoutCycles(got), plainRun(ops, never)) {
			t.Fatalf("%v, %v: %v", large, ops, got)
		}
		between, places := []impl.GcOp{}, []int{}
		for _, op := range ops[:min(len(ops), 150)] {
			places = append(places, len(between))
			between = append(between, op, impl.GcOp{Kind: int64(6 + b.below(3))})
		}
		g := b.gcConfig()
		got := impl.GcRun(g, between)
		seen := []impl.GcObs{}
		for _, k := range places {
			seen = append(seen, got[k])
		}
		want := plainRun(ops[:len(places)], func(k int) bool { return seen[k].Code == impl.GcFull })
		if !alike(withoutCycles(seen), want) {
			t.Fatalf("%v, %v: %v, not %v", g, between, withoutCycles(seen), want)
		}
	}
	if cycles < 10000 || fulls < 50 {
		t.Errorf("%d cycles, %d without room", cycles, fulls)
	}
}

// What does not live takes no room: there is some for a new object as long as old has it for what lives and for all that young can occupy.
func TestRoomForWhatLives(t *testing.T) {
	t.Parallel()
	b := builder{numbers{state: 1340}}
	room, none := 0, 0
	for range 1500 {
		g := b.gcConfig()
		if b.below(2) == 0 {
			g.Old = min(g.Old, 24) + g.Eden + g.Survivor
		}
		ops := b.gcOps(100, true)
		for k, o := range impl.GcRun(g, ops) {
			if o.Code != impl.GcFull && len(o.Cycles) < 2 {
				continue
			}
			before := impl.GcAt(g, ops[:k])
			words, live := int64(0), impl.GcLive(before)
			for _, object := range before.Objects {
				if slices.Contains(live, object.Id) {
					words += 1 + int64(len(object.Fields))
				}
			}
			switch fits := words+g.Eden+g.Survivor <= g.Old; {
			case o.Code != impl.GcFull && fits:
				room++
			case o.Code == impl.GcFull && fits:
				t.Fatalf("%v: op %d of %v finds no room, with %d words alive", g, k, ops, words)
			case o.Code == impl.GcFull:
				none++
			}
		}
	}
	if room < 300 || none < 100 {
		t.Errorf("%d find room, %d none", room, none)
	}
}
