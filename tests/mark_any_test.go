package tests

import (
	"fmt"
	"slices"
	"testing"

	"loop.example/g00032/impl"
)

// markOp makes an op; few roots, so that much is held in fields alone.
func (b *builder) markOp() impl.MarkOp {
	op := impl.MarkOp{A: int64(b.below(4)), B: int64(b.below(4)), C: int64(b.below(2))}
	if b.below(15) == 0 {
		op.A, op.B, op.C = int64(b.below(10)-1), int64(b.below(10)-1), int64(b.below(8)-1)
	}
	switch pick := b.below(100); {
	case pick < 20:
		op.Kind, op.B = 1, int64(1+b.below(2))
		if b.below(6) == 0 {
			op.B = int64(b.below(9) - 1)
		}
	case pick < 42:
		op.Kind = 3
	case pick < 60:
		op.Kind = 2
	case pick < 65:
		op.Kind = 4
	case pick < 80:
		op.Kind = 5
	case pick < 86:
		op.Kind = 6
	case pick < 95:
		op.Kind, op.A = 7, int64(b.below(3))
		if b.below(10) == 0 {
			op.A = []int64{-1, 5, 100, 101}[b.below(4)]
		}
	case pick < 99:
		op.Kind = 8
	default:
		op.Kind = int64(b.below(14) - 2)
	}
	return op
}

func (b *builder) markOps(n int) []impl.MarkOp {
	out := make([]impl.MarkOp, n)
	for k := range out {
		out[k] = b.markOp()
	}
	return out
}

// deepMarkOps lay objects that are held by fields alone, then begin a cycle; in it there is much ado ahead of the first step.
func (b *builder) deepMarkOps(n int) []impl.MarkOp {
	out := markOpsOf("new 0 2")
	for range 2 + b.below(8) {
		keeper := int64(1 + b.below(2))
		out = append(out, impl.MarkOp{Kind: 1, A: 3, B: 2}, impl.MarkOp{Kind: 3, A: 3, B: 0, C: int64(b.below(2))}, impl.MarkOp{Kind: 3, A: 3, B: keeper, C: int64(b.below(2))}, impl.MarkOp{Kind: 4, A: keeper, B: 0}, impl.MarkOp{Kind: 4, A: 0, B: 3})
	}
	out = append(out, markOpsOf("drop 1; drop 2; drop 3; begin")...)
	for len(out) < n {
		if op := b.markOp(); op.Kind < impl.MarkBegin || b.below(3) == 0 {
			out = append(out, op)
		}
	}
	return out
}

// Ops of any form come to what the second working out says, behind each of them.
func TestAnyMarkRuns(t *testing.T) {
	t.Parallel()
	c := &counted{times: map[string]int{}}
	inGroups(t, 1410, func(t *testing.T, b *builder) {
		for k := range 600 {
			mode, ops := int64(1+k%2), b.markOps(20+b.below(80))
			got, h := testMark(t, mode, ops)
			for _, n := range []int{b.below(len(ops)), b.below(len(ops))} {
				testMark(t, mode, ops[:n])
			}
			c.countMark(mode, got, h)
			testMark(t, mode, b.deepMarkOps(70))
		}
		for k := range 6 {
			mode, ops := int64(1+k%2), b.markOps(500)
			got, h := testMark(t, mode, ops)
			c.countMark(mode, got, h)
		}
	})
	c.enough(t, 200, "code 1", "code 2", "code 3", "code 4", "mode 1: gone", "mode 2: gone", "mode 1: several gone", "mode 2: several gone", "mode 1: row of several", "mode 2: row of several", "mode 1: white", "mode 2: white", "mode 1: grey", "mode 2: grey", "mode 1: black", "mode 2: black", "grey with a Code")
}

func (c *counted) countMark(mode int64, got []impl.MarkObs, h impl.MarkHeap) {
	name := fmt.Sprintf("mode %d: ", mode)
	for _, o := range got {
		c.add(fmt.Sprint("code ", o.Code), true)
		c.add("grey with a Code", o.Code != 0 && o.Grey > 0)
		c.add(name+"gone", len(o.Gone) > 0)
		c.add(name+"several gone", len(o.Gone) > 1)
	}
	c.add(name+"row of several", len(h.Row) > 1)
	for _, o := range h.Objects {
		c.add(name+[]string{"none", "white", "grey", "black"}[o.Colour], true)
	}
}

// All short rows of ops on two roots, behind a few beginnings.
func TestSmallMarkRuns(t *testing.T) {
	t.Parallel()
	rows := markOpsOf("new 0 1; get 0 0 0; get 1 0 0; set 0 1 0; set 1 0 0; set 0 2 0; copy 1 0; drop 0; drop 1; begin; step 1; end")
	for _, ahead := range []string{
		"", "new 0 1; new 1 1; set 0 1 0; begin", "new 0 1; new 1 1; set 0 1 0; new 1 1; get 1 0 0; set 1 0 0; drop 1; begin; step 1", "new 0 1; new 1 1; set 0 1 0; drop 1; begin; new 1 1",
	} {
		for _, mode := range bothModes() {
			t.Run(fmt.Sprint(mode, ": ", ahead), func(t *testing.T) {
				t.Parallel()
				ops := append(markOpsOf(ahead), make([]impl.MarkOp, 4)...)
				row := ops[len(ops)-4:]
				for n := range 12 * 12 * 12 * 12 {
					row[0], row[1], row[2], row[3] = rows[n%12], rows[n/12%12], rows[n/144%12], rows[n/1728]
					testMark(t, mode, ops)
				}
			})
		}
	}
}

func markIds(h impl.MarkHeap) []int64 {
	out := []int64{}
	for _, o := range h.Objects {
		out = append(out, o.Id)
	}
	return out
}

// lessIds are the Ids of the first list that no other has.
func lessIds(ids []int64, others ...[]int64) []int64 {
	return slices.DeleteFunc(slices.Clone(ids), func(id int64) bool { return slices.Contains(slices.Concat(others...), id) })
}

// testMarkHeap looks that a heap is of a piece: Ids that ascend, no field, root or place of the row that names what is not there, colours just in a cycle, and just the grey ones in the row.
func testMarkHeap(t *testing.T, h impl.MarkHeap) {
	t.Helper()
	ids, grey := markIds(h), []int64{}
	held := slices.Clone(h.Roots)
	for _, o := range h.Objects {
		held = append(held, o.Fields...)
		if (o.Colour == impl.ColourNone) == h.Cycle || o.Colour < 0 || o.Colour > impl.ColourBlack {
			t.Errorf("%v has a wrong colour in %s", o, showMarkHeap(h))
		}
		if o.Colour == impl.ColourGrey {
			grey = append(grey, o.Id)
		}
	}
	if missing := lessIds(held, ids, []int64{0}); len(missing) > 0 || !slices.IsSorted(ids) || len(slices.Compact(slices.Clone(ids))) < len(ids) {
		t.Errorf("%v are held and not there in %s", missing, showMarkHeap(h))
	}
	if !slices.Equal(slices.Sorted(slices.Values(h.Row)), grey) || !h.Cycle && len(h.Row) > 0 {
		t.Errorf("another row than the grey ones in %s", showMarkHeap(h))
	}
}

// markCycles gives where cycles begin and end, by the answers.
func markCycles(ops []impl.MarkOp, got []impl.MarkObs) [][2]int {
	out, begin := [][2]int{}, 0
	for k, op := range ops {
		if got[k].Code == 0 && op.Kind == impl.MarkBegin {
			begin = k
		}
		if got[k].Code == 0 && op.Kind == impl.MarkEnd {
			out = append(out, [2]int{begin, k})
		}
	}
	return out
}

// No cycle takes what is reached at its end. Of the objects that there were when it began ModeStart takes just those that were not reached then, ModeStore at least those that were not reached then and are not reached at its end.
func TestWhatFollowsOfMarking(t *testing.T) {
	t.Parallel()
	c := &counted{times: map[string]int{}}
	inGroups(t, 1420, func(t *testing.T, b *builder) {
		for k := range 1200 {
			mode, ops := int64(1+k%2), b.markOps(30+b.below(120))
			switch {
			case k%20 == 0:
				ops = b.markOps(500)
			case k%4 > 1:
				ops = b.deepMarkOps(50 + b.below(100))
			}
			got := impl.MarkRun(mode, ops)
			for _, cycle := range markCycles(ops, got) {
				c.testCycle(t, mode, ops, cycle, got[cycle[1]].Gone)
			}
		}
	})
	c.enough(t, 200, "mode 1: gone", "mode 2: gone", "mode 1: reached at its end alone", "mode 2: reached at its end alone", "mode 1: reached when it began alone, and stays", "mode 2: reached when it began alone, and stays", "mode 2: reached when it began alone, and goes", "mode 1: new, and not reached", "mode 2: new, and not reached")
}

func (c *counted) testCycle(t *testing.T, mode int64, ops []impl.MarkOp, cycle [2]int, gone []int64) {
	t.Helper()
	first, last, behind := impl.MarkAt(mode, ops[:cycle[0]]), impl.MarkAt(mode, ops[:cycle[1]]), impl.MarkAt(mode, ops[:cycle[1]+1])
	testMarkHeap(t, first)
	testMarkHeap(t, last)
	testMarkHeap(t, behind)
	was, is, there := impl.MarkReached(first), impl.MarkReached(last), markIds(first)
	why := fmt.Sprint("mode ", mode, ", the cycle ", cycle, " of ", ops)
	if len(lessIds(gone, is)) < len(gone) {
		t.Fatalf("%s takes %v, and %v are reached", why, gone, is)
	}
	if len(lessIds(gone, there)) > 0 {
		t.Fatalf("%s takes new ones: %v", why, gone)
	}
	if want := lessIds(there, was); mode == start && !slices.Equal(gone, want) {
		t.Fatalf("%s takes %v, not %v", why, gone, want)
	}
	if least := lessIds(there, was, is); len(lessIds(least, gone)) > 0 {
		t.Fatalf("%s takes %v, and not all of %v", why, gone, least)
	}
	same(t, why+": what is left", markIds(behind), lessIds(markIds(last), gone))
	same(t, why+": what is reached", impl.MarkReached(behind), is)
	testStays(t, why, last, behind)
	name := fmt.Sprintf("mode %d: ", mode)
	c.add(name+"gone", len(gone) > 0)
	c.add(name+"reached at its end alone", len(lessIds(is, was)) > 0)
	c.add(name+"reached when it began alone, and stays", len(lessIds(was, is, gone)) > 0)
	c.add(name+"reached when it began alone, and goes", len(lessIds(gone, lessIds(gone, was))) > 0)
	c.add(name+"new, and not reached", len(lessIds(markIds(behind), there, is)) > 0)
}

// testStays looks that the objects that are left hold what they held.
func testStays(t *testing.T, why string, last, behind impl.MarkHeap) {
	t.Helper()
	same(t, why+": roots", behind.Roots, last.Roots)
	fields := map[int64][]int64{}
	for _, o := range last.Objects {
		fields[o.Id] = o.Fields
	}
	for _, o := range behind.Objects {
		same(t, why+": fields", o.Fields, fields[o.Id])
	}
}

// A cycle in which nothing else is done takes, in both modes, just what is not reached.
func TestMarkCycleAtOnce(t *testing.T) {
	t.Parallel()
	b := builder{numbers{state: 1430}}
	took := 0
	for k := range 2000 {
		mode, ops := int64(1+k%2), b.markOps(10+b.below(60))
		if impl.MarkAt(mode, ops).Cycle {
			ops = append(ops, impl.MarkOp{Kind: impl.MarkEnd})
		}
		before := impl.MarkAt(mode, ops)
		ops = append(ops, impl.MarkOp{Kind: impl.MarkBegin}, impl.MarkOp{Kind: impl.MarkStep, A: int64(b.below(5))}, impl.MarkOp{Kind: impl.MarkEnd})
		got, after := testMark(t, mode, ops)
		gone := got[len(ops)-1].Gone
		same(t, "gone", gone, lessIds(markIds(before), impl.MarkReached(before)))
		same(t, "what is left", markIds(after), impl.MarkReached(before))
		took += len(gone)
	}
	if took < 2000 {
		t.Errorf("%d went", took)
	}
}

// Whoever looks through roots and fields sees no cycle, nor its mode (promise 11).
func TestMarkedObjectsSeeNoCycle(t *testing.T) {
	t.Parallel()
	b := builder{numbers{state: 1440}}
	gone := 0
	for range 1500 {
		ops := b.markOps(20 + b.below(150))
		plain, places := []impl.MarkOp{}, []int{}
		for k, op := range ops {
			if op.Kind < impl.MarkBegin || op.Kind > impl.MarkEnd {
				plain, places = append(plain, op), append(places, k)
			}
		}
		want := impl.MarkRun(start, plain)
		same(t, "without cycles", want, plainMarkRun(plain))
		for _, mode := range bothModes() {
			got := impl.MarkRun(mode, ops)
			for k, place := range places {
				if got[place].Code != want[k].Code || got[place].N != want[k].N || len(got[place].Gone) > 0 {
					t.Fatalf("mode %d, op %d of %v: %v, not %v", mode, place, ops, got[place], want[k])
				}
			}
			for _, o := range got {
				gone += len(o.Gone)
			}
		}
	}
	if gone < 3000 {
		t.Errorf("%d went", gone)
	}
}

// plainMarkRun does ops on objects that never go: chapter 13 has the same ops.
func plainMarkRun(ops []impl.MarkOp) []impl.MarkObs {
	list, out := []impl.GcOp{}, []impl.MarkObs{}
	for _, op := range ops {
		list = append(list, impl.GcOp{Kind: op.Kind, A: op.A, B: op.B, C: op.C})
		if op.Kind > impl.MarkDrop {
			list[len(list)-1].Kind = 0
		}
	}
	codes := map[int64]int64{impl.GcBad: impl.MarkBad, impl.GcNull: impl.MarkNull, impl.GcField: impl.MarkField}
	for _, o := range plainRun(list, func(int) bool { return false }) {
		out = append(out, impl.MarkObs{Code: codes[o.Code], N: o.N})
	}
	return out
}
