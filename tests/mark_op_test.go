package tests

import (
	"fmt"
	"slices"
	"strings"
	"testing"

	"loop.example/g00032/impl"
)

const (
	start = impl.ModeStart
	store = impl.ModeStore
)

func bothModes() []int64 { return []int64{start, store} }

// markTells has the answers to ops written out, as showMarkObs shows them.
func markTells(t *testing.T, modes []int64, ops string, want string) {
	t.Helper()
	list := markOpsOf(ops)
	for _, mode := range modes {
		testMark(t, mode, list)
		got := []string{}
		for _, o := range impl.MarkRun(mode, list) {
			got = append(got, showMarkObs(o))
		}
		if strings.Join(got, " ") != want {
			t.Errorf("mode %d, %s: %s, not %s", mode, ops, strings.Join(got, " "), want)
		}
	}
}

// markStands has what is there behind ops written out, as showMarkHeap shows it.
func markStands(t *testing.T, modes []int64, ops string, want string) {
	t.Helper()
	for _, mode := range modes {
		_, h := testMark(t, mode, markOpsOf(ops))
		if showMarkHeap(h) != want || len(h.Roots) != 8 {
			t.Errorf("mode %d, %s: %s, not %s (%d roots)", mode, ops, showMarkHeap(h), want, len(h.Roots))
		}
	}
}

func TestMarkConstants(t *testing.T) {
	got := []int{impl.MaxMarks, impl.MaxMarkOps, impl.ModeStart, impl.ModeStore, impl.MarkNew, impl.MarkGet, impl.MarkSet, impl.MarkCopy, impl.MarkDrop, impl.MarkBegin, impl.MarkStep, impl.MarkEnd, impl.MarkOk, impl.MarkBad, impl.MarkNull, impl.MarkField, impl.MarkPhase, impl.ColourNone, impl.ColourWhite, impl.ColourGrey, impl.ColourBlack}
	same(t, "constants", got, []int{400, 500, 1, 2, 1, 2, 3, 4, 5, 6, 7, 8, 0, 1, 2, 3, 4, 0, 1, 2, 3})
}

func TestMarkModes(t *testing.T) {
	ops := markOpsOf("new 0 1; begin; new 1 1; step 1; set 0 1 0; end; begin")
	for _, mode := range append(extremes(), -3, -2, 2, 3, 4, 5, 6, 7, 8) {
		got, h := testMark(t, mode, ops)
		right := mode == 1 || mode == 2
		if (len(got) == len(ops)) != right || !right && len(got) != 0 {
			t.Errorf("mode %d: %v", mode, got)
		}
		if alike(h, impl.MarkHeap{}) == right {
			t.Errorf("mode %d: %v", mode, h)
		}
		if !right && (len(impl.MarkRun(mode, nil)) != 0 || !alike(impl.MarkAt(mode, nil), impl.MarkHeap{})) {
			t.Errorf("mode %d, no ops: %v", mode, impl.MarkAt(mode, nil))
		}
	}
}

func TestMostMarkOps(t *testing.T) {
	for _, mode := range bothModes() {
		for _, n := range []int{0, 1, 499, 500, 501, 502, 100000} {
			ops := slices.Repeat(markOpsOf("drop 0"), n)
			if n > 0 {
				ops[n-1] = impl.MarkOp{Kind: impl.MarkNew, A: 7, B: 1}
			}
			got, at := testMark(t, mode, ops)
			if n > 500 {
				if len(got) != 0 || !alike(at, impl.MarkHeap{}) {
					t.Errorf("%d ops: %d answers, %v", n, len(got), at)
				}
				continue
			}
			if len(got) != n || len(at.Roots) != 8 || at.Roots[7] != int64(min(n, 1)) {
				t.Errorf("%d ops: %d answers, %v", n, len(got), at)
			}
		}
	}
	markStands(t, bothModes(), "", "")
}

func TestMarkOps(t *testing.T) {
	both := bothModes()
	markTells(t, both, "new 0 2; new 1 1; set 0 1 1; get 2 0 1; copy 3 2; drop 1; drop 3; copy 5 3; get 6 0 0", "1 2 1 2 2 0 0 0 0")
	markStands(t, both, "new 0 2; new 1 1; set 0 1 1; get 2 0 1; copy 3 2; drop 1", "1[0 2] 2[0] 0=1 2=2 3=2")
	// A root that is read and written at once; objects that hold themselves and each other.
	markTells(t, both, "new 0 1; set 0 0 0; get 0 0 0; new 1 2; set 1 0 0; set 0 1 0; get 1 1 0; copy 1 1; drop 1; drop 1", "1 1 1 2 2 1 1 1 0 0")
	markStands(t, both, "new 0 1; set 0 0 0; new 1 2; set 1 0 1; set 1 1 0", "1[1] 2[2 1] 0=1 1=2")
	// A field can be made null again, and another object be laid over it.
	markStands(t, both, "new 0 1; new 1 0; set 0 1 0; set 0 2 0", "1[0] 2[] 0=1 1=2")
	markStands(t, both, "new 0 1; new 1 0; set 0 1 0; new 1 0; set 0 1 0", "1[3] 2[] 3[] 0=1 1=3")
	// What nobody holds is there till a cycle comes to its end.
	markStands(t, both, "new 0 1; new 0 0; new 0 3; drop 0", "1[0] 2[] 3[0 0 0]")
	// All roots, and all fields.
	markStands(t, both, "new 0 0; new 1 0; new 2 0; new 3 0; new 4 0; new 5 0; new 6 0; new 7 6; set 7 0 0; set 7 1 1; set 7 2 2; set 7 3 3; set 7 4 4; set 7 5 5", "1[] 2[] 3[] 4[] 5[] 6[] 7[] 8[1 2 3 4 5 6] 0=1 1=2 2=3 3=4 4=5 5=6 6=7 7=8")
	// Within a cycle they do the same to roots and fields.
	markTells(t, both, "begin; new 0 2; new 1 1; set 0 1 1; get 2 0 1; copy 3 2; drop 1; drop 3; copy 5 3; get 6 0 0; end", "0 1 2 1 2 2 0 0 0 0 0")
}

func TestMarkNewObjects(t *testing.T) {
	for _, mode := range bothModes() {
		for _, ahead := range []string{"new 3 0", "new 3 0; begin", "new 3 0; begin; end"} {
			for _, root := range append(extremes(), -2, 2, 3, 6, 7, 8, 9) {
				for _, fields := range append(extremes(), -2, 2, 3, 4, 5, 6, 7, 8) {
					right := root >= 0 && root <= 7 && fields >= 0 && fields <= 6
					ops := append(markOpsOf(ahead), impl.MarkOp{Kind: 1, A: root, B: fields, C: fields}, impl.MarkOp{Kind: 1, A: 4, B: 0})
					before := impl.MarkAt(mode, ops[:len(ops)-2])
					got, _ := testMark(t, mode, ops)
					h := impl.MarkAt(mode, ops[:len(ops)-1])
					obs, next := got[len(ops)-2], got[len(ops)-1]
					if !right {
						// Nothing is done: the roots and the next Id are as before.
						if obs.Code != impl.MarkBad || obs.N != 0 || next.N != 2 || !alike(h, before) {
							t.Errorf("root %d, fields %d: %v, %s", root, fields, obs, showMarkHeap(h))
						}
						continue
					}
					colour := int64(impl.ColourNone)
					if before.Cycle {
						colour = impl.ColourBlack
					}
					if obs.Code != 0 || obs.N != 2 || next.N != 3 || h.Roots[root] != 2 {
						t.Errorf("root %d, fields %d: %v, %s", root, fields, obs, showMarkHeap(h))
					}
					same(t, "the object", h.Objects[1], impl.MarkObject{Id: 2, Fields: make([]int64, fields), Colour: colour})
				}
			}
		}
	}
}

// markBad tells whether an op can't be, by the one number that stands at one of its places; all else is 0.
func markBad(kind int64, place int, n int64) bool {
	noRoot := n < 0 || n > 7
	switch {
	case kind < 1 || kind > 8:
		return true
	case place == 0 && kind <= 5:
		return noRoot
	case place == 0 && kind == 7:
		return n < 0 || n > 100
	case place == 1 && kind == 1:
		return n < 0 || n > 6
	case place == 1 && kind <= 4:
		return noRoot
	}
	return false
}

// Each operand that can't be, of each Kind; those that a Kind does not name may be any number.
func TestMarkBadOperands(t *testing.T) {
	places := "new 0 2; new 1 1; set 0 1 1; new 2 1; set 1 2 0; drop 2"
	for _, before := range []string{places, places + "; begin", places + "; begin; step 1; new 3 1", places + "; begin; end"} {
		ahead := markOpsOf(before)
		for _, mode := range bothModes() {
			_, there := testMark(t, mode, ahead)
			for _, kind := range append(extremes(), -2, 2, 3, 4, 5, 6, 7, 8, 9, 10) {
				for _, n := range append(extremes(), -2, 2, 3, 6, 7, 8, 9, 99, 100, 101) {
					for place := range 3 {
						op := impl.MarkOp{Kind: kind}
						*[]*int64{&op.A, &op.B, &op.C}[place] = n
						got, h := testMark(t, mode, append(slices.Clone(ahead), op))
						last := got[len(ahead)]
						if markBad(kind, place, n) != (last.Code == impl.MarkBad) {
							t.Errorf("%s, %v: %v", before, op, last)
						}
						if last.Code != 0 && (last.N != 0 || last.Grey != int64(len(there.Row)) || len(last.Gone) > 0 || !alike(h, there)) {
							t.Errorf("%s, %v: %v, and %s", before, op, last, showMarkHeap(h))
						}
					}
				}
			}
		}
	}
}

func TestMarkNullAndFields(t *testing.T) {
	both := bothModes()
	// Of a null nothing can be read or written, whichever field is named.
	markTells(t, both, "get 0 1 0; set 0 1 0; get 0 1 9; set 0 1 -1; get 0 0 0; new 1 1; get 0 2 0; set 0 1 0; get 1 0 0; set 1 0 0", "null null null null null 1 null null null 1")
	markTells(t, both, "begin; get 0 1 0; set 0 1 0; get 0 1 9; set 0 1 -1", "0 null null null null")
	// What can't be comes ahead of null.
	markTells(t, both, "get 8 0 0; get 0 8 0; set 8 0 0; set 0 8 0; get -1 0 9; set 0 -1 9", "bad bad bad bad bad bad")
	for _, mode := range both {
		for _, cycle := range []string{"copy 7 7", "begin", "begin; step 1", "begin; step 2", "begin; end"} {
			for fields := range int64(7) {
				for _, n := range append(extremes(), -2, 2, 3, 4, 5, 6, 7) {
					ops := append(markOpsOf(fmt.Sprintf("new 0 %d; new 1 0; copy 2 0; %s", fields, cycle)), impl.MarkOp{Kind: 3, A: 0, B: 1, C: n}, impl.MarkOp{Kind: 2, A: 2, B: 0, C: n})
					got, h := testMark(t, mode, ops)
					set, get, held := got[len(ops)-2], got[len(ops)-1], h.Roots[2]
					why := fmt.Sprint(cycle, ", ", fields, " fields, field ", n)
					if n >= 0 && n < fields {
						if set.Code != 0 || set.N != 1 || get.Code != 0 || get.N != 2 || held != 2 {
							t.Errorf("%s: %v, %v, root 2 holds %d", why, set, get, held)
						}
						continue
					}
					if set.Code != impl.MarkField || set.N != 0 || get.Code != impl.MarkField || get.N != 0 || held != 1 {
						t.Errorf("%s: %v, %v, root 2 holds %d", why, set, get, held)
					}
				}
			}
		}
	}
}

func TestMarkPhases(t *testing.T) {
	both := bothModes()
	markTells(t, both, "step 1; end; begin; begin; step 1; begin; end; end; step 0; begin; end", "phase phase 0 phase 0 phase 0 phase phase 0 0")
	// With a Code nothing is done: the row and the colours are as they were.
	ring := "new 0 1; new 1 1; set 0 1 0; drop 1; begin"
	markStands(t, both, ring, "1g[2] 2w[0] 0=1 row 1")
	markStands(t, both, ring+"; begin", "1g[2] 2w[0] 0=1 row 1")
	markStands(t, both, ring+"; step 1; drop 0; begin", "1b[2] 2g[0] row 2")
	markTells(t, both, ring+"; begin; step 1; begin; step 1; begin; end; step 1; end", "1 2 1 0 0/1 phase/1 0/1 phase/1 0 phase 0 phase phase")
	markStands(t, both, "new 0 1; step 3", "1[0] 0=1")
	markStands(t, both, "new 0 1; drop 0; end", "1[0]")
	// A number of steps that can't be comes ahead of the phase.
	markTells(t, both, "step -1; step 101; step 100; step 0", "bad bad phase phase")
	// What A, B and C are of the others is nothing.
	for _, n := range append(extremes(), 7, 8, 100, 101) {
		markTells(t, both, fmt.Sprintf("new 0 1; begin %d %d %d; begin %d %d %d; step 1 %d %d; end %d %d %d; end %d %d %d", n, n, n, n, n, n, n, n, n, n, n, n, n, n), "1 0/1 phase/1 0 0 phase")
	}
}

// A chain of 150 objects: each step finds one more grey one.
func TestMarkSteps(t *testing.T) {
	chain := "new 0 1" + strings.Repeat("; new 1 1; set 1 0 0; copy 0 1", 149) + "; drop 1; begin"
	ops := markOpsOf(chain)
	for _, mode := range bothModes() {
		for _, n := range append(extremes(), 2, 3, 49, 50, 51, 98, 99, 100, 101, 102, 150, 200) {
			got, h := testMark(t, mode, append(slices.Clone(ops), impl.MarkOp{Kind: impl.MarkStep, A: n}))
			last, black := got[len(ops)], int64(0)
			for _, o := range h.Objects {
				if o.Colour == impl.ColourBlack {
					black++
				}
			}
			want, right := n, n >= 0 && n <= 100
			if !right {
				want = 0
			}
			if (last.Code == impl.MarkBad) == right || last.N != 0 || last.Grey != 1 || black != want || h.Row[0] != 150-want {
				t.Errorf("%d steps: %v, %d are black, the row is %v", n, last, black, h.Row)
			}
		}
		_, h := testMark(t, mode, append(slices.Clone(ops), markOpsOf("step 100; step 49")...))
		same(t, "one is left", h.Row, []int64{1})
		_, h = testMark(t, mode, append(slices.Clone(ops), markOpsOf("step 100; step 50")...))
		same(t, "none is left", h.Row, nil)
		_, h = testMark(t, mode, append(slices.Clone(ops), markOpsOf("step 100; step 100; end")...))
		if len(h.Objects) != 150 {
			t.Errorf("%d objects", len(h.Objects))
		}
	}
}

// There are MaxMarks objects in all, whether they are there still or gone.
func TestMostMarkObjects(t *testing.T) {
	goAway := markOpsOf("drop 0; begin; end")
	for _, mode := range bothModes() {
		for _, gone := range []int{0, 1, 200, 399, 400} {
			ops := slices.Repeat(markOpsOf("new 0 6"), gone)
			ops = append(ops, goAway...)
			ops = append(ops, slices.Repeat(markOpsOf("new 0 0"), 400-gone)...)
			ops = append(ops, markOpsOf("copy 1 0; new 0 0; new 2 6; drop 0; begin; new 3 1; step 5; end; new 0 0; begin; end")...)
			got, h := testMark(t, mode, ops)
			rest := got[403:]
			last := int64(400)
			if gone == 400 {
				last = 0
			}
			same(t, "the last one", rest[0], impl.MarkObs{N: last})
			for _, k := range []int{1, 2, 8} {
				same(t, fmt.Sprint("one more: ", k), rest[k], impl.MarkObs{Code: impl.MarkBad})
			}
			same(t, "one more within a cycle", rest[5], impl.MarkObs{Code: impl.MarkBad, Grey: min(last, 1)})
			if h.Roots[1] != last || h.Roots[0]+h.Roots[2]+h.Roots[3] != 0 || len(rest[10].Gone) > 0 || len(h.Objects) != int(min(last, 1)) {
				t.Errorf("%d gone: %s", gone, showMarkHeap(h))
			}
			if went := len(got[gone+2].Gone) + len(rest[7].Gone); went != 400-int(min(last, 1)) {
				t.Errorf("%d gone: %d went", gone, went)
			}
		}
		// Those that could not be made do not count.
		ops := slices.Concat(slices.Repeat(markOpsOf("new 8 0; new 0 7; new 0 0"), 100), slices.Repeat(markOpsOf("new 0 0"), 200))
		got, _ := testMark(t, mode, ops)
		same(t, "the 300th", got[499], impl.MarkObs{N: 300})
	}
}

// N is of ops on roots alone, Grey of all, Gone of MarkEnd alone.
func TestMarkTells(t *testing.T) {
	both := bothModes()
	ahead := "new 0 2; new 1 1; new 2 0; new 7 3; set 0 1 0; "
	markTells(t, both, ahead+"drop 7; begin; copy 3 0; get 4 0 0; get 4 0 1; drop 2; new 5 1; set 5 0 0; set 0 5 1; step 1; step 1; step 0; step 1; end", "1 2 3 4 1 0 0/3 1/3 2/3 0/3 0/3 5/3 5/3 1/3 0/2 0/1 0/1 0 0:4")
	// A root of the number that a cycle's op has is not told.
	markTells(t, both, "new 1 0; begin 1; step 1; end 1; begin 1; end 1", "1 0/1 0 0 0/1 0")
	// Grey is told with a Code, too.
	markTells(t, both, "new 0 1; new 1 0; begin; get 0 5 0; get 0 0 1; set 0 1 -1; begin; new 9 9; step -1; copy 0 8; drop -1; end", "1 2 0/2 null/2 field/2 field/2 phase/2 bad/2 bad/2 bad/2 bad/2 0")
}
