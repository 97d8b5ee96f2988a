package tests

import (
	"fmt"
	"slices"
	"strings"
	"testing"

	"loop.example/g00032/impl"
)

// markShows goes from op to op: each line has an op, what it answers, and what is there behind it, with > between.
func markShows(t *testing.T, modes []int64, ahead string, lines ...string) {
	t.Helper()
	for _, mode := range modes {
		ops := ahead
		for _, line := range lines {
			part := strings.Split(line, ">")
			ops += "; " + part[0]
			list := markOpsOf(ops)
			got, h := testMark(t, mode, list)
			told, there := showMarkObs(got[len(list)-1]), showMarkHeap(h)
			if told != strings.TrimSpace(part[1]) || there != strings.TrimSpace(part[2]) {
				t.Errorf("mode %d, %s: %s > %s\n not%s >%s", mode, ops, told, there, part[1], part[2])
			}
		}
	}
}

func startOnly() []int64 { return []int64{start} }

func storeOnly() []int64 { return []int64{store} }

func TestMarkCycle(t *testing.T) {
	markShows(t, bothModes(), "",
		"new 0 2   > 1     > 1[0 0] 0=1",
		"new 1 1   > 2     > 1[0 0] 2[0] 0=1 1=2",
		"set 0 1 0 > 1     > 1[2 0] 2[0] 0=1 1=2",
		"new 2 0   > 3     > 1[2 0] 2[0] 3[] 0=1 1=2 2=3",
		"set 1 2 0 > 2     > 1[2 0] 2[3] 3[] 0=1 1=2 2=3",
		"drop 1    > 0     > 1[2 0] 2[3] 3[] 0=1 2=3",
		"new 2 1   > 4     > 1[2 0] 2[3] 3[] 4[0] 0=1 2=4",
		"drop 2    > 0     > 1[2 0] 2[3] 3[] 4[0] 0=1",
		"begin     > 0/1   > 1g[2 0] 2w[3] 3w[] 4w[0] 0=1 row 1",
		"step 0    > 0/1   > 1g[2 0] 2w[3] 3w[] 4w[0] 0=1 row 1",
		"step 1    > 0/1   > 1b[2 0] 2g[3] 3w[] 4w[0] 0=1 row 2",
		"step 1    > 0/1   > 1b[2 0] 2b[3] 3g[] 4w[0] 0=1 row 3",
		"step 1    > 0     > 1b[2 0] 2b[3] 3b[] 4w[0] 0=1 row",
		"step 100  > 0     > 1b[2 0] 2b[3] 3b[] 4w[0] 0=1 row",
		"end       > 0:4   > 1[2 0] 2[3] 3[] 0=1",
		"end       > phase > 1[2 0] 2[3] 3[] 0=1",
		"begin     > 0/1   > 1g[2 0] 2w[3] 3w[] 0=1 row 1",
		"end       > 0     > 1[2 0] 2[3] 3[] 0=1",
		"drop 0    > 0     > 1[2 0] 2[3] 3[]",
		"begin     > 0     > 1w[2 0] 2w[3] 3w[] row",
		"new 7 0   > 5     > 1w[2 0] 2w[3] 3w[] 5b[] 7=5 row",
		"end       > 0:1,2,3 > 5[] 7=5",
	)
}

// A cycle without objects, and one in which all are new.
func TestMarkCyclesOfNothing(t *testing.T) {
	markShows(t, bothModes(), "",
		"begin   > 0 > row",
		"step 7  > 0 > row",
		"new 0 1 > 1 > 1b[0] 0=1 row",
		"new 0 0 > 2 > 1b[0] 2b[] 0=2 row",
		"drop 0  > 0 > 1b[0] 2b[] row",
		"step 7  > 0 > 1b[0] 2b[] row",
		"end     > 0 > 1[0] 2[]",
		"begin   > 0 > 1w[0] 2w[] row",
		"end     > 0:1,2 > ",
		"begin   > 0 > row",
		"end     > 0 > ",
	)
}

// What the roots hold is shaded by number, each object once; what is not white is not shaded.
func TestMarkBeginShades(t *testing.T) {
	both := bothModes()
	markStands(t, both, "new 7 0; new 3 1; new 0 2; new 5 0; begin", "1g[] 2g[0] 3g[0 0] 4g[] 0=3 3=2 5=4 7=1 row 3 2 4 1")
	markStands(t, both, "new 7 0; copy 0 7; copy 3 7; new 1 0; copy 6 1; begin", "1g[] 2g[] 0=1 1=2 3=1 6=2 7=1 row 1 2")
	markStands(t, both, "new 0 0; drop 0; new 4 0; begin", "1w[] 2g[] 4=2 row 2")
	markStands(t, both, "new 0 1; set 0 0 0; new 1 1; set 0 1 0; begin", "1g[2] 2g[0] 0=1 1=2 row 1 2")
	markStands(t, both, "new 0 0; new 1 0; new 2 0; new 3 0; new 4 0; new 5 0; new 6 0; new 7 0; new 0 0; begin", "1w[] 2g[] 3g[] 4g[] 5g[] 6g[] 7g[] 8g[] 9g[] 0=9 1=2 2=3 3=4 4=5 5=6 6=7 7=8 row 9 2 3 4 5 6 7 8")
	// The second cycle begins anew: the black ones of the first one are white again.
	markStands(t, both, "new 0 1; new 1 0; set 0 1 0; drop 1; begin; step 9; end; begin", "1g[2] 2w[] 0=1 row 1")
	markStands(t, both, "begin; new 0 0; new 1 0; drop 0; end; begin", "1w[] 2g[] 1=2 row 2")
}

// The first one of the row first; what its fields hold comes to the end, in order.
func TestMarkRow(t *testing.T) {
	// 1 holds 3, 2 and 3; 2 holds 1, 4 and 5; 3 holds 5, 6 and null.
	tree := "new 0 3; new 1 3; new 2 3; new 3 0; new 4 0; new 5 0; set 0 2 0; set 0 1 1; set 0 2 2; set 1 0 0; set 1 3 1; set 1 4 2; set 2 4 0; set 2 5 1; drop 1; drop 2; drop 3; drop 4; drop 5"
	markShows(t, bothModes(), tree,
		"begin  > 0/1 > 1g[3 2 3] 2w[1 4 5] 3w[5 6 0] 4w[] 5w[] 6w[] 0=1 row 1",
		"step 1 > 0/2 > 1b[3 2 3] 2g[1 4 5] 3g[5 6 0] 4w[] 5w[] 6w[] 0=1 row 3 2",
		"step 1 > 0/3 > 1b[3 2 3] 2g[1 4 5] 3b[5 6 0] 4w[] 5g[] 6g[] 0=1 row 2 5 6",
		"step 1 > 0/3 > 1b[3 2 3] 2b[1 4 5] 3b[5 6 0] 4g[] 5g[] 6g[] 0=1 row 5 6 4",
		"step 2 > 0/1 > 1b[3 2 3] 2b[1 4 5] 3b[5 6 0] 4g[] 5b[] 6b[] 0=1 row 4",
		"step 2 > 0   > 1b[3 2 3] 2b[1 4 5] 3b[5 6 0] 4b[] 5b[] 6b[] 0=1 row",
		"end    > 0   > 1[3 2 3] 2[1 4 5] 3[5 6 0] 4[] 5[] 6[] 0=1",
	)
	// Several at once are the same as one by one, also those that become grey meanwhile.
	markStands(t, bothModes(), tree+"; begin; step 3", "1b[3 2 3] 2b[1 4 5] 3b[5 6 0] 4g[] 5g[] 6g[] 0=1 row 5 6 4")
	markStands(t, bothModes(), tree+"; begin; step 6", "1b[3 2 3] 2b[1 4 5] 3b[5 6 0] 4b[] 5b[] 6b[] 0=1 row")
	markStands(t, bothModes(), tree+"; begin; step 7", "1b[3 2 3] 2b[1 4 5] 3b[5 6 0] 4b[] 5b[] 6b[] 0=1 row")
	// One that holds itself is not shaded again.
	markStands(t, bothModes(), "new 0 2; set 0 0 0; set 0 0 1; begin; step 1", "1b[1 1] 0=1 row")
	markStands(t, bothModes(), "new 0 2; set 0 0 0; set 0 0 1; begin; step 2", "1b[1 1] 0=1 row")
}

// New objects are black, do not come to the row, and are not shaded.
func TestMarkNewWithinACycle(t *testing.T) {
	markShows(t, bothModes(), "new 0 1",
		"begin     > 0/1 > 1g[0] 0=1 row 1",
		"new 1 2   > 2/1 > 1g[0] 2b[0 0] 0=1 1=2 row 1",
		"set 0 1 0 > 1/1 > 1g[2] 2b[0 0] 0=1 1=2 row 1",
		"step 1    > 0   > 1b[2] 2b[0 0] 0=1 1=2 row",
		"set 0 1 0 > 1   > 1b[2] 2b[0 0] 0=1 1=2 row",
		"new 0 0   > 3   > 1b[2] 2b[0 0] 3b[] 0=3 1=2 row",
		"drop 0    > 0   > 1b[2] 2b[0 0] 3b[] 1=2 row",
		"drop 1    > 0   > 1b[2] 2b[0 0] 3b[] row",
		"end       > 0   > 1[2] 2[0 0] 3[]",
		"begin     > 0   > 1w[2] 2w[0 0] 3w[] row",
		"end       > 0:1,2,3 > ",
	)
}

// With ModeStart what the field held is shaded, whatever the colour of the object, and whatever is stored.
func TestMarkSetStart(t *testing.T) {
	// 1 holds 2, 2 holds 3, 3 holds 4, and root 1 holds 3.
	list := "new 0 1; new 1 1; set 0 1 0; new 2 1; set 1 2 0; new 3 0; set 2 3 0; copy 1 2; drop 2; drop 3"
	markShows(t, startOnly(), list,
		"drop 1    > 0   > 1[2] 2[3] 3[4] 4[] 0=1",
		"begin     > 0/1 > 1g[2] 2w[3] 3w[4] 4w[] 0=1 row 1",
		"get 1 0 0 > 2/1 > 1g[2] 2w[3] 3w[4] 4w[] 0=1 1=2 row 1",
		// By a white one.
		"set 1 7 0 > 2/2 > 1g[2] 2w[0] 3g[4] 4w[] 0=1 1=2 row 1 3",
		// By a grey one.
		"set 0 7 0 > 1/3 > 1g[0] 2g[0] 3g[4] 4w[] 0=1 1=2 row 1 3 2",
		// What the field held was null, and then one that is grey already.
		"set 0 1 0 > 1/3 > 1g[2] 2g[0] 3g[4] 4w[] 0=1 1=2 row 1 3 2",
		"set 0 7 0 > 1/3 > 1g[0] 2g[0] 3g[4] 4w[] 0=1 1=2 row 1 3 2",
		"step 1    > 0/2 > 1b[0] 2g[0] 3g[4] 4w[] 0=1 1=2 row 3 2",
		"step 1    > 0/2 > 1b[0] 2g[0] 3b[4] 4g[] 0=1 1=2 row 2 4",
		"end       > 0   > 1[0] 2[0] 3[4] 4[] 0=1 1=2",
		"begin     > 0/2 > 1g[0] 2g[0] 3w[4] 4w[] 0=1 1=2 row 1 2",
		"end       > 0:3,4 > 1[0] 2[0] 0=1 1=2",
	)
	// By a black one: it was stored there within the cycle; what is stored is not shaded.
	markShows(t, startOnly(), list,
		"begin     > 0/2 > 1g[2] 2w[3] 3g[4] 4w[] 0=1 1=3 row 1 3",
		"get 2 0 0 > 2/2 > 1g[2] 2w[3] 3g[4] 4w[] 0=1 1=3 2=2 row 1 3",
		"get 3 1 0 > 4/2 > 1g[2] 2w[3] 3g[4] 4w[] 0=1 1=3 2=2 3=4 row 1 3",
		"new 4 2   > 5/2 > 1g[2] 2w[3] 3g[4] 4w[] 5b[0 0] 0=1 1=3 2=2 3=4 4=5 row 1 3",
		"set 4 3 1 > 5/2 > 1g[2] 2w[3] 3g[4] 4w[] 5b[0 4] 0=1 1=3 2=2 3=4 4=5 row 1 3",
		"set 4 2 0 > 5/2 > 1g[2] 2w[3] 3g[4] 4w[] 5b[2 4] 0=1 1=3 2=2 3=4 4=5 row 1 3",
		"set 4 2 1 > 5/3 > 1g[2] 2w[3] 3g[4] 4g[] 5b[2 2] 0=1 1=3 2=2 3=4 4=5 row 1 3 4",
		"set 4 4 0 > 5/4 > 1g[2] 2g[3] 3g[4] 4g[] 5b[5 2] 0=1 1=3 2=2 3=4 4=5 row 1 3 4 2",
		"set 4 4 1 > 5/4 > 1g[2] 2g[3] 3g[4] 4g[] 5b[5 5] 0=1 1=3 2=2 3=4 4=5 row 1 3 4 2",
	)
	// Outside of a cycle nothing is shaded.
	markStands(t, startOnly(), list+"; set 0 1 0; set 0 7 0", "1[0] 2[3] 3[4] 4[] 0=1 1=3")
	markStands(t, startOnly(), list+"; begin; end; set 0 1 0; set 0 7 0", "1[0] 2[3] 3[4] 4[] 0=1 1=3")
	// What can't be done shades nothing.
	markStands(t, startOnly(), list+"; begin; set 0 7 1; set 0 8 0; set 7 0 0", "1g[2] 2w[3] 3g[4] 4w[] 0=1 1=3 row 1 3")
	// What holds itself, and is white.
	markStands(t, startOnly(), "new 0 2; new 1 2; set 0 1 0; set 1 1 0; drop 1; begin; get 1 0 0; set 1 0 0", "1g[2 0] 2g[1 0] 0=1 1=2 row 1 2")
}

// With ModeStore what is stored is shaded, if the object is black; what the field held is not.
func TestMarkSetStore(t *testing.T) {
	// 1 holds 2 and 3; root 0 holds 1, root 1 holds 4.
	list := "new 0 2; new 1 1; set 0 1 0; new 1 1; set 0 1 1; new 1 2"
	markShows(t, storeOnly(), list,
		"begin     > 0/2 > 1g[2 3] 2w[0] 3w[0] 4g[0 0] 0=1 1=4 row 1 4",
		"get 2 0 0 > 2/2 > 1g[2 3] 2w[0] 3w[0] 4g[0 0] 0=1 1=4 2=2 row 1 4",
		"get 3 0 1 > 3/2 > 1g[2 3] 2w[0] 3w[0] 4g[0 0] 0=1 1=4 2=2 3=3 row 1 4",
		// By a white one, and by a grey one.
		"set 2 3 0 > 2/2 > 1g[2 3] 2w[3] 3w[0] 4g[0 0] 0=1 1=4 2=2 3=3 row 1 4",
		"set 0 7 0 > 1/2 > 1g[0 3] 2w[3] 3w[0] 4g[0 0] 0=1 1=4 2=2 3=3 row 1 4",
		"set 0 7 1 > 1/2 > 1g[0 0] 2w[3] 3w[0] 4g[0 0] 0=1 1=4 2=2 3=3 row 1 4",
		"set 1 3 0 > 4/2 > 1g[0 0] 2w[3] 3w[0] 4g[3 0] 0=1 1=4 2=2 3=3 row 1 4",
		"set 1 7 0 > 4/2 > 1g[0 0] 2w[3] 3w[0] 4g[0 0] 0=1 1=4 2=2 3=3 row 1 4",
		"step 1    > 0/1 > 1b[0 0] 2w[3] 3w[0] 4g[0 0] 0=1 1=4 2=2 3=3 row 4",
		// By a black one: a grey one, one that is white, that one again, null, and itself.
		"set 0 1 0 > 1/1 > 1b[4 0] 2w[3] 3w[0] 4g[0 0] 0=1 1=4 2=2 3=3 row 4",
		"set 0 2 1 > 1/2 > 1b[4 2] 2g[3] 3w[0] 4g[0 0] 0=1 1=4 2=2 3=3 row 4 2",
		"set 0 2 0 > 1/2 > 1b[2 2] 2g[3] 3w[0] 4g[0 0] 0=1 1=4 2=2 3=3 row 4 2",
		"set 0 7 0 > 1/2 > 1b[0 2] 2g[3] 3w[0] 4g[0 0] 0=1 1=4 2=2 3=3 row 4 2",
		"set 0 0 1 > 1/2 > 1b[0 1] 2g[3] 3w[0] 4g[0 0] 0=1 1=4 2=2 3=3 row 4 2",
		// By a new one, which is black.
		"new 4 1   > 5/2 > 1b[0 1] 2g[3] 3w[0] 4g[0 0] 5b[0] 0=1 1=4 2=2 3=3 4=5 row 4 2",
		"set 4 3 0 > 5/3 > 1b[0 1] 2g[3] 3g[0] 4g[0 0] 5b[3] 0=1 1=4 2=2 3=3 4=5 row 4 2 3",
		"step 2    > 0/1 > 1b[0 1] 2b[3] 3g[0] 4b[0 0] 5b[3] 0=1 1=4 2=2 3=3 4=5 row 3",
	)
	markStands(t, storeOnly(), list+"; set 0 1 0; set 0 7 0", "1[0 3] 2[0] 3[0] 4[0 0] 0=1 1=4")
	markStands(t, storeOnly(), list+"; begin; step 9; end; set 0 1 0; set 0 7 0", "1[0 3] 2[0] 3[0] 4[0 0] 0=1 1=4")
	// What can't be done shades nothing.
	markStands(t, storeOnly(), list+"; begin; get 2 0 0; new 3 0; set 3 2 0; set 3 2 -1; set 7 2 0; set 3 8 0", "1g[2 3] 2w[0] 3w[0] 4g[0 0] 5b[] 0=1 1=4 2=2 3=5 row 1 4")
}

// With ModeStore what the roots hold at the end stays; with ModeStart that is what was reached at the beginning, or is new.
func TestMarkEndLooksAtRoots(t *testing.T) {
	// Root 1 takes 2 out of 1, which is dropped ahead of any step.
	taken := "new 0 1; new 1 1; set 0 1 0; new 2 0; set 1 2 0; drop 1; drop 2; begin; get 1 0 0; "
	markShows(t, startOnly(), taken+"set 0 7 0",
		"step 1 > 0/1 > 1b[0] 2g[3] 3w[] 0=1 1=2 row 2",
		"end    > 0   > 1[0] 2[3] 3[] 0=1 1=2",
	)
	markShows(t, storeOnly(), taken+"set 0 7 0",
		"step 1 > 0   > 1b[0] 2w[3] 3w[] 0=1 1=2 row",
		"end    > 0   > 1[0] 2[3] 3[] 0=1 1=2",
	)
	// Root 1 lets go of it again: with ModeStore it goes, at once.
	markTells(t, startOnly(), taken+"set 0 7 0; step 1; drop 1; end; begin; end", "1 2 1 3 2 0 0 0/1 2/1 1/2 0/1 0/1 0 0/1 0:2,3")
	markTells(t, storeOnly(), taken+"set 0 7 0; step 1; drop 1; end; begin; end", "1 2 1 3 2 0 0 0/1 2/1 1/1 0 0 0:2,3 0/1 0")
	// Root 1 keeps what it holds of 2 alone.
	markTells(t, startOnly(), taken+"get 2 1 0; set 0 7 0; drop 1; end; begin; end", "1 2 1 3 2 0 0 0/1 2/1 3/1 1/2 0/2 0 0/2 0:2")
	markTells(t, storeOnly(), taken+"get 2 1 0; set 0 7 0; drop 1; end; begin; end", "1 2 1 3 2 0 0 0/1 2/1 3/1 1/1 0/1 0:2 0/2 0")
}

// Grey ones that are left at the end are done then, with all that they lead to.
func TestMarkEndDoesGreyOnes(t *testing.T) {
	chain := "new 0 1" + strings.Repeat("; new 1 1; set 1 0 0; copy 0 1", 119) + "; drop 1; new 2 0; drop 2; begin"
	for _, mode := range bothModes() {
		for _, steps := range []string{"", "; step 1", "; step 60", "; step 100; step 19", "; step 100; step 20"} {
			ops := markOpsOf(chain + steps + "; end")
			got, h := testMark(t, mode, ops)
			same(t, "the end", got[len(ops)-1], impl.MarkObs{Gone: []int64{121}})
			if len(h.Objects) != 120 || h.Cycle || len(h.Row) > 0 {
				t.Errorf("mode %d%s: %d objects", mode, steps, len(h.Objects))
			}
			for _, o := range h.Objects {
				if o.Colour != impl.ColourNone {
					t.Errorf("mode %d%s: %v has a colour", mode, steps, o)
				}
			}
		}
	}
	// As many as ops can lay into one chain.
	long := markOpsOf("new 0 1" + strings.Repeat("; new 1 1; set 1 0 0; new 0 1; set 0 1 0", 124) + "; drop 1; begin; end")
	for _, mode := range bothModes() {
		got, h := testMark(t, mode, long)
		if len(got) != 500 || len(got[499].Gone) > 0 || len(h.Objects) != 249 {
			t.Errorf("mode %d: %d answers, %d objects", mode, len(got), len(h.Objects))
		}
	}
}

// The white ones go, ascending.
func TestMarkGone(t *testing.T) {
	both := bothModes()
	markTells(t, both, "new 0 0; new 1 0; new 2 0; new 3 0; new 4 0; drop 3; drop 0; drop 2; begin; end", "1 2 3 4 5 0 0 0 0/2 0:1,3,4")
	markStands(t, both, "new 0 0; new 1 0; new 2 0; new 3 0; new 4 0; drop 3; drop 0; drop 2; begin; end", "2[] 5[] 1=2 4=5")
	// Rings that nothing holds: of one, of two, of three with one that is held by them.
	markTells(t, both, "new 0 1; set 0 0 0; drop 0; begin; end", "1 1 0 0 0:1")
	markTells(t, both, "new 0 1; new 1 1; set 0 1 0; set 1 0 0; drop 0; drop 1; begin; end", "1 2 1 2 0 0 0 0:1,2")
	ring := "new 5 0; new 0 2; new 1 2; new 2 2; set 0 1 0; set 1 2 0; set 2 0 0; new 3 0; set 2 3 1; drop 3; drop 1; drop 2"
	markStands(t, both, ring+"; begin; end", "1[] 2[3 0] 3[4 0] 4[2 5] 5[] 0=2 5=1")
	markStands(t, both, ring+"; drop 0; begin; end", "1[] 5=1")
	markTells(t, both, ring+"; drop 0; begin; step 100; end", "1 2 3 4 2 3 4 5 4 0 0 0 0 0/1 0 0:2,3,4,5")
	// A ring that holds one that is held elsewhere, too.
	markStands(t, both, ring+"; set 1 5 1; get 1 0 0; set 1 5 1; drop 0; drop 1; begin; end", "1[] 5=1")
}

// What was let go of within the cycle: with ModeStart all of it stays till the next one.
func TestMarkLetGoWithinACycle(t *testing.T) {
	both := bothModes()
	// What a root held at the beginning is grey, and stays in both modes.
	markTells(t, both, "new 0 0; begin; drop 0; end; begin; end", "1 0/1 0/1 0 0 0:1")
	// What was reached by a field that is written over ahead of its step.
	let := "new 0 1; new 1 0; set 0 1 0; drop 1; begin; set 0 7 0; end; begin; end"
	markTells(t, startOnly(), let, "1 2 1 0 0/1 1/2 0 0/1 0:2")
	markTells(t, storeOnly(), let, "1 2 1 0 0/1 1/1 0:2 0/1 0")
	// Behind its step it stays in both.
	markTells(t, both, "new 0 1; new 1 0; set 0 1 0; drop 1; begin; step 1; set 0 7 0; end; begin; end", "1 2 1 0 0/1 0/1 1/1 0 0/1 0:2")
	// What was not reached at the beginning goes, with what it holds.
	markTells(t, both, "new 0 1; new 1 0; set 0 1 0; drop 1; drop 0; begin; new 0 1; set 0 0 0; end", "1 2 1 0 0 0 3 3 0:1,2")
	// A white one that a black one takes, while the one that held it lets go of it.
	hidden := "new 0 1; new 1 1; set 0 1 0; drop 1; begin; new 2 1; get 3 0 0; set 2 3 0; set 0 7 0; drop 3; "
	markStands(t, startOnly(), hidden, "1g[0] 2g[0] 3b[2] 0=1 2=3 row 1 2")
	markStands(t, storeOnly(), hidden, "1g[0] 2g[0] 3b[2] 0=1 2=3 row 1 2")
	markStands(t, both, hidden+"end", "1[0] 2[0] 3[2] 0=1 2=3")
	markStands(t, both, hidden+"step 1; step 1; end", "1[0] 2[0] 3[2] 0=1 2=3")
	// The black one goes, too; what it held was shaded, and stays this time.
	markTells(t, startOnly(), hidden+"drop 2; drop 0; end; begin; end", "1 2 1 0 0/1 3/1 2/1 3/1 1/2 0/2 0/2 0/2 0 0 0:1,2,3")
	markTells(t, storeOnly(), hidden+"drop 2; drop 0; end; begin; end", "1 2 1 0 0/1 3/1 2/1 3/2 1/2 0/2 0/2 0/2 0 0 0:1,2,3")
}

// A second cycle takes what the first one left, and knows nothing of its colours.
func TestMarkSecondCycle(t *testing.T) {
	markShows(t, bothModes(), "new 0 1; new 1 1; set 0 1 0; drop 1",
		"begin     > 0/1 > 1g[2] 2w[0] 0=1 row 1",
		"step 2    > 0   > 1b[2] 2b[0] 0=1 row",
		"drop 0    > 0   > 1b[2] 2b[0] row",
		"new 3 1   > 3   > 1b[2] 2b[0] 3b[0] 3=3 row",
		"end       > 0   > 1[2] 2[0] 3[0] 3=3",
		"new 4 0   > 4   > 1[2] 2[0] 3[0] 4[] 3=3 4=4",
		"set 3 4 0 > 3   > 1[2] 2[0] 3[4] 4[] 3=3 4=4",
		"drop 4    > 0   > 1[2] 2[0] 3[4] 4[] 3=3",
		"begin     > 0/1 > 1w[2] 2w[0] 3g[4] 4w[] 3=3 row 3",
		"end       > 0:1,2 > 3[4] 4[] 3=3",
		"new 0 0   > 5   > 3[4] 4[] 5[] 0=5 3=3",
		"get 0 3 0 > 4   > 3[4] 4[] 5[] 0=4 3=3",
		"begin     > 0/2 > 3g[4] 4g[] 5w[] 0=4 3=3 row 4 3",
		"end       > 0:5 > 3[4] 4[] 0=4 3=3",
	)
	// As many cycles as may be.
	for _, mode := range bothModes() {
		ops := slices.Repeat(markOpsOf("new 0 1; begin; step 1; end"), 125)
		got, h := testMark(t, mode, ops)
		for k := 7; k < 500; k += 4 {
			same(t, fmt.Sprint("cycle ", k/4), got[k], impl.MarkObs{Gone: []int64{int64(k / 4)}})
		}
		same(t, "the last one", showMarkHeap(h), "125[0] 0=125")
	}
}
