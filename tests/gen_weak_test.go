package tests

import (
	"cmp"
	"fmt"
	"slices"
	"strings"
	"testing"

	"loop.example/g00032/impl"
)

// showKept shows the objects by Id, with their kinds and fields, and the queue: what does not hang on where they lie.
func showKept(h impl.GcHeap) string {
	objects := slices.SortedFunc(slices.Values(h.Objects), func(a, b impl.GcObject) int { return cmp.Compare(a.Id, b.Id) })
	out := []string{}
	for _, o := range objects {
		out = append(out, fmt.Sprintf("%d%c%v", o.Id, "pwshf"[o.Kind], o.Fields))
	}
	if len(h.Queue) > 0 {
		out = append(out, "|", strings.Trim(fmt.Sprint(h.Queue), "[]"))
	}
	return strings.Join(out, " ")
}

// keeps says what is there behind a cycle: with all objects in eden, in from, and in old (where a minor one does not look).
func keeps(t *testing.T, build, drops string, soft, hard string) {
	t.Helper()
	young, old := wide(), wide()
	old.Age = 1
	for _, c := range []struct {
		g     impl.GcConfig
		ahead string
		cycle string
		want  string
	}{
		{young, "", "minor", soft}, {young, "", "major", soft}, {young, "", "hard", hard},
		{young, "minor", "minor", soft}, {young, "minor", "major", soft}, {young, "minor", "hard", hard},
		{old, "minor", "major", soft}, {old, "minor", "hard", hard}, {young, "hard", "hard", hard},
		{young, "", "minor; major; minor", soft}, {young, "", "hard; hard; major", hard},
	} {
		_, h := testGc(t, c.g, gcOpsOf(build+";"+c.ahead+";"+drops+";"+c.cycle))
		if got := showKept(h); got != c.want {
			t.Errorf("%s; %s; %s; %s: %s, not %s", build, c.ahead, drops, c.cycle, got, c.want)
		}
	}
	_, before := testGc(t, old, gcOpsOf(build+"; minor;"+drops))
	_, after := testGc(t, old, gcOpsOf(build+"; minor;"+drops+"; minor"))
	if showKept(before) != showKept(after) {
		t.Errorf("%s; %s: a minor cycle changes %s to %s, all of it old", build, drops, showKept(before), showKept(after))
	}
}

// alwaysKeeps has the same behind every cycle.
func alwaysKeeps(t *testing.T, build, drops string, want string) {
	t.Helper()
	keeps(t, build, drops, want, want)
}

func TestKeptByStrongFields(t *testing.T) {
	alwaysKeeps(t, "new 0 0", "", "1p[]")
	alwaysKeeps(t, "new 0 0", "drop 0", "")
	alwaysKeeps(t, "new 0 1; set 0 0 0", "drop 0", "")
	alwaysKeeps(t, "new 0 1; new 1 1; set 0 1 0; set 1 0 0", "drop 1", "1p[2] 2p[1]")
	alwaysKeeps(t, "new 0 1; new 1 1; set 0 1 0; set 1 0 0", "drop 0; drop 1", "")
	alwaysKeeps(t, "new 0 6; new 1 0; new 2 0; new 3 0; set 0 1 0; set 0 2 3; set 0 3 5", "drop 1; drop 2; drop 3", "1p[2 0 0 3 0 4] 2p[] 3p[] 4p[]")
	alwaysKeeps(t, "new 0 1; new 1 1; new 2 1; set 0 1 0; set 1 2 0", "drop 1; drop 2", "1p[2] 2p[3] 3p[0]")
	alwaysKeeps(t, "new 0 1; new 1 1; new 2 1; set 0 1 0; set 1 2 0", "drop 0; drop 2", "2p[3] 3p[0]")
}

func TestWeakOnes(t *testing.T) {
	two := "new 0 1 weak; new 1 0; set 0 1 0"
	alwaysKeeps(t, two, "", "1w[2] 2p[]")
	alwaysKeeps(t, two, "drop 1", "1w[0] | 1")
	alwaysKeeps(t, two, "drop 0", "2p[]")
	alwaysKeeps(t, two, "drop 0; drop 1", "")
	// A null that it holds is nothing that went.
	alwaysKeeps(t, "new 0 1 weak", "", "1w[0]")
	// Its other fields are strong.
	alwaysKeeps(t, "new 0 3 weak; new 1 0; set 0 1 2", "drop 1", "1w[0 0 2] 2p[]")
	alwaysKeeps(t, "new 0 2 weak; new 1 0; set 0 1 0; set 0 1 1", "drop 1", "1w[2 2] 2p[]")
	// Held by another object, by one of its kind, by itself, in rings.
	alwaysKeeps(t, "new 0 1; new 1 1 weak; new 2 0; set 0 1 0; set 1 2 0", "drop 1; drop 2", "1p[2] 2w[0] | 2")
	alwaysKeeps(t, "new 0 1 weak; new 1 1 weak; new 2 0; set 0 1 0; set 1 2 0", "drop 1", "1w[0] 3p[] | 1")
	alwaysKeeps(t, "new 0 1 weak; new 1 1 weak; new 2 0; set 0 1 0; set 1 2 0", "drop 2", "1w[2] 2w[0] | 2")
	alwaysKeeps(t, "new 0 1 weak; set 0 0 0", "", "1w[1]")
	alwaysKeeps(t, "new 0 1 weak; set 0 0 0", "drop 0", "")
	ring := "new 0 1 weak; new 1 1 weak; set 0 1 0; set 1 0 0"
	alwaysKeeps(t, ring, "", "1w[2] 2w[1]")
	alwaysKeeps(t, ring, "drop 1", "1w[0] | 1")
	alwaysKeeps(t, ring, "drop 0", "2w[0] | 2")
	alwaysKeeps(t, ring, "drop 0; drop 1", "")
	alwaysKeeps(t, "new 0 1 weak; new 1 1 weak; new 2 0; set 0 2 0; set 1 2 0", "drop 2", "1w[0] 2w[0] | 1 2")
	alwaysKeeps(t, "new 0 1 weak; new 1 1; set 0 1 0; set 1 0 0", "drop 1", "1w[0] | 1")
	alwaysKeeps(t, "new 0 1 weak; new 1 1; set 0 1 0; set 1 0 0", "drop 0", "1w[2] 2p[1]")
}

func TestSoftOnes(t *testing.T) {
	two := "new 0 1 soft; new 1 0; set 0 1 0"
	alwaysKeeps(t, two, "", "1s[2] 2p[]")
	keeps(t, two, "drop 1", "1s[2] 2p[]", "1s[0] | 1")
	alwaysKeeps(t, two, "drop 0", "2p[]")
	alwaysKeeps(t, two, "drop 0; drop 1", "")
	alwaysKeeps(t, "new 0 2 soft; new 1 0; set 0 1 1", "drop 1", "1s[0 2] 2p[]")
	keeps(t, "new 0 1 soft; new 1 1 soft; new 2 0; set 0 1 0; set 1 2 0", "drop 1; drop 2", "1s[2] 2s[3] 3p[]", "1s[0] | 1")
	keeps(t, "new 0 1; new 1 1 soft; new 2 0; set 0 1 0; set 1 2 0", "drop 1; drop 2", "1p[2] 2s[3] 3p[]", "1p[2] 2s[0] | 2")
	alwaysKeeps(t, "new 0 1 soft; set 0 0 0", "", "1s[1]")
	alwaysKeeps(t, "new 0 1 soft; set 0 0 0", "drop 0", "")
	ring := "new 0 1 soft; new 1 1 soft; set 0 1 0; set 1 0 0"
	keeps(t, ring, "drop 1", "1s[2] 2s[1]", "1s[0] | 1")
	alwaysKeeps(t, ring, "drop 0; drop 1", "")
	// In a hard cycle weak and soft ones go by address, both; in another one what is held softly is held.
	both := "new 0 1 soft; new 1 1 weak; new 2 1 soft; new 3 0; set 0 3 0; set 1 3 0; set 2 3 0"
	keeps(t, both, "drop 3", "1s[4] 2w[4] 3s[4] 4p[]", "1s[0] 2w[0] 3s[0] | 1 2 3")
	keeps(t, "new 0 1 weak; new 1 1 soft; new 2 0; set 0 2 0; set 1 2 0", "drop 2", "1w[3] 2s[3] 3p[]", "1w[0] 2s[0] | 1 2")
	// One that nobody holds holds nothing.
	alwaysKeeps(t, "new 0 1 weak; new 1 1 soft; new 2 0; set 0 2 0; set 1 2 0", "drop 1; drop 2", "1w[0] | 1")
}

func TestPhantoms(t *testing.T) {
	two := "new 0 1 phantom; new 1 0; set 0 1 0"
	alwaysKeeps(t, two, "", "1h[2] 2p[]")
	alwaysKeeps(t, two, "drop 1", "1h[0] | 1")
	alwaysKeeps(t, two, "drop 0", "2p[]")
	alwaysKeeps(t, two, "drop 0; drop 1", "")
	alwaysKeeps(t, "new 0 2 phantom; new 1 0; set 0 1 1", "drop 1", "1h[0 2] 2p[]")
	alwaysKeeps(t, "new 0 1; new 1 1 phantom; new 2 0; set 0 1 0; set 1 2 0", "drop 1; drop 2", "1p[2] 2h[0] | 2")
	alwaysKeeps(t, "new 0 1 phantom; set 0 0 0", "", "1h[1]")
	alwaysKeeps(t, "new 0 1 phantom; set 0 0 0", "drop 0", "")
	ring := "new 0 1 phantom; new 1 1 phantom; set 0 1 0; set 1 0 0"
	alwaysKeeps(t, ring, "", "1h[2] 2h[1]")
	alwaysKeeps(t, ring, "drop 1", "1h[0] | 1")
	alwaysKeeps(t, ring, "drop 0; drop 1", "")
	// Weak ones come ahead, whatever the addresses.
	alwaysKeeps(t, "new 0 1 phantom; new 1 1 weak; new 2 0; set 0 2 0; set 1 2 0", "drop 2", "1h[0] 2w[0] | 2 1")
}

func TestFinals(t *testing.T) {
	alwaysKeeps(t, "new 0 0 final", "", "1f[]")
	alwaysKeeps(t, "new 0 0 final", "drop 0", "1p[] | 1")
	alwaysKeeps(t, "new 0 1 final; new 1 1; new 2 0; set 0 1 0; set 1 2 0", "drop 0; drop 1; drop 2", "1p[2] 2p[3] 3p[] | 1")
	alwaysKeeps(t, "new 0 1; new 1 0 final; set 0 1 0", "drop 1", "1p[2] 2f[]")
	alwaysKeeps(t, "new 0 1; new 1 0 final; set 0 1 0", "drop 0; drop 1", "2p[] | 2")
	// By one of its kind, by itself, in rings: each of them is queued, since none was live ahead of it.
	alwaysKeeps(t, "new 0 1 final; new 1 0 final; set 0 1 0", "drop 1", "1f[2] 2f[]")
	alwaysKeeps(t, "new 0 1 final; new 1 0 final; set 0 1 0", "drop 0; drop 1", "1p[2] 2p[] | 1 2")
	alwaysKeeps(t, "new 0 1 final; set 0 0 0", "drop 0", "1p[1] | 1")
	alwaysKeeps(t, "new 0 1 final; new 1 1 final; set 0 1 0; set 1 0 0", "drop 0; drop 1", "1p[2] 2p[1] | 1 2")
	alwaysKeeps(t, "new 0 1 final; new 1 1 final; set 0 1 0; set 1 0 0", "drop 1", "1f[2] 2f[1]")
	alwaysKeeps(t, "new 0 0 final; new 1 0 final; new 2 0 final", "drop 2; drop 0", "1p[] 2f[] 3p[] | 1 3")
}

func TestFinalsThatAreHeldWeakly(t *testing.T) {
	alwaysKeeps(t, "new 0 1 weak; new 1 0 final; set 0 1 0", "drop 1", "1w[0] 2p[] | 1 2")
	keeps(t, "new 0 1 soft; new 1 0 final; set 0 1 0", "drop 1", "1s[2] 2f[]", "1s[0] 2p[] | 1 2")
	// What a phantom holds is gone only when nothing leads to it any more, no queue either.
	alwaysKeeps(t, "new 0 1 phantom; new 1 0 final; set 0 1 0", "drop 1", "1h[2] 2p[] | 2")
	alwaysKeeps(t, "new 0 1 phantom; new 1 1 final; new 2 0; set 0 2 0; set 1 2 0", "drop 1; drop 2", "1h[3] 2p[3] 3p[] | 2")
	// A weak one has let go before.
	alwaysKeeps(t, "new 0 1 weak; new 1 1 final; new 2 0; set 0 2 0; set 1 2 0", "drop 1; drop 2", "1w[0] 2p[3] 3p[] | 1 2")
	// Two rounds: polled and dropped the final one goes, and the phantom is queued.
	gcStands(t, wide(), "new 0 1 phantom; new 1 0 final; set 0 1 0; drop 1; minor; poll 1; drop 1; minor", "1@65+2h[0] | roots 0=1 | queue 1")
}

// What is live by a final one alone: its weak ones are looked at behind that.
func TestLiveByFinals(t *testing.T) {
	alwaysKeeps(t, "new 0 1 final; new 1 1 weak; new 2 0; set 0 1 0; set 1 2 0", "drop 0; drop 1; drop 2", "1p[2] 2w[0] | 1 2")
	alwaysKeeps(t, "new 0 2 final; new 1 1 weak; new 2 0; set 0 1 0; set 0 2 1; set 1 2 0", "drop 0; drop 1; drop 2", "1p[2 3] 2w[3] 3p[] | 1")
	alwaysKeeps(t, "new 0 1 final; new 1 1 weak; set 0 1 0; set 1 0 0", "drop 0; drop 1", "1p[2] 2w[1] | 1")
	alwaysKeeps(t, "new 0 1 final; new 1 1 phantom; new 2 0; set 0 1 0; set 1 2 0", "drop 0; drop 1; drop 2", "1p[2] 2h[0] | 1 2")
	keeps(t, "new 0 1 final; new 1 1 soft; new 2 0; set 0 1 0; set 1 2 0", "drop 0; drop 1; drop 2", "1p[2] 2s[3] 3p[] | 1", "1p[2] 2s[0] | 1 2")
	// A weak one that comes to live by a final one, and holds another final one.
	alwaysKeeps(t, "new 0 1 final; new 1 1 weak; new 2 0 final; set 0 1 0; set 1 2 0", "drop 0; drop 1; drop 2", "1p[2] 2w[3] 3p[] | 1 3")
}

// Weak ones, final ones, phantoms, and the weak ones that came to live: in this order, whatever the addresses.
func TestQueueInOrder(t *testing.T) {
	build := "new 0 1 phantom; new 1 1 weak; new 2 1 final; new 3 1 weak; new 4 0; new 5 0; new 6 0; set 0 4 0; set 1 5 0; set 2 1 0; set 3 6 0"
	alwaysKeeps(t, build, "drop 1; drop 2; drop 4; drop 5; drop 6", "1h[0] 2w[0] 3p[2] 4w[0] | 4 3 1 2")
	// By address, not by Id: the copies of a minor cycle stand in the order of roots.
	for _, c := range []struct{ kind, drops, want string }{
		{"weak", "drop 3", "3 2 1"}, {"phantom", "drop 3", "3 2 1"}, {"soft", "drop 3", ""}, {"final", "drop 3; drop 0; drop 1; drop 2", "3 2 1"},
	} {
		ops := fmt.Sprintf("new 2 1 %s; new 1 1 %s; new 0 1 %s; new 3 0; set 0 3 0; set 1 3 0; set 2 3 0; minor; %s; ", c.kind, c.kind, c.kind, c.drops)
		for _, cycle := range words("minor major hard") {
			want := c.want
			if cycle == "hard" {
				want = "3 2 1"
			}
			_, h := testGc(t, wide(), gcOpsOf(ops+cycle))
			same(t, ops+cycle, strings.Trim(fmt.Sprint(h.Queue), "[]"), want)
		}
	}
	// Young ones have lower addresses than old ones.
	g := wide()
	g.Age = 1
	gcStands(t, g, "new 0 1 weak; minor; new 1 1 weak; new 2 0; set 0 2 0; set 1 2 0; drop 2; minor", "1@193+1w[0] 2@195+1w[0] | roots 0=1 1=2 | queue 2 1")
}

// Once for each time that it loses what it held.
func TestQueuedOnce(t *testing.T) {
	g := wide()
	lose := "new 0 1 weak; new 1 0; set 0 1 0; drop 1; minor"
	for _, cycle := range words("minor major hard") {
		_, h := testGc(t, g, gcOpsOf(lose+strings.Repeat("; "+cycle, 3)))
		same(t, "weak, again "+cycle, h.Queue, []int64{1})
		_, h = testGc(t, g, gcOpsOf("new 0 0 final; drop 0; minor"+strings.Repeat("; "+cycle, 3)))
		same(t, "final, again "+cycle, h.Queue, []int64{1})
	}
	// A final one is plain from then on: polled and let go, it goes.
	gcTells(t, g, "new 0 0 final; drop 0; minor; poll 0; drop 0; minor; poll 0", "1 0 0:1 1 0 0:1 0")
	// A weak one that was given another object can lose that as well.
	gcTells(t, g, lose+"; poll 2; new 1 0; set 0 1 0; drop 1; minor; poll 2; poll 2", "1 2 1 0 1:1 1 3 1 0 1:1 1 0")
	gcStands(t, g, lose+"; new 1 0; set 0 1 0; drop 1; minor", "1@65+2w[0] | roots 0=1 | queue 1 1")
	// One whose held object went in a hard cycle keeps its kind.
	gcTells(t, g, "new 0 1 soft; new 1 0; set 0 1 0; drop 1; hard; poll 2; new 1 0; set 0 1 0; drop 1; major; poll 3; hard; poll 3", "1 2 1 0 1:31 1 3 1 0 1:21 0 1:31 1")
}

// Old ones are looked at in a minor cycle when they lie in a dirty card.
func TestWeakOnesInOld(t *testing.T) {
	g := wide()
	g.Age = 1
	for kind, letter := range map[string]string{"weak": "w", "phantom": "h"} {
		ops := fmt.Sprintf("new 0 1 %s; minor; new 1 0; set 0 1 0", kind)
		gcStands(t, g, ops, "2@1+0p[] 1@193+1"+letter+"[2] | roots 0=1 1=2 | from 1 | dirty 0")
		gcStands(t, g, ops+"; drop 1; minor", "1@193+1"+letter+"[0] | roots 0=1 | queue 1", 1, 65, 129, 195)
		gcStands(t, g, ops+"; minor", "1@193+1"+letter+"[2] 2@195+1p[] | roots 0=1 1=2")
		// All that is old counts as live: it is queued though nobody holds it.
		gcStands(t, g, ops+"; drop 0; drop 1; minor", "1@193+1"+letter+"[0] | queue 1")
		gcStands(t, g, ops+"; drop 0; drop 1; major", "")
		// What is old and held weakly stays in a minor cycle, in a dirty card too.
		held := fmt.Sprintf("new 0 2 %s; new 1 0; set 0 1 0; minor; drop 1", kind)
		gcStands(t, g, held+"; minor", "1@193+1"+letter+"[2 0] 2@196+1p[] | roots 0=1")
		gcStands(t, g, held+"; new 1 0; set 0 1 1; minor", "1@193+1"+letter+"[2 3] 2@196+1p[] 3@197+1p[] | roots 0=1 1=3")
		gcStands(t, g, held+"; new 1 0; set 0 1 1; major", "1@193+1"+letter+"[0 3] 3@196+1p[] | roots 0=1 1=3 | queue 1")
	}
	// A soft one of old holds what is young.
	soft := "new 0 1 soft; minor; new 1 0; set 0 1 0; drop 1"
	gcStands(t, g, soft+"; minor", "1@193+1s[2] 2@195+1p[] | roots 0=1")
	gcStands(t, g, soft+"; hard", "1@193+1s[0] | roots 0=1 | queue 1")
	// A final one of old is not looked at in a minor cycle.
	gcStands(t, g, "new 0 1 final; minor; new 1 0; set 0 1 0; drop 0; drop 1; minor", "1@193+1f[2] 2@195+1p[]")
	gcStands(t, g, "new 0 1 final; minor; new 1 0; set 0 1 0; drop 0; drop 1; major", "1@193+1p[2] 2@195+1p[] | queue 1")
	// A weak one that is young holds what is old, which a minor cycle takes as live.
	gcStands(t, g, "new 1 0; minor; new 0 1 weak; set 0 1 0; drop 1; minor", "1@193+1p[] 2@194+1w[1] | roots 0=2")
	// A weak one that goes to old, and holds what stays young, lies in a dirty card; the next cycle takes what it holds.
	g.Age = 2
	early := "new 0 1 weak; minor; new 1 0; set 0 1 0; minor"
	gcStands(t, g, early, "2@65+1p[] 1@193+2w[2] | roots 0=1 1=2 | dirty 0")
	gcStands(t, g, early+"; drop 1; minor", "1@193+2w[0] | roots 0=1 | queue 1 | from 1")
	// In the same card stand one that holds a young one, and one that holds an old one that nobody reaches.
	g.Age, g.Card = 1, 64
	gcStands(t, g, "new 0 1 weak; new 1 0; set 0 1 0; new 2 1 weak; minor; drop 1; new 1 0; set 2 1 0; drop 1; minor", "1@193+1w[2] 2@195+1p[] 3@196+1w[0] | roots 0=1 2=3 | queue 3")
}
