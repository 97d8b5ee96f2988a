package tests

import (
	"fmt"
	"math"
	"slices"
	"strings"
	"testing"

	"loop.example/g00032/impl"
)

// Which locks are held behind each number of steps.

// shownLocks tells locks as # and an object's number, or a class; then the thread, and how often it holds it, when that is more than once.
func shownLocks(locks []impl.Lock) string {
	out := []string{}
	for _, l := range locks {
		name := l.Class
		if l.Object != 0 {
			name = fmt.Sprint("#", l.Object, l.Class)
		}
		text := fmt.Sprint(name, " ", l.Thread)
		if l.Times != 1 {
			text += fmt.Sprint("*", l.Times)
		}
		out = append(out, text)
	}
	return strings.Join(out, ", ")
}

// lockCourse tells the locks of a run from step to step, the same ones once; they stay as they are behind its end.
func lockCourse(t *testing.T, cs []impl.Class, picks []int64) []string {
	t.Helper()
	o := impl.RunThreads(cs, "M", "main", "()I", nil, impl.MaxFuel, picks)
	if o.Code == impl.RunArgs || o.Code == impl.RunVerify {
		t.Fatalf("there is no run: %v %v", o, impl.InferAll(cs))
	}
	at := func(steps int64) string {
		return shownLocks(impl.LocksAt(cs, "M", "main", "()I", nil, picks, steps))
	}
	out := []string{at(0)}
	for steps := range o.Steps {
		if now := at(steps + 1); now != out[len(out)-1] {
			out = append(out, now)
		}
	}
	for _, steps := range []int64{o.Steps + 1, o.Steps + 100, impl.MaxFuel} {
		same(t, "behind the end", at(steps), out[len(out)-1])
	}
	return out
}

// locksGo says how the locks of a run change; o is object 1, and p object 2.
func locksGo(t *testing.T, main string, want []string, more ...string) {
	t.Helper()
	cs := told(append(more, shared, mainOf("I", objects+main+" / const I 0 / return I"))...)
	if got := lockCourse(t, cs, nil); !slices.Equal(got, want) {
		t.Errorf("%s: %q\nnot %q", main, got, want)
	}
}

func TestLocksAt(t *testing.T) {
	locksGo(t, say(1), []string{""})
	locksGo(t, lines(enterO, exitO), []string{"", "#1 0", ""})
	locksGo(t, enterO, []string{"", "#1 0"})
	locksGo(t, lines(enterO, enterO, enterO, exitO, enterO, exitO, exitO, exitO), []string{"", "#1 0", "#1 0*2", "#1 0*3", "#1 0*2", "#1 0*3", "#1 0*2", "#1 0", ""})
	// Objects by number, in whatever order they are taken; then classes by name.
	locksGo(t, lines(enterP, enterO, exitP, exitO), []string{"", "#2 0", "#1 0, #2 0", "#1 0", ""})
	locksGo(t, lines("const I 1 / newarray I / dup / store R 1 / enter", enterP, enterP, enterO, "load R 1 / exit"), []string{"", "#3 0", "#2 0, #3 0", "#2 0*2, #3 0", "#1 0, #2 0*2, #3 0", "#1 0, #2 0*2"})
	nest := func(class, code string) string {
		return "class " + class + " Object / method s ()V static sync stack 2 locals 0 / " + code + " / return"
	}
	locksGo(t, "call static B s ()V", []string{"", "B 0", "A 0, B 0", "A 0, B 0, b 0", "#1 0, A 0, B 0, b 0", "A 0, B 0, b 0", "A 0, B 0", "B 0", ""}, nest("B", "call static A s ()V"), nest("A", "call static b s ()V"), nest("b", lines(enterO, exitO)))
	// The class that has the method, though it is called by another one's name.
	locksGo(t, "call static C s ()V", []string{"", "A 0", ""}, nest("A", say(1)), "class C A")
	// What a call takes goes with its frame, by a return and by something thrown.
	y := synced()
	yO := made("Y") + " / putstatic S o @Object"
	locksGo(t, lines(yO, onY("n ()V")), []string{"", "#3 0", ""}, y)
	locksGo(t, lines(yO, enterO, onY("n ()V")), []string{"", "#3 0", "#3 0*2", "#3 0"}, y)
	locksGo(t, lines(yO, onY("fail ()V")), []string{"", "#3 0", ""}, y)
	locksGo(t, "call static Y sfail ()V", []string{"", "Y 0", ""}, y)
	locksGo(t, lines(yO, theO+"cast @Y / const I 3 / call virtual Y deep (I)V"), []string{"", "#3 0", "#3 0*2", "#3 0", ""}, y)
	// A frame whose lock was given back by exit has nothing to give; a frame of start takes none.
	locksGo(t, lines(yO, begun("B", "b"), onY("lose ()V")), []string{"", "#3 0", ""}, y, runner("B", "", say(1)))
	locksGo(t, "getstatic K x I / pop", []string{""}, "class K Object / field x I static / method start ()V static sync stack 1 locals 0 / "+say(5)+" / return")
	// What is not held can't be given back, and is not taken by that.
	locksGo(t, exitO, []string{""})
	locksGo(t, lines(enterO, exitP), []string{"", "#1 0"})
}

func TestLocksOfThreads(t *testing.T) {
	enter := runner("A", "", lines(enterO, say(1), exitO))
	locksGo(t, lines(enterO, begun("A", "a"), exitO, joined("a")), []string{"", "#1 0", "", "#1 1", ""}, enter)
	locksGo(t, lines(enterO, begun("A", "a"), joined("a")), []string{"", "#1 0"}, enter)
	// What a thread holds when it ends stays held.
	locksGo(t, lines(begun("A", "a"), joined("a"), enterP), []string{"", "#1 1", "#1 1*2", "#1 1*2, #2 0"}, runner("A", "", lines(enterO, enterO)))
	locksGo(t, lines(begun("A", "a"), joined("a")), []string{"", "#1 1"}, runner("A", "", lines(enterO, "null / throw")))
	// Who waits has given the lock back wholly, and takes it as often; other locks stay.
	notify := runner("A", "", lines(enterO, notifyO, exitO))
	locksGo(t, lines(enterP, enterO, enterO, enterO, begun("A", "a"), waitO, exitP), []string{"", "#2 0", "#1 0, #2 0", "#1 0*2, #2 0", "#1 0*3, #2 0", "#2 0", "#1 1, #2 0", "#2 0", "#1 0*3, #2 0", "#1 0*3"}, notify)
	locksGo(t, lines(enterO, waitO), []string{"", "#1 0", ""})
	locksGo(t, lines(begun("A", "a"), begun("B", "b"), joined("a")), []string{"", "#1 1", "", "#1 2", "", "#1 1"}, runner("A", "", lines(enterO, "try: / "+waitO, "return / caught: / pop / return / handler try caught caught StopError")), runner("B", "", lines(enterO, on("a", "stop ()V"), exitO)))
	// The first method has its lock as soon as its frame stands, a thread's run from its first step on.
	cs := told(shared, runner("R", "sync", say(1)), "class M Object / method main ()I static sync stack 6 locals 6 / "+objects+begun("R", "a")+" / const I 0 / return I")
	if got, want := lockCourse(t, cs, nil), []string{"M 0", "", "#3 1", ""}; !slices.Equal(got, want) {
		t.Errorf("%q, not %q", got, want)
	}
	begin := stepsTo(cs, 2)
	same(t, "not yet", shownLocks(impl.LocksAt(cs, "M", "main", "()I", nil, slices.Repeat([]int64{1}, 100), begin)), "M 0")
	same(t, "with the first step", shownLocks(impl.LocksAt(cs, "M", "main", "()I", nil, slices.Repeat([]int64{1}, 100), begin+1)), "#3 1, M 0")
	same(t, "with the first step", shownLocks(impl.LocksAt(cs, "M", "main", "()I", nil, nil, begin+1)), "M 0")
}

// The same steps by other picks.
func TestLocksByPicks(t *testing.T) {
	cs := told(shared, runner("A", "", lines(enterO, exitO)), mainOf("I", objects+lines(begun("A", "a"), enterO, enterO, "const I 0 / return I")))
	begin := int(stepsTo(cs, 2))
	for _, row := range []struct {
		picks []int64
		want  []string
	}{
		{nil, []string{"", "#1 0", "#1 0*2"}},
		{[]int64{1, 1, 1, 1}, []string{"", "#1 1", "", "#1 0", "#1 0*2"}},
		{[]int64{1, 1, 1, 1, 1}, []string{"", "#1 1", "", "#1 0", "#1 0*2"}},
		{[]int64{0, 0, 1, 1}, []string{"", "#1 0", "#1 0*2"}},
		{[]int64{1, 1, 0, 0, 0}, []string{"", "#1 1", "", "#1 0", "#1 0*2"}},
	} {
		picks := append(make([]int64, begin), row.picks...)
		if got := lockCourse(t, cs, picks); !slices.Equal(got, row.want) {
			t.Errorf("by %v: %q, not %q", row.picks, got, row.want)
		}
	}
}

func TestLocksOfNoRun(t *testing.T) {
	cs := told(shared, "class M Object / method main ()I static sync stack 6 locals 6 / "+objects+enterO+" / const I 0 / return I")
	for _, steps := range []int64{math.MinInt64, -2, -1, impl.MaxFuel + 1, math.MaxInt64} {
		same(t, fmt.Sprint(steps, " steps"), impl.LocksAt(cs, "M", "main", "()I", nil, nil, steps), nil)
		same(t, fmt.Sprint(steps, " steps"), impl.SnapshotAt(cs, "M", "main", "()I", nil, nil, steps), impl.Snapshot{})
	}
	same(t, "0 steps", impl.LocksAt(cs, "M", "main", "()I", nil, nil, 0), []impl.Lock{{Class: "M", Times: 1}})
	same(t, "all of them", impl.LocksAt(cs, "M", "main", "()I", nil, nil, impl.MaxFuel), []impl.Lock{{Object: 1, Times: 1}})
	o := impl.RunThreads(cs, "M", "main", "()I", nil, impl.MaxFuel, nil)
	same(t, "ahead of the last step", impl.LocksAt(cs, "M", "main", "()I", nil, nil, o.Steps-1), []impl.Lock{{Object: 1, Times: 1}, {Class: "M", Times: 1}})
}
