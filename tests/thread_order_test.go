package tests

import (
	"fmt"
	"maps"
	"slices"
	"strings"
	"testing"

	"loop.example/g00032/impl"
)

// Small programs in every order that picks can give.

// whole tells all of a state, also what no look shows.
func (p *play) whole() string {
	out := fmt.Sprint(p.things, p.texts, p.statics, p.classes, p.held(), p.trace)
	for n, row := range p.waiting {
		if len(row) > 1 {
			out += fmt.Sprint(n, row)
		}
	}
	for k, t := range p.threads {
		out += fmt.Sprint(" thread ", k, t.state, t.awaits, t.held, t.stopped, t.byStop, t.entry, t.gave, t.thrown)
		for _, s := range t.frames {
			out += fmt.Sprint(s.class, s.m.Name, s.pc, s.locals, s.stack)
		}
	}
	return out
}

// orders goes through all states of a program to which picks can lead, each once.
type orders struct {
	cs      []impl.Class
	met     map[string]bool
	ends    map[string]bool
	greater bool
}

// leads looks at a state, by the picks that led to it, and goes on from there by each pick that there may be.
func (o *orders) leads(t *testing.T, p *play, picks []int64) {
	t.Helper()
	key := p.whole()
	if o.met[key] || t.Failed() {
		return
	}
	o.met[key] = true
	steps := int64(len(picks))
	testHeld(t, p.held(), looked(t, o.cs, picks, steps, p, steps))
	able := p.able()
	if len(able) == 0 {
		want := p.ended(impl.Outcome{Steps: steps, Trace: p.trace})
		for _, fuel := range []int64{steps, steps + 1, impl.MaxFuel} {
			same(t, fmt.Sprint("by ", picks), impl.RunThreads(o.cs, "M", "main", "()I", nil, fuel, picks), want)
		}
		o.ends[shownOutcome(want)] = true
		return
	}
	same(t, fmt.Sprint("by ", picks), impl.RunThreads(o.cs, "M", "main", "()I", nil, steps, picks), impl.Outcome{Code: impl.RunFuel, Steps: steps, Trace: p.trace})
	for k := range able {
		next := p.copied()
		if how := next.went(able[k]); how != "goes" {
			t.Fatalf("thread %d can go on, but: %s", able[k], how)
		}
		pick := int64(k)
		if o.greater = !o.greater; o.greater {
			pick -= 3 * int64(len(able))
		}
		o.leads(t, next, append(slices.Clone(picks), pick))
	}
}

// ends says how main of M may end, by whatever picks; classes may have shared objects, and threads.
func ends(t *testing.T, main string, want []string, more ...string) {
	t.Helper()
	cs := told(append(more, shared, mainOf("I", objects+main+" / const I 0 / return I"))...)
	if failures := impl.InferAll(cs); len(failures) > 0 {
		t.Fatalf("%s is not right: %v", main, failures)
	}
	o := &orders{cs: cs, met: map[string]bool{}, ends: map[string]bool{}}
	o.leads(t, newPlay(cs, "M", "main", "()I", nil), nil)
	for k := range want {
		want[k] = strings.Replace(want[k], "ok", "ok I 0", 1)
	}
	slices.Sort(want)
	if got := slices.Sorted(maps.Keys(o.ends)); !slices.Equal(got, want) {
		t.Errorf("%s: %q\nnot %q", main, got, want)
	}
}

const countUp = "getstatic S n I / const I 1 / add I / putstatic S n I"

const sayCount = "getstatic S n I / " + printI

// both lets two threads of a class begin, joins them, and says what was counted.
func both(class string) string {
	return lines(begun(class, "a"), begun(class, "b"), joined("a"), joined("b"), sayCount)
}

func TestCountingInEachOrder(t *testing.T) {
	t.Parallel()
	ends(t, both("A"), []string{"ok : 1", "ok : 2"}, runner("A", "", countUp))
	ends(t, both("A"), []string{"ok : 2"}, runner("A", "", lines(enterO, countUp, exitO)))
	ends(t, both("A"), []string{"ok : 2"}, runner("A", "", lines(enterO, enterO, countUp, exitO, exitO)))
	// Given back too early, or another's lock.
	ends(t, both("A"), []string{"ok : 1", "ok : 2"}, runner("A", "", lines(enterO, exitO, countUp)))
	ends(t, lines(begun("A", "a"), begun("B", "b"), joined("a"), joined("b"), sayCount), []string{"ok : 1", "ok : 2"}, runner("A", "", lines(enterO, countUp, exitO)), runner("B", "", lines(enterP, countUp, exitP)))
	// Taken, and never given back.
	ends(t, both("A"), []string{"dead 0 1", "dead 0 2"}, runner("A", "", lines(enterO, countUp)))
}

func TestSyncInEachOrder(t *testing.T) {
	t.Parallel()
	method := func(flags string) string {
		return "class Y Object" + makesSuper("Object") + " / method s ()V static " + flags + " stack 2 locals 0 / " + countUp + " / return / method v ()V " + flags + " stack 2 locals 1 / " + countUp + " / return"
	}
	yO := made("Y") + " / putstatic S o @Object"
	ends(t, both("A"), []string{"ok : 1", "ok : 2"}, method(""), runner("A", "", "call static Y s ()V"))
	ends(t, both("A"), []string{"ok : 2"}, method("sync"), runner("A", "", "call static Y s ()V"))
	ends(t, lines(yO, both("A")), []string{"ok : 2"}, method("sync"), runner("A", "", onY("v ()V")))
	// Of two objects each has its own lock; a run with FlagSync has that of its thread.
	ends(t, both("A"), []string{"ok : 1", "ok : 2"}, method("sync"), runner("A", "", made("Y")+" / call virtual Y v ()V"))
	ends(t, both("A"), []string{"ok : 1", "ok : 2"}, runner("A", "sync", countUp))
	ends(t, lines(kept("A", "a"), begun("B", "b"), on("a", "begin ()V"), joined("a"), joined("b"), sayCount), []string{"ok : 2"}, runner("A", "sync", countUp), runner("B", "", "getstatic S a @Thread / enter / "+countUp+" / getstatic S a @Thread / exit"))
	// What throws ahead of a lock does not wait for it.
	ends(t, lines(enterO, begun("A", "a"), joined("a"), say(3)), []string{"ok : 3"}, runner("A", "", "null / enter"))
	ends(t, lines(enterO, begun("A", "a"), joined("a"), say(3)), []string{"dead 0 1"}, runner("A", "", enterO))
}

func TestDeadlocksInEachOrder(t *testing.T) {
	t.Parallel()
	up, down := lines(enterO, enterP, exitP, exitO), lines(enterP, enterO, exitO, exitP)
	two := lines(begun("A", "a"), begun("B", "b"))
	ends(t, two, []string{"ok"}, runner("A", "", up), runner("B", "", up))
	ends(t, two, []string{"dead 1 2", "ok"}, runner("A", "", up), runner("B", "", down))
	// Each joins the other.
	ends(t, two, []string{"dead 1 2", "ok"}, runner("A", "", "try: / "+joined("b")+" / return / caught: / pop / return / handler try caught caught StateError"), runner("B", "", joined("a")))
}

func TestWaitingInEachOrder(t *testing.T) {
	t.Parallel()
	two := lines(begun("A", "a"), begun("B", "b"))
	notify := runner("B", "", lines(enterO, notifyO, exitO, say(2)))
	// Whether the one that waits comes first tells whether it is ever woken.
	ends(t, two, []string{"dead 1 : 2", "ok : 1 2", "ok : 2 1"}, sleeper("A", 1), notify)
	// It has the lock until it waits, so that it can't be overtaken.
	ends(t, lines(enterO, begun("B", "b"), waitO, say(1)), []string{"ok : 2 1"}, runner("B", "", lines(say(2), enterO, notifyO, exitO)))
	ends(t, lines(enterO, enterO, begun("B", "b"), waitO, say(1), exitO, exitO), []string{"ok : 1 2", "ok : 2 1"}, notify)
	// Of two that wait one wakes, or all do.
	three := lines(begun("A", "a"), begun("B", "b"), begun("N", "c"))
	ends(t, three, []string{"dead 1 2", "dead 2 : 1", "dead 1 : 2"}, sleeper("A", 1), sleeper("B", 2), runner("N", "", lines(enterO, notifyO, exitO)))
	ends(t, three, []string{"dead 1 2", "dead 2 : 1", "dead 1 : 2", "ok : 1 2", "ok : 2 1"}, sleeper("A", 1), sleeper("B", 2), runner("N", "", lines(enterO, wakeO, exitO)))
}

func TestStoppingInEachOrder(t *testing.T) {
	t.Parallel()
	const handled = " / return / caught: / pop / " + "const I 6 / " + printI + " / return / handler try caught caught StopError"
	waits := runner("A", "", lines(enterO, "try: / "+waitO, say(5))+handled)
	stop := on("a", "stop ()V")
	// Stopped ahead of wait, or while it waits: it is told in either case.
	ends(t, lines(begun("A", "a"), stop), []string{"ok : 6"}, waits)
	ends(t, lines(begun("A", "a"), stop, on("a", "stopped ()I"), printI), []string{"ok : 0 6", "ok : 1 6", "ok : 6 0", "ok : 6 1"}, waits)
	// It has ended with its lock when it was stopped: whoever comes later never takes it.
	ends(t, lines(begun("A", "a"), begun("N", "b"), stop), []string{"dead 2 : 6", "ok : 5", "ok : 6"}, waits, runner("N", "", lines(enterO, notifyO, exitO)))
	// One in join likewise; where it has ended ahead of that nothing is.
	ends(t, lines(begun("N", "b"), begun("A", "a"), stop), []string{"dead 1 : 6"}, runner("A", "", "try: / "+joined("b")+" / "+say(5)+handled), runner("N", "", lines(enterO, waitO)))
	ends(t, lines(begun("N", "b"), begun("A", "a"), stop, say(7)), []string{"ok : 5 7", "ok : 6 7", "ok : 7 5", "ok : 7 6"}, runner("A", "", "try: / "+joined("b")+" / "+say(5)+handled), runner("N", "", countUp))
}

func TestClassesInEachOrder(t *testing.T) {
	t.Parallel()
	two := lines(begun("A", "a"), begun("B", "b"))
	use := "getstatic K x I / " + printI
	ends(t, two, []string{"ok : 5 7 7"}, runner("A", "", use), runner("B", "", use), starting("K Object", say(5)+" / const I 7 / putstatic K x I"))
	tries := func(name string, n int) string {
		return runner(name, "", fmt.Sprintf("try: / getstatic K x I / pop / return / init: / pop / %s / return / link: / pop / %s / return / handler try init init InitError / handler try init link LinkError", say(n), say(n+1)))
	}
	ends(t, two, []string{"ok : 5 11 22", "ok : 5 22 11", "ok : 5 12 21", "ok : 5 21 12"}, tries("A", 11), tries("B", 21), starting("K Object", say(5)+" / null / throw"))
	// Each begins a class that uses the other's.
	ends(t, two, []string{"dead 1 2", "ok"}, runner("A", "", "getstatic K x I / pop"), runner("B", "", "getstatic L x I / pop"), starting("K Object", "getstatic L x I / pop"), starting("L Object", "getstatic K x I / pop"))
}
