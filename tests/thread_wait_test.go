package tests

import (
	"fmt"
	"slices"
	"testing"

	"loop.example/g00032/impl"
)

// Rows of those that wait: who has waited longest wakes first, whatever picks brought them there, and whoever was stopped meanwhile.

// dozer waits for o, and says a number when it goes on, another one when it was stopped; either way it gives the lock back.
func dozer(name string, n int) string {
	return runner(name, "", lines(enterO, "try: / "+waitO, say(n), exitO, "return / caught: / pop", say(-n), exitO)+" / return / handler try caught caught StopError")
}

// notified is a thread's code that notifies so many times, with the lock given back between.
func notified(times int) string {
	out := []string{}
	for range times {
		out = append(out, enterO, notifyO, exitO)
	}
	return lines(out...)
}

func TestRowsWithoutTheStopped(t *testing.T) {
	four := lines(begun("A", "a"), begun("B", "b"), begun("C", "c"), begins("D", 1))
	classes := []string{dozer("A", 1), dozer("B", 2), dozer("C", 3), dozer("D", 4)}
	for field, want := range map[string]string{"a": "ok : -1 2 3 4", "b": "ok : 1 -2 3 4", "c": "ok : 1 -3 2 4"} {
		spun(t, lines(four, begins("N", 1)), want, append(classes, runner("N", "", lines(enterO, on(field, "stop ()V"), notifyO, exitO, notified(2))))...)
	}
	// Two of them, and the ends of the row.
	two := lines(enterO, on("a", "stop ()V"), on("c", "stop ()V"), exitO)
	spun(t, lines(four, begins("N", 1)), "ok : -1 -3 2 4", append(classes, runner("N", "", lines(two, notified(2))))...)
	spun(t, lines(four, begins("N", 1)), "dead 4 : -1 -3 2", append(classes, runner("N", "", lines(two, notified(1))))...)
	spun(t, lines(four, begins("N", 1)), "ok : -1 2 -3 4", append(classes, runner("N", "", lines(enterO, on("c", "stop ()V"), on("a", "stop ()V"), wakeO, exitO)))...)
	// Stopped twice while it wakes: told once.
	spun(t, lines(four, begins("N", 1)), "ok : -1 2 3 4", append(classes, runner("N", "", lines(enterO, on("a", "stop ()V"), on("a", "stop ()V"), wakeO, exitO)))...)
}

// The row is as picks made it: each of three threads goes to wait, in every order, and then all are woken one by one.
func TestRowsByPicks(t *testing.T) {
	cs := told(shared, dozer("A", 1), dozer("B", 2), dozer("C", 3), runner("N", "", notified(3)), mainOf("I", objects+lines(begun("A", "a"), begun("B", "b"), begun("C", "c"), begins("N", 1), "const I 0 / return I")))
	if failures := impl.InferAll(cs); len(failures) > 0 {
		t.Fatal(failures)
	}
	begin := stepsTo(cs, 5)
	for _, order := range [][]int64{{1, 2, 3}, {1, 3, 2}, {2, 1, 3}, {2, 3, 1}, {3, 1, 2}, {3, 2, 1}} {
		// The first thread goes until all are there: 0 is the first of those that can go on. Each of the others takes four steps to wait.
		picks := make([]int64, begin)
		left := []int64{1, 2, 3, 4}
		for _, k := range order {
			at := int64(slices.Index(left, k))
			picks = append(picks, slices.Repeat([]int64{at + 1}, 4)...)
			left = slices.Delete(left, int(at), int(at)+1)
		}
		s := impl.SnapshotAt(cs, "M", "main", "()I", nil, picks, int64(len(picks)))
		for k := 1; k <= 3; k++ {
			same(t, fmt.Sprint(order, ": thread ", k), s.Threads[k].State, impl.ThreadWaits)
			same(t, fmt.Sprint(order, ": thread ", k), s.Threads[k].Awaits, 1)
		}
		o := impl.RunThreads(cs, "M", "main", "()I", nil, impl.MaxFuel, picks)
		same(t, fmt.Sprint(order), shownOutcome(o), fmt.Sprintf("ok I 0 : %d %d %d", order[0], order[1], order[2]))
	}
}

// The most threads that there may be stand in one row; one that is too many is not there.
func TestTheLongestRow(t *testing.T) {
	cs := told(shared, runner("A", "", lines("getstatic S n I / dup / store I 1 / const I 1 / add I / putstatic S n I", enterO, waitO, "load I 1 / "+printI, exitO)), mainOf("I", objects+lines(begins("A", 15), "const I 0 / return I")))
	s := impl.SnapshotAt(cs, "M", "main", "()I", nil, nil, impl.MaxFuel)
	same(t, "threads", len(s.Threads), impl.MaxThreads)
	for k, thread := range s.Threads[1:] {
		same(t, fmt.Sprint("thread ", k+1), shownThread(thread)[:8], "waits #1")
	}
	o := impl.RunThreads(cs, "M", "main", "()I", nil, impl.MaxFuel, nil)
	same(t, "all are dead", o.Dead, []int64{1, 2, 3, 4, 5, 6, 7, 8, 9, 10, 11, 12, 13, 14, 15})
	// Woken all at once by the last one that may begin.
	cs = told(shared, dozer("A", 1), runner("B", "", lines(enterO, wakeO, exitO)), mainOf("I", objects+lines(begins("A", 14), begun("B", "b"), "const I 0 / return I")))
	same(t, "all wake", len(impl.RunThreads(cs, "M", "main", "()I", nil, impl.MaxFuel, nil).Trace), 14)
	same(t, "all have ended", impl.RunThreads(cs, "M", "main", "()I", nil, impl.MaxFuel, nil).Code, impl.RunOk)
}
