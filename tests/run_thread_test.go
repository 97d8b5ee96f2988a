package tests

import (
	"fmt"
	"strings"
	"testing"

	"loop.example/g00032/impl"
)

// Without picks the thread of the least number goes that can. Objects o and p, and threads, are shared by static fields of S.

const shared = "class S Object / field o @Object static / field p @Object static / field a @Thread static / field b @Thread static / field c @Thread static / field n I static"

const (
	objects = "new Object / dup / call special Object new ()V / putstatic S o @Object / new Object / dup / call special Object new ()V / putstatic S p @Object / "
	theO    = "getstatic S o @Object / "
	theP    = "getstatic S p @Object / "
	enterO  = theO + "enter"
	exitO   = theO + "exit"
	waitO   = theO + "call virtual Object wait ()V"
	notifyO = theO + "call virtual Object notify ()V"
	wakeO   = theO + "call virtual Object wake ()V"
	enterP  = theP + "enter"
	exitP   = theP + "exit"
	waitP   = theP + "call virtual Object wait ()V"
	notifyP = theP + "call virtual Object notify ()V"
)

// runner is a class of threads; flags are those of its method run.
func runner(name, flags, code string) string {
	return "class " + name + " Thread" + makesSuper("Thread") + " / method run ()V " + flags + " stack 6 locals 6 / " + code + " / return"
}

// kept makes a thread and keeps it in a field of S; begun lets it begin besides.
func kept(class, field string) string { return made(class) + " / putstatic S " + field + " @Thread" }

func on(field, call string) string {
	return "getstatic S " + field + " @Thread / call virtual Thread " + call
}

func begun(class, field string) string { return kept(class, field) + " / " + on(field, "begin ()V") }

func joined(field string) string { return on(field, "join ()V") }

// lines joins pieces of code.
func lines(code ...string) string { return strings.Join(code, " / ") }

// spun says how main of M ends, with threads.
func spun(t *testing.T, main, want string, more ...string) {
	t.Helper()
	does(t, "V", objects+main+" / return", want, append(more, shared)...)
}

func TestBeginAndJoin(t *testing.T) {
	a, b := runner("A", "", say(1)), runner("B", "", say(2))
	// The first thread goes until it ends, unless it waits.
	spun(t, lines(begun("A", "a"), say(0)), "ok : 0 1", a)
	spun(t, lines(begun("A", "a"), joined("a"), say(0)), "ok : 1 0", a)
	spun(t, lines(begun("A", "a"), begun("B", "b"), say(0)), "ok : 0 1 2", a, b)
	spun(t, lines(begun("B", "a"), begun("A", "b"), say(0)), "ok : 0 2 1", a, b)
	spun(t, lines(begun("A", "a"), begun("B", "b"), joined("b"), say(0)), "ok : 1 2 0", a, b)
	spun(t, lines(begun("A", "a"), begun("B", "b"), joined("a"), say(0), joined("b"), say(9)), "ok : 1 0 2 9", a, b)
	spun(t, lines(begun("A", "a"), joined("a"), begun("B", "b"), say(0), joined("b"), joined("a"), joined("a")), "ok : 1 0 2", a, b)
	// A thread begins others, and joins them.
	spun(t, lines(begun("C", "c"), joined("c"), say(0)), "ok : 3 1 4 0", a, runner("C", "", lines(say(3), begun("A", "a"), joined("a"), say(4))))
	spun(t, lines(begun("C", "c"), say(0)), "ok : 0 3 4 1", a, runner("C", "", lines(say(3), begun("A", "a"), say(4))))
	// What has not begun can't be joined; what has, can't begin again.
	spun(t, lines(kept("A", "a"), joined("a")), "thrown StateError", a)
	spun(t, lines(begun("A", "a"), on("a", "begin ()V")), "thrown StateError : 1", a)
	spun(t, lines(begun("A", "a"), joined("a"), on("a", "begin ()V")), "thrown StateError : 1", a)
	spun(t, lines(begun("A", "a"), "twice: / "+on("a", "begin ()V"), "return / caught: / pop", joined("a"), say(5))+" / return / handler twice caught caught StateError", "ok : 1 5", a)
	spun(t, "null / cast @Thread / call virtual Thread begin ()V", "thrown NullError")
	spun(t, "null / cast @Thread / call virtual Thread join ()V", "thrown NullError")
	// Nobody ends who joins himself, or one that joins him.
	spun(t, begun("C", "c"), "dead 1", runner("C", "", joined("c")))
	spun(t, lines(begun("C", "c"), joined("c")), "dead 0 1", runner("C", "", joined("c")))
	spun(t, lines(begun("C", "c"), begun("D", "b"), begun("A", "a"), say(0)), "dead 1 2 : 0 1", a, runner("C", "", joined("b")), runner("D", "", joined("c")))
	// run as a method like any other makes no thread.
	spun(t, lines(kept("A", "a"), on("a", "run ()V"), say(0), on("a", "begin ()V")), "ok : 1 0 1", a)
	// A thread of Thread itself, and one without a run of its own.
	spun(t, lines(begun("Thread", "a"), joined("a"), begun("E", "b"), joined("b"), say(0)), "ok : 0", "class E Thread"+makesSuper("Thread"))
}

// The method run is that which Select tells for the object's class.
func TestWhichRun(t *testing.T) {
	a := runner("A", "", say(1))
	spun(t, lines(begun("B", "a"), joined("a")), "ok : 1", a, "class B A"+makesSuper("A"))
	spun(t, lines(begun("B", "a"), joined("a")), "ok : 2", a, "class B A"+makesSuper("A")+says("run ()V", 2))
	spun(t, lines(begun("B", "a"), joined("a")), "ok : 1", a, "class B A"+makesSuper("A")+says("run ()V private", 2))
	spun(t, lines(begun("B", "a"), joined("a")), "ok", "class B Thread"+makesSuper("Thread")+says("run ()V private", 2))
	// An abstract one can't; the object has not begun then.
	abstract := "class B A abstract" + makesSuper("A") + " / method run ()V abstract"
	c := "class C B" + makesSuper("B")
	spun(t, begun("C", "a"), "thrown LinkError", a, abstract, c)
	const handled = " / handler try caught caught LinkError"
	spun(t, lines(kept("C", "a"), "try: / "+on("a", "begin ()V"), "return / caught: / pop", say(5), joined("a"))+" / return"+handled, "thrown StateError : 5", a, abstract, c)
	spun(t, lines(kept("C", "a"), "try: / "+on("a", "begin ()V"), "return / caught: / pop", say(5), on("a", "begin ()V"))+" / return"+handled, "thrown LinkError : 5", a, abstract, c)
	// A native one ends at once, and is a thread all the same.
	native := "class N Thread" + makesSuper("Thread") + " / method run ()V native"
	spun(t, lines(begun("N", "a"), say(0), joined("a"), say(1)), "ok : 0 1", native)
	spun(t, lines(begun("N", "a"), on("a", "begin ()V")), "thrown StateError", native)
	o := ran(t, told(native, mainOf("V", lines(made("N"), "call virtual Thread begin ()V", "new Object", "dup", "call special Object new ()V", "dup", "enter", "call virtual Object wait ()V", "return"))), "M main ()V")
	same(t, "a native has ended", o.Dead, []int64{0})
}

// begins is code that makes so many threads of a class and lets them begin.
func begins(class string, n int) string {
	return strings.TrimSuffix(strings.Repeat(lines(made(class), "call virtual Thread begin ()V / "), n), " / ")
}

func TestMostThreads(t *testing.T) {
	n := "class N Thread" + makesSuper("Thread") + " / method run ()V native"
	abstract := "class B Thread abstract" + makesSuper("Thread") + " / method run ()V abstract"
	c := "class C B" + makesSuper("B")
	for _, class := range []string{"Thread", "N"} {
		spun(t, lines(begins(class, 14), say(1)), "ok : 1", n)
		spun(t, lines(begins(class, impl.MaxThreads-1), say(1)), "ok : 1", n)
		spun(t, lines(begins(class, impl.MaxThreads), say(1)), "thrown SizeError", n)
	}
	// Those that have ended count, too.
	join := lines(begun("Thread", "a"), joined("a")) + " / "
	spun(t, strings.Repeat(join, 15)+say(1), "ok : 1")
	spun(t, strings.Repeat(join, 16)+say(1), "thrown SizeError")
	// The object that was one too many has not begun; that comes ahead of what Select tells, and behind begun already.
	full := begins("N", 14) + " / " + begun("N", "b")
	const handled = " / return / handler try caught caught SizeError"
	spun(t, lines(full, kept("N", "a"), "try: / "+on("a", "begin ()V"), "return / caught: / pop", joined("a"))+handled, "thrown StateError", n)
	spun(t, lines(full, begun("C", "a")), "thrown SizeError", n, abstract, c)
	spun(t, lines(full, on("b", "begin ()V")), "thrown StateError", n)
	spun(t, lines(begins("N", 14), "try: / "+begun("C", "a"), "return / caught: / pop", begun("N", "b"), say(7))+" / return / handler try caught caught LinkError", "ok : 7", n, abstract, c)
}

func TestLocks(t *testing.T) {
	enter := runner("A", "", lines(enterO, say(1), exitO))
	// Held by the first thread, it can't be taken by another; given back, it can.
	spun(t, lines(enterO, begun("A", "a"), joined("a")), "dead 0 1", enter)
	spun(t, lines(enterO, begun("A", "a"), exitO, joined("a"), say(0)), "ok : 1 0", enter)
	spun(t, lines(enterP, begun("A", "a"), joined("a"), say(0)), "ok : 1 0", enter)
	// So many times as it was taken.
	spun(t, lines(enterO, enterO, enterO, begun("A", "a"), exitO, exitO, joined("a")), "dead 0 1", enter)
	spun(t, lines(enterO, enterO, enterO, begun("A", "a"), exitO, exitO, exitO, joined("a"), say(0)), "ok : 1 0", enter)
	spun(t, lines(enterO, exitO, exitO), "thrown StateError")
	spun(t, lines(enterO, enterO, exitO, exitO, exitO), "thrown StateError")
	spun(t, exitO, "thrown StateError")
	spun(t, lines(enterO, exitP), "thrown StateError")
	// Another's can't be given back: it stays held.
	spun(t, lines(enterO, begun("B", "b"), joined("b"), begun("A", "a"), joined("a")), "dead 0 2 : 7", enter, runner("B", "", "try: / "+exitO+" / return / caught: / pop / "+say(7)+" / return / handler try caught caught StateError"))
	// What a thread holds when it ends stays held, however it ends.
	spun(t, lines(begun("B", "b"), joined("b"), say(0), enterO, say(9)), "dead 0 : 0", runner("B", "", enterO))
	spun(t, lines(begun("B", "b"), joined("b"), say(0), enterO, say(9)), "dead 0 : 0", runner("B", "", lines(enterO, "null / throw")))
	spun(t, lines(enterO, begun("A", "a")), "dead 1", enter)
	// Two threads, two locks: each has one, and would take the other's.
	first, second := runner("A", "", lines(enterO, notifyO, waitO, enterP, say(1))), runner("B", "", lines(enterP, enterO, notifyO, exitO, enterO, say(2)))
	spun(t, lines(begun("A", "a"), begun("B", "b")), "dead 1 2", first, second)
	// A lock of an array, and of an object that is made no more of.
	spun(t, "const I 1 / newarray I / dup / enter / exit", "ok")
	spun(t, lines("null", "enter"), "thrown NullError")
	spun(t, lines("null", "exit"), "thrown NullError")
	// An exception gives no lock of OpEnter back.
	spun(t, lines(enterO, "try: / null", "throw", "caught: / pop", exitO, exitO)+" / return / handler try caught caught *", "thrown StateError")
}

func TestWaitAndNotify(t *testing.T) {
	notify := runner("A", "", lines(enterO, say(1), notifyO, say(2), exitO, say(3)))
	// The one that waits goes on when the lock is free again.
	spun(t, lines(enterO, begun("A", "a"), waitO, say(0), exitO), "ok : 1 2 0 3", notify)
	// It is given back wholly, and taken as often.
	spun(t, lines(enterO, enterO, enterO, begun("A", "a"), waitO, say(0), exitO, exitO, exitO, say(9)), "ok : 1 2 0 9 3", notify)
	spun(t, lines(enterO, enterO, enterO, begun("A", "a"), waitO, say(0), exitO, exitO, exitO, say(9), exitO), "thrown StateError : 1 2 0 9 3", notify)
	spun(t, lines(enterO, enterO, begun("A", "a"), waitO, begun("B", "b"), exitO, joined("b")), "dead 0 2 : 1 2 3", notify, runner("B", "", lines(enterO, say(8))))
	// Other locks stay held meanwhile.
	spun(t, lines(enterO, enterP, begun("B", "b"), waitO), "dead 0 1", runner("B", "", lines(enterP, enterO, notifyO)))
	// Without the lock none of them.
	for _, call := range []string{waitO, notifyO, wakeO} {
		spun(t, call, "thrown StateError")
		spun(t, lines(enterP, call), "thrown StateError")
		spun(t, lines(enterO, exitO, call), "thrown StateError")
		spun(t, lines(enterO, begun("B", "b"), joined("b")), "ok", runner("B", "", call))
	}
	spun(t, lines("null / call virtual Object wait ()V"), "thrown NullError")
	// Nobody waits: nothing, and it is not kept for later.
	spun(t, lines(enterO, notifyO, wakeO, exitO, say(0)), "ok : 0")
	spun(t, lines(enterO, notifyO, waitO), "dead 0")
	spun(t, lines(enterO, begun("A", "a"), exitO, joined("a"), enterO, waitO), "dead 0 : 1 2 3", notify)
	// Notified for another object.
	spun(t, lines(enterO, begun("A", "a"), waitO), "dead 0", runner("A", "", lines(enterP, notifyP, exitP)))
	// The one that notifies and never gives the lock back.
	spun(t, lines(enterO, begun("A", "a"), waitO), "dead 0 : 1", runner("A", "", lines(enterO, notifyO, say(1))))
	// What lies beneath stays meanwhile.
	does(t, "I", objects+lines("const I 5", enterO, begun("A", "a"), waitO, exitO)+" / return I", "ok I 5 : 1 2 3", shared, notify)
	// It waits once: to go on is one step, and it is not awake any more then.
	spun(t, lines(enterO, begun("A", "a"), waitO, say(0), waitO), "dead 0 : 1 2 0 3", notify)
}

// sleeper is a class of threads that wait for o, and say a number when they go on.
func sleeper(name string, n int) string {
	return runner(name, "", lines(enterO, waitO, say(n), exitO))
}

func TestWhoWakes(t *testing.T) {
	a, b, c := sleeper("A", 1), sleeper("B", 2), sleeper("C", 3)
	three := lines(begun("A", "a"), begun("B", "b"), begun("C", "c"))
	notifier := func(code ...string) string { return runner("N", "", lines(code...)) }
	spun(t, lines(three, begins("N", 1)), "dead 2 3 : 1", a, b, c, notifier(enterO, notifyO, exitO))
	spun(t, lines(three, begins("N", 1)), "dead 3 : 1 2", a, b, c, notifier(enterO, notifyO, notifyO, exitO))
	spun(t, lines(three, begins("N", 1)), "dead 3 : 1 2", a, b, c, notifier(enterO, notifyO, exitO, enterO, notifyO, exitO))
	spun(t, lines(three, begins("N", 1)), "ok : 1 2 3", a, b, c, notifier(enterO, notifyO, notifyO, notifyO, notifyO, exitO))
	spun(t, lines(three, begins("N", 1)), "ok : 9 1 2 3", a, b, c, notifier(enterO, wakeO, say(9), exitO))
	spun(t, lines(three, begins("N", 1)), "ok : 1 2 3 9", a, b, c, notifier(enterO, wakeO, exitO, say(9)))
	// The one that has waited longest wakes, whatever its number: the first has waited for p before.
	late := runner("A", "", lines(enterP, waitP, exitP, enterO, waitO, say(1), exitO))
	spun(t, lines(three, begins("N", 1)), "dead 1 3 : 2", late, b, c, notifier(enterP, notifyP, exitP, enterO, notifyO, exitO))
	spun(t, lines(three, begins("N", 1)), "dead 1 : 2 3", late, b, c, notifier(enterP, notifyP, exitP, enterO, notifyO, notifyO, exitO))
	spun(t, lines(three, begins("N", 1)), "ok : 1 2 3", late, b, c, notifier(enterP, notifyP, exitP, enterO, wakeO, exitO))
	// One that is awake and waits again stands at the end of the row.
	again := runner("A", "", lines(enterO, waitO, say(1), waitO, say(11), exitO))
	spun(t, lines(three, begins("N", 1)), "dead 1 3 : 1 2", again, b, c, notifier(enterO, notifyO, exitO, enterO, notifyO, exitO))
	spun(t, lines(three, begins("N", 1)), "ok : 1 2 3 11", again, b, c, notifier(enterO, notifyO, exitO, enterO, notifyO, exitO, enterO, notifyO, exitO, enterO, notifyO, exitO))
	// Those that are awake take the lock one after the other; what one holds keeps the others off.
	holder := runner("A", "", lines(enterO, waitO, say(1)))
	spun(t, lines(three, begins("N", 1)), "dead 2 3 : 9 1", holder, b, c, notifier(enterO, wakeO, say(9), exitO))
}

func TestStop(t *testing.T) {
	a := runner("A", "", say(1))
	stopped := func(field string) string { return on(field, "stopped ()I") + " / " + printI }
	stop := func(field string) string { return on(field, "stop ()V") }
	// A thread that goes is stopped, and nothing else; so it stays, also when it has ended.
	spun(t, lines(begun("A", "a"), stopped("a"), stop("a"), stopped("a"), joined("a"), stopped("a")), "ok : 0 1 1 1", a)
	spun(t, lines(begun("A", "a"), stop("a"), stop("a"), stopped("a")), "ok : 1 1", a)
	// One that has not begun, or has ended, is not.
	spun(t, lines(kept("A", "a"), stop("a"), stopped("a"), on("a", "begin ()V"), stopped("a")), "ok : 0 0 1", a)
	spun(t, lines(begun("A", "a"), joined("a"), stop("a"), stopped("a")), "ok : 1 0", a)
	spun(t, "null / cast @Thread / call virtual Thread stop ()V", "thrown NullError")
	spun(t, "null / cast @Thread / call virtual Thread stopped ()I / pop", "thrown NullError")
	// Stopped ahead of wait: StopError, once; the lock stays.
	try := func(call string) string {
		return "try: / " + call + " / " + say(5) + " / return / caught: / pop"
	}
	const handled = " / return / handler try caught caught StopError"
	waits := runner("W", "", lines(enterO, try(waitO), say(6), stopped("a"), exitO, say(7))+handled)
	spun(t, lines(begun("W", "a"), stop("a"), joined("a"), say(0)), "ok : 6 0 7 0", waits)
	spun(t, lines(begun("W", "a"), stop("a")), "dead 1 : 6 0", runner("W", "", lines(enterO, try(waitO), say(6), stopped("a"), waitO)+handled))
	// StateError comes ahead, and the thread stays stopped.
	spun(t, lines(begun("W", "a"), stop("a"), joined("a"), stopped("a")), "ok : 1", runner("W", "", waitO))
	// Stopped while it waits: it wakes, takes the lock when that is free, and StopError is thrown there; till then it is stopped.
	spun(t, lines(begun("W", "a"), begun("B", "b"), joined("a")), "ok : 6 0 7 0", waits, runner("B", "", lines(stop("a"), stopped("a"))))
	spun(t, lines(begun("W", "a"), begun("B", "b"), joined("a")), "ok : 1 8 1 6 0 7 9", waits, runner("B", "", lines(enterO, stop("a"), stopped("a"), say(8), stopped("a"), exitO, say(9))))
	spun(t, lines(begun("W", "a"), begun("B", "b"), joined("a")), "dead 0 1 : 1", waits, runner("B", "", lines(enterO, stop("a"), stopped("a"))))
	// Once: it waits again, and goes on as it would.
	twice := runner("W", "", lines(enterO, try(waitO), say(6), waitO, say(7), exitO)+handled)
	spun(t, lines(begun("W", "a"), begun("B", "b"), joined("a"), stopped("a")), "ok : 6 7 0", twice, runner("B", "", lines(stop("a"), enterO, notifyO, exitO)))
	// It waits no more: who notifies then wakes the next one.
	spun(t, lines(begun("W", "a"), begun("C", "c"), begun("B", "b")), "ok : 6 0 7 3", waits, sleeper("C", 3), runner("B", "", lines(enterO, stop("a"), notifyO, exitO)))
	// Notified first, it goes on as it would, but is stopped.
	woken := runner("W", "", lines(enterO, try(lines(waitO, stopped("a"), waitO)), say(6), stopped("a"), exitO)+handled)
	spun(t, lines(begun("W", "a"), begun("B", "b"), joined("a")), "ok : 1 6 0", woken, runner("B", "", lines(enterO, notifyO, stop("a"), exitO)))
	// Join: StopError for the one that joins, whether or not the other has ended; StateError comes ahead.
	joins := runner("J", "", lines(try(joined("c")), say(6), stopped("a"))+handled)
	never := runner("C", "", lines(enterO, waitO))
	spun(t, lines(begun("C", "c"), begun("J", "a"), begun("B", "b"), joined("a")), "dead 1 : 6 0", never, joins, runner("B", "", stop("a")))
	spun(t, lines(begun("C", "c"), begun("J", "a"), stop("a"), joined("a")), "dead 1 : 6 0", never, joins)
	spun(t, lines(begun("A", "c"), joined("c"), begun("J", "a"), stop("a"), joined("a")), "ok : 1 6 0", a, joins)
	spun(t, lines(kept("A", "c"), begun("J", "a"), stop("a"), joined("a"), stopped("a")), "ok : 1", a, joins)
	// A thread stops itself; the first one can't be stopped, having no object.
	spun(t, lines(begun("W", "a"), joined("a")), "ok : 1 6 0", runner("W", "", lines(stop("a"), stopped("a"), enterO, try(waitO), say(6), stopped("a"))+handled))
	// One that waits for a lock is stopped, and waits on.
	spun(t, lines(enterO, begun("E", "a"), begun("B", "b"), joined("b"), exitO, joined("a")), "ok : 1 8 1", runner("E", "", lines(enterO, say(8), stopped("a"))), runner("B", "", lines(stop("a"), stopped("a"))))
	// One that is not caught ends the thread.
	spun(t, lines(begun("W", "a"), begun("B", "b"), joined("a"), say(0), enterO), "dead 0 : 0", runner("W", "", lines(enterO, waitO, say(1))), runner("B", "", stop("a")))
}

func TestHash(t *testing.T) {
	does(t, "I", made("Object")+" / pop / "+made("Object")+" / call virtual Object hash ()I / return I", "ok I 2")
	does(t, "I", `text "a" / call virtual Object hash ()I / text "b" / call virtual String hash ()I / const I 10 / mul I / add I / text "a" / call virtual Object hash ()I / const I 100 / mul I / add I / return I`, "ok I 121")
	does(t, "I", "null / call virtual Object hash ()I / return I", "thrown NullError")
}

// synced has methods with FlagSync of all sorts; each says a number while it stands.
func synced() string {
	method := func(head, code string) string { return " / method " + head + " stack 6 locals 2 / " + code }
	return "class Y Object" + makesSuper("Object") +
		method("s (I)V static sync", "load I 0 / "+printI+" / return") + method("other ()V static sync", "call static Y hold ()V / return") + method("hold ()V static sync", joined("b")+" / return") +
		method("v (I)V sync", "load I 1 / "+printI+" / return") + method("deep (I)V sync", "load R 0 / load I 1 / call virtual Y v (I)V / load R 0 / exit / "+say(8)+" / return") +
		method("fail ()V sync", "null / throw") + method("sfail ()V static sync", "null / throw") + method("w ()V sync", "load R 0 / call virtual Object wait ()V / "+say(6)+" / return") + method("n ()V sync", "load R 0 / call virtual Object notify ()V / "+say(5)+" / return") +
		method("jv ()V sync", joined("b")+" / return") + method("p ()V private sync", joined("b")+" / return") + method("callp ()V", "load R 0 / call virtual Y p ()V / return") + method("lose ()V sync", "load R 0 / exit / "+say(4)+" / "+joined("b")+" / return")
}

// onY calls a method of the object o, which is one of Y then.
func onY(call string) string { return theO + "cast @Y / call virtual Y " + call }

func TestSyncMethods(t *testing.T) {
	y := synced()
	yO := made("Y") + " / putstatic S o @Object"
	b := func(code ...string) string { return runner("B", "", lines(code...)) }
	// A lock for as long as its frame stands: B can't take that of the same object, but any other.
	for _, hold := range []string{onY("jv ()V"), onY("callp ()V"), lines(enterO, joined("b"))} {
		spun(t, lines(yO, begun("B", "b"), hold), "dead 0 1", y, b(theO+"cast @Y / const I 7 / call virtual Y v (I)V"))
		spun(t, lines(yO, begun("B", "b"), hold), "dead 0 1", y, b(enterO))
		spun(t, lines(yO, begun("B", "b"), hold), "ok : 7", y, b("const I 7", "call static Y s (I)V"))
		spun(t, lines(yO, begun("B", "b"), hold), "ok : 7", y, b(made("Y")+" / const I 7 / call virtual Y v (I)V"))
	}
	// A static one has the lock of its class.
	spun(t, lines(begun("B", "b"), "call static Y hold ()V"), "dead 0 1", y, b("const I 7", "call static Y s (I)V"))
	spun(t, lines(begun("B", "b"), "call static Y other ()V"), "dead 0 1", y, b("const I 7", "call static Y s (I)V"))
	spun(t, lines(yO, begun("B", "b"), "call static Y hold ()V"), "ok : 7", y, b(theO+"cast @Y / const I 7 / call virtual Y v (I)V"))
	spun(t, lines(begun("B", "b"), "call static Z hold ()V"), "dead 0 1", y, b("const I 7", "call static Z s (I)V"), "class Z Y")
	// Behind its return it is free, and behind what is thrown out of it.
	spun(t, lines(yO, theO+"cast @Y / const I 3 / call virtual Y v (I)V", begun("B", "b"), joined("b")), "ok : 3 7", y, b(theO+"cast @Y / const I 7 / call virtual Y v (I)V"))
	spun(t, lines(yO, "const I 3 / call static Y s (I)V", begun("B", "b"), joined("b")), "ok : 3 7", y, b("const I 7 / call static Y s (I)V"))
	for _, fail := range []string{onY("fail ()V"), "call static Y sfail ()V"} {
		spun(t, lines(yO, "try: / "+fail, "return / caught: / pop", begun("B", "b"), joined("b"), say(0))+" / return / handler try caught caught NullError", "ok : 7 8 0", y, b(theO+"cast @Y / const I 7 / call virtual Y v (I)V / const I 8 / call static Y s (I)V"))
	}
	// Once more within: each frame gives back what it took.
	spun(t, lines(yO, "try: / "+theO+"cast @Y / const I 3 / call virtual Y deep (I)V", exitO)+" / return / caught: / pop / return / handler try caught caught NullError", "thrown StateError : 3 8", y)
	// Given back in the method, it is not held any more, and its frame has nothing to give.
	spun(t, lines(yO, begun("B", "b"), onY("lose ()V"), say(0), exitO), "thrown StateError : 4 7 0", y, b(theO+"cast @Y / const I 7 / call virtual Y v (I)V"))
	spun(t, lines(yO, begun("B", "b"), onY("lose ()V"), begun("C", "c"), joined("c")), "dead 0 2 : 4", y, b(enterO), runner("C", "", enterO))
	// To wait within such a method gives its lock back, too.
	spun(t, lines(yO, begun("B", "b"), onY("w ()V"), say(0)), "ok : 5 6 0", y, b(onY("n ()V")))
	// A native takes no lock, whatever its flags.
	spun(t, lines(enterO, begun("B", "b"), joined("b"), say(0)), "ok : 0", b(theO+"call virtual Object hash ()I / pop"))
}

// The first thread's method, too, and a thread's run.
func TestSyncAtTheBottom(t *testing.T) {
	m := func(flags string) []impl.Class {
		return told(shared, "class M Object / method main ()V static"+flags+" stack 6 locals 6 / "+lines(begun("B", "b"), joined("b"), say(0))+" / return / method s ()V static sync stack 1 locals 0 / "+say(1)+" / return", runner("B", "", "call static M s ()V"))
	}
	same(t, "without", shownOutcome(ran(t, m(""), "M main ()V")), "ok : 1 0")
	same(t, "with", shownOutcome(ran(t, m(" sync"), "M main ()V")), "dead 0 1")
	// It is given back when the frame goes, by a return or by something thrown.
	for end, want := range map[string]string{"return": "ok : 0 1", "null / throw": "thrown NullError : 0 1"} {
		cs := told(shared, "class M Object / method main ()V static sync stack 6 locals 6 / "+lines(begun("B", "b"), say(0), end)+" / method s ()V static sync stack 1 locals 0 / "+say(1)+" / return", runner("B", "", "call static M s ()V"))
		same(t, end, shownOutcome(ran(t, cs, "M main ()V")), want)
	}
	// A frame of start is called by nobody: it takes no lock, and does not wait for the one that the first thread holds.
	cs := told(shared, "class M Object / field x I static / method start ()V static sync stack 1 locals 0 / "+say(5)+" / return / method main ()V static sync stack 6 locals 6 / "+lines(begun("B", "b"), joined("b"), say(0))+" / return", runner("B", "", "getstatic M x I / pop"))
	same(t, "start", shownOutcome(ran(t, cs, "M main ()V")), "ok : 5 0")
	// A run with FlagSync: the thread goes on once the lock of its object is free, and holds it then.
	run := runner("R", "sync", say(1))
	hold := "getstatic S a @Thread / enter"
	give := "getstatic S a @Thread / exit"
	spun(t, lines(kept("R", "a"), hold, on("a", "begin ()V"), joined("a")), "dead 0 1", run)
	spun(t, lines(kept("R", "a"), hold, on("a", "begin ()V"), say(0), give, joined("a"), say(2)), "ok : 0 1 2", run)
	spun(t, lines(begun("R", "a"), say(0), joined("a"), hold, say(2)), "ok : 0 1 2", run)
	waits := runner("R", "sync", lines("load R 0 / call virtual Object wait ()V", say(1)))
	spun(t, lines(begun("R", "a"), begun("B", "b"), joined("a"), say(0)), "ok : 2 1 0", waits, runner("B", "", lines(hold, say(2), "getstatic S a @Thread / call virtual Object notify ()V", give)))
	// The lock is taken by the first step, not ahead of it.
	spun(t, lines(begun("R", "a"), hold, say(0), give, joined("a")), "ok : 0 1", run)
	// It is given back when the thread ends, by something thrown, too.
	spun(t, lines(begun("F", "a"), joined("a"), hold, say(2)), "ok : 1 2", runner("F", "sync", lines(say(1), "null / throw")))
	// Its first instruction may have to wait for something else.
	spun(t, lines(enterO, begun("R", "a"), hold, say(2), give, exitO, joined("a")), "ok : 2 7 1", runner("R", "sync", "call static Q s ()V / "+say(1)), "class Q Object"+says("s ()V static sync", 7))
}

// Whether a thread would have to wait is looked at by itself: what throws, or begins a class, ahead of that does not wait.
func TestWhatComesAheadOfWaiting(t *testing.T) {
	y := synced()
	b := func(code ...string) string { return runner("B", "", lines(code...)) }
	yO := made("Y") + " / putstatic S o @Object"
	hold := lines(yO, enterO, begun("B", "b"), joined("b"), say(0))
	spun(t, hold, "dead 0 1", y, b(onY("fail ()V")))
	spun(t, hold, "ok : 0", y, b("null / cast @Y / call virtual Y fail ()V"))
	spun(t, hold, "ok : 0", y, b("null / enter"))
	spun(t, hold, "ok : 0", y, b(theO+"call virtual Object none ()V"))
	// At the last frame a call fails, lock or no lock; to enter does not, and waits.
	const down = " / method down (I)V static stack 4 locals 1 / load I 0 / if eq flat / load I 0 / const I 1 / sub I / call static M down (I)V / return / flat: / "
	deep := func(code string) string {
		return lines(yO, enterO, begun("B", "b"), joined("b"), say(0)) + " / return" + down + code
	}
	spun(t, deep(onY("fail ()V")), "ok : 0", y, b("const I 98 / call static M down (I)V"))
	spun(t, deep(enterO), "dead 0 1", y, b("const I 98 / call static M down (I)V"))
	spun(t, deep(onY("fail ()V")), "dead 0 1", y, b("const I 97 / call static M down (I)V"))
	// The class of a static method begins ahead of its lock; the first thread holds that without having used the class.
	cs := told(shared, "class M Object / method start ()V static stack 1 locals 0 / "+say(5)+" / return / method main ()V static sync stack 6 locals 6 / "+lines(begun("B", "b"), joined("b"))+" / return / method s ()V static sync stack 1 locals 0 / return", runner("B", "", "call static M s ()V"))
	same(t, "a class begins", shownOutcome(ran(t, cs, "M main ()V")), "dead 0 1 : 5")
}

// A class that another thread is beginning: one waits until it is ready, or broken.
func TestClassesOfOthers(t *testing.T) {
	// Thread A begins class K, and lets the first thread go on meanwhile: that is awake once A gives o back.
	k := func(end string) string {
		return "class K Object / field x I static / method start ()V static stack 4 locals 1 / " + lines(say(1), enterO, notifyO, exitO, say(2), "const I 7", "putstatic K x I", end)
	}
	a := runner("A", "", "getstatic K x I / "+printI)
	for _, use := range []string{"getstatic K x I / " + printI, "new K / pop / getstatic K x I / " + printI, "getstatic L x I / " + printI} {
		spun(t, lines(enterO, begun("A", "a"), waitO, say(0), use), "ok : 1 0 2 7 7", a, k("return"), "class L K")
		spun(t, lines(enterO, begun("A", "a"), waitO, say(0), use), "thrown LinkError : 1 0 2", a, k("null / throw"), "class L K")
	}
	spun(t, lines(enterO, begun("A", "a"), waitO, say(0), "null / cast @K / pop", say(9)), "ok : 1 0 9 2 7", a, k("return"))
	// A LinkError comes ahead of waiting.
	spun(t, lines(enterO, begun("A", "a"), waitO, say(0), "getstatic K x J / pop"), "thrown LinkError : 1 0 2 7", a, k("return"))
	// Two threads, each beginning a class, and using the other's.
	one := "class K Object / field x I static / method start ()V static stack 4 locals 1 / " + lines(enterO, notifyO, exitO, say(1), "getstatic L x I / pop", "return")
	two := "class L Object / field x I static / method start ()V static stack 4 locals 1 / " + lines(say(2), "getstatic K x I / pop", "return")
	spun(t, lines(enterO, begun("A", "a"), waitO, "getstatic L x I / pop"), "dead 0 1 : 2 1", a, one, two)
	// The one that begins it waits for the other: nobody goes on.
	stuck := "class K Object / field x I static / method start ()V static stack 4 locals 1 / " + lines(enterO, notifyO, waitO, say(1), "return")
	spun(t, lines(enterO, begun("A", "a"), waitO, exitO, "getstatic K x I / pop"), "dead 0 1", a, stuck)
	spun(t, lines(enterO, begun("A", "a"), waitO, notifyO, exitO, "getstatic K x I / "+printI), "ok : 1 0 0", a, stuck)
}

// Ends of runs with threads.
func TestEndsWithThreads(t *testing.T) {
	a := runner("A", "", lines(say(1), "null / throw"))
	spun(t, lines(begun("A", "a"), joined("a"), say(0)), "ok : 1 0", a)
	spun(t, lines(begun("A", "a"), "null / throw"), "thrown NullError : 1", a)
	// All have to end: otherwise it does not matter how the first one ended.
	spun(t, begun("B", "b"), "dead 1", sleeper("B", 1))
	spun(t, lines(begun("B", "b"), "null / throw"), "dead 1", sleeper("B", 1))
	spun(t, lines(begun("B", "b"), begun("A", "a"), begun("C", "c")), "dead 1 3 : 1", a, sleeper("B", 1), runner("C", "", joined("b")))
	spun(t, lines(begun("L", "b"), say(0)), "fuel : 0", runner("L", "", "here: / goto here"))
	spun(t, lines(begun("L", "b"), "null / throw"), "room", runner("L", "", "here: / new Object / pop / goto here"))
	// The most threads, each waiting for the one ahead.
	chain := runner("A", "", lines("getstatic S n I / store I 1 / getstatic S n I / const I 1 / add I / putstatic S n I / load I 1 / "+printI, enterO, waitO, "load I 1 / "+printI, exitO))
	numbers := ""
	for k := range impl.MaxThreads - 2 {
		numbers += fmt.Sprint(" ", k)
	}
	spun(t, lines(begins("A", impl.MaxThreads-2), begins("N", 1)), "ok :"+numbers+numbers, chain, runner("N", "", lines(enterO, wakeO, exitO)))
}
