package tests

import (
	"fmt"
	"slices"
	"strings"
	"testing"

	"loop.example/g00032/impl"
)

// What is to be seen behind each number of steps.

func shownValues(values []impl.Value) string {
	out := make([]string, len(values))
	for k, v := range values {
		out[k] = shownValue(v)
	}
	return strings.Join(out, ", ")
}

// shownThread tells how a thread stands, for which object it waits or wakes, and its frames, the lowest first: where each is, with its locals and its stack.
func shownThread(t impl.ThreadState) string {
	out := words("goes waits wakes joins ended")[t.State]
	if t.Awaits != 0 {
		out += fmt.Sprint(" #", t.Awaits)
	}
	for _, f := range t.Frames {
		out += fmt.Sprintf(" > %s.%s%s %d [%s] [%s]", f.Class, f.Name, f.Sig, f.Pc, shownValues(f.Locals), shownValues(f.Stack))
	}
	return out
}

func shownThreads(s impl.Snapshot) []string {
	out := []string{}
	for _, t := range s.Threads {
		out = append(out, shownThread(t))
	}
	return out
}

func shownObjects(s impl.Snapshot) []string {
	out := []string{}
	for _, o := range s.Objects {
		text := o.Type
		if o.Text != "" {
			text += fmt.Sprintf(" %q", o.Text)
		}
		if len(o.Values) > 0 {
			text += " " + shownValues(o.Values)
		}
		out = append(out, text)
	}
	return out
}

func shownStatics(s impl.Snapshot) []string {
	out := []string{}
	for _, f := range s.Statics {
		out = append(out, f.Class+"."+f.Name+" "+shownValue(f.Value))
	}
	return out
}

// course tells how the threads of a run stand behind each number of steps, from 0 on; behind its end they stay.
func course(t *testing.T, cs []impl.Class, method string, args []impl.Value, want ...string) {
	t.Helper()
	w := words(method)
	for steps, row := range want {
		s := impl.SnapshotAt(cs, w[0], w[1], w[2], args, nil, int64(steps))
		if got := strings.Join(shownThreads(s), "; "); got != row || s.Steps != int64(steps) {
			t.Errorf("behind %d steps (%d): %s\nnot %s", steps, s.Steps, got, row)
		}
	}
	last := int64(len(want) - 1)
	o := impl.RunThreads(cs, w[0], w[1], w[2], args, impl.MaxFuel, nil)
	same(t, "steps", o.Steps, last)
	for _, steps := range []int64{last + 1, last + 7, impl.MaxFuel} {
		same(t, "behind the end", impl.SnapshotAt(cs, w[0], w[1], w[2], args, nil, steps), impl.SnapshotAt(cs, w[0], w[1], w[2], args, nil, last))
	}
}

func TestThreadCodes(t *testing.T) {
	for k, code := range []int64{impl.ThreadGoes, impl.ThreadWaits, impl.ThreadWakes, impl.ThreadJoins, impl.ThreadEnded} {
		same(t, "code", code, int64(k))
	}
}

func TestWholeSnapshots(t *testing.T) {
	cs := told("class A Object / field s I static / field t @A static / field x J / method f (I)I static stack 2 locals 3 / load I 0 / putstatic A s I / "+say(4)+" / load I 0 / return I", "class B Object / field z D static")
	args := []impl.Value{{Kind: impl.KindInt, N: 9}}
	number := func(n int64) impl.Value { return impl.Value{Kind: impl.KindInt, N: n} }
	at := func(steps, pc, s int64, trace []string, stack ...impl.Value) impl.Snapshot {
		f := impl.FrameState{Class: "A", Name: "f", Sig: "(I)I", Pc: pc, Locals: []impl.Value{number(9), number(0), number(0)}, Stack: stack}
		return impl.Snapshot{
			Threads: []impl.ThreadState{{Frames: []impl.FrameState{f}}},
			Statics: []impl.StaticState{{Class: "A", Name: "s", Value: number(s)}, {Class: "A", Name: "t", Value: impl.Value{Kind: impl.KindRef}}, {Class: "B", Name: "z", Value: impl.Value{Kind: impl.KindFloat}}},
			Trace:   trace,
			Steps:   steps,
		}
	}
	four := []string{"4"}
	end := at(6, 0, 9, four)
	end.Threads = []impl.ThreadState{{State: impl.ThreadEnded}}
	for steps, want := range []impl.Snapshot{at(0, 0, 0, nil), at(1, 1, 0, nil, number(9)), at(2, 2, 9, nil), at(3, 3, 9, nil, number(4)), at(4, 4, 9, four), at(5, 5, 9, four, number(9)), end, end} {
		same(t, fmt.Sprint("behind ", steps), impl.SnapshotAt(cs, "A", "f", "(I)I", args, nil, int64(steps)), want)
	}
	same(t, "behind the end", impl.SnapshotAt(cs, "A", "f", "(I)I", args, []int64{5, -1}, impl.MaxFuel), end)
}

func TestFramesSeen(t *testing.T) {
	// Arguments of each kind; a local that nothing was stored in is 0 of KindInt.
	cs := endClasses()
	const five = "A.m(I,J,D,@A,[I)I"
	course(t, cs, "A m (I,J,D,@A,[I)I", rightArgs(), "goes > "+five+" 0 [I 7, J 8, D 9p-1074, R 0, R 0] []", "goes > "+five+" 1 [I 7, J 8, D 9p-1074, R 0, R 0] [I 7]", "ended")
	// A frame that calls stands at its call, with what it gave to the other one taken; it goes on behind.
	calls := told("class M Object / method main ()I static stack 4 locals 2 / const I 5 / const I 3 / const J 4 / call static M f (I,J)I / add I / return I / method f (I,J)I static stack 1 locals 3 / load I 0 / return I")
	course(t, calls, "M main ()I", nil,
		"goes > M.main()I 0 [I 0, I 0] []", "goes > M.main()I 1 [I 0, I 0] [I 5]", "goes > M.main()I 2 [I 0, I 0] [I 5, I 3]", "goes > M.main()I 3 [I 0, I 0] [I 5, I 3, J 4]",
		"goes > M.main()I 3 [I 0, I 0] [I 5] > M.f(I,J)I 0 [I 3, J 4, I 0] []", "goes > M.main()I 3 [I 0, I 0] [I 5] > M.f(I,J)I 1 [I 3, J 4, I 0] [I 3]",
		"goes > M.main()I 4 [I 0, I 0] [I 5, I 3]", "goes > M.main()I 5 [I 0, I 0] [I 8]", "ended")
	// this comes first; the class is the one that has the method.
	made := told("class A Object / method new ()V stack 1 locals 2 / load R 0 / call special Object new ()V / return", "class M Object / method main ()V static stack 2 locals 0 / new A / dup / call special A new ()V / pop / return")
	course(t, made, "M main ()V", nil,
		"goes > M.main()V 0 [] []", "goes > M.main()V 1 [] [R 1]", "goes > M.main()V 2 [] [R 1, R 1]", "goes > M.main()V 2 [] [R 1] > A.new()V 0 [R 1, I 0] []", "goes > M.main()V 2 [] [R 1] > A.new()V 1 [R 1, I 0] [R 1]",
		"goes > M.main()V 2 [] [R 1] > A.new()V 1 [R 1, I 0] [] > Object.new()V 0 [R 1] []", "goes > M.main()V 2 [] [R 1] > A.new()V 2 [R 1, I 0] []", "goes > M.main()V 3 [] [R 1]", "goes > M.main()V 4 [] []", "ended")
	// A native has no frame.
	course(t, told(mainOf("V", "null / call static System print (@String)V / return")), "M main ()V", nil,
		"goes > M.main()V 0 [I 0, I 0, I 0, I 0, I 0, I 0, I 0, I 0, I 0] []", "goes > M.main()V 1 [I 0, I 0, I 0, I 0, I 0, I 0, I 0, I 0, I 0] [R 0]", "goes > M.main()V 2 [I 0, I 0, I 0, I 0, I 0, I 0, I 0, I 0, I 0] []", "ended")
}

func TestStartFramesSeen(t *testing.T) {
	// The instruction that uses a class stays where it is, with all that it will take.
	cs := told("class M Object / method main ()V static stack 2 locals 0 / const I 1 / putstatic K x I / return", "class L Object / method start ()V static stack 0 locals 1 / return", "class K L / field x I static / method start ()V static stack 1 locals 0 / const I 7 / putstatic K x I / return")
	course(t, cs, "M main ()V", nil,
		"goes > M.main()V 0 [] []", "goes > M.main()V 1 [] [I 1]", "goes > M.main()V 1 [] [I 1] > L.start()V 0 [I 0] []", "goes > M.main()V 1 [] [I 1]", "goes > M.main()V 1 [] [I 1] > K.start()V 0 [] []",
		"goes > M.main()V 1 [] [I 1] > K.start()V 1 [] [I 7]", "goes > M.main()V 1 [] [I 1] > K.start()V 2 [] []", "goes > M.main()V 1 [] [I 1]", "goes > M.main()V 2 [] []", "ended")
	same(t, "statics", shownStatics(impl.SnapshotAt(cs, "M", "main", "()V", nil, nil, 6)), []string{"K.x I 7"})
	same(t, "statics", shownStatics(impl.SnapshotAt(cs, "M", "main", "()V", nil, nil, 8)), []string{"K.x I 1"})
	// Left by something thrown: an InitError at the frame below.
	broken := told("class M Object / method main ()V static stack 2 locals 0 / const I 1 / putstatic K x I / return / pop / return / handler 1 3 3 InitError", "class K Object / field x I static / method start ()V static stack 1 locals 0 / null / throw")
	course(t, broken, "M main ()V", nil, "goes > M.main()V 0 [] []", "goes > M.main()V 1 [] [I 1]", "goes > M.main()V 1 [] [I 1] > K.start()V 0 [] []", "goes > M.main()V 1 [] [I 1] > K.start()V 1 [] [R 0]", "goes > M.main()V 3 [] [R 2]", "goes > M.main()V 4 [] []", "ended")
	same(t, "objects", shownObjects(impl.SnapshotAt(broken, "M", "main", "()V", nil, nil, 5)), []string{"@NullError R 0", "@InitError R 0"})
}

func TestThrownSeen(t *testing.T) {
	cs := told("class M Object / method main ()V static stack 3 locals 1 / const I 1 / const I 5 / call static M f (I)V / return / store R 0 / return / handler 0 3 4 *", "class N Object", "class M2 Object")
	cs[0].Methods = append(cs[0].Methods, told("class M Object / method f (I)V static sync stack 2 locals 1 / load I 0 / const I 0 / div I / pop / return")[0].Methods...)
	course(t, cs, "M main ()V", nil,
		"goes > M.main()V 0 [I 0] []", "goes > M.main()V 1 [I 0] [I 1]", "goes > M.main()V 2 [I 0] [I 1, I 5]", "goes > M.main()V 2 [I 0] [I 1] > M.f(I)V 0 [I 5] []", "goes > M.main()V 2 [I 0] [I 1] > M.f(I)V 1 [I 5] [I 5]",
		"goes > M.main()V 2 [I 0] [I 1] > M.f(I)V 2 [I 5] [I 5, I 0]", "goes > M.main()V 4 [I 0] [R 1]", "goes > M.main()V 5 [R 1] []", "ended")
	// The thread ends where nobody takes it.
	course(t, told("class M Object / method main ()V static stack 1 locals 0 / null / throw"), "M main ()V", nil, "goes > M.main()V 0 [] []", "goes > M.main()V 1 [] [R 0]", "ended")
}

// threadsAt tells how the threads of a program stand behind its end, or behind so many steps by picks.
func threadsAt(t *testing.T, cs []impl.Class, picks []int64, steps int64) []string {
	t.Helper()
	if failures := impl.InferAll(cs); len(failures) > 0 {
		t.Fatalf("not right: %v", failures)
	}
	out := []string{}
	for _, line := range shownThreads(impl.SnapshotAt(cs, "M", "main", "()I", nil, picks, steps)) {
		state, rest, _ := strings.Cut(line, " > ")
		if at := strings.LastIndex(rest, " > "); at >= 0 {
			rest = rest[at+3:]
		}
		where, _, _ := strings.Cut(rest, " [")
		stack := rest[strings.LastIndex(rest, "[")+1:]
		if rest == "" {
			out = append(out, state)
			continue
		}
		out = append(out, state+" "+where+" ["+stack)
	}
	return out
}

// standAt says how the threads stand in the end, told by their uppermost frames; o is object 1.
func standAt(t *testing.T, main string, want []string, more ...string) {
	t.Helper()
	cs := told(append(more, shared, "class M Object / method main ()I static stack 9 locals 0 / "+objects+main+" / const I 0 / return I")...)
	same(t, main, threadsAt(t, cs, nil, impl.MaxFuel), want)
}

func TestStatesSeen(t *testing.T) {
	a := func(code ...string) string { return runner("A", "", lines(code...)) }
	standAt(t, say(1), []string{"ended"})
	standAt(t, begun("A", "a"), []string{"ended", "ended"}, a(say(1)))
	standAt(t, lines(begun("A", "a"), joined("a")), []string{"ended", "ended"}, a("null / throw"))
	// One that waits stands at its call, with the object that it waits for; it is seen as Awaits.
	standAt(t, lines(begun("A", "a"), say(0)), []string{"ended", "waits #1 A.run()V 3 [R 1]"}, a(enterO, waitO))
	standAt(t, lines(begun("A", "a"), say(0)), []string{"ended", "waits #2 A.run()V 6 [I 4, R 2]"}, a(enterO, enterP, "const I 4", waitP, "pop"))
	standAt(t, lines(enterO, begun("A", "a"), joined("a")), []string{"joins M.main()I 17 [R 3]", "goes A.run()V 1 [R 1]"}, a(enterO))
	// Awake, but somebody else holds the lock.
	standAt(t, lines(begun("A", "a"), begun("B", "b")), []string{"ended", "wakes #1 A.run()V 3 [R 1]", "ended"}, a(enterO, waitO), runner("B", "", lines(enterO, notifyO)))
	standAt(t, lines(begun("A", "a"), begun("B", "b")), []string{"ended", "wakes #1 A.run()V 3 [R 1]", "ended"}, a(enterO, waitO), runner("B", "", lines(enterO, on("a", "stop ()V"))))
	standAt(t, lines(begun("A", "a"), begun("B", "b")), []string{"ended", "ended", "ended"}, a(enterO, waitO), runner("B", "", lines(enterO, notifyO, exitO)))
	// Notified for one only: the other waits on.
	standAt(t, lines(begun("A", "a"), begun("A", "b"), begun("B", "c")), []string{"ended", "wakes #1 A.run()V 3 [R 1]", "waits #1 A.run()V 3 [R 1]", "ended"}, a(enterO, waitO), runner("B", "", lines(enterO, notifyO)))
	// join that can not go on; of itself, too.
	standAt(t, lines(begun("A", "a"), begun("B", "b")), []string{"ended", "joins A.run()V 1 [R 3]", "joins B.run()V 1 [R 3]"}, a(on("a", "join ()V")), runner("B", "", joined("a")))
	// For a lock, a method with FlagSync, or a class it can not go on: it goes, as is told.
	y := synced()
	yO := made("Y") + " / putstatic S o @Object"
	standAt(t, lines(yO, enterO, begun("A", "a"), say(0)), []string{"ended", "goes A.run()V 2 [R 3]"}, y, a(onY("fail ()V")))
	standAt(t, lines(kept("R", "a"), "getstatic S a @Thread / enter", on("a", "begin ()V")), []string{"ended", "goes R.run()V 0 []"}, runner("R", "sync", say(1)))
	standAt(t, lines(begun("A", "a"), begun("A", "b")), []string{"ended", "waits #1 K.start()V 3 [R 1]", "goes A.run()V 0 []"}, a("getstatic K x I / pop"), starting("K Object", lines(enterO, waitO)))
	// A native run has no frame at any time.
	standAt(t, lines(begun("N", "a"), begun("A", "b"), joined("b")), []string{"joins M.main()I 21 [R 4]", "ended", "waits #1 A.run()V 3 [R 1]"}, a(enterO, waitO), "class N Thread"+makesSuper("Thread")+" / method run ()V native")
}

// One that joins is seen so while it can not go on, and no longer.
func TestJoinSeen(t *testing.T) {
	cs := told(shared, runner("A", "", say(1)), "class M Object / method main ()I static stack 9 locals 0 / "+objects+lines(begun("A", "a"), joined("a"), "const I 0 / return I"))
	begin := stepsTo(cs, 2)
	for k, want := range [][]string{{"goes M.main()I 14 []", "goes A.run()V 0 []"}, {"joins M.main()I 15 [R 3]", "goes A.run()V 0 []"}, {"joins M.main()I 15 [R 3]", "goes A.run()V 1 [I 1]"}, {"joins M.main()I 15 [R 3]", "goes A.run()V 2 []"}, {"goes M.main()I 15 [R 3]", "ended"}, {"goes M.main()I 16 []", "ended"}} {
		same(t, fmt.Sprint("behind ", k), threadsAt(t, cs, nil, begin+int64(k)), want)
	}
	// One that is stopped can go on with join, and one of a thread that has not begun, too.
	cs = told(shared, runner("A", "", lines(enterO, waitO)), runner("B", "", joined("a")), "class M Object / method main ()I static stack 9 locals 0 / "+objects+lines(begun("A", "a"), begun("B", "b"), on("b", "stop ()V"), "const I 0 / return I"))
	begin = stepsTo(cs, 3)
	picks := append(make([]int64, begin), 2, 0, 0, 0, 0)
	same(t, "ahead of stop", threadsAt(t, cs, picks, begin+2)[2], "joins B.run()V 1 [R 3]")
	same(t, "behind stop", threadsAt(t, cs, picks, begin+3)[2], "goes B.run()V 1 [R 3]")
	cs = told(shared, runner("A", "", joined("c")), "class M Object / method main ()I static stack 9 locals 0 / "+objects+lines(kept("A", "c"), begun("A", "a"), "const I 0 / return I"))
	begin = stepsTo(cs, 2)
	same(t, "of one that has not begun", threadsAt(t, cs, append(make([]int64, begin), 1), begin+1), []string{"goes M.main()I 18 []", "goes A.run()V 1 [R 3]"})
	// A method of the same name is another.
	own := told("class A Object"+makesSuper("Object")+" / method join ()V sync stack 1 locals 1 / load R 0 / call virtual Object wait ()V / return", shared, runner("B", "", "getstatic S o @Object / cast @A / call virtual A join ()V"), "class M Object / method main ()I static stack 9 locals 0 / "+lines(made("A"), "dup / putstatic S o @Object / enter", begun("B", "b"), "const I 0 / return I"))
	same(t, "another join", threadsAt(t, own, nil, impl.MaxFuel), []string{"ended", "goes B.run()V 2 [R 1]"})
}

func TestObjectsSeen(t *testing.T) {
	cs := told("class A Object / field i I / field s I static / field d D / field r @A"+makesSuper("Object"), "class B A / field j J / field a [I / field i I"+makesSuper("A"),
		mainOf("I", lines(made("B"), "store R 0", "load R 0 / const I 6 / put B i I", "load R 0 / const I 7 / put A i I", "load R 0 / load R 0 / put A r @A", "load R 0 / const D 3p-1 / put A d D", "load R 0 / const J -4 / put B j J", "load R 0 / const I 2 / newarray I / dup / store R 1 / put B a [I", "load R 1 / const I 1 / const I -9 / astore I",
			`text "ab" / store R 2`, "load R 2 / load R 2 / call virtual String join (@String)@String / store R 3", "const I 0 / newarray D / pop", "const I 1 / newarray J / pop", "const I 2 / newarray @A / store R 4", "load R 4 / const I 1 / load R 0 / astore R", "const I 1 / newarray [[@String / pop", "const I 3 / newarray D / pop",
			"new Error / dup / load R 3 / call special Error new (@String)V / pop", made("Object")+" / pop", made("Thread")+" / pop", `text "" / pop / text "ab" / pop`, "new A / pop", "const I 0 / return I")))
	o := impl.RunThreads(cs, "M", "main", "()I", nil, impl.MaxFuel, nil)
	same(t, "ends", o.Code, impl.RunOk)
	s := impl.SnapshotAt(cs, "M", "main", "()I", nil, nil, impl.MaxFuel)
	same(t, "objects", shownObjects(s), []string{"@B I 7, D 3p-1, R 1, J -4, R 2, I 6", "[I I 0, I -9", `@String "ab"`, `@String "abab"`, "[D", "[J J 0", "[@A R 0, R 1", "[[[@String R 0", "[D D 0p0, D 0p0, D 0p0", "@Error R 4", "@Object", "@Thread", "@String", "@A I 0, D 0p0, R 0"})
	same(t, "statics", shownStatics(s), []string{"A.s I 0"})
	same(t, "steps", s.Steps, o.Steps)
	// As they come, one after the other, with first values.
	last := 0
	for steps := range o.Steps {
		s := impl.SnapshotAt(cs, "M", "main", "()I", nil, nil, steps)
		if n := len(s.Objects); n < last || n > last+1 {
			t.Errorf("behind %d steps there are %d objects", steps, n)
		}
		last = len(s.Objects)
	}
	same(t, "the first one", shownObjects(impl.SnapshotAt(cs, "M", "main", "()I", nil, nil, 1)), []string{"@B I 0, D 0p0, R 0, J 0, R 0, I 0"})
}

func TestStaticsSeen(t *testing.T) {
	cs := told("class Z Object / field b I static / field a J static / field n I / field d D static", "class I Object abstract interface / field c I static final / field r @Z static final / method start ()V static stack 1 locals 0 / const I 5 / putstatic I c I / return", "class A Z / field b I static / field arr [I static",
		mainOf("I", "const I 1 / putstatic Z b I / const J 2 / putstatic A a J / const I 3 / putstatic A b I / getstatic I c I / pop / const D nan / putstatic Z d D / const I 1 / newarray I / putstatic A arr [I / const I 0 / return I"))
	same(t, "at first", shownStatics(impl.SnapshotAt(cs, "M", "main", "()I", nil, nil, 0)), []string{"Z.b I 0", "Z.a J 0", "Z.d D 0p0", "I.c I 0", "I.r R 0", "A.b I 0", "A.arr R 0"})
	same(t, "in the end", shownStatics(impl.SnapshotAt(cs, "M", "main", "()I", nil, nil, impl.MaxFuel)), []string{"Z.b I 1", "Z.a J 2", "Z.d D nan", "I.c I 5", "I.r R 0", "A.b I 3", "A.arr R 1"})
	same(t, "without", impl.SnapshotAt(told(mainOf("I", "const I 0 / return I")), "M", "main", "()I", nil, nil, 9).Statics, nil)
}

// What is seen behind the last step is what the run came to.
func TestSnapshotsAndOutcomes(t *testing.T) {
	t.Parallel()
	b := builder{numbers{state: 611}}
	for range 40 {
		cs := b.program()
		picks := b.somePicks(500)
		o := impl.RunThreads(cs, "M", "main", "()I", nil, 500, picks)
		s := impl.SnapshotAt(cs, "M", "main", "()I", nil, picks, 500)
		same(t, "trace", s.Trace, o.Trace)
		same(t, "steps", s.Steps, o.Steps)
		living := []int64{}
		for k, thread := range s.Threads {
			if thread.State != impl.ThreadEnded {
				living = append(living, int64(k))
			} else if len(thread.Frames) > 0 || thread.Awaits != 0 {
				t.Errorf("one that has ended: %v", thread)
			}
		}
		switch o.Code {
		case impl.RunDead:
			same(t, "dead", living, o.Dead)
		case impl.RunOk, impl.RunThrown:
			same(t, "living", living, nil)
		}
	}
}

// fill makes all objects that there may be.
const fill = "const I 0 / store I 1 / fill: / new Object / pop / inc 1 1 / load I 1 / const I 3990 / ifint lt fill / more: / new Object / dup / call special Object new ()V / call virtual Object hash ()I / const I 4000 / ifint lt more"

// A step that finds no room is counted, and its instruction is not done: it stands there with all that it would take.
func TestNoRoomSeen(t *testing.T) {
	t.Parallel()
	room := func(first, last, want string, more ...string) {
		t.Helper()
		cs := told(append(more, mainOf("I", lines(first, fill, last, "const I 0 / return I")))...)
		o := impl.RunThreads(cs, "M", "main", "()I", nil, impl.MaxFuel, nil)
		if o.Code != impl.RunRoom {
			t.Fatalf("%s: %v %v", last, o, impl.InferAll(cs))
		}
		for _, steps := range []int64{o.Steps, o.Steps + 1, impl.MaxFuel} {
			s := impl.SnapshotAt(cs, "M", "main", "()I", nil, nil, steps)
			same(t, last, len(s.Objects), impl.MaxObjects)
			same(t, last, s.Steps, o.Steps)
			frames := s.Threads[len(s.Threads)-1].Frames
			f := frames[len(frames)-1]
			code := cs[slices.IndexFunc(cs, func(c impl.Class) bool { return c.Name == f.Class })]
			m := code.Methods[slices.IndexFunc(code.Methods, func(m impl.Method) bool { return m.Name == f.Name && m.Sig == f.Sig })]
			same(t, last, fmt.Sprintf("%d: %s [%s]", len(frames), impl.ShowIns(m.Code[f.Pc]), shownValues(f.Stack)), want)
			ahead := impl.SnapshotAt(cs, "M", "main", "()I", nil, nil, o.Steps-1)
			ahead.Steps++
			same(t, last+": ahead of it", s, ahead)
		}
	}
	two := `text "ab" / store R 2 / text "c" / store R 3`
	room(two, "const I 5 / new Object / pop / pop", "1: new Object [I 5]")
	room(two, "const I 5 / const I 3 / newarray I / pop / pop", "1: newarray I [I 5, I 3]")
	room(two, "const I 5 / const I -3 / newarray I / pop / pop", "1: newarray I [I 5, I -3]")
	room(two, `const I 5 / text "new" / pop / pop`, `1: text "new" [I 5]`)
	room(two, "load R 2 / load R 3 / call virtual String join (@String)@String / pop", "1: call virtual String join (@String)@String [R 1, R 2]")
	room(two, "load R 2 / const I 0 / const I 1 / call virtual String part (I,I)@String / pop", "1: call virtual String part (I,I)@String [R 1, I 0, I 1]")
	room(two, "load R 2 / const I 7 / call virtual String at (I)I / pop", "1: call virtual String at (I)I [R 1, I 7]")
	room(two, "const J 7 / const J 0 / rem J / pop", "1: rem J [J 7, J 0]")
	room(two, "null / throw", "1: throw [R 0]")
	room(two, "load R 2 / exit", "1: exit [R 1]")
	room(two, "load R 2 / cast [I / pop", "1: cast [I [R 1]")
	room(two, "load R 2 / call virtual String none ()V", "1: call virtual String none ()V [R 1]")
	room(two, "load R 2 / call virtual Object wait ()V", "1: call virtual Object wait ()V [R 1]")
	room(two, "const I 1 / const I 2 / call static M f (I,I)V / const I 0 / return I / method f (I,I)V static stack 1 locals 3 / new M / pop / return / method g ()I static stack 1 locals 0", "2: new M []")
	// A text that is there already needs none.
	room(two, `text "ab" / text "c" / pop / new Object / pop / pop`, "1: new Object [R 1]")
	// Its class has begun ahead of that.
	room(two, "new K / pop", "1: new K []", "class K Object / method start ()V static stack 0 locals 0 / return")
}

// What a step did ahead of finding no room is done: a frame of start has gone, or a lock was taken.
func TestNoRoomOnTheWaySeen(t *testing.T) {
	t.Parallel()
	e := "new Error / dup / null / call special Error new (@String)V / putstatic E e @Error"
	cs := told("class E Object / field e @Error static", starting("K Object", "getstatic E e @Error / throw"), mainOf("I", lines(e, fill, "const I 5 / getstatic K x I / add I / return I")))
	o := impl.RunThreads(cs, "M", "main", "()I", nil, impl.MaxFuel, nil)
	same(t, "an InitError", o.Code, impl.RunRoom)
	s := impl.SnapshotAt(cs, "M", "main", "()I", nil, nil, impl.MaxFuel)
	if f := s.Threads[0].Frames; len(f) != 1 || impl.ShowIns(cs[2].Methods[0].Code[f[0].Pc]) != "getstatic K x I" || shownValues(f[0].Stack) != "I 5" {
		t.Errorf("%v", s.Threads)
	}
	cs = told(shared, runner("A", "", lines(enterO, enterO, waitO)), mainOf("I", objects+lines(begun("A", "a"), enterP, fill, on("a", "stop ()V"), "const I 0 / return I")))
	begin := stepsTo(cs, 2)
	picks := append(make([]int64, begin), 1, 1, 1, 1, 1, 1)
	o = impl.RunThreads(cs, "M", "main", "()I", nil, impl.MaxFuel, picks)
	same(t, "a StopError", o.Code, impl.RunRoom)
	same(t, "a StopError", shownLocks(impl.LocksAt(cs, "M", "main", "()I", nil, picks, o.Steps)), "#1 1*2, #2 0")
	same(t, "a StopError", threadsAt(t, cs, picks, o.Steps), []string{"ended", "goes A.run()V 5 [R 1]"})
	same(t, "ahead of it", shownLocks(impl.LocksAt(cs, "M", "main", "()I", nil, picks, o.Steps-1)), "#2 0")
	same(t, "ahead of it", threadsAt(t, cs, picks, o.Steps-1), []string{"ended", "wakes #1 A.run()V 5 [R 1]"})
}
