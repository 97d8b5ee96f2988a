package tests

import (
	"fmt"
	"math"
	"slices"
	"testing"

	"loop.example/g00032/impl"
)

// Who goes: of those that can, by rising number, the one at the place that the next pick tells.

// fourThreads says a number in each of four threads; a pick counts from where all of them are there.
func fourThreads() []impl.Class {
	return told(shared, runner("A", "", say(1)), runner("B", "", say(2)), runner("C", "", say(3)), mainOf("I", objects+lines(begun("A", "a"), begun("B", "b"), begun("C", "c"), say(0), "const I 9 / return I")))
}

// stepsTo is how many steps a run takes, by the least of its threads, until it has so many threads.
func stepsTo(cs []impl.Class, threads int) int64 {
	for steps := int64(0); ; steps++ {
		if len(impl.SnapshotAt(cs, "M", "main", "()I", nil, nil, steps).Threads) == threads {
			return steps
		}
	}
}

// picked says how main of M ends by picks that begin behind so many steps; what stands ahead of them is passed where one thread alone can go on.
func picked(t *testing.T, cs []impl.Class, ahead int64, picks []int64, want string) {
	t.Helper()
	for _, first := range []int64{0, 1, -1, 7, math.MaxInt64, math.MinInt64} {
		all := append(slices.Repeat([]int64{first}, int(ahead)), picks...)
		o := impl.RunThreads(cs, "M", "main", "()I", nil, impl.MaxFuel, all)
		same(t, fmt.Sprint(picks), shownOutcome(o), want)
		same(t, fmt.Sprint(picks, " with just enough fuel"), impl.RunThreads(cs, "M", "main", "()I", nil, o.Steps, all), o)
		if less := impl.RunThreads(cs, "M", "main", "()I", nil, o.Steps-1, all); less.Code != impl.RunFuel || less.Steps != o.Steps-1 {
			t.Errorf("%v with one too few: %v", picks, less)
		}
	}
}

func each(pick int64) []int64 { return slices.Repeat([]int64{pick}, 60) }

func TestPicks(t *testing.T) {
	cs := fourThreads()
	ahead := stepsTo(cs, 4)
	// The first one alone has steps ahead of that while the others would go on, too: it is picked by 0 there.
	begin := stepsTo(cs, 2)
	with := func(picks ...int64) []int64 {
		return append(make([]int64, ahead-begin), picks...)
	}
	pick := func(want string, picks ...int64) {
		t.Helper()
		picked(t, cs, begin, with(picks...), "ok I 9 : "+want)
	}
	pick("0 1 2 3")
	pick("0 1 2 3", each(0)...)
	pick("3 2 1 0", 3, 3, 3, 2, 2, 2, 1, 1, 1)
	pick("1 2 3 0", 1, 1, 1, 1, 1, 1, 1, 1, 1)
	pick("2 3 1 0", 2, 2, 2, 2, 2, 2, 1, 1, 1)
	// Each step has a pick of its own.
	pick("3 0 1 2", 3, 3)
	pick("0 1 2 3", 3)
	pick("2 3 0 1", 3, 2, 2, 3)
	pick("1 3 0 2", 3, 2, 1, 1, 3)
	// Beyond their number it goes round.
	for _, n := range []int64{4, 8, 400, 4 << 40} {
		pick("0 1 2 3", slices.Repeat([]int64{n}, 4)...)
		pick("3 0 1 2", n+3, n+3)
		pick("1 0 2 3", n+1, n+1)
	}
	pick("3 0 1 2", 7, 7, 7, 3, 3, 3)
	// Below 0 it goes round the other way: the last one is -1.
	pick("3 2 1 0", each(-1)...)
	pick("2 1 0 3", each(-2)...)
	pick("1 0 2 3", -3, -3, -3, -3)
	pick("0 1 2 3", -4, -4, -4, -4)
	pick("3 0 1 2", -5, -5)
	// The greatest is 3 of four, 1 of three and of two; the least 0, 1 and 0.
	pick("3 1 2 0", each(math.MaxInt64)...)
	pick("0 2 1 3", each(math.MinInt64)...)
	pick("2 0 1 3", math.MaxInt64-1, math.MaxInt64-1)
	pick("1 0 2 3", math.MinInt64+1, math.MinInt64+1)
	// More picks than steps.
	pick("3 2 1 0", slices.Repeat([]int64{-1}, 3000)...)
}

// Who can not go on has no place in the list.
func TestPicksOfThoseThatCan(t *testing.T) {
	held := told(shared, runner("A", "", lines(enterO, say(1), exitO)), runner("B", "", say(2)), mainOf("I", objects+lines(enterO, begun("A", "a"), begun("B", "b"), say(0), exitO, say(9), "const I 9 / return I")))
	ahead, begin := stepsTo(held, 3), stepsTo(held, 2)
	pick := func(cs []impl.Class, want string, picks ...int64) {
		t.Helper()
		picked(t, cs, begin, append(make([]int64, ahead-begin), picks...), "ok I 9 : "+want)
	}
	pick(held, "0 9 1 2")
	// Thread 1 gets as far as the lock: 1 is thread 2 from there on.
	pick(held, "2 0 9 1", 1, 1, 1, 1)
	pick(held, "0 2 9 1", 1, 1, 0, 0, 1, 1)
	pick(held, "2 0 1 9", 1, 1, 1, 1, 0, 0, 0, 0, 1, 1, 1)
	joins := told(shared, runner("A", "", joined("b")+" / "+say(1)), runner("B", "", say(2)), mainOf("I", objects+lines(begun("B", "b"), begun("A", "a"), say(0), "const I 9 / return I")))
	ahead, begin = stepsTo(joins, 3), stepsTo(joins, 2)
	// A is thread 2: it looks for b, and can not go on with join.
	pick(joins, "0 2 1", 2)
	pick(joins, "2 1 0", 2, 1, 1, 1, 1, 1, 1, 1)
	pick(joins, "2 0 1", 2, 3, 3, -1, -1, 0, 0, 0, 0, 0)
}

func TestMostPicks(t *testing.T) {
	cs := told(mainOf("I", "const I 9 / return I"))
	nine := impl.Outcome{Value: impl.Value{Kind: 1, N: 9}, Steps: 2}
	same(t, "limit", impl.MaxPicks, 4000)
	for _, n := range []int{0, 1, 2, 3, 3999, 4000} {
		picks := slices.Repeat([]int64{-7}, n)
		same(t, fmt.Sprint(n, " picks"), impl.RunThreads(cs, "M", "main", "()I", nil, 9, picks), nine)
		same(t, fmt.Sprint(n, " picks"), impl.SnapshotAt(cs, "M", "main", "()I", nil, picks, 9).Steps, 2)
	}
	for _, n := range []int{4001, 4002, 100000} {
		notRun(t, fmt.Sprint(n, " picks"), impl.RunArgs, cs, "M", "main", "()I", nil, 9, make([]int64, n))
	}
	// All of them count: the last one, too.
	spin := told(shared, runner("A", "", say(1)), mainOf("I", objects+lines(begun("A", "a"), "loop: / goto loop")))
	for _, k := range []int{3998, 3999} {
		picks := make([]int64, 4000)
		picks[3997], picks[k] = 1, 1
		same(t, "the last pick", len(impl.RunThreads(spin, "M", "main", "()I", nil, impl.MaxFuel, picks).Trace), 1)
	}
}

// notRun says that there is no run: all three functions tell that, by nothing but a code.
func notRun(t *testing.T, why string, code int64, cs []impl.Class, class, name, sig string, args []impl.Value, fuel int64, picks []int64) {
	t.Helper()
	same(t, why, impl.RunThreads(cs, class, name, sig, args, fuel, picks), impl.Outcome{Code: code})
	same(t, why+": locks", impl.LocksAt(cs, class, name, sig, args, picks, fuel), nil)
	same(t, why+": state", impl.SnapshotAt(cs, class, name, sig, args, picks, fuel), impl.Snapshot{})
}

func TestThreadArgs(t *testing.T) {
	cs := endClasses()
	const sig = "(I,J,D,@A,[I)I"
	for _, fuel := range []int64{0, 1, 2, 10, impl.MaxFuel} {
		for _, picks := range [][]int64{nil, {}, {3, -3}, make([]int64, 4000)} {
			o := impl.RunThreads(cs, "A", "m", sig, rightArgs(), fuel, picks)
			same(t, "all is right", o, impl.Run(cs, "A", "m", sig, rightArgs(), fuel))
			same(t, "steps", o.Steps, min(fuel, 2))
			same(t, "what is seen", impl.SnapshotAt(cs, "A", "m", sig, rightArgs(), picks, fuel).Steps, min(fuel, 2))
			same(t, "locks", impl.LocksAt(cs, "A", "m", sig, rightArgs(), picks, fuel), nil)
		}
	}
	refuses := func(why string, cs []impl.Class, class, name, sig string, args []impl.Value, fuel int64) {
		t.Helper()
		notRun(t, why, impl.RunArgs, cs, class, name, sig, args, fuel, []int64{1, 2})
	}
	for _, fuel := range []int64{-1, math.MinInt64, impl.MaxFuel + 1, math.MaxInt64} {
		refuses("fuel", cs, "A", "m", sig, rightArgs(), fuel)
	}
	for why, cs := range brokenSpaces() {
		refuses(why, cs, "A", "good", "()V", nil, 10)
	}
	for why, cs := range wrongSpaces() {
		refuses(why, append(told("class Q Object"+goodMethod), cs...), "Q", "good", "()V", nil, 10)
	}
	for _, m := range []string{"A v ()V", "A n ()V", "A a ()V", "A new ()V", "A s ()I", "A s (I)V", "A none ()V", "System print (I)V", "Object hash ()I", "Thread run ()V", "B s ()V", "Nope s ()V", "@A s ()V"} {
		w := words(m)
		refuses(m, cs, w[0], w[1], w[2], nil, 10)
		refuses(m, cs, w[0], w[1], w[2], []impl.Value{{Kind: impl.KindInt}}, 10)
	}
	refuses("no name", cs, "", "", "", nil, 10)
	refuses("too many", cs, "A", "m", sig, append(rightArgs(), impl.Value{Kind: impl.KindInt}), 10)
	refuses("one of a method that takes none", cs, "A", "s", "()V", rightArgs()[:1], 10)
	for n := range 5 {
		refuses("too few", cs, "A", "m", sig, rightArgs()[:n], 10)
		args := rightArgs()
		for _, args[n].Kind = range []int64{math.MinInt64, -1, 0, 5, 1 + args[n].Kind%4, math.MaxInt64} {
			refuses("another kind", cs, "A", "m", sig, args, 10)
		}
	}
	for n, wrong := range map[int]int64{0: math.MaxInt32 + 1, 2: impl.NaNBits + 1, 3: 1, 4: -1} {
		args := rightArgs()
		args[n].N = wrong
		refuses("a value that can't be", cs, "A", "m", sig, args, 10)
	}
	// Code that is not right, of whatever method; what is wrong with the arguments comes ahead.
	bad := told("class A Object / method m ()V static stack 0 locals 0 / return", "class B Object / method b ()V static stack 0 locals 0 / pop / return")
	for _, fuel := range []int64{0, 1, impl.MaxFuel} {
		notRun(t, "not right", impl.RunVerify, bad, "A", "m", "()V", nil, fuel, nil)
		notRun(t, "not right", impl.RunVerify, bad, "A", "m", "()V", nil, fuel, make([]int64, 4000))
		notRun(t, "too many picks", impl.RunArgs, bad, "A", "m", "()V", nil, fuel, make([]int64, 4001))
	}
	notRun(t, "too much fuel", impl.RunArgs, bad, "A", "m", "()V", nil, impl.MaxFuel+1, nil)
}

// A run follows its picks alone: by which numbers they say it, and how many stand behind its end, does not matter.
func TestRunsByTheSamePicks(t *testing.T) {
	t.Parallel()
	b := builder{numbers{state: 77}}
	for range 25 {
		cs := b.program()
		picks := make([]int64, 400)
		for k := range picks {
			picks[k] = int64(b.below(16))
		}
		run := func(fuel int64, picks []int64) impl.Outcome {
			return impl.RunThreads(cs, "M", "main", "()I", nil, fuel, picks)
		}
		want := run(1000, picks)
		same(t, "again", run(1000, picks), want)
		// 720720 is a multiple of every number up to 16.
		far := slices.Clone(picks)
		for k := range far {
			far[k] += 720720 * int64(b.below(9)-4)
		}
		same(t, "by other numbers", run(1000, far), want)
		same(t, "with noughts behind", run(1000, append(slices.Clone(picks), make([]int64, 700)...)), want)
		if want.Steps < 400 && want.Code != impl.RunFuel {
			same(t, "those behind the end", run(1000, append(slices.Clone(picks[:want.Steps]), 5, -5)), want)
		}
		same(t, "without picks", run(1000, nil), impl.Run(cs, "M", "main", "()I", nil, 1000))
		same(t, "noughts", run(1000, make([]int64, 1000)), impl.Run(cs, "M", "main", "()I", nil, 1000))
		testGoesOn(t, cs, picks, want, run)
	}
}

// testGoesOn looks that with less fuel a run is the beginning of itself, and with more what it was.
func testGoesOn(t *testing.T, cs []impl.Class, picks []int64, whole impl.Outcome, run func(int64, []int64) impl.Outcome) {
	t.Helper()
	last := 0
	for fuel := int64(0); fuel < whole.Steps; fuel += 1 + whole.Steps/9 {
		o := run(fuel, picks)
		if o.Code != impl.RunFuel || o.Steps != fuel || len(o.Trace) < last || !slices.Equal(o.Trace, whole.Trace[:len(o.Trace)]) {
			t.Fatalf("with %d of %d by %v: %v", fuel, whole.Steps, picks, o)
		}
		same(t, "as far", run(fuel, picks[:min(fuel, 400)]), o)
		s := impl.SnapshotAt(cs, "M", "main", "()I", nil, picks, fuel)
		if s.Steps != fuel || !slices.Equal(s.Trace, o.Trace) {
			t.Fatalf("what is seen behind %d: %v %v, not %v", fuel, s.Steps, s.Trace, o)
		}
		last = len(o.Trace)
	}
	if whole.Code != impl.RunFuel {
		for _, fuel := range []int64{whole.Steps, whole.Steps + 1, impl.MaxFuel} {
			same(t, "enough", run(fuel, picks), whole)
		}
	}
}
