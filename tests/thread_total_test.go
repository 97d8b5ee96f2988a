package tests

import (
	"fmt"
	"math"
	"reflect"
	"runtime"
	"slices"
	"strings"
	"sync"
	"testing"
	"time"

	"loop.example/g00032/impl"
)

// Every function of chapter 10 answers at every argument: a panic, or one that never ends, fails the run.

func oddPicks() [][]int64 {
	out := [][]int64{nil, {}, {0}, extremes(), make([]int64, 3999), make([]int64, 4000), make([]int64, 4001), make([]int64, 1000000)}
	for _, n := range extremes() {
		out = append(out, []int64{n}, slices.Repeat([]int64{n}, 200), slices.Repeat([]int64{n, 1, -n}, 1334))
	}
	return out
}

// testThreadsAt holds what the three functions tell of one run against each other.
func testThreadsAt(t *testing.T, cs []impl.Class, class, name, sig string, args []impl.Value, fuel int64, picks []int64) {
	t.Helper()
	o := impl.RunThreads(cs, class, name, sig, args, fuel, picks)
	s := impl.SnapshotAt(cs, class, name, sig, args, picks, fuel)
	locks := impl.LocksAt(cs, class, name, sig, args, picks, fuel)
	if o.Code == impl.RunArgs || o.Code == impl.RunVerify {
		if !alike(o, impl.Outcome{Code: o.Code}) || !alike(s, impl.Snapshot{}) || len(locks) > 0 {
			t.Errorf("%.40q %.40q with %d: %v, %v, %v", class, name, fuel, o, s, locks)
		}
		return
	}
	if fuel < 0 || fuel > impl.MaxFuel || len(picks) > impl.MaxPicks || o.Steps > fuel || o.Code < impl.RunOk || o.Code > impl.RunThrown {
		t.Errorf("%.40q %.40q with %d: %v", class, name, fuel, o)
	}
	if s.Steps != o.Steps || !slices.Equal(s.Trace, o.Trace) || len(s.Threads) < 1 || len(s.Threads) > impl.MaxThreads || len(s.Objects) > impl.MaxObjects {
		t.Errorf("%.40q %.40q with %d: %v, but %v", class, name, fuel, o, s)
	}
	testHeld(t, locks, s)
}

func TestThreadsAnswerEverywhere(t *testing.T) {
	t.Parallel()
	fuels := []int64{math.MinInt64, -1, 0, 1, 50, impl.MaxFuel, impl.MaxFuel + 1, math.MaxInt64}
	picks := oddPicks()
	for k, cs := range oddSpaces() {
		for _, class := range []string{"", "A", "B", "Object", "\xff", strings.Repeat("A", 100000)} {
			for j, member := range oddMembers() {
				testThreadsAt(t, cs, class, member[0], member[1], nil, fuels[(k+j)%len(fuels)], picks[j%8])
			}
		}
	}
	for k, m := range oddMethods() {
		cs := append(told("class A Object"), impl.Class{Name: "B", Super: "A", Methods: []impl.Method{m}})
		testThreadsAt(t, cs, "B", m.Name, m.Sig, nil, fuels[k%len(fuels)], []int64{int64(k), -1})
		testThreadsAt(t, cs, "B", "m", "(I)I", []impl.Value{{Kind: 1, N: 3}}, 50, nil)
	}
	one := told("class B Object / method m (I)I static stack 1 locals 1 / load I 0 / return I")
	for _, args := range oddArgs() {
		for _, fuel := range fuels {
			testThreadsAt(t, one, "B", "m", "(I)I", args, fuel, []int64{-1})
		}
	}
}

func TestOddPicks(t *testing.T) {
	t.Parallel()
	b := builder{numbers{state: 17}}
	for range 6 {
		cs := b.program()
		for k, picks := range oddPicks() {
			testThreadsAt(t, cs, "M", "main", "()I", nil, []int64{0, 7, 300, 1000}[k%4], picks)
		}
	}
}

func askThreads(cs []impl.Class, args []impl.Value, picks []int64) []any {
	out := []any{}
	for _, steps := range []int64{0, 40, 300, 1000} {
		out = append(out, impl.RunThreads(cs, "M", "main", "()I", args, steps, picks), impl.LocksAt(cs, "M", "main", "()I", args, picks, steps), impl.SnapshotAt(cs, "M", "main", "()I", args, picks, steps))
	}
	return append(out, impl.SnapshotAt(cs, "M", "helper", "(I)I", append(slices.Clone(args), impl.Value{Kind: 1, N: 4})[:1], picks, 100))
}

func TestThreadArgumentsStay(t *testing.T) {
	t.Parallel()
	b := builder{numbers{state: 41}}
	all := someRuns()[:12]
	for _, cs := range wrongSpaces() {
		all = append(all, cs)
	}
	for _, cs := range all {
		classes, args, picks := roomy(reflect.ValueOf(cs)), roomy(reflect.ValueOf([]impl.Value{})), roomy(reflect.ValueOf(b.somePicks(300)))
		before := []any{full(classes), full(args), full(picks)}
		plain := askThreads(cs, nil, slices.Clone(picks.Interface().([]int64)))
		got := askThreads(classes.Interface().([]impl.Class), args.Interface().([]impl.Value), picks.Interface().([]int64))
		if fmt.Sprintf("%+v", got) != fmt.Sprintf("%+v", plain) {
			t.Error("spare room changes a run")
		}
		if !reflect.DeepEqual(before, []any{full(classes), full(args), full(picks)}) {
			t.Error("arguments are not as they were")
		}
	}
	args := roomy(reflect.ValueOf(rightArgs()))
	before := full(args)
	s := impl.SnapshotAt(endClasses(), "A", "m", "(I,J,D,@A,[I)I", args.Interface().([]impl.Value), nil, 1)
	spoil(reflect.ValueOf(&s).Elem())
	if !reflect.DeepEqual(before, full(args)) {
		t.Error("arguments are not as they were")
	}
}

func TestThreadAnswersAreNew(t *testing.T) {
	t.Parallel()
	b := builder{numbers{state: 43}}
	lists := 0
	for k, cs := range someRuns() {
		cs = roomy(reflect.ValueOf(cs)).Interface().([]impl.Class)
		picks := roomy(reflect.ValueOf(b.somePicks(300))).Interface().([]int64)
		one, two := askThreads(cs, nil, picks), askThreads(cs, nil, picks)
		apart(t, fmt.Sprint("space ", k), append(append([]any{cs, picks}, one...), two...)...)
		for _, answer := range one {
			v := reflect.New(reflect.TypeOf(answer)).Elem()
			v.Set(reflect.ValueOf(answer))
			if s, ok := answer.(impl.Snapshot); ok {
				lists += len(s.Threads) + len(s.Objects) + len(s.Statics) + len(s.Trace)
			}
			spoil(v)
		}
		if fmt.Sprint(askThreads(cs, nil, picks)) != fmt.Sprint(two) {
			t.Error("an answer is to be seen in another")
		}
	}
	if lists < 500 {
		t.Errorf("only %d members of lists", lists)
	}
}

// A run leaves nothing running behind, however it ends; a goroutine that has done all may need a moment to be gone.
func TestNothingRunsBehind(t *testing.T) {
	runs := []struct {
		main string
		more []string
		code int64
	}{
		{lines(begins("A", 15), "const I 0 / return I"), []string{runner("A", "", say(1))}, impl.RunOk},
		{lines(begins("A", 15), "null / throw"), []string{runner("A", "", say(1))}, impl.RunThrown},
		{lines(begins("A", 15), "const I 0 / return I"), []string{sleeper("A", 1)}, impl.RunDead},
		{lines(begins("A", 15), "here: / goto here"), []string{runner("A", "", "here: / goto here")}, impl.RunFuel},
		{lines(begins("A", 15), "here: / new Object / pop / goto here"), []string{sleeper("A", 1)}, impl.RunRoom},
		{lines(begins("N", 15), "const I 0 / return I"), []string{"class N Thread" + makesSuper("Thread") + " / method run ()V native"}, impl.RunOk},
	}
	before := runtime.NumGoroutine()
	for _, r := range runs {
		cs := told(append(r.more, shared, mainOf("I", objects+r.main))...)
		for _, picks := range [][]int64{nil, slices.Repeat([]int64{1, 5, -1}, 500)} {
			same(t, r.main, impl.RunThreads(cs, "M", "main", "()I", nil, impl.MaxFuel, picks).Code, r.code)
			for _, steps := range []int64{0, 1, 100, 2000} {
				impl.SnapshotAt(cs, "M", "main", "()I", nil, picks, steps)
				impl.LocksAt(cs, "M", "main", "()I", nil, picks, steps)
			}
		}
	}
	for range 200 {
		if runtime.NumGoroutine() <= before {
			return
		}
		time.Sleep(5 * time.Millisecond)
	}
	t.Errorf("%d goroutines, before there were %d", runtime.NumGoroutine(), before)
}

// Runs side by side do not meet.
func TestRunsSideBySide(t *testing.T) {
	t.Parallel()
	b := builder{numbers{state: 47}}
	for range 4 {
		cs, picks := b.program(), b.somePicks(500)
		want := fmt.Sprint(askThreads(cs, nil, picks))
		var all sync.WaitGroup
		for range 8 {
			all.Go(func() {
				if fmt.Sprint(askThreads(cs, nil, picks)) != want {
					t.Error("a run is another one beside others")
				}
			})
		}
		all.Wait()
	}
}

// What a run leaves behind is not to be seen in the next.
func TestThreadsAnswerTheSameAgain(t *testing.T) {
	t.Parallel()
	b := builder{numbers{state: 53}}
	cs, picks := b.program(), b.somePicks(500)
	want := fmt.Sprint(askThreads(cs, nil, picks))
	for k := range 8 {
		other := b.program()
		askThreads(other, nil, picks)
		impl.RunThreads(someOther(k), "B", fmt.Sprint("m", k), "()V", nil, 5, picks)
		if fmt.Sprint(askThreads(cs, nil, picks)) != want {
			t.Error("an answer hangs on the calls ahead")
		}
	}
}

// The longest runs with picks, and the most that is to be seen.
func TestTheLongestLooks(t *testing.T) {
	t.Parallel()
	picks := slices.Repeat([]int64{3, -1, 7, 0}, 1000)
	loop := told(shared, runner("L", "", "loop: / "+lines(enterO, wakeO, waitO, exitO, "goto loop")), mainOf("I", objects+lines(begins("L", 15), "loop: / goto loop")))
	testThreadsAt(t, loop, "M", "main", "()I", nil, impl.MaxFuel, picks)
	deep := told("class M Object / method main ()I static sync stack 40 locals 40 / call static M main ()I / return I")
	s := impl.SnapshotAt(deep, "M", "main", "()I", nil, nil, 99)
	same(t, "frames", len(s.Threads[0].Frames), impl.MaxDepth)
	same(t, "locks", impl.LocksAt(deep, "M", "main", "()I", nil, nil, 99), []impl.Lock{{Class: "M", Times: 100}})
	same(t, "one more", shownOutcome(impl.RunThreads(deep, "M", "main", "()I", nil, 100, nil)), "thrown SizeError")
	same(t, "one more", impl.LocksAt(deep, "M", "main", "()I", nil, nil, 100), nil)
	large := told(mainOf("V", "loop: / const I 1000 / newarray J / enter / goto loop"))
	s = impl.SnapshotAt(large, "M", "main", "()V", nil, nil, impl.MaxFuel)
	same(t, "objects", len(s.Objects), impl.MaxObjects)
	same(t, "values", len(s.Objects[3999].Values), impl.MaxArray)
	same(t, "locks", len(impl.LocksAt(large, "M", "main", "()V", nil, nil, impl.MaxFuel)), impl.MaxObjects)
}
