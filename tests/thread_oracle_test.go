package tests

import (
	"cmp"
	"fmt"
	"math"
	"math/big"
	"slices"
	"strconv"
	"testing"

	"loop.example/g00032/impl"
)

// Chapter 10 by the second working out of chapter 9: who goes is told by picks, and what is to be seen behind a step is read off its state.

// standing tells how the next step of a thread would go; the state stays as it is.
func (p *play) standing(k int) string {
	if state := p.threads[k].state; state == "ended" || state == "waits" {
		return state
	}
	if !p.mayStand(k) {
		return "goes"
	}
	trial := p.copied()
	trial.events = map[string]int{}
	return trial.went(k)
}

// able are the numbers of the threads that can go on.
func (p *play) able() []int {
	out := []int{}
	for k := range p.threads {
		how := p.standing(k)
		if how == "goes" || how == "room" {
			out = append(out, k)
		} else if how != "ended" {
			p.events["stands: "+how]++
		}
	}
	return out
}

// goOn does the step that a pick tells, and tells how that went; nothing when no thread can go on.
func (p *play) goOn(pick int64) string {
	able := p.able()
	if len(able) == 0 {
		return ""
	}
	p.events[fmt.Sprint("of ", min(len(able), 4))]++
	at := new(big.Int).Mod(big.NewInt(pick), big.NewInt(int64(len(able))))
	return p.went(able[at.Int64()])
}

// pickAt is 0 behind the last of the picks.
func pickAt(picks []int64, steps int64) int64 {
	if steps < int64(len(picks)) {
		return picks[steps]
	}
	return 0
}

// goThrough goes through a run, and has its state seen behind each number of steps; it gives the outcome.
func (p *play) goThrough(picks []int64, fuel int64, see func(steps int64)) impl.Outcome {
	out := impl.Outcome{}
	for see(0); ; see(out.Steps) {
		if out.Steps == fuel && len(p.able()) > 0 {
			out.Code = impl.RunFuel
			return out
		}
		how := p.goOn(pickAt(picks, out.Steps))
		if how == "" {
			return p.ended(out)
		}
		out.Steps++
		out.Trace = slices.Clone(p.trace)
		if how == "room" {
			out.Code = impl.RunRoom
			return out
		}
	}
}

func (p *play) threadState(k int) impl.ThreadState {
	t := p.threads[k]
	out := impl.ThreadState{Awaits: t.awaits, State: map[string]int64{"waits": 1, "wakes": 2, "ended": 4}[t.state]}
	if t.state == "" && p.standing(k) == "join" {
		out.State = 3
	}
	for _, s := range t.frames {
		out.Frames = append(out.Frames, impl.FrameState{Class: s.class, Name: s.m.Name, Sig: s.m.Sig, Pc: int64(s.pc), Locals: slices.Clone(s.locals), Stack: slices.Clone(s.stack)})
	}
	return out
}

func (p *play) snapshot(cs []impl.Class, steps int64) impl.Snapshot {
	out := impl.Snapshot{Trace: slices.Clone(p.trace), Steps: steps}
	for k := range p.threads {
		out.Threads = append(out.Threads, p.threadState(k))
	}
	for _, x := range p.things {
		out.Objects = append(out.Objects, impl.ObjectState{Type: x.typ, Text: x.text, Values: slices.Clone(x.values)})
	}
	for _, c := range cs {
		for _, f := range c.Fields {
			if v, ok := p.statics[c.Name+"."+f.Name]; ok {
				out.Statics = append(out.Statics, impl.StaticState{Class: c.Name, Name: f.Name, Value: v})
			}
		}
	}
	return out
}

func (p *play) held() []impl.Lock {
	out := []impl.Lock{}
	for name, h := range p.locks {
		if h.times == 0 {
			continue
		}
		lock := impl.Lock{Class: name[1:], Thread: int64(h.thread), Times: int64(h.times)}
		if name[0] == '#' {
			lock.Object, _ = strconv.ParseInt(name[1:], 10, 64)
			lock.Class = ""
		}
		out = append(out, lock)
	}
	slices.SortFunc(out, func(a, b impl.Lock) int {
		return cmp.Or(cmp.Compare(a.Class, b.Class), cmp.Compare(a.Object, b.Object))
	})
	return out
}

// somePicks are small numbers mostly, for some of the steps or for more.
func (b *builder) somePicks(steps int64) []int64 {
	out := make([]int64, b.below(int(steps)+60))
	steady := b.below(4)
	for k := range out {
		switch b.below(8) {
		case 0:
			out[k] = -1 - int64(b.below(40))
		case 1:
			out[k] = []int64{math.MinInt64, math.MaxInt64, math.MinInt64 + 1, math.MaxInt64 - 1, 1 << 32, -1 << 32, 720719, -720721}[b.below(8)]
		default:
			out[k] = int64(b.below(1 + steady*3))
		}
	}
	return out
}

// looked holds what is to be seen of a run behind so many steps against the second working out.
func looked(t *testing.T, cs []impl.Class, picks []int64, steps int64, p *play, came int64) impl.Snapshot {
	t.Helper()
	got := impl.SnapshotAt(cs, "M", "main", "()I", nil, picks, steps)
	if want := p.snapshot(cs, came); !alike(got, want) {
		t.Fatalf("behind %d steps by %v: %+v\nnot %+v\n%s", steps, picks, got, want, printed(cs))
	}
	locks := impl.LocksAt(cs, "M", "main", "()I", nil, picks, steps)
	if want := p.held(); !alike(locks, want) {
		t.Fatalf("behind %d steps by %v: %v\nnot %v\n%s", steps, picks, locks, want, printed(cs))
	}
	return got
}

func TestAnyPicks(t *testing.T) {
	t.Parallel()
	c := &tallied{codes: map[int64]int{}, events: map[string]int{}}
	t.Run("groups", func(t *testing.T) {
		for group := range uint64(8) {
			t.Run(fmt.Sprint(group), func(t *testing.T) {
				t.Parallel()
				b := builder{numbers{state: 5200 + group}}
				for range 50 {
					b.testPicks(t, c)
				}
			})
		}
	})
	c.enough(t, 20, 3)
	for _, what := range []string{"of 2", "of 3", "of 4"} {
		if c.events[what] < 1000 {
			t.Errorf("only %d steps are one %s", c.events[what], what)
		}
	}
}

// testPicks holds a run by picks against the second working out: its outcome, and what is to be seen behind some of its steps and behind its end.
func (b *builder) testPicks(t *testing.T, c *tallied) {
	t.Helper()
	cs := b.program()
	fuel := int64([]int{150, 500, 1500}[b.below(3)])
	picks := b.somePicks(fuel)
	p := newPlay(cs, "M", "main", "()I", nil)
	looks := map[int64]bool{}
	for range 4 {
		looks[int64(b.below(int(fuel)))] = true
	}
	want := p.goThrough(picks, fuel, func(steps int64) {
		if looks[steps] {
			testHeld(t, p.held(), looked(t, cs, picks, steps, p, steps))
		}
	})
	got := impl.RunThreads(cs, "M", "main", "()I", nil, fuel, picks)
	if !alike(got, want) {
		t.Fatalf("by %v: %v\nnot %v\n%s", picks, got, want, printed(cs))
	}
	c.add(want.Code, p.events)
	if want.Code == impl.RunRoom {
		return
	}
	looked(t, cs, picks, want.Steps, p, want.Steps)
	if want.Code != impl.RunFuel {
		looked(t, cs, picks, want.Steps+1, p, want.Steps)
		looked(t, cs, picks, impl.MaxFuel, p, want.Steps)
	}
}

// testHeld looks that a lock is one thread's, and none of those that wait for it or wake to it.
func testHeld(t *testing.T, locks []impl.Lock, s impl.Snapshot) {
	t.Helper()
	met := map[string]bool{}
	for _, l := range locks {
		name := fmt.Sprint(l.Object, l.Class)
		if met[name] || l.Times < 1 || l.Thread < 0 || l.Thread >= int64(len(s.Threads)) {
			t.Errorf("%v among %v", l, locks)
		}
		met[name] = true
		if l.Object != 0 && s.Threads[l.Thread].Awaits == l.Object {
			t.Errorf("%v is held by one that waits: %v", l, s.Threads[l.Thread])
		}
	}
}
