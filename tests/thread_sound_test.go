package tests

import (
	"fmt"
	"slices"
	"sync"
	"testing"

	"loop.example/g00032/impl"
)

// Soundness: wherever a thread stands at a frame that was found for its method, it has what the frame says.

// witness knows the frames that are found, by methods and places, and counts those at which a thread stood.
type witness struct {
	cs     []impl.Class
	w      world
	frames map[string]map[int64]impl.Frame
	*stood
}

type stood struct {
	sync.Mutex
	frames int
	shapes map[string]int
}

func newWitness(cs []impl.Class, s *stood) *witness {
	return &witness{cs: cs, w: newWorld(cs), frames: map[string]map[int64]impl.Frame{}, stood: s}
}

func (v *witness) frameAt(f impl.FrameState) (impl.Frame, bool) {
	key := f.Class + "." + f.Name + f.Sig
	if v.frames[key] == nil {
		v.frames[key] = map[int64]impl.Frame{}
		for _, frame := range impl.Infer(v.cs, f.Class, f.Name, f.Sig).Frames {
			v.frames[key][frame.At] = frame
		}
	}
	frame, ok := v.frames[key][f.Pc]
	return frame, ok
}

// is says whether a value is what a shape says.
func (v *witness) is(x impl.Value, shape string, f impl.FrameState, s impl.Snapshot) bool {
	if k := slices.Index([]string{"-", "I", "J", "D"}, shape); k >= 0 {
		return k == 0 || x.Kind == int64(k)
	}
	if x.Kind != impl.KindRef || x.N < 0 || x.N > int64(len(s.Objects)) {
		return false
	}
	typ := ""
	if x.N > 0 {
		typ = s.Objects[x.N-1].Type
	}
	switch {
	case shape == "0":
		return x.N == 0
	case shape == "!!":
		return typ != "" && v.w.isA(typ, "@"+f.Class, false)
	case shape[0] == '!':
		var at int
		fmt.Sscan(shape[1:], &at)
		m, _ := v.w.method(f.Class, f.Name, f.Sig, 0)
		return typ == "@"+m.Code[at].Class
	}
	return typ == "" || v.w.isA(typ, shape, true)
}

// testFrame looks at one frame of a thread that stands at it; beneath others it does so where a class begins above it.
func (v *witness) testFrame(t *testing.T, f impl.FrameState, s impl.Snapshot) {
	t.Helper()
	frame, ok := v.frameAt(f)
	if !ok {
		return
	}
	right := len(f.Locals) == len(frame.Locals) && len(f.Stack) == len(frame.Stack)
	shapes := append(slices.Clone(frame.Locals), frame.Stack...)
	for k, x := range append(slices.Clone(f.Locals), f.Stack...) {
		right = right && v.is(x, shapes[k], f, s)
	}
	if !right {
		t.Fatalf("behind %d steps: %+v\nis not %+v\n%s", s.Steps, f, frame, printed(v.cs))
	}
	v.Lock()
	defer v.Unlock()
	v.stood.frames++
	for _, shape := range shapes {
		if shape[0] == '!' && shape != "!!" {
			shape = "!"
		}
		v.shapes[shape]++
	}
}

func (v *witness) testSnapshot(t *testing.T, s impl.Snapshot) {
	t.Helper()
	for _, thread := range s.Threads {
		for k, f := range thread.Frames {
			if k == len(thread.Frames)-1 || thread.Frames[k+1].Name == "start" {
				v.testFrame(t, f, s)
			}
		}
	}
}

// testRun looks behind each number of steps of a run, from some number on.
func (v *witness) testRun(t *testing.T, class, name, sig string, args []impl.Value, picks []int64, from, to int64) {
	t.Helper()
	for steps := from; steps <= to; steps++ {
		s := impl.SnapshotAt(v.cs, class, name, sig, args, picks, steps)
		v.testSnapshot(t, s)
		if s.Steps < steps {
			return
		}
	}
}

func TestAnyProgramIsSound(t *testing.T) {
	t.Parallel()
	s := &stood{shapes: map[string]int{}}
	t.Run("groups", func(t *testing.T) {
		for group := range uint64(8) {
			t.Run(fmt.Sprint(group), func(t *testing.T) {
				t.Parallel()
				b := builder{numbers{state: 9300 + group}}
				for range 12 {
					v := newWitness(b.program(), s)
					from := int64(60 + b.below(200))
					v.testRun(t, "M", "main", "()I", nil, b.somePicks(400), from, from+40)
				}
			})
		}
	})
	if s.frames < 200 || len(s.shapes) < 8 {
		t.Errorf("only %d frames, with %v", s.frames, s.shapes)
	}
}

// driftingSpace has a method that moves objects about, and another one that calls it with objects of all sorts.
func (b *builder) driftingSpace() []impl.Class {
	m := b.drifting()
	cs := told("class B A"+makesSuper("A"), "class A Object / implements I / field f @A"+makesSuper("Object")+" / method v ()V stack 0 locals 1 / return", "class C B"+makesSuper("B"), "class E Object"+makesSuper("Object"),
		"class X Error"+" / method new ()V stack 2 locals 1 / load R 0 / null / call special Error new (@String)V / return", ifaceI, ifaceJ)
	cs[0].Methods = append(cs[0].Methods, m)
	code := []string{}
	for _, typ := range impl.Params(m.Sig) {
		fresh := map[string][]string{"@A": {"A", "B", "C"}, "@B": {"B", "C"}, "@C": {"C"}, "@E": {"E"}, "@I": {"A", "C", "E"}, "@X": {"X"}, "@Object": {"E", "X", "C"}}[typ]
		switch {
		case b.below(4) == 0 || fresh == nil && typ[0] == '@':
			code = append(code, "null")
		case fresh == nil:
			code = append(code, "const I 1 / newarray "+typ[1:])
		default:
			code = append(code, made(fresh[b.below(len(fresh))]))
		}
	}
	return append(cs, told("class M Object / method main ()I static stack 20 locals 0 / "+lines(append(code, "call static B m "+m.Sig)...)+" / const I 0 / return I")...)
}

func TestAnyLoopIsSound(t *testing.T) {
	t.Parallel()
	s := &stood{shapes: map[string]int{}}
	b := builder{numbers{state: 88}}
	for range 400 {
		cs := b.driftingSpace()
		if len(impl.InferAll(cs)) == 0 {
			newWitness(cs, s).testRun(t, "M", "main", "()I", nil, nil, 10, 110)
		}
	}
	if s.frames < 2000 || len(s.shapes) < 10 {
		t.Errorf("only %d frames, with %v", s.frames, s.shapes)
	}
}

// Methods of any form, as far as the finder takes them, with arguments of their own.
func TestAnyMethodIsSound(t *testing.T) {
	t.Parallel()
	s := &stood{shapes: map[string]int{}}
	b := builder{numbers{state: 1234}}
	cs := checkSpace("class B A")
	g := walker{builder: &b, reviewer: reviewer{w: newWorld(cs), owner: cs[0]}, all: candidates()}
	for range 1500 {
		m := g.anyMethod()
		cs[0].Methods = []impl.Method{m}
		if m.Flags&impl.FlagStatic == 0 || len(impl.InferAll(cs)) > 0 {
			continue
		}
		args := []impl.Value{}
		for _, typ := range impl.Params(m.Sig) {
			args = append(args, impl.Value{Kind: impl.KindOf(typ)})
		}
		newWitness(cs, s).testRun(t, "B", m.Name, m.Sig, args, nil, 0, 40)
	}
	if s.frames < 500 || len(s.shapes) < 8 {
		t.Errorf("only %d frames, with %v", s.frames, s.shapes)
	}
}

// A thread that waits, wakes or joins stands at its call, which may be where a jump leads.
func TestWaitingIsSound(t *testing.T) {
	s := &stood{shapes: map[string]int{}}
	head := "const I 0 / store I 1 / again: / " + theO
	for _, cs := range [][]impl.Class{
		told(shared, runner("A", "", lines(enterO, theO+"goto here / here: / call virtual Object wait ()V", exitO)), mainOf("I", objects+lines(begun("A", "a"), enterO, notifyO, "const I 0 / return I"))),
		told(shared, runner("A", "", lines(enterO, "getstatic S a @Thread / goto here / here: / call virtual Thread join ()V", exitO)), mainOf("I", objects+lines(begun("A", "a"), "getstatic S a @Thread / goto here / here: / call virtual Thread join ()V", "const I 0 / return I"))),
		told(shared, runner("A", "", lines(head+"goto here / here: / enter", theO+"goto on / on: / exit", "goto again")), mainOf("I", objects+lines(begun("A", "a"), begun("A", "b"), "const I 0 / return I"))),
		told(shared, starting("K Object", lines("null / goto here / here: / pop", enterO, theO+"goto on / on: / call virtual Object wait ()V")), runner("A", "", "const I 4 / goto here / here: / putstatic K x I"), mainOf("I", objects+lines(begun("A", "a"), begun("A", "b"), "const I 0 / return I"))),
	} {
		if failures := impl.InferAll(cs); len(failures) > 0 {
			t.Fatal(failures)
		}
		for _, picks := range [][]int64{nil, slices.Repeat([]int64{1}, 200), slices.Repeat([]int64{0, 1, 2, 1}, 50)} {
			newWitness(cs, s).testRun(t, "M", "main", "()I", nil, picks, 0, 120)
		}
	}
	if s.frames < 100 {
		t.Errorf("only %d frames", s.frames)
	}
}
