package tests

import (
	"cmp"
	"fmt"
	"slices"
	"testing"

	"loop.example/g00032/impl"
)

// The whole way from texts and bytes to a run keeps the run.

// throughText prints classes and assembles what was printed; it says no where a text is too long.
func throughText(cs []impl.Class) ([]impl.Class, bool) {
	out := []impl.Class{}
	for _, c := range cs {
		a := impl.Assemble(impl.PrintClass(c))
		if a.Code != impl.AsmOk {
			return nil, false
		}
		out = append(out, a.Class)
	}
	return out, true
}

func throughBytes(cs []impl.Class) ([]impl.Class, bool) {
	out := []impl.Class{}
	for _, c := range cs {
		r := impl.ReadBytes(impl.ClassBytes(c))
		if r.Code != impl.BytesOk {
			return nil, false
		}
		out = append(out, r.Class)
	}
	return out, true
}

// throughLoader has the classes of one loader alone, which keeps their names.
func throughLoader(cs []impl.Class) ([]impl.Class, bool) {
	sorted := slices.SortedFunc(slices.Values(cs), func(a, b impl.Class) int { return cmp.Compare(a.Name, b.Name) })
	ls := []impl.Loader{{Parent: -1, Classes: sorted}}
	return impl.Flatten(ls), impl.LoadersOk(ls) && len(impl.Clashes(ls)) == 0
}

func throughFrames(cs []impl.Class) ([]impl.Class, bool) { return impl.WithFrames(cs), true }

// lookedAt is what is to be seen of a run by picks, behind some of its steps, and in the end. Statics stand in the order of the classes.
func lookedAt(cs []impl.Class, picks []int64) []any {
	o := impl.RunThreads(cs, "M", "main", "()I", nil, 700, picks)
	out := []any{o}
	for _, steps := range []int64{o.Steps / 3, o.Steps / 2, o.Steps} {
		s := impl.SnapshotAt(cs, "M", "main", "()I", nil, picks, steps)
		slices.SortFunc(s.Statics, func(a, b impl.StaticState) int {
			return cmp.Or(cmp.Compare(a.Class, b.Class), cmp.Compare(a.Name, b.Name))
		})
		out = append(out, s, impl.LocksAt(cs, "M", "main", "()I", nil, picks, steps))
	}
	return out
}

func TestTheWholeWay(t *testing.T) {
	t.Parallel()
	b := builder{numbers{state: 160}}
	for k := range 25 {
		cs := b.program()
		picks := b.somePicks(700)
		want := fmt.Sprint(lookedAt(cs, picks))
		for at, way := range []func([]impl.Class) ([]impl.Class, bool){throughText, throughBytes, throughFrames, throughText, throughBytes, throughLoader, throughFrames, throughBytes} {
			next, ok := way(cs)
			if !ok {
				t.Fatalf("program %d is lost on the way (%d)", k, at)
			}
			if len(impl.LinkFaults(next)) > 0 || len(impl.InferAll(next)) > 0 {
				t.Fatalf("program %d is not right any more (%d)", k, at)
			}
			if cs = next; at%4 < 3 {
				continue
			}
			if got := fmt.Sprint(lookedAt(cs, picks)); got != want {
				t.Fatalf("program %d runs otherwise (%d): %s\nnot %s", k, at, got, want)
			}
		}
	}
}

// Programs that are written out, from text to a run, by frames of the finder that the checker takes.
func TestTheWayOfATextToARun(t *testing.T) {
	texts := []string{
		"class S Object\nfield n I static\nend\n",
		"; a thread that counts\nclass T Thread\nmethod new ()V stack 1 locals 1\nload R 0\ncall special Thread new ()V\nreturn\nmethod run ()V sync stack 2 locals 2\nconst I 0\nstore I 1\nagain:\ngetstatic S n I\nconst I 1\nadd I\nputstatic S n I\ninc 1 1\nload I 1\nconst I 3\nifint lt again\nreturn\nend\n",
		"class M Object\nmethod main ()I static stack 2 locals 1\nnew T\ndup\ncall special T new ()V\nstore R 0\nload R 0\ncall virtual Thread begin ()V\nload R 0\ncall virtual Thread join ()V\ngetstatic S n I\ndup\ncall static System print (I)V\nreturn I\nend\n",
	}
	cs := []impl.Class{}
	for _, text := range texts {
		a := impl.Assemble(text)
		same(t, "assembled", a.Code, impl.AsmOk)
		r := impl.ReadBytes(impl.ClassBytes(a.Class))
		same(t, "read", r.Code, impl.BytesOk)
		cs = append(cs, r.Class)
	}
	want := impl.Outcome{Value: impl.Value{Kind: impl.KindInt, N: 3}, Trace: []string{"3"}, Steps: 46}
	same(t, "run", impl.RunThreads(cs, "M", "main", "()I", nil, 1000, nil), want)
	framed := impl.WithFrames(cs)
	same(t, "checked", impl.CheckAll(framed), nil)
	again, _ := throughText(framed)
	again, _ = throughBytes(again)
	same(t, "run with frames", impl.RunThreads(again, "M", "main", "()I", nil, 1000, nil), want)
	same(t, "just enough", impl.RunThreads(again, "M", "main", "()I", nil, 46, []int64{1, 1}), want)
}

// Two classes of one name, each by its loader, are two in the run.
func TestTheWayOfLoadersToARun(t *testing.T) {
	tell := func(n int) string {
		return "class A Object / field x I static / method tell ()V static stack 1 locals 0 / " + say(n) + " / return"
	}
	ls := loaders(loader(-1, tell(1), "class M Object / method main ()I static stack 1 locals 0 / call static A tell ()V / const I 5 / return I"), first(0, tell(2), "class N Object / method main ()I static stack 1 locals 0 / call static A tell ()V / call static M main ()I / return I"))
	cs := impl.Flatten(ls)
	same(t, "the first", shownOutcome(impl.RunThreads(cs, "M", "main", "()I", nil, 100, nil)), "ok I 5 : 1")
	same(t, "the second", shownOutcome(impl.RunThreads(cs, "N$1", "main", "()I", nil, 100, nil)), "ok I 5 : 2 1")
	same(t, "statics", shownStatics(impl.SnapshotAt(cs, "N$1", "main", "()I", nil, nil, 100)), []string{"A.x I 0", "A$1.x I 0"})
}
