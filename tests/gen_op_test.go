package tests

import (
	"fmt"
	"slices"
	"strings"
	"testing"

	"loop.example/g00032/impl"
)

// gcTells has the answers to ops written out, as showGcObs shows them.
func gcTells(t *testing.T, g impl.GcConfig, ops string, want string) {
	t.Helper()
	list := gcOpsOf(ops)
	testGc(t, g, list)
	got := []string{}
	for _, o := range impl.GcRun(g, list) {
		got = append(got, showGcObs(o))
	}
	if strings.Join(got, " ") != want {
		t.Errorf("%s: %s, not %s", ops, strings.Join(got, " "), want)
	}
}

// gcStands has what is there behind ops written out, as showGcHeap shows it, and the Tops where they are told.
func gcStands(t *testing.T, g impl.GcConfig, ops string, want string, tops ...int64) {
	t.Helper()
	list := gcOpsOf(ops)
	_, h := testGc(t, g, list)
	if showGcHeap(h) != want || len(tops) > 0 && !slices.Equal(h.Tops, tops) {
		t.Errorf("%s: %s, tops %v\n not %s, tops %v", ops, showGcHeap(h), h.Tops, want, tops)
	}
	if len(h.Roots) != 8 || len(h.Tops) != 4 {
		t.Errorf("%s: %d roots, %d tops", ops, len(h.Roots), len(h.Tops))
	}
}

// wide has room for all that a test lays: eden from 1 on, the survivor spaces from 65 and 129, old from 193.
func wide() impl.GcConfig { return impl.GcConfig{Eden: 64, Survivor: 64, Old: 64, Age: 15, Card: 4} }

// tight has room for little: eden from 1 on, the survivor spaces from 9 and 17, old from 25 to 32; each copy goes to old.
func tight() impl.GcConfig { return impl.GcConfig{Eden: 8, Survivor: 8, Old: 8, Age: 1, Card: 4} }

func TestGcConstants(t *testing.T) {
	got := []int{impl.MaxSpace, impl.MaxRoots, impl.MaxFields, impl.MaxGcOps, impl.GcPlain, impl.GcWeak, impl.GcSoft, impl.GcPhantom, impl.GcFinal, impl.GcNew, impl.GcGet, impl.GcSet, impl.GcCopy, impl.GcDrop, impl.GcMinor, impl.GcMajor, impl.GcHard, impl.GcPoll, impl.GcOk, impl.GcBad, impl.GcNull, impl.GcFull, impl.GcField}
	same(t, "constants", got, []int{2000, 8, 6, 300, 0, 1, 2, 3, 4, 1, 2, 3, 4, 5, 6, 7, 8, 9, 0, 1, 2, 3, 4})
}

func TestGcConfigs(t *testing.T) {
	ops := gcOpsOf("new 0 1; minor; new 1 0; set 0 1 0; major")
	is := func(why string, g impl.GcConfig, right bool) {
		t.Helper()
		if got := len(impl.GcRun(g, ops)); (got == len(ops)) != right || !right && got != 0 {
			t.Errorf("%s: %d answers", why, got)
		}
		if h := impl.GcAt(g, ops); alike(h, impl.GcHeap{}) == right {
			t.Errorf("%s: %v", why, h)
		}
		testGc(t, g, ops)
	}
	is("wide", wide(), true)
	is("tight", tight(), true)
	is("none", impl.GcConfig{}, false)
	bounds := []struct {
		name       string
		place      func(g *impl.GcConfig) *int64
		low, above int64
	}{
		{"Eden", func(g *impl.GcConfig) *int64 { return &g.Eden }, 8, 2001},
		{"Survivor", func(g *impl.GcConfig) *int64 { return &g.Survivor }, 8, 2001},
		{"Old", func(g *impl.GcConfig) *int64 { return &g.Old }, 8, 2001},
		{"Age", func(g *impl.GcConfig) *int64 { return &g.Age }, 1, 16},
		{"Card", func(g *impl.GcConfig) *int64 { return &g.Card }, 1, 65},
	}
	for _, b := range bounds {
		for _, n := range append(extremes(), b.low-1, b.low, b.low+1, b.above-1, b.above, b.above+1, -b.low) {
			for _, g := range []impl.GcConfig{wide(), tight()} {
				*b.place(&g) = n
				is(fmt.Sprint(b.name, " ", n), g, n >= b.low && n < b.above)
			}
		}
	}
	all := impl.GcConfig{Eden: 2000, Survivor: 2000, Old: 2000, Age: 15, Card: 64}
	is("the greatest", all, true)
	is("the least", impl.GcConfig{Eden: 8, Survivor: 8, Old: 8, Age: 1, Card: 1}, true)
}

func TestMostGcOps(t *testing.T) {
	for _, n := range []int{0, 1, 299, 300, 301, 302, 100000} {
		ops := slices.Repeat(gcOpsOf("new 0 0"), n)
		got, at := impl.GcRun(wide(), ops), impl.GcAt(wide(), ops)
		if n > 300 {
			if len(got) != 0 || !alike(at, impl.GcHeap{}) {
				t.Errorf("%d ops: %d answers, %v", n, len(got), at)
			}
			continue
		}
		if len(got) != n || len(at.Roots) != 8 || at.Roots[0] != int64(n) {
			t.Errorf("%d ops: %d answers, %v", n, len(got), at)
		}
		testGc(t, wide(), ops)
	}
	if got := impl.GcRun(wide(), nil); len(got) != 0 {
		t.Errorf("no ops: %v", got)
	}
	gcStands(t, wide(), "", "", 1, 65, 129, 193)
	gcStands(t, tight(), "", "", 1, 9, 17, 25)
}

func TestGcOps(t *testing.T) {
	gcTells(t, wide(), "new 0 2; new 1 1; set 0 1 1; get 2 0 1; copy 3 2; drop 1; poll 4; drop 3; copy 5 3; get 6 0 0", "1 2 1 2 2 0 0 0 0 0")
	gcStands(t, wide(), "new 0 2; new 1 1; set 0 1 1; get 2 0 1; copy 3 2; drop 1", "1@1+0p[0 2] 2@4+0p[0] | roots 0=1 2=2 3=2", 6, 65, 129, 193)
	// A root that is read and written at once; objects that hold themselves and each other.
	gcTells(t, wide(), "new 0 1; set 0 0 0; get 0 0 0; new 1 2; set 1 0 0; set 0 1 0; get 1 1 0; copy 1 1; drop 1; drop 1", "1 1 1 2 2 1 1 1 0 0")
	gcStands(t, wide(), "new 0 1; set 0 0 0; new 1 2; set 1 0 1; set 1 1 0", "1@1+0p[1] 2@3+0p[2 1] | roots 0=1 1=2")
	// A field can be made null again, and another object be laid over it.
	gcStands(t, wide(), "new 0 1; new 1 0; set 0 1 0; set 0 2 0", "1@1+0p[0] 2@3+0p[] | roots 0=1 1=2")
	gcStands(t, wide(), "new 0 1; new 1 0; set 0 1 0; new 1 0; set 0 1 0", "1@1+0p[3] 2@3+0p[] 3@4+0p[] | roots 0=1 1=3")
	// What nobody holds is there till a cycle comes.
	gcStands(t, wide(), "new 0 1; new 0 0 final; new 0 3; drop 0", "1@1+0p[0] 2@3+0f[] 3@4+0p[0 0 0]", 8, 65, 129, 193)
	// All roots, and all fields.
	gcStands(t, wide(), "new 0 0; new 1 0; new 2 0; new 3 0; new 4 0; new 5 0; new 6 0; new 7 6; set 7 0 0; set 7 1 1; set 7 2 2; set 7 3 3; set 7 4 4; set 7 5 5", "1@1+0p[] 2@2+0p[] 3@3+0p[] 4@4+0p[] 5@5+0p[] 6@6+0p[] 7@7+0p[] 8@8+0p[1 2 3 4 5 6] | roots 0=1 1=2 2=3 3=4 4=5 5=6 6=7 7=8")
}

func TestGcNewObjects(t *testing.T) {
	for kind := int64(-2); kind <= 6; kind++ {
		for fields := int64(-1); fields <= 8; fields++ {
			least := int64(0)
			if kind >= 1 && kind <= 3 {
				least = 1
			}
			right := kind >= 0 && kind <= 4 && fields >= least && fields <= 6
			ops := []impl.GcOp{{Kind: 1, A: 3, B: 0, C: 0}, {Kind: 1, A: 3, B: fields, C: kind}, {Kind: 1, A: 4, B: 0, C: 0}}
			got, h := testGc(t, wide(), ops)
			want := impl.GcObs{Code: impl.GcBad}
			if right {
				want = impl.GcObs{N: 2}
			}
			same(t, fmt.Sprint("kind ", kind, ", fields ", fields), got[1], want)
			if right {
				same(t, "the object", h.Objects[1], impl.GcObject{Id: 2, At: 2, Kind: kind, Fields: make([]int64, fields)})
				continue
			}
			// Nothing is done: the root and the next Id are as before.
			if got[2].N != 2 || h.Roots[3] != 1 || len(h.Objects) != 2 {
				t.Errorf("kind %d, fields %d: %s", kind, fields, showGcHeap(h))
			}
		}
	}
}

// Each operand that can't be, of each Kind; those that a Kind does not name may be any number.
func TestGcBadOperands(t *testing.T) {
	before := "new 0 2; new 1 1; set 0 1 1; new 2 1 final; drop 2; minor"
	start := gcOpsOf(before)
	_, there := testGc(t, wide(), start)
	odd := append(extremes(), -2, 2, 5, 6, 7, 8, 9, 100)
	kinds := append(extremes(), -2, 2, 3, 4, 5, 6, 7, 8, 9, 10, 11)
	for _, kind := range kinds {
		for _, n := range odd {
			for place := range 3 {
				op := impl.GcOp{Kind: kind}
				*[]*int64{&op.A, &op.B, &op.C}[place] = n
				got, h := testGc(t, wide(), append(slices.Clone(start), op))
				rootLess := n < 0 || n > 7
				bad := kind < 1 || kind > 9
				switch {
				case place == 0:
					bad = bad || rootLess && (kind < 6 || kind > 8)
				case place == 1:
					bad = bad || rootLess && kind >= 2 && kind <= 4 || kind == 1 && (n < 0 || n > 6)
				case kind == 1:
					bad = bad || n != 0 && n != 4
				}
				last := got[len(start)]
				if bad != (last.Code == impl.GcBad) {
					t.Errorf("%v: %v", op, last)
				}
				if last.Code != 0 && (last.N != 0 || len(last.Cycles) > 0 || !alike(h, there)) {
					t.Errorf("%v: %v, and %s", op, last, showGcHeap(h))
				}
			}
		}
	}
}

func TestGcNullAndFields(t *testing.T) {
	// Of a null nothing can be read or written, whichever field is named.
	gcTells(t, wide(), "get 0 1 0; set 0 1 0; get 0 1 9; set 0 1 -1; get 0 0 0; new 1 1; get 0 2 0; set 0 1 0; get 1 0 0; set 1 0 0", "null null null null null 1 null null null 1")
	for fields := range int64(7) {
		for _, kind := range words(gcKinds) {
			if fields == 0 && kind != "plain" && kind != "final" {
				continue
			}
			for _, n := range append(extremes(), -2, 2, 3, 4, 5, 6, 7) {
				get, set := impl.GcObs{}, impl.GcObs{N: 1}
				if n < 0 || n >= fields {
					get.Code, set = impl.GcField, impl.GcObs{Code: impl.GcField}
				}
				if n == 0 && kind == "phantom" {
					get.Code = impl.GcField
				}
				if get.Code == 0 {
					get.N = 2
				}
				ops := append(gcOpsOf(fmt.Sprintf("new 0 %d %s; new 1 0; copy 2 0", fields, kind)), impl.GcOp{Kind: 3, A: 0, B: 1, C: n}, impl.GcOp{Kind: 2, A: 2, B: 0, C: n})
				got, h := testGc(t, wide(), ops)
				why := fmt.Sprint(kind, " of ", fields, ", field ", n)
				same(t, why+" written", got[3], set)
				same(t, why+" read", got[4], get)
				if get.Code != 0 && h.Roots[2] != 1 {
					t.Errorf("%s: root 2 holds %d", why, h.Roots[2])
				}
			}
		}
	}
	// A phantom's other fields can be read; it stays so when what it held is gone.
	gcTells(t, wide(), "new 0 2 phantom; new 1 0; set 0 1 0; set 0 1 1; get 2 0 0; get 2 0 1; set 0 3 0; get 2 0 0", "1 2 1 1 field 2 1 field")
	gcTells(t, wide(), "new 0 1 phantom; new 1 0; set 0 1 0; drop 1; minor; get 2 0 0; poll 2; get 3 2 0", "1 2 1 0 1:1 field 1 field")
	// A final one is plain when it was queued; what it holds can be read before and then.
	gcTells(t, wide(), "new 0 1 final; new 1 0; set 0 1 0; get 2 0 0; drop 0; drop 1; drop 2; hard; poll 0; get 1 0 0", "1 2 1 2 0 0 0 0:31 1 2")
}

// N is what root A holds behind the op, of cycles too, when A is a root.
func TestGcTellsRoots(t *testing.T) {
	for _, kind := range words("minor major hard") {
		cycles := map[string]string{"minor": "1", "major": "21", "hard": "31"}[kind]
		for _, a := range []int64{0, 1, 6, 7} {
			ops := fmt.Sprintf("new 6 1; new 1 2; %s %d", kind, a)
			gcTells(t, wide(), ops, fmt.Sprintf("1 2 %d:%s", map[int64]int{1: 2, 6: 1}[a], cycles))
		}
		for _, a := range []int64{-1, 8, minLong, maxLong} {
			gcTells(t, wide(), fmt.Sprintf("new 0 0; new 7 0; %s %d %d %d", kind, a, a, a), "1 2 0:"+cycles)
		}
	}
	gcTells(t, wide(), "new 3 1; new 4 0; set 3 4 0; set 3 7 0; get 4 3 0; poll 3 9 9; drop 3 -1 -1; copy 3 4 99", "1 2 1 1 0 0 0 0")
}

func TestGcPolls(t *testing.T) {
	gcTells(t, wide(), "poll 0; new 0 0; poll 0; poll 7", "0 1 0 0")
	// Three of different kinds, one after the other; then it is empty.
	three := "new 0 1 weak; new 1 1 phantom; new 2 0 final; new 3 0; set 0 3 0; set 1 3 0; drop 2; drop 3; minor"
	gcTells(t, wide(), three+"; poll 4; poll 4; poll 5; poll 5", "1 2 3 4 1 2 0 0 1:1 1 3 2 0")
	gcStands(t, wide(), three, "1@129+1w[0] 2@131+1h[0] 3@133+1p[] | roots 0=1 1=2 | queue 1 3 2 | from 1")
	gcStands(t, wide(), three+"; poll 4; poll 4", "1@129+1w[0] 2@131+1h[0] 3@133+1p[] | roots 0=1 1=2 4=3 | queue 2 | from 1")
	// The queue holds what is in it, and what leads from there; polled, it is held by the root alone.
	held := "new 0 1 final; new 1 0; set 0 1 0; drop 0; drop 1"
	gcStands(t, wide(), held+"; minor; minor; hard", "1@193+3p[2] 2@195+3p[] | queue 1 | from 1", 1, 65, 129, 196)
	gcStands(t, wide(), held+"; minor; poll 5; hard", "1@193+2p[2] 2@195+2p[] | roots 5=1")
	gcStands(t, wide(), held+"; minor; poll 5; drop 5; minor", "", 1, 65, 129, 193)
	// What comes behind is queued behind.
	gcStands(t, wide(), "new 0 0 final; drop 0; minor; new 0 0 final; drop 0; minor; new 0 0 final; drop 0; minor; poll 7", "1@129+3p[] 2@130+2p[] 3@131+1p[] | roots 7=1 | queue 2 3 | from 1")
}
