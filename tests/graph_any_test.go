package tests

import (
	"fmt"
	"slices"
	"strings"
	"testing"

	"loop.example/g00032/impl"
)

// scattered gives a function's text with its code cut into pieces that stand in any order, each with a way to the next one, and with instructions that nobody reaches.
func (b *builder) scattered(text string) string {
	lines := strings.Split(text, " / ")
	pieces := [][]string{{}}
	for _, line := range lines[1:] {
		if b.below(6) == 0 && len(pieces) < 12 {
			pieces = append(pieces, []string{fmt.Sprintf("p%d:", len(pieces))})
		}
		pieces[len(pieces)-1] = append(pieces[len(pieces)-1], line)
	}
	order := []int{}
	for k := range pieces {
		if last := pieces[k][max(len(pieces[k])-1, 0):]; k+1 < len(pieces) && (len(last) == 0 || !slices.Contains([]string{"goto", "switch", "return"}, words(last[0])[0])) {
			pieces[k] = append(pieces[k], fmt.Sprint("goto p", k+1))
		}
		if b.below(8) == 0 {
			pieces[k] = append(pieces[k], b.pick("pop", "const I 5 / if ne 0", "add J", "switch 0 0 0", "swap / goto 0", "return"))
		}
		order = slices.Insert(order, b.below(k+1), k)
	}
	if b.below(3) > 0 {
		k := slices.Index(order, 0)
		order = append([]int{0}, slices.Delete(order, k, k+1)...)
	}
	out := []string{lines[0]}
	if order[0] != 0 {
		out = append(out, "goto first")
		pieces[0] = append([]string{"first:"}, pieces[0]...)
	}
	for _, k := range order {
		out = append(out, pieces[k]...)
	}
	return strings.Join(out, " / ")
}

// anyUnit has functions whose blocks stand in an order of their own.
func (b *builder) anyUnit() impl.Unit {
	more := []string{}
	for range b.below(3) {
		more = append(more, b.pick(
			"(I)I 1 / load I 0 / return I",
			"(I,J)J 2 / load J 1 / load I 0 / conv I J / add J / return J",
			"()V 0 / const I 9 / call -1 / return",
			"(J)J 1 / const J 7 / load J 0 / div J / return J",
			"(I,I)I 3 / load I 0 / load I 1 / under / mul I / sub I / store I 2 / load I 2 / const I 3 / and I / return I",
			"()J 0 / const J 3 / return J",
			"(I)V 1 / load I 0 / if ne 0 / return",
		))
	}
	globals, funcs := b.unitTexts(more...)
	for k, f := range funcs {
		if b.below(2) == 0 {
			funcs[k] = b.scattered(f)
		}
	}
	return unitTold(globals, funcs...)
}

// testGraphForm looks at what holds of each graph.
func testGraphForm(t *testing.T, g impl.Graph) {
	t.Helper()
	preds := make([][]int64, len(g.Blocks))
	for k, b := range g.Blocks {
		for _, to := range b.Next {
			if to < 1 || to >= int64(len(g.Blocks)) {
				t.Fatalf("block %d goes to %d: %v", k, to, g)
			}
			preds[to] = append(preds[to], int64(k))
		}
		for _, n := range b.Args {
			if n < 0 || n >= int64(len(g.Nodes)) || g.Nodes[n].Kind == 0 {
				t.Fatalf("block %d ends by %d: %v", k, n, g)
			}
		}
		ways := map[int64][]int{impl.EndGoto: {1, 1, 0, 0}, impl.EndIf: {2, 2, 1, 2}, impl.EndSwitch: {2, 101, 1, 1}, impl.EndReturn: {0, 0, 0, 1}}[b.End]
		if len(ways) == 0 || len(b.Next) < ways[0] || len(b.Next) > ways[1] || len(b.Args) < ways[2] || len(b.Args) > ways[3] || b.At != 0 || len(b.State) > 0 {
			t.Fatalf("block %d is %v", k, b)
		}
	}
	block, phis := int64(0), true
	for k, n := range g.Nodes {
		phis = n.Block > block || phis && g.Nodes[max(k-1, 0)].Op == impl.NodePhi
		if n.Block < block || n.Block >= int64(len(g.Blocks)) || n.Op == impl.NodePhi && (!phis || len(n.Args) != len(preds[n.Block])) {
			t.Fatalf("node %d is %v of %v", k, n, g)
		}
		block = n.Block
		for _, arg := range n.Args {
			if arg < 0 || arg >= int64(len(g.Nodes)) || g.Nodes[arg].Kind == 0 && n.Kind != 0 {
				t.Fatalf("node %d is %v of %v", k, n, g)
			}
		}
	}
	for k, b := range g.Blocks {
		if !alike(b.Preds, preds[k]) || k > 0 && len(preds[k]) == 0 {
			t.Fatalf("block %d is %v, its ways come from %v", k, b, preds[k])
		}
	}
}

// testGraphs holds the graphs of a function of a right unit against the second working out, and looks at what follows in the chapters.
func (c *counted) testGraphs(t *testing.T, u impl.Unit, f int64) [5]impl.Graph {
	t.Helper()
	got, want := [5]impl.Graph{}, graphsWorked(u, f)
	for level := range want {
		got[level] = impl.Compile(u, f, int64(level))
		if !alike(got[level], want[level]) {
			t.Fatalf("level %d of f%d of\n%s\n%s\nnot\n%s", level, f, impl.PrintClass(impl.UnitClass(u)), shownGraph(got[level]), shownGraph(want[level]))
		}
		testGraphForm(t, got[level])
		if level > 0 && level < 4 && len(got[level].Nodes) > len(got[level-1].Nodes) {
			t.Fatalf("level %d has more nodes", level)
		}
	}
	same(t, "swept once more", graphSwept(got[3]), got[3])
	later := slices.ContainsFunc(got[2].Nodes, func(n impl.Node) bool {
		return n.Op != impl.NodePhi && slices.ContainsFunc(n.Args, func(arg int64) bool { return got[2].Nodes[arg].Block > n.Block })
	})
	if !later {
		same(t, "shared once more", graphShared(got[2]), got[2])
	}
	c.add("args that stand behind", later)
	c.add("phis", slices.ContainsFunc(got[0].Nodes, func(n impl.Node) bool { return n.Op == impl.NodePhi }))
	c.add("blocks folded", len(got[1].Blocks) < len(got[0].Blocks))
	for level, than := range []int{0, 0, 1, 2} {
		c.add(fmt.Sprint("level ", level, " has less"), len(got[level].Nodes) < len(got[than].Nodes))
	}
	c.add("filled", len(calls(got[4])) < len(calls(got[3])))
	c.add("not filled", len(calls(got[4])) > 0)
	return got
}

func calls(g impl.Graph) []impl.Node {
	return slices.DeleteFunc(slices.Clone(g.Nodes), func(n impl.Node) bool { return n.Op != impl.NodeCall })
}

// testGraphRuns holds runs by each level against runs by the graphs, and against the run of the function.
func (c *counted) testGraphRuns(t *testing.T, u impl.Unit, graphs map[int64][5]impl.Graph, f int64, args []int64, fuel int64) {
	t.Helper()
	whole := impl.UnitRun(u, f, args, 3000)
	for level := range int64(5) {
		got := impl.GraphRun(u, level, f, args, fuel)
		want := graphPlayed(u, func(f int64) impl.Graph { return graphs[f][level] }, f, args, fuel)
		if !alike(got, want) {
			t.Fatalf("level %d, f%d with %d and %d:\n%v\nnot %v\n%s", level, f, args, fuel, got, want, impl.PrintClass(impl.UnitClass(u)))
		}
		c.add(fmt.Sprint("level ", level, ", code ", got.Code), true)
		if got.Code == impl.UnitFuel || whole.Code == impl.UnitFuel || level == 4 && whole.Code == impl.UnitDeep {
			continue
		}
		c.add("both", true)
		whole.Steps = got.Steps
		if !alike(got, whole) {
			t.Fatalf("level %d, f%d with %d:\n%v\nand the function %v\n%s", level, f, args, got, whole, impl.PrintClass(impl.UnitClass(u)))
		}
	}
}

func TestGraphsOfAnyForm(t *testing.T) {
	t.Parallel()
	c := &counted{times: map[string]int{}}
	inGroups(t, 1610, func(t *testing.T, b *builder) {
		for range 30 {
			u := b.anyUnit()
			if !impl.UnitOk(u) {
				t.Fatalf("not right: %s", impl.PrintClass(impl.UnitClass(u)))
			}
			graphs := map[int64][5]impl.Graph{}
			for f := range int64(len(u.Funcs)) {
				graphs[f] = c.testGraphs(t, u, f)
			}
			for range 3 {
				f := int64(b.below(len(u.Funcs)))
				fuel := []int64{int64(b.below(20)), 100, 500, 1500}[b.below(4)]
				c.testGraphRuns(t, u, graphs, f, b.unitArgs(u.Funcs[f].Sig), fuel)
			}
		}
	})
	c.enough(t, 40, "phis", "blocks folded", "level 1 has less", "level 2 has less", "level 3 has less", "filled", "not filled", "both", "args that stand behind")
	for level := range 5 {
		c.enough(t, 40, fmt.Sprint("level ", level, ", code 0"), fmt.Sprint("level ", level, ", code 2"), fmt.Sprint("level ", level, ", code 3"))
	}
	c.enough(t, 40, "level 0, code 4")
}
