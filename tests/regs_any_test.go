package tests

import (
	"fmt"
	"slices"
	"strings"
	"testing"

	"loop.example/g00032/impl"
)

// shuffling has a loop, or two in one, in which locals get what others had, all at once, by ways of each kind.
func (b *builder) shuffling() string {
	count := 2 + b.below(6)
	lines := []string{"(" + strings.Repeat("I,", count-1) + "I)I " + fmt.Sprint(count+1)}
	add := func(more ...string) { lines = append(lines, more...) }
	shuffle := func() {
		all := []string{}
		for k := range count {
			if b.below(3) > 0 {
				all = append(all, fmt.Sprint("store I ", k))
				from := k
				for from == k || b.below(4) == 0 {
					from = b.below(count)
				}
				if b.below(2) == 0 {
					from = (k + 1 + b.below(2)) % count
				}
				add(fmt.Sprint("load I ", from))
			}
		}
		slices.Reverse(all)
		add(all...)
	}
	if b.below(3) == 0 {
		for k := range count - 1 {
			add(fmt.Sprintf("load I %d", k), fmt.Sprintf("const I %d", b.below(5)), b.pick("add I", "xor I"), fmt.Sprintf("store I %d", k))
		}
	}
	add(fmt.Sprintf("const I %d", 2+b.below(5)), fmt.Sprint("store I ", count), "again:")
	shuffle()
	add(fmt.Sprintf("inc %d -1", count), fmt.Sprint("load I ", count))
	switch b.below(4) {
	case 0:
		add("if gt again")
	case 1:
		add("if le out")
		shuffle()
		add("goto again", "out:")
	case 2:
		add("switch -1 again out out again", "out:")
	default:
		add("const I 2", "ifint eq b", fmt.Sprint("load I ", count), "if le out")
		shuffle()
		add("b:")
		if b.below(2) == 0 {
			shuffle()
		}
		add(fmt.Sprint("load I ", count), "if gt again", "out:")
	}
	add("load I 0")
	for k := range count - 1 {
		if b.below(6) > 0 {
			add("const I 31", "mul I", fmt.Sprint("load I ", k+1), b.pick("add I", "xor I"))
		}
	}
	return strings.Join(append(lines, "return I"), " / ")
}

// regUnit is one of any form, perhaps with a function more that shuffles, which none calls but perhaps itself.
func (b *builder) regUnit() impl.Unit {
	u := b.anyUnit()
	for range b.below(3) {
		text := b.shuffling()
		if b.below(2) == 0 {
			text = b.scattered(text)
		}
		u.Funcs = append(u.Funcs, unitTold("", text).Funcs...)
	}
	return u
}

// countMoves counts of what kinds the moves of code are; a register above those of nodes is the one beside.
func (c *counted) countMoves(code impl.RegCode, nodes int64) {
	rings := 0
	for k, i := range code.Ins {
		if i.Op == impl.RegMove {
			c.add("moves", true)
			c.add("two moves", code.Ins[k+1].Op == impl.RegMove)
			c.add("rings", i.To == nodes)
			if i.To == nodes {
				rings++
			}
		}
	}
	c.add("two rings", rings > 1)
}

// testRegs holds the code of a function of a right unit against the second working out, and looks at what follows in the chapter.
func (c *counted) testRegs(t *testing.T, u impl.Unit, f, level int64) impl.RegCode {
	t.Helper()
	g := impl.Compile(u, f, level)
	got, want := impl.Registers(u, f, level), regsWorked(g)
	if !alike(got, want) {
		t.Fatalf("level %d of f%d of\n%s\n%s\n%s\nnot\n%s", level, f, impl.PrintClass(impl.UnitClass(u)), shownGraph(g), shownCode(got), shownCode(want))
	}
	c.countMoves(got, testApart(t, g))
	if got.Regs > int64(len(g.Nodes))+1 {
		t.Fatalf("%d registers for %d nodes", got.Regs, len(g.Nodes))
	}
	c.add("code behind the blocks", slices.ContainsFunc(got.Ins, func(i impl.RegIns) bool {
		return slices.ContainsFunc(i.Next, func(n int64) bool { return len(i.Next) > 1 && got.Ins[n].Op == impl.RegMove })
	}))
	c.add("registers that serve twice", int(got.Regs) < len(g.Nodes))
	return want
}

// testRegRuns holds runs by each level against runs by the code, and against the run of the function.
func (c *counted) testRegRuns(t *testing.T, u impl.Unit, codes map[int64][5]impl.RegCode, f int64, args []int64, fuel int64) {
	t.Helper()
	whole := impl.UnitRun(u, f, args, 3000)
	for level := range int64(5) {
		got := impl.RegRun(u, level, f, args, fuel)
		want := regsPlayed(u, func(f int64) impl.RegCode { return codes[f][level] }, f, args, fuel)
		if !alike(got, want) {
			t.Fatalf("level %d, f%d with %d and %d:\n%v\nnot %v\n%s", level, f, args, fuel, got, want, impl.PrintClass(impl.UnitClass(u)))
		}
		c.add(fmt.Sprint("level ", level, ", code ", got.Code), true)
		if got.Code == impl.UnitFuel || whole.Code == impl.UnitFuel || level == 4 && whole.Code == impl.UnitDeep {
			continue
		}
		c.add("both", true)
		whole.Steps = got.Steps
		if !alike(got, whole) {
			t.Fatalf("level %d, f%d with %d:\n%v\nand the function %v\n%s", level, f, args, got, whole, impl.PrintClass(impl.UnitClass(u)))
		}
	}
}

func TestRegistersOfAnyForm(t *testing.T) {
	t.Parallel()
	c := &counted{times: map[string]int{}}
	inGroups(t, 1810, func(t *testing.T, b *builder) {
		for range 20 {
			u := b.regUnit()
			if !impl.UnitOk(u) {
				t.Fatalf("not right: %s", impl.PrintClass(impl.UnitClass(u)))
			}
			codes := map[int64][5]impl.RegCode{}
			for f := range int64(len(u.Funcs)) {
				all := [5]impl.RegCode{}
				for level := range int64(5) {
					all[level] = c.testRegs(t, u, f, level)
				}
				codes[f] = all
			}
			for range 4 {
				f := int64(b.below(len(u.Funcs)))
				fuel := []int64{int64(b.below(30)), 100, 1000, 3000}[b.below(4)]
				c.testRegRuns(t, u, codes, f, b.unitArgs(u.Funcs[f].Sig), fuel)
			}
		}
	})
	c.enough(t, 100, "moves", "two moves", "rings", "code behind the blocks", "registers that serve twice", "both")
	c.enough(t, 30, "two rings")
	for level := range 5 {
		c.enough(t, 30, fmt.Sprint("level ", level, ", code 0"), fmt.Sprint("level ", level, ", code 2"), fmt.Sprint("level ", level, ", code 3"))
	}
	c.enough(t, 20, "level 0, code 4")
}
