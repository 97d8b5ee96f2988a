package tests

import (
	"fmt"
	"slices"
	"testing"

	"loop.example/g00032/impl"
)

// Chapter 18 worked out once more: what lives is looked for at each place of a graph, all places for themselves, and code is laid in pieces with names.

// lifeMap tells of each block what lives behind its phis, and behind each of its other nodes.
type lifeMap struct {
	g     impl.Graph
	phis  [][]int64
	deeds [][]int64
	lives [][][]bool
}

func lifeMapOf(g impl.Graph) *lifeMap {
	m := &lifeMap{g: g, phis: make([][]int64, len(g.Blocks)), deeds: make([][]int64, len(g.Blocks)), lives: make([][][]bool, len(g.Blocks))}
	for k, n := range g.Nodes {
		if n.Op == impl.NodePhi {
			m.phis[n.Block] = append(m.phis[n.Block], int64(k))
		} else {
			m.deeds[n.Block] = append(m.deeds[n.Block], int64(k))
		}
	}
	for b := range g.Blocks {
		for range len(m.deeds[b]) + 1 {
			m.lives[b] = append(m.lives[b], make([]bool, len(g.Nodes)))
		}
	}
	for more := true; more; {
		more = false
		for b := len(g.Blocks) - 1; b >= 0; b-- {
			for at := len(m.lives[b]) - 1; at >= 0; at-- {
				for n, node := range g.Nodes {
					if node.Kind != 0 && !m.lives[b][at][n] && m.livesAt(int64(n), b, at) {
						m.lives[b][at][n], more = true, true
					}
				}
			}
		}
	}
	return m
}

// livesAt looks one step on.
func (m *lifeMap) livesAt(n int64, b, at int) bool {
	if at < len(m.deeds[b]) {
		next := m.deeds[b][at]
		return slices.Contains(m.g.Nodes[next].Args, n) || next != n && m.lives[b][at+1][n]
	}
	if slices.Contains(m.g.Blocks[b].Args, n) {
		return true
	}
	for _, to := range m.g.Blocks[b].Next {
		for _, phi := range m.phis[to] {
			if m.g.Nodes[phi].Args[slices.Index(m.g.Blocks[to].Preds, int64(b))] == n {
				return true
			}
		}
		if !slices.Contains(m.phis[to], n) && m.lives[to][0][n] {
			return true
		}
	}
	return false
}

// behind tells what lives right behind the making of a node.
func (m *lifeMap) behind(n int64) []bool {
	b := m.g.Nodes[n].Block
	return m.lives[b][slices.Index(m.deeds[b], n)+1]
}

func (m *lifeMap) against(a, b int64) bool {
	one, other := m.g.Nodes[a], m.g.Nodes[b]
	return m.behind(a)[b] || m.behind(b)[a] || one.Op == impl.NodePhi && other.Op == impl.NodePhi && one.Block == other.Block
}

// homes are the registers of nodes, -1 for none.
func (m *lifeMap) homes() []int64 {
	homes := []int64{}
	for n := range int64(len(m.g.Nodes)) {
		home := int64(-1)
		for m.g.Nodes[n].Kind != 0 {
			home++
			taken := false
			for other := range n {
				taken = taken || homes[other] == home && m.against(n, other)
			}
			if !taken {
				break
			}
		}
		homes = append(homes, home)
	}
	return homes
}

// regPiece is code with a name; the ways on of its last instruction are names.
type regPiece struct {
	name string
	ins  []impl.RegIns
	next []string
}

func regsWorked(g impl.Graph) impl.RegCode {
	if len(g.Blocks) == 0 {
		return impl.RegCode{}
	}
	m := lifeMapOf(g)
	homes := m.homes()
	of := func(nodes []int64) []int64 {
		out := []int64{}
		for _, n := range nodes {
			out = append(out, homes[n])
		}
		return out
	}
	beside := slices.Max(append(slices.Clone(homes), -1)) + 1
	pieces, behind := []regPiece{}, []regPiece{}
	for k, b := range g.Blocks {
		p := regPiece{name: fmt.Sprint("block ", k)}
		for _, n := range m.deeds[k] {
			node := g.Nodes[n]
			i := impl.RegIns{Op: node.Op, Kind: node.Kind, N: node.N, To: homes[n], From: of(node.Args)}
			if node.Op == impl.NodeConv {
				i.Kind = g.Nodes[node.Args[0]].Kind
			}
			p.ins = append(p.ins, i)
		}
		end := impl.RegIns{Op: map[int64]int64{1: 12, 2: 13, 3: 14, 4: 15}[b.End], N: b.N, To: -1, From: of(b.Args)}
		for way, to := range b.Next {
			moves := regMoves(m, homes, beside, int64(k), to)
			name := fmt.Sprint("block ", to)
			if b.End == impl.EndGoto {
				p.ins = append(p.ins, moves...)
			} else if len(m.phis[to]) > 0 {
				behind = append(behind, regPiece{fmt.Sprint("way ", k, way), append(moves, impl.RegIns{Op: 12, To: -1}), []string{name}})
				name = fmt.Sprint("way ", k, way)
			}
			p.next = append(p.next, name)
		}
		p.ins = append(p.ins, end)
		pieces = append(pieces, p)
	}
	return regsJoined(append(pieces, behind...))
}

// regsJoined lays pieces one behind the other.
func regsJoined(pieces []regPiece) impl.RegCode {
	c, at := impl.RegCode{}, map[string]int64{}
	for _, p := range pieces {
		at[p.name] = int64(len(c.Ins))
		c.Ins = append(c.Ins, p.ins...)
	}
	last := int64(-1)
	for _, p := range pieces {
		last += int64(len(p.ins))
		for _, name := range p.next {
			c.Ins[last].Next = append(c.Ins[last].Next, at[name])
		}
	}
	for _, i := range c.Ins {
		c.Regs = max(c.Regs, slices.Max(append(slices.Clone(i.From), i.To))+1)
	}
	return c
}

// regMoves are those of a way, tried one by one.
func regMoves(m *lifeMap, homes []int64, beside, from, to int64) []impl.RegIns {
	out, left := []impl.RegIns{}, [][2]int64{}
	for _, phi := range m.phis[to] {
		by := homes[m.g.Nodes[phi].Args[slices.Index(m.g.Blocks[to].Preds, from)]]
		if homes[phi] >= 0 && homes[phi] != by {
			left = append(left, [2]int64{homes[phi], by})
		}
	}
one:
	for len(left) > 0 {
		for k, move := range left {
			needed := false
			for j, other := range left {
				needed = needed || j != k && other[1] == move[0]
			}
			if !needed {
				out = append(out, impl.RegIns{Op: 11, To: move[0], From: []int64{move[1]}})
				left = slices.Delete(slices.Clone(left), k, k+1)
				continue one
			}
		}
		old := left[0][1]
		out = append(out, impl.RegIns{Op: 11, To: beside, From: []int64{old}})
		for k := range left {
			if left[k][1] == old {
				left[k][1] = beside
			}
		}
	}
	return out
}

// testApart looks that no two nodes that live at one place are in one register, and gives how many registers nodes have.
func testApart(t *testing.T, g impl.Graph) int64 {
	t.Helper()
	m := lifeMapOf(g)
	homes := m.homes()
	for b := range g.Blocks {
		for at, lives := range m.lives[b] {
			in := map[int64]int{}
			for n, so := range lives {
				if !so {
					continue
				}
				if other, ok := in[homes[n]]; ok {
					t.Fatalf("block %d, %d: %d and %d are both in %d\n%s", b, at, n, other, homes[n], shownGraph(g))
				}
				in[homes[n]] = n
			}
		}
	}
	return slices.Max(append(homes, -1)) + 1
}

// regScene is a run by code of registers.
type regScene struct {
	codes map[int64]impl.RegCode
	make  func(f int64) impl.RegCode
	fuel  int64
	depth int
	out   impl.UnitOut
}

// regsPlayed is what RegRun has to answer by such code, with arguments and fuel that can be.
func regsPlayed(u impl.Unit, code func(f int64) impl.RegCode, f int64, args []int64, fuel int64) impl.UnitOut {
	s := &regScene{codes: map[int64]impl.RegCode{}, make: code, fuel: fuel, out: impl.UnitOut{Globals: make([]int64, len(u.Globals))}}
	n, end := s.play(f, args)
	s.out.N, s.out.Code = n, end
	return s.out
}

func (s *regScene) play(f int64, params []int64) (int64, int64) {
	if s.depth++; s.depth > 100 {
		return 0, impl.UnitDeep
	}
	c, ok := s.codes[f]
	if !ok {
		c = s.make(f)
		s.codes[f] = c
	}
	registers := map[int64]int64{}
	for pc := int64(0); ; {
		if s.out.Steps == s.fuel {
			return 0, impl.UnitFuel
		}
		s.out.Steps++
		i := c.Ins[pc]
		args := []int64{}
		for _, from := range i.From {
			args = append(args, registers[from])
		}
		switch {
		case i.Op == impl.RegReturn:
			s.depth--
			return append(args, 0)[0], 0
		case i.Op >= impl.RegGoto:
			pc = i.Next[wayGone(impl.Block{End: i.Op - 11, N: i.N, Next: i.Next}, args)]
			continue
		}
		n, end := s.do(i, args, params)
		if end != 0 {
			return 0, end
		}
		if i.To >= 0 {
			registers[i.To] = n
		}
		pc++
	}
}

func (s *regScene) do(i impl.RegIns, args, params []int64) (int64, int64) {
	switch i.Op {
	case impl.RegMove:
		return args[0], 0
	case impl.NodeParam:
		return params[i.N], 0
	case impl.NodeConst:
		return i.N, 0
	case impl.NodeGet:
		return s.out.Globals[i.N], 0
	case impl.NodePut:
		s.out.Globals[i.N] = args[0]
		return 0, 0
	case impl.NodePrint:
		s.out.Trace = append(s.out.Trace, fmt.Sprint(args[0]))
		return 0, 0
	case impl.NodeCall:
		return s.play(i.N, args)
	}
	number, ok := nodeWorth(impl.Node{Op: i.Op, Kind: i.Kind, N: i.N}, i.Kind, args)
	if !ok {
		return 0, impl.UnitArith
	}
	return number, 0
}
