package tests

import (
	"fmt"
	"slices"

	"loop.example/g00032/impl"
)

// A second working out of chapters 16 and 17: on lists of numbers, where each change is made everywhere, one at a time.

// unitShapes gives what locals and stack have ahead of each instruction, as letters, with - for what can't be used; empty for one that is not reached. Locals stand ahead of the stack.
func unitShapes(u impl.Unit, f impl.Func) []string {
	shapes := make([]string, len(f.Code))
	known := make([]bool, len(f.Code))
	first := ""
	for _, typ := range impl.Params(f.Sig) {
		first += typ
	}
	for len(first) < int(f.Locals) {
		first += "-"
	}
	shapes[0], known[0] = first, true
	for more := true; more; {
		more = false
		for at, i := range f.Code {
			if !known[at] {
				continue
			}
			behind := shapesBehind(u, i, shapes[at])
			for _, to := range waysBehind(i, at) {
				joined := behind
				if known[to] {
					joined = joinedShapes(shapes[to], behind)
				}
				more = more || !known[to] || joined != shapes[to]
				shapes[to], known[to] = joined, true
			}
		}
	}
	return shapes
}

func waysBehind(i impl.Ins, at int) []int {
	out := []int{}
	if jumps(i) {
		out = append(out, int(i.A))
	}
	for _, to := range i.Table {
		out = append(out, int(to))
	}
	if i.Op != impl.OpGoto && i.Op != impl.OpSwitch && i.Op != impl.OpReturn {
		out = append(out, at+1)
	}
	return out
}

func jumps(i impl.Ins) bool {
	return i.Op == impl.OpGoto || i.Op == impl.OpIf || i.Op == impl.OpIfInt || i.Op == impl.OpSwitch
}

func joinedShapes(a, b string) string {
	out := ""
	for k := range a {
		if a[k] == b[k] {
			out += a[k : k+1]
		} else {
			out += "-"
		}
	}
	return out
}

const kindLetters = "-IJ"

func shapesBehind(u impl.Unit, i impl.Ins, s string) string {
	n := len(s)
	kind := kindLetters[i.Kind : i.Kind+1]
	switch {
	case i.Op == impl.OpConst:
		return s + kind
	case i.Op == impl.OpLoad:
		return s + s[i.A:i.A+1]
	case i.Op == impl.OpStore:
		return s[:i.A] + s[n-1:] + s[i.A+1:n-1]
	case i.Op == impl.OpPop, i.Op == impl.OpIf, i.Op == impl.OpSwitch, i.Op == impl.OpPut, i.Op == impl.OpCall && i.A < 0:
		return s[:n-1]
	case i.Op == impl.OpDup:
		return s + s[n-1:]
	case i.Op == impl.OpSwap:
		return s[:n-2] + s[n-1:] + s[n-2:n-1]
	case i.Op == impl.OpUnder:
		return s[:n-2] + s[n-1:] + s[n-2:n-1] + s[n-1:]
	case i.Op == impl.OpCmp:
		return s[:n-2] + "I"
	case i.Op == impl.OpConv && i.A == impl.KindLong:
		return s[:n-1] + "J"
	case i.Op == impl.OpConv:
		return s[:n-1] + "I"
	case i.Op == impl.OpIfInt:
		return s[:n-2]
	case i.Op == impl.OpGet:
		return s + u.Globals[i.A]
	case i.Op == impl.OpCall:
		sig := u.Funcs[i.A].Sig
		s = s[:n-len(impl.Params(sig))]
		if impl.Result(sig) != "V" {
			s += impl.Result(sig)
		}
		return s
	case i.Op >= impl.OpAdd && i.Op <= impl.OpXor && i.Op != impl.OpNeg:
		return s[:n-2] + kind
	}
	return s
}

// sketch is a graph whose nodes stand in the order in which they were made; those of gone blocks are gone, too.
type sketch struct {
	nodes  []impl.Node
	gone   []bool
	blocks []impl.Block
	left   []bool
}

func sketchOf(g impl.Graph) *sketch {
	s := &sketch{gone: make([]bool, len(g.Nodes)), left: make([]bool, len(g.Blocks))}
	for _, n := range g.Nodes {
		n.Args = slices.Clone(n.Args)
		s.nodes = append(s.nodes, n)
	}
	for _, b := range g.Blocks {
		b.Args, b.Next, b.Preds = slices.Clone(b.Args), slices.Clone(b.Next), slices.Clone(b.Preds)
		s.blocks = append(s.blocks, b)
	}
	return s
}

func (s *sketch) add(n impl.Node) int64 {
	s.nodes, s.gone = append(s.nodes, n), append(s.gone, false)
	return int64(len(s.nodes)) - 1
}

// replace takes a node away, for which another one stands.
func (s *sketch) replace(n, by int64) {
	s.gone[n] = true
	in := func(args []int64) {
		for k := range args {
			if args[k] == n {
				args[k] = by
			}
		}
	}
	for _, x := range s.nodes {
		in(x.Args)
	}
	for _, b := range s.blocks {
		in(b.Args)
	}
}

// preds tells Preds by Next.
func (s *sketch) preds() {
	for k := range s.blocks {
		s.blocks[k].Preds = nil
	}
	for from, b := range s.blocks {
		for _, to := range b.Next {
			if !s.left[from] {
				s.blocks[to].Preds = append(s.blocks[to].Preds, int64(from))
			}
		}
	}
}

// settlePhis says whether there was a phi to be taken away.
func (s *sketch) settlePhis() bool {
	some := false
	for more := true; more; {
		more = false
		for k, n := range s.nodes {
			if n.Op != impl.NodePhi || s.gone[k] {
				continue
			}
			others := slices.DeleteFunc(slices.Clone(n.Args), func(arg int64) bool { return arg == int64(k) })
			slices.Sort(others)
			if others = slices.Compact(others); len(others) == 1 {
				s.replace(int64(k), others[0])
				more, some = true, true
			}
		}
	}
	return some
}

// numbered gives the graph that is left.
func (s *sketch) numbered() impl.Graph {
	g := impl.Graph{}
	blocks, nodes := make([]int64, len(s.blocks)), make([]int64, len(s.nodes))
	order := []int{}
	for b := range s.blocks {
		if s.left[b] {
			continue
		}
		blocks[b] = int64(len(g.Blocks))
		g.Blocks = append(g.Blocks, s.blocks[b])
		for _, phis := range []bool{true, false} {
			for k, n := range s.nodes {
				if n.Block == int64(b) && !s.gone[k] && phis == (n.Op == impl.NodePhi) {
					nodes[k] = int64(len(order))
					order = append(order, k)
				}
			}
		}
	}
	in := func(list, numbers []int64) []int64 {
		out := []int64{}
		for _, k := range list {
			out = append(out, numbers[k])
		}
		return out
	}
	for _, k := range order {
		n := s.nodes[k]
		n.Block, n.Args = blocks[n.Block], in(n.Args, nodes)
		g.Nodes = append(g.Nodes, n)
	}
	for k, b := range g.Blocks {
		b.Args, b.Next, b.Preds = in(b.Args, nodes), in(b.Next, blocks), in(b.Preds, blocks)
		g.Blocks[k] = b
	}
	return g
}

// graphBuilt is what Compile has to answer of a right unit with level 0.
func graphBuilt(u impl.Unit, number int64) impl.Graph {
	f := u.Funcs[number]
	shapes, reached := unitShapes(u, f), reachedInUnit(f)
	leaders := []int{0}
	for at, i := range f.Code {
		if reached[at] && jumps(i) {
			leaders = append(leaders, waysBehind(i, at)...)
		}
	}
	slices.Sort(leaders)
	leaders = slices.Compact(leaders)
	s := &sketch{blocks: make([]impl.Block, len(leaders)+1), left: make([]bool, len(leaders)+1)}
	ends := make([][]int64, len(leaders)+1)
	s.blocks[0] = impl.Block{End: impl.EndGoto, Next: []int64{1}}
	ends[0] = make([]int64, f.Locals)
	for k, typ := range impl.Params(f.Sig) {
		ends[0][k] = s.add(impl.Node{Op: impl.NodeParam, Kind: impl.KindOf(typ), N: int64(k)})
	}
	opens := [][]int64{nil}
	for k, at := range leaders {
		open := []int64{}
		for place, shape := range shapes[at] {
			phi := int64(-1)
			if shape != '-' || place >= int(f.Locals) {
				phi = s.add(impl.Node{Op: impl.NodePhi, Kind: impl.KindOf(string(shape)), Block: int64(k) + 1})
			}
			open = append(open, phi)
		}
		opens = append(opens, open)
	}
	for k, at := range leaders {
		ends[k+1] = s.build(u, f, leaders, at, k+1, slices.Clone(opens[k+1]))
	}
	s.preds()
	for k, open := range opens {
		for place, phi := range open {
			if phi < 0 {
				continue
			}
			for _, from := range s.blocks[k].Preds {
				s.nodes[phi].Args = append(s.nodes[phi].Args, ends[from][place])
			}
		}
	}
	s.settlePhis()
	return s.numbered()
}

func reachedInUnit(f impl.Func) []bool {
	reached := make([]bool, len(f.Code))
	reached[0] = true
	for range f.Code {
		for at, i := range f.Code {
			if reached[at] {
				for _, to := range waysBehind(i, at) {
					reached[to] = true
				}
			}
		}
	}
	return reached
}

// build makes one block, and gives what places hold at its end.
func (s *sketch) build(u impl.Unit, f impl.Func, leaders []int, at, block int, places []int64) []int64 {
	b := &s.blocks[block]
	pop := func() int64 {
		n := places[len(places)-1]
		places = places[:len(places)-1]
		return n
	}
	toBlocks := func(list []int) []int64 {
		out := []int64{}
		for _, to := range list {
			out = append(out, int64(slices.Index(leaders, to))+1)
		}
		return out
	}
	for ; ; at++ {
		i := f.Code[at]
		if jumps(i) || i.Op == impl.OpReturn {
			b.End = map[int64]int64{impl.OpGoto: impl.EndGoto, impl.OpIf: impl.EndIf, impl.OpIfInt: impl.EndIf, impl.OpSwitch: impl.EndSwitch, impl.OpReturn: impl.EndReturn}[i.Op]
			b.Next = toBlocks(waysBehind(i, at))
			if b.End != impl.EndGoto && b.End != impl.EndReturn {
				b.N = i.B
			}
			for range map[int64]int64{impl.OpIf: 1, impl.OpIfInt: 2, impl.OpSwitch: 1, impl.OpReturn: min(i.Kind, 1)}[i.Op] {
				b.Args = append([]int64{pop()}, b.Args...)
			}
			return places
		}
		places = s.place(u, i, block, places)
		if slices.Contains(leaders, at+1) {
			b.End, b.Next = impl.EndGoto, toBlocks([]int{at + 1})
			return places
		}
	}
}

// place does an instruction that is no end, and gives the places behind it.
func (s *sketch) place(u impl.Unit, i impl.Ins, block int, places []int64) []int64 {
	top := len(places)
	node := func(op, kind, n int64, count int) int64 {
		args := slices.Clone(places[top-count : top])
		return s.add(impl.Node{Op: op, Kind: kind, N: n, Block: int64(block), Args: args})
	}
	switch i.Op {
	case impl.OpConst:
		return append(places, node(impl.NodeConst, i.Kind, i.A, 0))
	case impl.OpLoad:
		return append(places, places[i.A])
	case impl.OpStore:
		places[i.A] = places[top-1]
		return places[:top-1]
	case impl.OpInc:
		one := node(impl.NodeConst, impl.KindInt, i.B, 0)
		sum := node(impl.NodeMath, impl.KindInt, impl.OpAdd, 0)
		s.nodes[sum].Args = []int64{places[i.A], one}
		places[i.A] = sum
		return places
	case impl.OpPop:
		return places[:top-1]
	case impl.OpDup:
		return append(places, places[top-1])
	case impl.OpSwap:
		return append(places[:top-2], places[top-1], places[top-2])
	case impl.OpUnder:
		return append(places[:top-2], places[top-1], places[top-2], places[top-1])
	case impl.OpNeg:
		return append(places[:top-1], node(impl.NodeMath, i.Kind, i.Op, 1))
	case impl.OpCmp:
		return append(places[:top-2], node(impl.NodeCmp, impl.KindInt, 0, 2))
	case impl.OpConv:
		return append(places[:top-1], node(impl.NodeConv, map[bool]int64{true: 2, false: 1}[i.A == 2], i.A, 1))
	case impl.OpGet:
		return append(places, node(impl.NodeGet, impl.KindOf(u.Globals[i.A]), i.A, 0))
	case impl.OpPut:
		node(impl.NodePut, 0, i.A, 1)
		return places[:top-1]
	case impl.OpCall:
		if i.A < 0 {
			node(impl.NodePrint, 0, 0, 1)
			return places[:top-1]
		}
		sig := u.Funcs[i.A].Sig
		count := len(impl.Params(sig))
		call := node(impl.NodeCall, impl.KindOf(impl.Result(sig)), i.A, count)
		if places = places[:top-count]; impl.Result(sig) != "V" {
			places = append(places, call)
		}
		return places
	}
	return append(places[:top-2], node(impl.NodeMath, i.Kind, i.Op, 2))
}

// graphFolded, graphShared, graphSwept and graphFilled give a graph that is numbered anew.
func graphFolded(g impl.Graph) impl.Graph {
	s := sketchOf(g)
	for more := true; more; {
		more = false
		for k := range s.nodes {
			if !s.gone[k] && s.foldNode(int64(k)) {
				more = true
			}
		}
		for k := range s.blocks {
			if !s.left[k] && s.foldEnd(k) {
				more = true
			}
		}
		if s.leave() {
			more = true
		}
		if s.settlePhis() {
			more = true
		}
	}
	return s.numbered()
}

func (s *sketch) isConst(n int64) bool { return s.nodes[n].Op == impl.NodeConst }

func (s *sketch) is(n, number int64) bool { return s.isConst(n) && s.nodes[n].N == number }

func (s *sketch) foldNode(k int64) bool {
	n := &s.nodes[k]
	if n.Op != impl.NodeMath && n.Op != impl.NodeCmp && n.Op != impl.NodeConv {
		return false
	}
	numbers := []int64{}
	for _, arg := range n.Args {
		if s.isConst(arg) {
			numbers = append(numbers, s.nodes[arg].N)
		}
	}
	if len(numbers) == len(n.Args) {
		if number, ok := nodeWorth(*n, s.nodes[n.Args[0]].Kind, numbers); ok {
			*n = impl.Node{Op: impl.NodeConst, Kind: n.Kind, N: number, Block: n.Block}
			return true
		}
	}
	if n.Op != impl.NodeMath || len(n.Args) < 2 {
		return false
	}
	a, b, both := n.Args[0], n.Args[1], n.N == impl.OpAdd || n.N == impl.OpMul
	neutral, some := map[int64]int64{impl.OpAdd: 0, impl.OpSub: 0, impl.OpShl: 0, impl.OpShr: 0, impl.OpUshr: 0, impl.OpMul: 1}[n.N]
	switch {
	case some && s.is(b, neutral):
		s.replace(k, a)
	case some && both && s.is(a, neutral):
		s.replace(k, b)
	case n.N == impl.OpMul && (s.is(a, 0) || s.is(b, 0)):
		*n = impl.Node{Op: impl.NodeConst, Kind: n.Kind, Block: n.Block}
	default:
		return false
	}
	return true
}

// nodeWorth works a node out by the numbers of its Args; from is the kind of the first one.
func nodeWorth(n impl.Node, from int64, args []int64) (int64, bool) {
	s := &unitScene{stack: slices.Clone(args)}
	i := impl.Ins{Op: impl.OpCmp, Kind: 2}
	switch n.Op {
	case impl.NodeMath:
		i = impl.Ins{Op: n.N, Kind: n.Kind}
	case impl.NodeConv:
		i = impl.Ins{Op: impl.OpConv, Kind: from, A: n.N}
	}
	ok := unitReckoned(s, i)
	return s.stack[0], ok
}

// wayGone is the place in Next of where a block goes, by the numbers of its Args.
func wayGone(b impl.Block, args []int64) int {
	i := impl.Ins{Op: impl.OpSwitch, B: b.N, A: 0}
	switch {
	case b.End == impl.EndGoto:
		return 0
	case b.End == impl.EndIf:
		i.Op = map[int]int64{1: impl.OpIf, 2: impl.OpIfInt}[len(args)]
	}
	for k := range b.Next[1:] {
		i.Table = append(i.Table, int64(k)+1)
	}
	s := &unitScene{stack: slices.Clone(args), pc: 1}
	unitJumped(s, i)
	return int(s.pc)
}

func (s *sketch) foldEnd(k int) bool {
	b := &s.blocks[k]
	numbers := []int64{}
	for _, arg := range b.Args {
		if !s.isConst(arg) {
			return false
		}
		numbers = append(numbers, s.nodes[arg].N)
	}
	if b.End != impl.EndIf && b.End != impl.EndSwitch {
		return false
	}
	to := b.Next[wayGone(*b, numbers)]
	b.End, b.N, b.Args, b.Next = impl.EndGoto, 0, nil, []int64{to}
	return true
}

// leave takes blocks away to which no way leads, and Args of phis, by the blocks from which they come.
func (s *sketch) leave() bool {
	entered, some := s.without(-1), false
	for k := range s.blocks {
		if !entered[k] && !s.left[k] {
			s.left[k], some = true, true
		}
	}
	before := make([][]int64, len(s.blocks))
	for k, b := range s.blocks {
		before[k] = b.Preds
	}
	s.preds()
	for k, n := range s.nodes {
		s.gone[k] = s.gone[k] || s.left[n.Block]
		if n.Op != impl.NodePhi || s.gone[k] {
			continue
		}
		args := []int64{}
		for _, from := range s.blocks[n.Block].Preds {
			args = append(args, n.Args[slices.Index(before[n.Block], from)])
		}
		s.nodes[k].Args = args
	}
	return some
}

// without tells which blocks are entered on ways that have not that one.
func (s *sketch) without(barred int) []bool {
	entered := make([]bool, len(s.blocks))
	entered[0] = barred != 0
	for more := true; more; {
		more = false
		for k, b := range s.blocks {
			for _, to := range b.Next {
				if entered[k] && int(to) != barred && !entered[to] {
					entered[to], more = true, true
				}
			}
		}
	}
	return entered
}

func graphShared(g impl.Graph) impl.Graph {
	s := sketchOf(g)
	ahead := make([][]bool, len(s.blocks))
	for k := range s.blocks {
		ahead[k] = s.without(k)
	}
	for k, n := range s.nodes {
		if n.Op != impl.NodeConst && n.Op != impl.NodeMath && n.Op != impl.NodeCmp && n.Op != impl.NodeConv {
			continue
		}
		for j, m := range s.nodes[:k] {
			if !s.gone[j] && m.Op == n.Op && m.Kind == n.Kind && m.N == n.N && slices.Equal(m.Args, n.Args) && (m.Block == n.Block || !ahead[m.Block][n.Block]) {
				s.replace(int64(k), int64(j))
				break
			}
		}
	}
	return s.numbered()
}

func graphSwept(g impl.Graph) impl.Graph {
	s := sketchOf(g)
	for k := range s.gone {
		s.gone[k] = true
	}
	need := func(list []int64) bool {
		some := false
		for _, n := range list {
			some = some || s.gone[n]
			s.gone[n] = false
		}
		return some
	}
	for _, b := range s.blocks {
		need(b.Args)
	}
	for more := true; more; {
		more = false
		for k, n := range s.nodes {
			mayEnd := n.Op == impl.NodeMath && (n.N == impl.OpDiv || n.N == impl.OpRem) && (!s.isConst(n.Args[1]) || s.is(n.Args[1], 0))
			if s.gone[k] && (mayEnd || slices.Contains([]int64{impl.NodeParam, impl.NodePut, impl.NodeCall, impl.NodePrint}, n.Op)) {
				s.gone[k], more = false, true
			}
			if !s.gone[k] && need(n.Args) {
				more = true
			}
		}
	}
	return s.numbered()
}

func isSmallGraph(g impl.Graph) bool {
	calls := slices.ContainsFunc(g.Nodes, func(n impl.Node) bool { return n.Op == impl.NodeCall })
	return len(g.Blocks) == 2 && g.Blocks[1].End == impl.EndReturn && !calls && len(g.Nodes) <= 20
}

func graphFilled(u impl.Unit, g impl.Graph) impl.Graph {
	s := sketchOf(g)
	places := []float64{}
	for k := range s.nodes {
		places = append(places, float64(k))
	}
	for k := range g.Nodes {
		n := s.nodes[k]
		if n.Op != impl.NodeCall {
			continue
		}
		small := graphBuilt(u, n.N)
		if !isSmallGraph(small) {
			continue
		}
		copies := []int64{}
		for j, m := range small.Nodes {
			if m.Op == impl.NodeParam {
				copies = append(copies, n.Args[m.N])
				continue
			}
			args := []int64{}
			for _, arg := range m.Args {
				args = append(args, copies[arg])
			}
			m.Block, m.Args = n.Block, args
			copies = append(copies, s.add(m))
			places = append(places, float64(k)+float64(j+1)/100)
		}
		s.gone[k] = true
		for _, given := range small.Blocks[1].Args {
			s.replace(int64(k), copies[given])
		}
	}
	return s.inOrder(places).numbered()
}

// inOrder lays the nodes by such places.
func (s *sketch) inOrder(places []float64) *sketch {
	order := []int64{}
	for k := range s.nodes {
		order = append(order, int64(k))
	}
	slices.SortStableFunc(order, func(a, b int64) int {
		if places[a] < places[b] {
			return -1
		}
		return 1
	})
	numbers := make([]int64, len(order))
	out := &sketch{blocks: s.blocks, left: s.left}
	for k, n := range order {
		numbers[n] = int64(k)
		out.nodes, out.gone = append(out.nodes, s.nodes[n]), append(out.gone, s.gone[n])
	}
	in := func(args []int64) {
		for k := range args {
			args[k] = numbers[args[k]]
		}
	}
	for _, n := range out.nodes {
		in(n.Args)
	}
	for _, b := range out.blocks {
		in(b.Args)
	}
	return out
}

// graphsWorked are the graphs of a function of a right unit, by level.
func graphsWorked(u impl.Unit, f int64) [5]impl.Graph {
	built := graphBuilt(u, f)
	folded := graphFolded(built)
	shared := graphShared(folded)
	return [5]impl.Graph{built, folded, shared, graphSwept(shared), graphSwept(graphShared(graphFolded(graphFilled(u, built))))}
}

// graphScene is a run by graphs: of those of a level, by functions.
type graphScene struct {
	graphs map[int64]impl.Graph
	make   func(f int64) impl.Graph
	fuel   int64
	depth  int
	out    impl.UnitOut
}

// graphPlayed is what GraphRun has to answer by such graphs, with arguments and fuel that can be.
func graphPlayed(u impl.Unit, graph func(f int64) impl.Graph, f int64, args []int64, fuel int64) impl.UnitOut {
	s := &graphScene{graphs: map[int64]impl.Graph{}, make: graph, fuel: fuel, out: impl.UnitOut{Globals: make([]int64, len(u.Globals))}}
	n, code := s.play(f, args)
	s.out.N, s.out.Code = n, code
	return s.out
}

// play gives what comes back, and the code with which the run has ended, if it has.
func (s *graphScene) play(f int64, args []int64) (int64, int64) {
	if s.depth++; s.depth > 100 {
		return 0, impl.UnitDeep
	}
	g, ok := s.graphs[f]
	if !ok {
		g = s.make(f)
		s.graphs[f] = g
	}
	values := map[int64]int64{}
	of := func(list []int64) []int64 {
		out := []int64{}
		for _, n := range list {
			out = append(out, values[n])
		}
		return out
	}
	for at, arg := int64(0), 0; ; {
		if s.out.Steps == s.fuel {
			return 0, impl.UnitFuel
		}
		s.out.Steps++
		phis := map[int64]int64{}
		for k, n := range g.Nodes {
			if n.Block == at && n.Op == impl.NodePhi {
				phis[int64(k)] = values[n.Args[arg]]
			}
		}
		for k, n := range phis {
			values[k] = n
		}
		for k, n := range g.Nodes {
			if n.Block != at || n.Op == impl.NodePhi {
				continue
			}
			number, code := s.node(g, n, of(n.Args), args)
			if code != 0 {
				return 0, code
			}
			values[int64(k)] = number
		}
		b := g.Blocks[at]
		if b.End == impl.EndReturn {
			s.depth--
			return append(of(b.Args), 0)[0], 0
		}
		way := wayGone(b, of(b.Args))
		to := b.Next[way]
		arg = 0
		for from, other := range g.Blocks[:at+1] {
			for k, next := range other.Next {
				if next == to && (from < int(at) || k < way) {
					arg++
				}
			}
		}
		at = to
	}
}

func (s *graphScene) node(g impl.Graph, n impl.Node, args, params []int64) (int64, int64) {
	switch n.Op {
	case impl.NodeParam:
		return params[n.N], 0
	case impl.NodeConst:
		return n.N, 0
	case impl.NodeGet:
		return s.out.Globals[n.N], 0
	case impl.NodePut:
		s.out.Globals[n.N] = args[0]
		return 0, 0
	case impl.NodePrint:
		s.out.Trace = append(s.out.Trace, fmt.Sprint(args[0]))
		return 0, 0
	case impl.NodeCall:
		return s.play(n.N, args)
	}
	number, ok := nodeWorth(n, g.Nodes[n.Args[0]].Kind, args)
	if !ok {
		return 0, impl.UnitArith
	}
	return number, 0
}
