package tests

import (
	"fmt"
	"strings"
	"testing"

	"loop.example/g00032/impl"
)

var (
	graphKinds = []string{"", " I", " J"}
	graphOps   = []string{"?", "param", "const", "phi", "math", "cmp", "conv", "get", "put", "call", "print"}
	mathOps    = []string{"add", "sub", "mul", "div", "rem", "neg", "shl", "shr", "ushr", "and", "or", "xor"}
	graphEnds  = []string{"?", "goto", "if", "switch", "return"}
	graphConds = []string{"?", "eq", "ne", "lt", "ge", "gt", "le"}
)

// shownNode has all that a node has but its block: math by its operation, with its N where it may have one, or where it should have none.
func shownNode(n impl.Node) string {
	out := ""
	switch n.Op {
	case impl.NodeMath:
		out = mathOps[n.N-impl.OpAdd] + graphKinds[n.Kind]
	case impl.NodePhi, impl.NodeCmp, impl.NodePrint:
		out = graphOps[n.Op] + graphKinds[n.Kind]
		if n.N != 0 {
			out += fmt.Sprint(" N ", n.N)
		}
	case impl.NodeParam, impl.NodeConst, impl.NodeGet, impl.NodePut, impl.NodeCall:
		out = graphOps[n.Op] + graphKinds[n.Kind] + " " + fmt.Sprint(n.N)
	case impl.NodeConv:
		out = graphOps[n.Op] + graphKinds[n.Kind] + " " + []string{"", "I", "J", "", "", "B", "C", "S"}[n.N]
	default:
		out = fmt.Sprint(n)
	}
	if len(n.Args) > 0 {
		out += ":" + shownList(n.Args)
	}
	return out
}

func shownList(list []int64) string {
	out := ""
	for _, n := range list {
		out += fmt.Sprint(" ", n)
	}
	return out
}

// shownGraph has a line for each block: from where it is entered, its nodes, each behind its number, and how it ends.
func shownGraph(g impl.Graph) string {
	lines := []string{}
	for k, b := range g.Blocks {
		line := fmt.Sprintf("%d <%s;", k, shownList(b.Preds))
		for m, n := range g.Nodes {
			if n.Block == int64(k) {
				line += fmt.Sprintf(" %d %s;", m, shownNode(n))
			}
		}
		line += " " + graphEnds[b.End]
		switch {
		case b.End == impl.EndIf:
			line += " " + graphConds[b.N]
		case b.End == impl.EndSwitch || b.N != 0:
			line += fmt.Sprint(" ", b.N)
		}
		if len(b.Args) > 0 {
			line += ":" + shownList(b.Args)
		}
		if len(b.Next) > 0 {
			line += " >" + shownList(b.Next)
		}
		if b.At != 0 || len(b.State) > 0 {
			line += fmt.Sprint(" at ", b.At, b.State)
		}
		lines = append(lines, line)
	}
	return strings.Join(lines, "\n")
}

// graphIs looks for the graph of a unit's first function.
func graphIs(t *testing.T, why string, u impl.Unit, level int64, want ...string) {
	t.Helper()
	g := impl.Compile(u, 0, level)
	if got := shownGraph(g); got != strings.Join(want, "\n") {
		t.Errorf("%s:\n%s\nnot\n%s", why, got, strings.Join(want, "\n"))
	}
	if len(g.Blocks) > 0 {
		testGraphForm(t, g)
	}
}

func TestGraphsOfStraightFunctions(t *testing.T) {
	graphIs(t, "nothing", unitTold("", "()V 0 / return"), 0, "0 <; goto > 1", "1 < 0; return")
	graphIs(t, "I", unitTold("", "()I 0 / const I -2147483648 / return I"), 0, "0 <; goto > 1", "1 < 0; 0 const I -2147483648; return: 0")
	graphIs(t, "J", unitTold("", "()J 0 / const J 9223372036854775807 / return J"), 0, "0 <; goto > 1", "1 < 0; 0 const J 9223372036854775807; return: 0")
	graphIs(t, "parameters", unitTold("", "(I,J,I)J 3 / load J 1 / load I 2 / conv I J / sub J / return J"), 0,
		"0 <; 0 param I 0; 1 param J 1; 2 param I 2; goto > 1",
		"1 < 0; 3 conv J J: 2; 4 sub J: 1 3; return: 4")
	graphIs(t, "as many as there may be, none in use", unitTold("", "(J,I,J,I,J,I,J,I)V 40 / return"), 0,
		"0 <; 0 param J 0; 1 param I 1; 2 param J 2; 3 param I 3; 4 param J 4; 5 param I 5; 6 param J 6; 7 param I 7; goto > 1",
		"1 < 0; return")
	graphIs(t, "one comes back", unitTold("", "(J,J)J 2 / load J 1 / return J"), 0, "0 <; 0 param J 0; 1 param J 1; goto > 1", "1 < 0; return: 1")
	graphIs(t, "what is moved", unitTold("", "(I,J)J 2 / load I 0 / load J 1 / swap / conv I J / under / sub J / dup / mul J / add J / load I 0 / pop / return J"), 0,
		"0 <; 0 param I 0; 1 param J 1; goto > 1",
		"1 < 0; 2 conv J J: 0; 3 sub J: 1 2; 4 mul J: 3 3; 5 add J: 2 4; return: 5")
	graphIs(t, "OpInc", unitTold("", "(I)I 1 / inc 0 32767 / inc 0 -32768 / load I 0 / return I"), 0,
		"0 <; 0 param I 0; goto > 1",
		"1 < 0; 1 const I 32767; 2 add I: 0 1; 3 const I -32768; 4 add I: 2 3; return: 4")
	graphIs(t, "a local that is put elsewhere", unitTold("", "(I)I 3 / load I 0 / store I 2 / inc 2 1 / load I 0 / load I 2 / sub I / return I"), 0,
		"0 <; 0 param I 0; goto > 1",
		"1 < 0; 1 const I 1; 2 add I: 0 1; 3 sub I: 0 2; return: 3")
	graphIs(t, "globals and lines", unitTold("I J", "(I,J)V 2 / load J 1 / put 1 / get 0 / load I 0 / add I / put 0 / get 1 / call -2 / get 0 / call -1 / return"), 0,
		"0 <; 0 param I 0; 1 param J 1; goto > 1",
		"1 < 0; 2 put 1: 1; 3 get I 0; 4 add I: 3 0; 5 put 0: 4; 6 get J 1; 7 print: 6; 8 get I 0; 9 print: 8; return")
	graphIs(t, "calls", unitTold("", "(I,J)J 2 / load I 0 / load J 1 / call 0 / load I 0 / call 1 / call 2 / call 3 / pop / return J", "(I)V 1 / return", "()V 0 / return", "()I 0 / const I 1 / return I"), 0,
		"0 <; 0 param I 0; 1 param J 1; goto > 1",
		"1 < 0; 2 call J 0: 0 1; 3 call 1: 0; 4 call 2; 5 call I 3; return: 2")
	graphIs(t, "conversions", unitTold("", "(I,J)V 2 / load I 0 / conv I B / conv I C / conv I S / conv I J / load J 1 / cmp J / conv I J / conv J I / pop / return"), 0,
		"0 <; 0 param I 0; 1 param J 1; goto > 1",
		"1 < 0; 2 conv I B: 0; 3 conv I C: 2; 4 conv I S: 3; 5 conv J J: 4; 6 cmp I: 5 1; 7 conv J J: 6; 8 conv I I: 7; return")
}

func TestGraphsOfEachOperation(t *testing.T) {
	for k, op := range mathOps {
		for _, kind := range []string{"I", "J"} {
			second := kind
			if strings.Contains(op, "sh") {
				second = "I"
			}
			u := unitTold("", fmt.Sprintf("(%s,%s)%s 2 / load %s 0 / load %s 1 / %s %s / return %s", kind, second, kind, kind, second, op, kind, kind))
			want := fmt.Sprintf("1 < 0; 2 %s %s: 0 1; return: 2", op, kind)
			if op == "neg" {
				u = unitTold("", fmt.Sprintf("(%s,%s)%s 2 / load %s 0 / neg %s / return %s", kind, second, kind, kind, kind, kind))
				want = fmt.Sprintf("1 < 0; 2 neg %s: 0; return: 2", kind)
			}
			graphIs(t, op, u, 0, fmt.Sprintf("0 <; 0 param %s 0; 1 param %s 1; goto > 1", kind, second), want)
			same(t, op, impl.Compile(u, 0, 0).Nodes[2].N, impl.OpAdd+int64(k))
		}
	}
}

func TestGraphsThatBranch(t *testing.T) {
	for _, x := range graphConds[1:] {
		graphIs(t, x, unitTold("", "(I,I)I 2 / load I 0 / if "+x+" on / const I 5 / return I / on: / load I 1 / load I 0 / ifint "+x+" out / const I 6 / return I / out: / load I 1 / return I"), 0,
			"0 <; 0 param I 0; 1 param I 1; goto > 1",
			"1 < 0; if "+x+": 0 > 3 2",
			"2 < 1; 2 const I 5; return: 2",
			"3 < 1; if "+x+": 1 0 > 5 4",
			"4 < 3; 3 const I 6; return: 3",
			"5 < 3; return: 1")
	}
	graphIs(t, "OpGoto", unitTold("", "(I)I 1 / goto b / a: / load I 0 / return I / b: / inc 0 -7 / goto a"), 0,
		"0 <; 0 param I 0; goto > 1", "1 < 0; goto > 3", "2 < 3; return: 2", "3 < 1; 1 const I -7; 2 add I: 0 1; goto > 2")
	graphIs(t, "both ways alike", unitTold("", "(I)I 1 / load I 0 / if eq a / a: / load I 0 / return I"), 0,
		"0 <; 0 param I 0; goto > 1", "1 < 0; if eq: 0 > 2 2", "2 < 1 1; return: 0")
	graphIs(t, "OpSwitch", unitTold("", "(I)I 1 / load I 0 / switch -3 other a b a other / a: / const I 1 / return I / other: / const I 2 / return I / b: / load I 0 / return I"), 0,
		"0 <; 0 param I 0; goto > 1",
		"1 < 0; switch -3: 0 > 3 2 4 2 3",
		"2 < 1 1; 1 const I 1; return: 1",
		"3 < 1 1; 2 const I 2; return: 2",
		"4 < 1; return: 0")
	graphIs(t, "OpSwitch, all ways alike", unitTold("", "(I)I 1 / load I 0 / load I 0 / switch 2147483647 a a a / a: / return I"), 0,
		"0 <; 0 param I 0; goto > 1", "1 < 0; switch 2147483647: 0 > 2 2 2", "2 < 1 1 1; return: 0")
	long := strings.Repeat(" a", impl.MaxTable)
	graphIs(t, "OpSwitch, as many as there may be", unitTold("", "(I)V 1 / load I 0 / switch -2147483648 b"+long+" / a: / inc 0 1 / b: / return"), 0,
		"0 <; 0 param I 0; goto > 1", "1 < 0; switch -2147483648: 0 > 3"+strings.Repeat(" 2", impl.MaxTable),
		"2 <"+strings.Repeat(" 1", impl.MaxTable)+"; 1 const I 1; 2 add I: 0 1; goto > 3", "3 < 1 2; 3 phi I: 0 2; return")
	graphIs(t, "what is not reached", unitTold("", "()I 0 / goto on / pop / const I 3 / if eq 1 / goto 2 / on: / const I 4 / return I / goto on"), 0,
		"0 <; goto > 1", "1 < 0; goto > 2", "2 < 1; 0 const I 4; return: 0")
	graphIs(t, "leaders in a row", unitTold("", "(I)V 1 / load I 0 / switch 0 a b c d / a: / inc 0 1 / b: / inc 0 1 / c: / inc 0 1 / d: / return"), 0,
		"0 <; 0 param I 0; goto > 1",
		"1 < 0; switch 0: 0 > 2 3 4 5",
		"2 < 1; 1 const I 1; 2 add I: 0 1; goto > 3",
		"3 < 1 2; 3 phi I: 0 2; 4 const I 1; 5 add I: 3 4; goto > 4",
		"4 < 1 3; 6 phi I: 0 5; 7 const I 1; 8 add I: 6 7; goto > 5",
		"5 < 1 4; 9 phi I: 0 8; return")
}

func TestGraphsThatGoRound(t *testing.T) {
	graphIs(t, "a sum", unitTold("I", "(I)I 2 / const I 0 / store I 1 / again: / load I 0 / if le out / load I 1 / load I 0 / add I / store I 1 / inc 0 -1 / goto again / out: / load I 1 / return I"), 0,
		"0 <; 0 param I 0; goto > 1",
		"1 < 0; 1 const I 0; goto > 2",
		"2 < 1 3; 2 phi I: 0 6; 3 phi I: 1 4; if le: 2 > 4 3",
		"3 < 2; 4 add I: 3 2; 5 const I -1; 6 add I: 2 5; goto > 2",
		"4 < 2; return: 3")
	graphIs(t, "a leader that is 0", unitTold("", "(I)V 1 / again: / inc 0 -1 / load I 0 / if gt again / return"), 0,
		"0 <; 0 param I 0; goto > 1", "1 < 0 1; 1 phi I: 0 3; 2 const I -1; 3 add I: 1 2; if gt: 3 > 1 2", "2 < 1; return")
	graphIs(t, "a leader that is 0, and nothing changes", unitTold("", "(I)V 1 / again: / load I 0 / if gt again / return"), 0,
		"0 <; 0 param I 0; goto > 1", "1 < 0 1; if gt: 0 > 1 2", "2 < 1; return")
	graphIs(t, "for ever", unitTold("", "()V 0 / again: / goto again"), 0, "0 <; goto > 1", "1 < 0 1; goto > 1")
	graphIs(t, "two change places", unitTold("", "(I,I,I)I 4 / a: / load I 2 / if le out / load I 0 / store I 3 / load I 1 / store I 0 / load I 3 / store I 1 / inc 2 -1 / goto a / out: / load I 0 / load I 1 / sub I / return I"), 0,
		"0 <; 0 param I 0; 1 param I 1; 2 param I 2; goto > 1",
		"1 < 0 2; 3 phi I: 0 4; 4 phi I: 1 3; 5 phi I: 2 7; if le: 5 > 3 2",
		"2 < 1; 6 const I -1; 7 add I: 5 6; goto > 1",
		"3 < 1; 8 sub I: 3 4; return: 8")
}

func TestPhis(t *testing.T) {
	graphIs(t, "of locals that have I or J, and of such as have not", unitTold("", "(I,J)J 4 / load I 0 / if eq a / const I 1 / store I 2 / const J 5 / store J 3 / goto b / a: / const J 2 / store J 2 / const J 6 / store J 3 / b: / load J 3 / return J"), 0,
		"0 <; 0 param I 0; 1 param J 1; goto > 1",
		"1 < 0; if eq: 0 > 3 2",
		"2 < 1; 2 const I 1; 3 const J 5; goto > 4",
		"3 < 1; 4 const J 2; 5 const J 6; goto > 4",
		"4 < 2 3; 6 phi J: 3 5; return: 6")
	graphIs(t, "of a local that one way alone has", unitTold("", "(I)I 2 / load I 0 / if eq a / const I 1 / store I 1 / a: / const I 3 / store I 1 / load I 1 / return I"), 0,
		"0 <; 0 param I 0; goto > 1", "1 < 0; if eq: 0 > 3 2", "2 < 1; 1 const I 1; goto > 3", "3 < 1 2; 2 const I 3; return: 2")
	graphIs(t, "of one local of two", unitTold("", "(I,J)J 3 / load I 0 / if eq a / load J 1 / conv J I / store I 0 / a: / load I 0 / conv I J / load J 1 / add J / return J"), 0,
		"0 <; 0 param I 0; 1 param J 1; goto > 1",
		"1 < 0; if eq: 0 > 3 2",
		"2 < 1; 2 conv I I: 1; goto > 3",
		"3 < 1 2; 3 phi I: 0 2; 4 conv J J: 3; 5 add J: 4 1; return: 5")
	graphIs(t, "of places of the stack", unitTold("", "(I,J)J 2 / load J 1 / load I 0 / load I 0 / if eq a / neg I / goto b / a: / const I 3 / add I / b: / conv I J / add J / return J"), 0,
		"0 <; 0 param I 0; 1 param J 1; goto > 1",
		"1 < 0; if eq: 0 > 3 2",
		"2 < 1; 2 neg I: 0; goto > 4",
		"3 < 1; 3 const I 3; 4 add I: 0 3; goto > 4",
		"4 < 2 3; 5 phi I: 2 4; 6 conv J J: 5; 7 add J: 1 6; return: 7")
	graphIs(t, "of locals, then of the stack from the bottom", unitTold("", "(I,J)J 2 / load I 0 / if eq a / const J 1 / const I 2 / inc 0 1 / const J 3 / store J 1 / goto b / a: / const J 4 / const I 5 / b: / conv I J / add J / load J 1 / add J / load I 0 / conv I J / add J / return J"), 0,
		"0 <; 0 param I 0; 1 param J 1; goto > 1",
		"1 < 0; if eq: 0 > 3 2",
		"2 < 1; 2 const J 1; 3 const I 2; 4 const I 1; 5 add I: 0 4; 6 const J 3; goto > 4",
		"3 < 1; 7 const J 4; 8 const I 5; goto > 4",
		"4 < 2 3; 9 phi I: 5 0; 10 phi J: 6 1; 11 phi J: 2 7; 12 phi I: 3 8; 13 conv J J: 12; 14 add J: 11 13; 15 add J: 14 10; 16 conv J J: 9; 17 add J: 15 16; return: 17")
	graphIs(t, "all of whose Args are one", unitTold("", "(I,J)J 2 / load J 1 / load I 0 / if eq a / goto b / a: / b: / return J"), 0,
		"0 <; 0 param I 0; 1 param J 1; goto > 1", "1 < 0; if eq: 0 > 3 2", "2 < 1; goto > 3", "3 < 1 2; return: 1")
	graphIs(t, "two alike numbers are not one node", unitTold("", "(I)I 1 / load I 0 / if eq a / const I 1 / goto b / a: / const I 1 / b: / return I"), 0,
		"0 <; 0 param I 0; goto > 1", "1 < 0; if eq: 0 > 3 2", "2 < 1; 1 const I 1; goto > 4", "3 < 1; 2 const I 1; goto > 4", "4 < 2 3; 3 phi I: 1 2; return: 3")
	graphIs(t, "in a row", unitTold("", "(I,J)J 2 / a: / load I 0 / if eq b / inc 0 1 / b: / load I 0 / if ne c / goto a / c: / load I 0 / if lt d / goto a / d: / load J 1 / return J"), 0,
		"0 <; 0 param I 0; 1 param J 1; goto > 1",
		"1 < 0 4 6; 2 phi I: 0 5 5; if eq: 2 > 3 2",
		"2 < 1; 3 const I 1; 4 add I: 2 3; goto > 3",
		"3 < 1 2; 5 phi I: 2 4; if ne: 5 > 5 4",
		"4 < 3; goto > 1",
		"5 < 3; if lt: 5 > 7 6",
		"6 < 5; goto > 1",
		"7 < 5; return: 1")
	graphIs(t, "in a ring", unitTold("", "(I,I)I 3 / const I 1 / store I 2 / a: / load I 1 / if eq out / b: / inc 1 -1 / load I 0 / if lt a / load I 1 / if gt b / goto a / out: / load I 0 / load I 2 / add I / return I"), 0,
		"0 <; 0 param I 0; 1 param I 1; goto > 1",
		"1 < 0; 2 const I 1; goto > 2",
		"2 < 1 3 5; 3 phi I: 1 6 6; if eq: 3 > 6 3",
		"3 < 2 4; 4 phi I: 3 6; 5 const I -1; 6 add I: 4 5; if lt: 0 > 2 4",
		"4 < 3; if gt: 6 > 3 5",
		"5 < 4; goto > 2",
		"6 < 2; 7 add I: 0 2; return: 7")
	graphIs(t, "of a block that comes ahead of what it has", unitTold("", "(I)I 1 / goto b / a: / load I 0 / const I 2 / mul I / return I / b: / load I 0 / const I 1 / add I / store I 0 / load I 0 / if ne a / goto a"), 0,
		"0 <; 0 param I 0; goto > 1",
		"1 < 0; goto > 3",
		"2 < 3 4; 1 const I 2; 2 mul I: 4 1; return: 2",
		"3 < 1; 3 const I 1; 4 add I: 0 3; if ne: 4 > 2 4",
		"4 < 3; goto > 2")
}

func TestNoGraph(t *testing.T) {
	u := unitTold("I", "(I)I 1 / load I 0 / return I", "()V 0 / return")
	for _, level := range []int64{0, 1, 2, 3, 4} {
		for _, f := range []int64{minLong, -2, -1, 2, 3, 1 << 32, maxLong} {
			same(t, "no function", impl.Compile(u, f, level), impl.Graph{})
			same(t, "no functions", impl.Compile(impl.Unit{}, f, level), impl.Graph{})
		}
		same(t, "no functions", impl.Compile(impl.Unit{}, 0, level), impl.Graph{})
		same(t, "the first", len(impl.Compile(u, 0, level).Blocks), 2)
		same(t, "the last", len(impl.Compile(u, 1, level).Blocks), 2)
		for _, wrong := range []impl.Unit{unitTold("D", "()V 0 / return"), unitTold("", "()V 0 / return", "()V 0 / pop / return"), unitTold("", "()V 0 / return", "()V 0 / call 2 / return"), {Funcs: []impl.Func{u.Funcs[1], {Sig: "(D)V", Locals: 1, Code: u.Funcs[1].Code}}}, {Funcs: []impl.Func{u.Funcs[1], {Sig: "(I)V", Code: u.Funcs[1].Code}}}, {Funcs: []impl.Func{u.Funcs[1], {Sig: "()V"}}}} {
			same(t, "a unit that is not right", impl.Compile(wrong, 0, level), impl.Graph{})
		}
	}
	for _, level := range []int64{minLong, -2, -1, 5, 6, 1 << 32, maxLong} {
		same(t, "no level", impl.Compile(u, 0, level), impl.Graph{})
		same(t, "no level", impl.GraphRun(u, level, 0, []int64{1}, 100), impl.UnitOut{Code: impl.UnitArgs})
	}
}
