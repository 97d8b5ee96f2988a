package tests

import (
	"fmt"
	"strings"
	"testing"

	"loop.example/g00032/impl"
)

func TestShares(t *testing.T) {
	graphIs(t, "in one block, of the same args in the same order", unitTold("", "(I,I)I 2 / load I 0 / load I 1 / add I / load I 0 / load I 1 / add I / mul I / load I 1 / load I 0 / add I / sub I / return I"), 2,
		"0 <; 0 param I 0; 1 param I 1; goto > 1",
		"1 < 0; 2 add I: 0 1; 3 mul I: 2 2; 4 add I: 1 0; 5 sub I: 3 4; return: 5")
	graphIs(t, "at once, so that what has them is alike, too", unitTold("", "(I,I)I 2 / load I 0 / const I 5 / mul I / neg I / load I 0 / const I 5 / mul I / neg I / xor I / return I"), 2,
		"0 <; 0 param I 0; 1 param I 1; goto > 1",
		"1 < 0; 2 const I 5; 3 mul I: 0 2; 4 neg I: 3; 5 xor I: 4 4; return: 5")
	graphIs(t, "in a block on every way", unitTold("", "(I,I)I 3 / load I 0 / load I 1 / mul I / store I 2 / load I 0 / if eq a / load I 0 / load I 1 / mul I / return I / a: / load I 0 / load I 1 / mul I / load I 2 / sub I / return I"), 2,
		"0 <; 0 param I 0; 1 param I 1; goto > 1",
		"1 < 0; 2 mul I: 0 1; if eq: 0 > 3 2",
		"2 < 1; return: 2",
		"3 < 1; 3 sub I: 2 2; return: 3")
	graphIs(t, "in blocks that are not on every way", unitTold("", "(I,I)I 3 / load I 0 / if eq a / load I 0 / load I 1 / mul I / store I 2 / goto b / a: / load I 0 / load I 1 / mul I / store I 2 / b: / load I 0 / load I 1 / mul I / load I 2 / sub I / return I"), 2,
		"0 <; 0 param I 0; 1 param I 1; goto > 1",
		"1 < 0; if eq: 0 > 3 2",
		"2 < 1; 2 mul I: 0 1; goto > 4",
		"3 < 1; 3 mul I: 0 1; goto > 4",
		"4 < 2 3; 4 phi I: 2 3; 5 mul I: 0 1; 6 sub I: 5 4; return: 6")
	graphIs(t, "the least of several", unitTold("", "(I)I 1 / load I 0 / neg I / call -1 / load I 0 / if eq b / load I 0 / neg I / call -1 / b: / load I 0 / neg I / call -1 / load I 0 / neg I / return I"), 2,
		"0 <; 0 param I 0; goto > 1", "1 < 0; 1 neg I: 0; 2 print: 1; if eq: 0 > 3 2", "2 < 1; 3 print: 1; goto > 3", "3 < 1 2; 4 print: 1; return: 1")
	graphIs(t, "the least that is on every way", unitTold("", "(I)I 1 / load I 0 / if eq b / load I 0 / neg I / call -1 / b: / load I 0 / neg I / call -1 / load I 0 / neg I / return I"), 2,
		"0 <; 0 param I 0; goto > 1", "1 < 0; if eq: 0 > 3 2", "2 < 1; 1 neg I: 0; 2 print: 1; goto > 3", "3 < 1 2; 3 neg I: 0; 4 print: 3; return: 3")
	graphIs(t, "of a greater number, though on every way", unitTold("", "(I)I 1 / goto b / a: / load I 0 / const I 2 / mul I / return I / b: / load I 0 / const I 2 / mul I / if ne a / load I 0 / const I 2 / mul I / const I 3 / add I / return I"), 2,
		"0 <; 0 param I 0; goto > 1",
		"1 < 0; goto > 3",
		"2 < 3; 1 const I 2; 2 mul I: 0 1; return: 2",
		"3 < 1; 3 const I 2; 4 mul I: 0 3; if ne: 4 > 2 4",
		"4 < 3; 5 const I 3; 6 add I: 4 5; return: 6")
	graphIs(t, "phis are not shared", unitTold("", "(I)I 3 / load I 0 / if eq a / const I 1 / store I 1 / const I 1 / store I 2 / goto b / a: / const I 2 / store I 1 / const I 2 / store I 2 / b: / load I 1 / load I 2 / add I / return I"), 2,
		"0 <; 0 param I 0; goto > 1",
		"1 < 0; if eq: 0 > 3 2",
		"2 < 1; 1 const I 1; goto > 4",
		"3 < 1; 2 const I 2; goto > 4",
		"4 < 2 3; 3 phi I: 1 2; 4 phi I: 1 2; 5 add I: 3 4; return: 5")
	graphIs(t, "phis stay, though their args have become one", unitTold("", "(I)I 2 / const I 5 / store I 1 / load I 0 / if eq a / const I 5 / store I 1 / a: / load I 1 / return I"), 2,
		"0 <; 0 param I 0; goto > 1", "1 < 0; 1 const I 5; if eq: 0 > 3 2", "2 < 1; goto > 3", "3 < 1 2; 2 phi I: 1 1; return: 2")
	graphIs(t, "in a loop", unitTold("", "(I,J)V 2 / a: / load J 1 / load J 1 / mul J / call -2 / inc 0 -1 / load J 1 / load J 1 / mul J / call -2 / load I 0 / if gt a / load J 1 / load J 1 / mul J / call -2 / return"), 2,
		"0 <; 0 param I 0; 1 param J 1; goto > 1",
		"1 < 0 1; 2 phi I: 0 6; 3 mul J: 1 1; 4 print: 3; 5 const I -1; 6 add I: 2 5; 7 print: 3; if gt: 6 > 1 2",
		"2 < 1; 8 print: 3; return")
}

// Each of two operations in a row is one, or not.
func TestSharesTheSameAlone(t *testing.T) {
	shares := func(one, other string, so bool) {
		t.Helper()
		u := unitTold("I J I", "(I,I,J,J)V 4 / "+one+" / pop / "+other+" / pop / return", "(I)I 1 / return I", "()I 0 / const I 1 / return I")
		before, behind := len(impl.Compile(u, 0, 1).Nodes), len(impl.Compile(u, 0, 2).Nodes)
		if u = unitTold("I J I", "(I,I,J,J)V 4 / "+one+" / pop / return", "(I)I 1 / return I", "()I 0 / const I 1 / return I"); so && behind != len(impl.Compile(u, 0, 1).Nodes) || !so && behind != before {
			t.Errorf("%s and %s: %d nodes become %d", one, other, before, behind)
		}
	}
	rows := []string{
		"const I 5", "const J 5", "const I 6", "load I 0 / conv I B", "load I 0 / conv I C", "load I 0 / conv I S", "load I 0 / conv I J", "load I 1 / conv I B", "load J 2 / conv J I", "load J 2 / load J 3 / cmp J", "load J 3 / load J 2 / cmp J", "load J 2 / load J 2 / cmp J", "load I 0 / neg I", "load I 1 / neg I", "load J 2 / neg J",
	}
	for _, op := range mathOps {
		if op != "neg" {
			rows = append(rows, "load I 0 / load I 1 / "+op+" I", "load I 1 / load I 0 / "+op+" I", "load I 0 / load I 0 / "+op+" I")
		}
		if op != "neg" && !strings.Contains(op, "sh") {
			rows = append(rows, "load J 2 / load J 3 / "+op+" J")
		}
	}
	for _, one := range rows {
		for _, other := range rows {
			shares(one, other, one == other)
		}
	}
	for _, one := range []string{"get 0", "get 1", "get 2", "load I 0 / call 1", "call 2"} {
		shares(one, one, false)
	}
	shares("get 0", "get 2", false)
}

// What is needed stays, of itself or as another one's; what nobody needs goes.
func TestSweeps(t *testing.T) {
	row := func(why, code, want string) {
		t.Helper()
		u := unitTold("I J", "(I,J)I 2 / "+code+" / load I 0 / return I", "(I)I 1 / load I 0 / return I", "(J)V 1 / return")
		graphIs(t, why, u, 3, "0 <; 0 param I 0; 1 param J 1; goto > 1", "1 < 0;"+want+" return: 0")
	}
	row("a number", "const I 5 / pop", "")
	row("one that has another", "load J 1 / const J 5 / add J / neg J / pop", "")
	row("OpCmp and OpConv", "load J 1 / load I 0 / conv I J / cmp J / pop", "")
	row("NodeGet", "get 1 / pop / get 0 / const I 3 / mul I / pop", "")
	row("NodePut", "load J 1 / const J 5 / add J / put 1", " 2 const J 5; 3 add J: 1 2; 4 put 1: 3;")
	row("NodePrint", "get 0 / call -1 / load I 0 / conv I J / call -2", " 2 get I 0; 3 print: 2; 4 conv J J: 0; 5 print: 4;")
	row("NodeCall, with and without a result", "const I 7 / call 1 / pop / load J 1 / call 2", " 2 const I 7; 3 call I 1: 2; 4 call 2: 1;")
	for _, op := range []string{"div", "rem"} {
		row(op+" by what is no number", fmt.Sprintf("load J 1 / load I 0 / conv I J / %s J / pop", op), fmt.Sprintf(" 2 conv J J: 0; 3 %s J: 1 2;", op))
		row(op+" by 0", fmt.Sprintf("load I 0 / const I 0 / %s I / pop", op), fmt.Sprintf(" 2 const I 0; 3 %s I: 0 2;", op))
		row(op+" of a number by 0", fmt.Sprintf("const J 8 / const J 0 / %s J / pop", op), fmt.Sprintf(" 2 const J 8; 3 const J 0; 4 %s J: 2 3;", op))
		row(op+" by another number", fmt.Sprintf("load I 0 / const I 9 / %s I / pop / load J 1 / const J -1 / %s J / pop", op, op), "")
		row(op+" of a number by what is none", fmt.Sprintf("const I 0 / load I 0 / %s I / pop", op), fmt.Sprintf(" 2 const I 0; 3 %s I: 2 0;", op))
	}
	row("other operations by 0", "load I 0 / const I 0 / xor I / pop / load I 0 / const I 0 / and I / pop", "")
	graphIs(t, "args of ends", unitTold("", "(I)V 1 / load I 0 / const I 3 / mul I / if eq a / load I 0 / neg I / switch 1 a a / a: / load I 0 / const I 4 / add I / const I 7 / ifint lt 0 / return"), 3,
		"0 <; 0 param I 0; goto > 1",
		"1 < 0 3; 1 const I 3; 2 mul I: 0 1; if eq: 2 > 3 2",
		"2 < 1; 3 neg I: 0; switch 1: 3 > 3 3",
		"3 < 1 2 2; 4 const I 4; 5 add I: 0 4; 6 const I 7; if lt: 5 6 > 1 4",
		"4 < 3; return")
	graphIs(t, "a ring that is not needed", unitTold("", "(I)I 4 / const I 1 / store I 1 / const I 1 / store I 2 / const I 0 / store I 3 / a: / load I 1 / load I 2 / store I 1 / load I 1 / add I / store I 2 / inc 3 2 / inc 0 -1 / load I 0 / if gt a / load I 3 / return I"), 3,
		"0 <; 0 param I 0; goto > 1",
		"1 < 0; 1 const I 0; goto > 2",
		"2 < 1 2; 2 phi I: 0 7; 3 phi I: 1 5; 4 const I 2; 5 add I: 3 4; 6 const I -1; 7 add I: 2 6; if gt: 7 > 2 3",
		"3 < 2; return: 5")
	graphIs(t, "a ring that is needed", unitTold("", "(I)I 3 / const I 1 / store I 1 / const I 1 / store I 2 / a: / load I 1 / load I 2 / store I 1 / load I 1 / add I / store I 2 / inc 0 -1 / load I 0 / if gt a / load I 2 / return I"), 3,
		"0 <; 0 param I 0; goto > 1",
		"1 < 0; 1 const I 1; goto > 2",
		"2 < 1 2; 2 phi I: 0 7; 3 phi I: 1 4; 4 phi I: 1 5; 5 add I: 3 4; 6 const I -1; 7 add I: 2 6; if gt: 7 > 2 3",
		"3 < 2; return: 5")
}

func TestFills(t *testing.T) {
	small := []string{"(I,J)J 2 / load J 1 / load I 0 / conv I J / add J / return J", "(I)I 1 / load I 0 / return I", "(I)V 1 / load I 0 / const I 2 / mul I / call -1 / return", "()I 0 / const I 7 / return I", "(J)V 1 / return"}
	fills := func(why, f string, want ...string) {
		t.Helper()
		graphIs(t, why, unitTold("I", append([]string{f}, small...)...), 4, want...)
	}
	fills("in a row, with nodes in the place of calls", "(I,J)J 2 / load I 0 / call 3 / load I 0 / load J 1 / call 1 / load J 1 / call 5 / load I 0 / call 3 / return J",
		"0 <; 0 param I 0; 1 param J 1; goto > 1",
		"1 < 0; 2 const I 2; 3 mul I: 0 2; 4 print: 3; 5 conv J J: 0; 6 add J: 1 5; 7 print: 3; return: 6")
	fills("of one another", "(I,J)J 2 / load I 0 / call 2 / call 2 / load I 0 / load I 0 / load J 1 / call 1 / call 1 / call 1 / return J",
		"0 <; 0 param I 0; 1 param J 1; goto > 1",
		"1 < 0; 2 conv J J: 0; 3 add J: 1 2; 4 add J: 3 2; 5 add J: 4 2; return: 5")
	fills("what comes back is a parameter, or a number that is folded", "(I)I 1 / load I 0 / call 2 / call 4 / call 4 / sub I / add I / return I",
		"0 <; 0 param I 0; goto > 1", "1 < 0; return: 0")
	fills("an end by what comes back", "(I)I 1 / call 4 / if eq a / load I 0 / call 2 / return I / a: / const I 5 / return I",
		"0 <; 0 param I 0; goto > 1", "1 < 0; goto > 2", "2 < 1; return: 0")
	fills("phis of what comes back", "(I)I 2 / load I 0 / store I 1 / load I 0 / if eq a / load I 0 / call 2 / store I 1 / a: / load I 1 / return I",
		"0 <; 0 param I 0; goto > 1", "1 < 0; if eq: 0 > 3 2", "2 < 1; goto > 3", "3 < 1 2; return: 0")
	fills("phis of what comes back, and what is folded behind them", "(I)I 2 / const I 3 / store I 1 / load I 0 / if eq a / load I 1 / call 2 / store I 1 / a: / load I 1 / const I 1 / add I / return I",
		"0 <; 0 param I 0; goto > 1", "1 < 0; if eq: 0 > 3 2", "2 < 1; goto > 3", "3 < 1 2; 1 const I 4; return: 1")
	fills("in several blocks, and round", "(I)I 1 / a: / load I 0 / call 3 / inc 0 -1 / load I 0 / call 2 / if gt a / call 4 / return I",
		"0 <; 0 param I 0; goto > 1",
		"1 < 0 1; 1 phi I: 0 6; 2 const I 2; 3 mul I: 1 2; 4 print: 3; 5 const I -1; 6 add I: 1 5; if gt: 6 > 1 2",
		"2 < 1; 7 const I 7; return: 7")
	fills("from behind", "(I)I 2 / goto b / a: / load I 0 / call 2 / return I / b: / load I 0 / call 2 / call 2 / store I 0 / goto a",
		"0 <; 0 param I 0; goto > 1", "1 < 0; goto > 3", "2 < 3; return: 0", "3 < 1; goto > 2")
	fills("a call of itself", "(I)I 1 / load I 0 / call 0 / call 2 / return I", "0 <; 0 param I 0; goto > 1", "1 < 0; 1 call I 0: 0; return: 1")
}

// Which functions are small: of two blocks, of which one returns, with as many nodes as may be, and no call.
func TestSmallFunctions(t *testing.T) {
	isSmall := func(why, f string, so bool) {
		t.Helper()
		u := unitTold("I", "(I)I 1 / load I 0 / call 1 / return I", f, "()V 0 / return")
		called := len(calls(impl.Compile(u, 0, 4)))
		if (called == 0) != so {
			t.Errorf("%s: %d calls are left", why, called)
		}
		for level := range int64(4) {
			same(t, "below level 4", len(calls(impl.Compile(u, 0, level))), 1)
		}
	}
	sums := func(n int) string {
		return "(I)I 1 / load I 0 / load I 0" + strings.Repeat(" / load I 0 / add I", n) + " / swap / pop / return I"
	}
	isSmall("one node", sums(0), true)
	isSmall("as many as may be", sums(impl.MaxSmall-1), true)
	isSmall("one more", sums(impl.MaxSmall), false)
	isSmall("as many as may be, that are not needed", "(I)I 1 / load I 0"+strings.Repeat(" / const I 0 / pop", impl.MaxSmall-1)+" / return I", true)
	isSmall("one more, that is not needed", "(I)I 1 / load I 0"+strings.Repeat(" / const I 0 / pop", impl.MaxSmall)+" / return I", false)
	isSmall("a call of another", "(I)I 1 / call 2 / load I 0 / return I", false)
	isSmall("a call of itself", "(I)I 1 / load I 0 / call 1 / return I", false)
	isSmall("a line", "(I)I 1 / load I 0 / call -1 / load I 0 / return I", true)
	isSmall("a global", "(I)I 1 / load I 0 / put 0 / get 0 / return I", true)
	isSmall("a third block", "(I)I 1 / load I 0 / goto on / on: / return I", false)
	isSmall("a third block that goes when it is folded", "(I)I 1 / const I 0 / if eq on / on: / load I 0 / return I", false)
	isSmall("no return", "(I)I 1 / goto 0", false)
	isSmall("no return, behind a loop", "(I)I 1 / load I 0 / if eq 0 / load I 0 / return I", false)
	isSmall("what nobody reaches", "(I)I 1 / load I 0 / return I / goto 0 / load I 0 / if eq 1", true)
	isSmall("a division", "(I)I 1 / const I 1 / load I 0 / div I / return I", true)
	// The small function is that of level 0: a call that is filled is one all the same.
	u := unitTold("", "(I)I 1 / load I 0 / call 1 / return I", "(I)I 1 / load I 0 / call 2 / return I", "(I)I 1 / load I 0 / return I")
	same(t, "a call of a small one", len(calls(impl.Compile(u, 0, 4))), 1)
	same(t, "a call of a small one", len(calls(impl.Compile(u, 1, 4))), 0)
}
