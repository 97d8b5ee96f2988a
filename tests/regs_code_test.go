package tests

import (
	"fmt"
	"strings"
	"testing"

	"loop.example/g00032/impl"
)

// shownRegIns has all that an instruction has: behind > the register that gets a value (none where it is -1), behind -> the instructions to which it leads.
func shownRegIns(i impl.RegIns) string {
	out := ""
	if i.Op <= impl.NodePrint {
		conv := i
		if i.Op == impl.NodeConv {
			conv.Kind = 0
		}
		out = shownNode(impl.Node{Op: i.Op, Kind: conv.Kind, N: i.N, Args: i.From})
		if i.Op == impl.NodeConv {
			out = strings.Replace(out, "conv", "conv"+graphKinds[i.Kind], 1)
		}
	} else {
		out = []string{"move", "goto", "if", "switch", "return"}[i.Op-impl.RegMove]
		switch {
		case i.Op == impl.RegIf:
			out += " " + graphConds[i.N]
		case i.Op == impl.RegSwitch || i.N != 0:
			out += fmt.Sprint(" ", i.N)
		}
		if i.Kind != 0 {
			out += fmt.Sprint(" kind ", i.Kind)
		}
		if len(i.From) > 0 {
			out += ":" + shownList(i.From)
		}
	}
	if i.To != -1 {
		out += fmt.Sprint(" > ", i.To)
	}
	if len(i.Next) > 0 {
		out += " ->" + shownList(i.Next)
	}
	return out
}

func shownCode(c impl.RegCode) string {
	lines := []string{fmt.Sprint(c.Regs)}
	for k, i := range c.Ins {
		lines = append(lines, fmt.Sprint(k, " ", shownRegIns(i)))
	}
	return strings.Join(lines, "\n")
}

// regsAre looks for the code of a unit's first function: how many registers it has, and its instructions. It is held against the second working out, too.
func regsAre(t *testing.T, why string, u impl.Unit, level int64, want string) {
	t.Helper()
	c := impl.Registers(u, 0, level)
	if got := strings.ReplaceAll(shownCode(c), "\n", " / "); got != want {
		t.Errorf("%s:\n%s\nnot\n%s", why, got, want)
	}
	same(t, why, c, regsWorked(graphsWorked(u, 0)[level]))
}

func TestCodeOfStraightFunctions(t *testing.T) {
	u := unitTold("", "()V 0 / return")
	regsAre(t, "nothing, level 0", u, 0,
		"0 / 0 goto -> 1 / 1 return")
	regsAre(t, "nothing, level 4", u, 4,
		"0 / 0 goto -> 1 / 1 return")
	regsAre(t, "I", unitTold("", "()I 0 / const I -2147483648 / return I"), 0,
		"1 / 0 goto -> 1 / 1 const I -2147483648 > 0 / 2 return: 0")
	regsAre(t, "J", unitTold("", "()J 0 / const J 9223372036854775807 / return J"), 0,
		"1 / 0 goto -> 1 / 1 const J 9223372036854775807 > 0 / 2 return: 0")
	regsAre(t, "one comes back", unitTold("", "(J,J)J 2 / load J 1 / return J"), 0,
		"1 / 0 param J 0 > 0 / 1 param J 1 > 0 / 2 goto -> 3 / 3 return: 0")
	regsAre(t, "parameters, none in use", unitTold("", "(J,I,J,I,J,I,J,I)V 40 / return"), 0,
		"1 / 0 param J 0 > 0 / 1 param I 1 > 0 / 2 param J 2 > 0 / 3 param I 3 > 0 / 4 param J 4 > 0 / 5 param I 5 > 0 / 6 param J 6 > 0 / 7 param I 7 > 0 / 8 goto -> 9 / 9 return")
	regsAre(t, "parameters, all in use", unitTold("", "(I,J,I)J 3 / load I 0 / conv I J / load J 1 / load I 2 / conv I J / sub J / add J / return J"), 0,
		"3 / 0 param I 0 > 0 / 1 param J 1 > 1 / 2 param I 2 > 2 / 3 goto -> 4 / 4 conv I J: 0 > 0 / 5 conv I J: 2 > 2 / 6 sub J: 1 2 > 1 / 7 add J: 0 1 > 0 / 8 return: 0")
	regsAre(t, "what is moved", unitTold("", "(I,J)J 2 / load I 0 / load J 1 / swap / conv I J / under / sub J / dup / mul J / add J / load I 0 / pop / return J"), 0,
		"2 / 0 param I 0 > 0 / 1 param J 1 > 1 / 2 goto -> 3 / 3 conv I J: 0 > 0 / 4 sub J: 1 0 > 1 / 5 mul J: 1 1 > 1 / 6 add J: 0 1 > 0 / 7 return: 0")
	regsAre(t, "globals and lines", unitTold("I J", "(I,J)V 2 / load J 1 / put 1 / get 0 / load I 0 / add I / put 0 / get 1 / call -2 / get 0 / call -1 / return"), 0,
		"2 / 0 param I 0 > 0 / 1 param J 1 > 1 / 2 goto -> 3 / 3 put 1: 1 / 4 get I 0 > 1 / 5 add I: 1 0 > 0 / 6 put 0: 0 / 7 get J 1 > 0 / 8 print: 0 / 9 get I 0 > 0 / 10 print: 0 / 11 return")
	u = unitTold("", "(I,J)J 2 / load I 0 / load J 1 / call 0 / load I 0 / call 1 / call 2 / call 3 / pop / return J", "(I)V 1 / return", "()V 0 / return", "()I 0 / const I 1 / return I")
	regsAre(t, "calls, level 0", u, 0,
		"2 / 0 param I 0 > 0 / 1 param J 1 > 1 / 2 goto -> 3 / 3 call J 0: 0 1 > 1 / 4 call 1: 0 / 5 call 2 / 6 call I 3 > 0 / 7 return: 1")
	regsAre(t, "calls, level 4", u, 4,
		"2 / 0 param I 0 > 0 / 1 param J 1 > 1 / 2 goto -> 3 / 3 call J 0: 0 1 > 0 / 4 return: 0")
	regsAre(t, "as many arguments as there may be", unitTold("", "(J,I,J,I,J,I,J,I)J 8 / load J 6 / load I 1 / load J 0 / load I 3 / load J 2 / load I 5 / load J 4 / load I 7 / call 0 / return J"), 0,
		"8 / 0 param J 0 > 0 / 1 param I 1 > 1 / 2 param J 2 > 2 / 3 param I 3 > 3 / 4 param J 4 > 4 / 5 param I 5 > 5 / 6 param J 6 > 6 / 7 param I 7 > 7 / 8 goto -> 9 / 9 call J 0: 6 1 0 3 2 5 4 7 > 0 / 10 return: 0")
	regsAre(t, "conversions", unitTold("", "(I,J)I 2 / load I 0 / conv I B / conv I C / conv I S / conv I J / load J 1 / cmp J / conv I J / conv J I / return I"), 0,
		"2 / 0 param I 0 > 0 / 1 param J 1 > 1 / 2 goto -> 3 / 3 conv I B: 0 > 0 / 4 conv I C: 0 > 0 / 5 conv I S: 0 > 0 / 6 conv I J: 0 > 0 / 7 cmp I: 0 1 > 0 / 8 conv I J: 0 > 0 / 9 conv J I: 0 > 0 / 10 return: 0")
	u = unitTold("", "(I)I 1 / const I 3 / const I 4 / add I / const I 7 / load I 0 / mul I / add I / const I 9 / pop / load I 0 / call 1 / add I / return I", "(I)I 1 / load I 0 / const I 7 / xor I / return I")
	regsAre(t, "each level, level 0", u, 0,
		"3 / 0 param I 0 > 0 / 1 goto -> 2 / 2 const I 3 > 1 / 3 const I 4 > 2 / 4 add I: 1 2 > 1 / 5 const I 7 > 2 / 6 mul I: 2 0 > 2 / 7 add I: 1 2 > 1 / 8 const I 9 > 2 / 9 call I 1: 0 > 0 / 10 add I: 1 0 > 0 / 11 return: 0")
	regsAre(t, "each level, level 1", u, 1,
		"3 / 0 param I 0 > 0 / 1 goto -> 2 / 2 const I 3 > 1 / 3 const I 4 > 1 / 4 const I 7 > 1 / 5 const I 7 > 2 / 6 mul I: 2 0 > 2 / 7 add I: 1 2 > 1 / 8 const I 9 > 2 / 9 call I 1: 0 > 0 / 10 add I: 1 0 > 0 / 11 return: 0")
	regsAre(t, "each level, level 2", u, 2,
		"3 / 0 param I 0 > 0 / 1 goto -> 2 / 2 const I 3 > 1 / 3 const I 4 > 1 / 4 const I 7 > 1 / 5 mul I: 1 0 > 2 / 6 add I: 1 2 > 1 / 7 const I 9 > 2 / 8 call I 1: 0 > 0 / 9 add I: 1 0 > 0 / 10 return: 0")
	regsAre(t, "each level, level 3", u, 3,
		"3 / 0 param I 0 > 0 / 1 goto -> 2 / 2 const I 7 > 1 / 3 mul I: 1 0 > 2 / 4 add I: 1 2 > 1 / 5 call I 1: 0 > 0 / 6 add I: 1 0 > 0 / 7 return: 0")
	regsAre(t, "each level, level 4", u, 4,
		"3 / 0 param I 0 > 0 / 1 goto -> 2 / 2 const I 7 > 1 / 3 mul I: 1 0 > 2 / 4 add I: 1 2 > 2 / 5 xor I: 0 1 > 0 / 6 add I: 2 0 > 0 / 7 return: 0")
}

func TestCodeOfEnds(t *testing.T) {
	regsAre(t, "EndGoto", unitTold("", "(I)I 1 / goto b / a: / load I 0 / return I / b: / inc 0 -7 / goto a"), 0,
		"2 / 0 param I 0 > 0 / 1 goto -> 2 / 2 goto -> 4 / 3 return: 0 / 4 const I -7 > 1 / 5 add I: 0 1 > 0 / 6 goto -> 3")
	regsAre(t, "for ever", unitTold("", "()V 0 / again: / goto again"), 0,
		"0 / 0 goto -> 1 / 1 goto -> 1")
	regsAre(t, "EndIf of two", unitTold("", "(I,I)I 2 / load I 1 / load I 0 / ifint lt out / const I 6 / return I / out: / load I 1 / return I"), 0,
		"2 / 0 param I 0 > 0 / 1 param I 1 > 1 / 2 goto -> 3 / 3 if lt: 1 0 -> 6 4 / 4 const I 6 > 0 / 5 return: 0 / 6 return: 1")
	regsAre(t, "both ways alike", unitTold("", "(I)I 1 / load I 0 / if eq a / a: / load I 0 / return I"), 0,
		"1 / 0 param I 0 > 0 / 1 goto -> 2 / 2 if eq: 0 -> 3 3 / 3 return: 0")
	regsAre(t, "EndSwitch", unitTold("", "(I)I 2 / load I 0 / switch -3 other a b a other / a: / const I 1 / store I 1 / goto out / other: / const I 2 / store I 1 / out: / load I 1 / return I / b: / load I 0 / return I"), 0,
		"1 / 0 param I 0 > 0 / 1 goto -> 2 / 2 switch -3: 0 -> 5 3 8 3 5 / 3 const I 1 > 0 / 4 goto -> 7 / 5 const I 2 > 0 / 6 goto -> 7 / 7 return: 0 / 8 return: 0")
	regsAre(t, "EndSwitch, folded", unitTold("", "()I 0 / const I -2 / switch -3 a b c / a: / const I 1 / return I / b: / const I 2 / return I / c: / const I 3 / return I"), 1,
		"1 / 0 goto -> 1 / 1 const I -2 > 0 / 2 goto -> 3 / 3 const I 3 > 0 / 4 return: 0")
	regsAre(t, "EndSwitch to phis", unitTold("", "(I)I 1 / load I 0 / switch 5 a b a b / a: / inc 0 1 / b: / load I 0 / return I"), 0,
		"2 / 0 param I 0 > 0 / 1 goto -> 2 / 2 switch 5: 0 -> 3 7 3 8 / 3 const I 1 > 1 / 4 add I: 0 1 > 0 / 5 goto -> 6 / 6 return: 0 / 7 goto -> 6 / 8 goto -> 6")
	u := unitTold("I", "(I)I 2 / const I 0 / store I 1 / again: / load I 0 / if le out / load I 1 / load I 0 / add I / store I 1 / inc 0 -1 / goto again / out: / load I 1 / return I")
	regsAre(t, "a sum, level 0", u, 0,
		"3 / 0 param I 0 > 0 / 1 goto -> 2 / 2 const I 0 > 1 / 3 goto -> 4 / 4 if le: 0 -> 9 5 / 5 add I: 1 0 > 1 / 6 const I -1 > 2 / 7 add I: 0 2 > 0 / 8 goto -> 4 / 9 return: 1")
	regsAre(t, "a sum, level 3", u, 3,
		"3 / 0 param I 0 > 0 / 1 goto -> 2 / 2 const I 0 > 1 / 3 goto -> 4 / 4 if le: 0 -> 9 5 / 5 add I: 1 0 > 1 / 6 const I -1 > 2 / 7 add I: 0 2 > 0 / 8 goto -> 4 / 9 return: 1")
	regsAre(t, "blocks in another order", unitTold("", "(I)I 2 / goto c / a: / load I 1 / load I 0 / sub I / return I / b: / load I 1 / if gt a / inc 1 3 / goto a / c: / load I 0 / const I 5 / xor I / store I 1 / goto b"), 0,
		"3 / 0 param I 0 > 0 / 1 goto -> 2 / 2 goto -> 9 / 3 sub I: 1 0 > 0 / 4 return: 0 / 5 if gt: 2 -> 12 6 / 6 const I 3 > 1 / 7 add I: 2 1 > 1 / 8 goto -> 3 / 9 const I 5 > 1 / 10 xor I: 0 1 > 2 / 11 goto -> 5 / 12 move: 2 > 1 / 13 goto -> 3")
}

func TestCodeOfEachOperation(t *testing.T) {
	for k, op := range mathOps {
		for _, kind := range []string{"I", "J"} {
			second := kind
			if strings.Contains(op, "sh") {
				second = "I"
			}
			u := unitTold("", fmt.Sprintf("(%s,%s)%s 2 / load %s 0 / load %s 1 / %s %s / return %s", kind, second, kind, kind, second, op, kind, kind))
			want := fmt.Sprintf("2 / 0 param %s 0 > 0 / 1 param %s 1 > 1 / 2 goto -> 3 / 3 %s %s: 0 1 > 0 / 4 return: 0", kind, second, op, kind)
			if op == "neg" {
				u = unitTold("", fmt.Sprintf("(%s,%s)%s 2 / load %s 1 / neg %s / return %s", kind, second, kind, kind, kind, kind))
				want = fmt.Sprintf("1 / 0 param %s 0 > 0 / 1 param %s 1 > 0 / 2 goto -> 3 / 3 neg %s: 0 > 0 / 4 return: 0", kind, kind, kind)
			}
			regsAre(t, op, u, 0, want)
			same(t, op, impl.Registers(u, 0, 0).Ins[3].N, impl.OpAdd+int64(k))
		}
	}
	for _, x := range graphConds[1:] {
		regsAre(t, x, unitTold("", "(I,I)I 2 / load I 0 / if "+x+" on / const I 5 / return I / on: / load I 1 / load I 0 / ifint "+x+" out / const I 6 / return I / out: / load I 1 / return I"), 0,
			"2 / 0 param I 0 > 0 / 1 param I 1 > 1 / 2 goto -> 3 / 3 if "+x+": 0 -> 6 4 / 4 const I 5 > 0 / 5 return: 0 / 6 if "+x+": 1 0 -> 9 7 / 7 const I 6 > 0 / 8 return: 0 / 9 return: 1")
	}
}

func TestNoCode(t *testing.T) {
	u := unitTold("J", "(I)I 1 / load I 0 / return I", "()V 0 / return")
	for level := range int64(5) {
		for _, f := range []int64{minLong, -2, -1, 2, 3, 1 << 32, maxLong} {
			same(t, "no function", impl.Registers(u, f, level), impl.RegCode{})
			same(t, "no functions", impl.Registers(impl.Unit{}, f, level), impl.RegCode{})
		}
		same(t, "no functions", impl.Registers(impl.Unit{}, 0, level), impl.RegCode{})
		same(t, "the first function", shownCode(impl.Registers(u, 0, level)), "1\n0 param I 0 > 0\n1 goto -> 2\n2 return: 0")
		same(t, "the last function", shownCode(impl.Registers(u, 1, level)), "0\n0 goto -> 1\n1 return")
		for why, wrong := range map[string]impl.Unit{
			"a global": unitTold("D", "()V 0 / return"), "an instruction": unitTold("", "()V 0 / return", "()V 0 / throw"), "a shape": unitTold("", "()V 0 / return", "()I 0 / const J 5 / return I"),
			"the stack": unitTold("", "()V 0 / return", "()V 0 / pop / return"), "the end": unitTold("", "()V 0 / return", "()V 0 / const I 4"), "a number": unitTold("", "()V 0 / call 1 / return"),
		} {
			same(t, why, impl.Registers(wrong, 0, level), impl.RegCode{})
		}
	}
	for _, level := range []int64{minLong, -2, -1, 5, 6, 1 << 32, maxLong} {
		same(t, "no level", impl.Registers(u, 0, level), impl.RegCode{})
	}
}
