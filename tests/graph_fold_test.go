package tests

import (
	"fmt"
	"strings"
	"testing"

	"loop.example/g00032/impl"
)

// foldedBlock is how a function of one block ends that has one operation on numbers, when it is folded: each is a number, or load and a parameter.
func foldedBlock(op, kind, first, second string) string {
	kinds := []string{kind, kind}
	if strings.Contains(op, "sh") {
		kinds[1] = "I"
	}
	code := ""
	for k, what := range []string{first, second} {
		if what == "load" {
			code += fmt.Sprintf(" / load %s %d", kinds[k], k)
		} else if what != "" {
			code += fmt.Sprintf(" / const %s %s", kinds[k], what)
		}
	}
	u := unitTold("", fmt.Sprintf("(%s,%s)%s 2%s / %s %s / return %s", kinds[0], kinds[1], kind, code, op, kind, kind))
	_, nodes, _ := strings.Cut(shownGraph(impl.Compile(u, 0, 1)), "1 < 0; ")
	return nodes
}

// Of each operation, with a number on either side, whether it stays (the word is empty), the other side stands, or it becomes a number.
func TestFoldRulesOnEitherSide(t *testing.T) {
	right := map[string]string{"add 0": "stands", "sub 0": "stands", "shl 0": "stands", "shr 0": "stands", "ushr 0": "stands", "mul 1": "stands", "mul 0": "0"}
	left := map[string]string{"add 0": "stands", "mul 1": "stands", "mul 0": "0"}
	for _, op := range mathOps {
		for _, kind := range []string{"I", "J"} {
			if op == "neg" {
				same(t, op, foldedBlock(op, kind, "", "load"), fmt.Sprintf("2 neg %s: 1; return: 2", kind))
				continue
			}
			for _, n := range []string{"0", "1", "-1", "2", "32", "64"} {
				second := kind
				if strings.Contains(op, "sh") {
					second = "I"
				}
				want := map[string]string{"": "2 const %[3]s %[4]s; 3 %[1]s %[2]s: 0 2; return: 3", "stands": "2 const %[3]s %[4]s; return: 0", "0": "2 const %[3]s %[4]s; 3 const %[2]s 0; return: 3"}[right[op+" "+n]]
				same(t, op+" by "+n, foldedBlock(op, kind, "load", n), fmt.Sprintf(want, op, kind, second, n))
				want = map[string]string{"": "2 const %[2]s %[3]s; 3 %[1]s %[2]s: 2 1; return: 3", "stands": "2 const %[2]s %[3]s; return: 1", "0": "2 const %[2]s %[3]s; 3 const %[2]s 0; return: 3"}[left[op+" "+n]]
				same(t, op+" of "+n, foldedBlock(op, kind, n, "load"), fmt.Sprintf(want, op, kind, n))
			}
			same(t, op, foldedBlock(op, kind, "load", "load"), fmt.Sprintf("2 %s %s: 0 1; return: 2", op, kind))
		}
	}
}

// Of numbers alone all becomes a number, but for a division by 0; this comes ahead of the other rules.
func TestFoldsNumbers(t *testing.T) {
	for _, row := range []struct{ op, kind, a, b, want string }{
		{"add", "I", "2147483647", "1", "-2147483648"}, {"add", "J", "9223372036854775807", "1", "-9223372036854775808"}, {"add", "I", "0", "0", "0"}, {"add", "J", "0", "5", "5"},
		{"sub", "I", "-2147483648", "1", "2147483647"}, {"sub", "J", "0", "0", "0"}, {"mul", "I", "65536", "65536", "0"}, {"mul", "J", "4294967296", "4294967296", "0"}, {"mul", "I", "1", "0", "0"}, {"mul", "J", "1", "7", "7"}, {"mul", "I", "0", "9", "0"},
		{"div", "I", "-7", "2", "-3"}, {"div", "I", "-2147483648", "-1", "-2147483648"}, {"div", "J", "-9223372036854775808", "-1", "-9223372036854775808"}, {"rem", "I", "-7", "2", "-1"}, {"rem", "J", "7", "-4", "3"}, {"rem", "J", "-9223372036854775808", "-1", "0"},
		{"neg", "I", "-2147483648", "", "-2147483648"}, {"neg", "J", "5", "", "-5"}, {"neg", "J", "0", "", "0"},
		{"shl", "I", "1", "31", "-2147483648"}, {"shl", "I", "3", "32", "3"}, {"shl", "J", "1", "63", "-9223372036854775808"}, {"shl", "J", "3", "64", "3"}, {"shr", "I", "-8", "-31", "-4"}, {"shr", "J", "-8", "65", "-4"}, {"ushr", "I", "-1", "28", "15"}, {"ushr", "J", "-1", "60", "15"}, {"ushr", "J", "-1", "0", "-1"},
		{"and", "I", "12", "10", "8"}, {"or", "I", "12", "10", "14"}, {"xor", "I", "12", "10", "6"}, {"and", "J", "-1", "10", "10"}, {"or", "J", "-1", "10", "-1"}, {"xor", "J", "-1", "10", "-11"},
	} {
		got := foldedBlock(row.op, row.kind, row.a, row.b)
		want := fmt.Sprintf("%s const %s %s; return: %[1]s", map[bool]string{true: "4", false: "3"}[row.b != ""], row.kind, row.want)
		if !strings.HasSuffix(got, want) || strings.Contains(got, row.op) {
			t.Errorf("%v: %s", row, got)
		}
	}
	for _, kind := range []string{"I", "J"} {
		for _, op := range []string{"div", "rem"} {
			for _, n := range []string{"0", "1", "-1", "5"} {
				same(t, "by 0", foldedBlock(op, kind, n, "0"), fmt.Sprintf("2 const %[1]s %[2]s; 3 const %[1]s 0; 4 %[3]s %[1]s: 2 3; return: 4", kind, n, op))
			}
		}
	}
	for n, want := range map[string]string{"9223372036854775807": "J 9223372036854775807 J 9223372036854775806 1", "9223372036854775806": "J 9223372036854775806 J 9223372036854775806 0", "-9223372036854775808": "J -9223372036854775808 J 9223372036854775806 -1"} {
		w := words(want)
		graphIs(t, "OpCmp", unitTold("", "()I 0 / const J "+n+" / const J 9223372036854775806 / cmp J / return I"), 1,
			"0 <; goto > 1", fmt.Sprintf("1 < 0; 0 const J %s; 1 const J %s; 2 const I %s; return: 2", w[1], w[3], w[4]))
	}
	for to, want := range map[string]string{"I J": "J 40000", "I B": "I 64", "I C": "I 40000", "I S": "I -25536", "J I": "I 40000"} {
		w := words(to)
		k := words(want)[0]
		graphIs(t, to, unitTold("", fmt.Sprintf("()%s 0 / const %s 40000 / conv %s / return %[1]s", k, w[0], to)), 1,
			"0 <; goto > 1", fmt.Sprintf("1 < 0; 0 const %s 40000; 1 const %s; return: 1", w[0], want))
	}
	graphIs(t, "to 32 bits", unitTold("", "()I 0 / const J 4294967301 / conv J I / return I"), 1, "0 <; goto > 1", "1 < 0; 0 const J 4294967301; 1 const I 5; return: 1")
	graphIs(t, "of no numbers", unitTold("", "(I,J)I 2 / load I 0 / conv I J / load J 1 / cmp J / neg I / return I"), 1,
		"0 <; 0 param I 0; 1 param J 1; goto > 1", "1 < 0; 2 conv J J: 0; 3 cmp I: 2 1; 4 neg I: 3; return: 4")
	graphIs(t, "of one number", unitTold("", "(J)I 1 / const J 3 / load J 0 / cmp J / return I"), 1,
		"0 <; 0 param J 0; goto > 1", "1 < 0; 1 const J 3; 2 cmp I: 1 0; return: 2")
}

func TestFoldGoesOn(t *testing.T) {
	graphIs(t, "one behind the other", unitTold("", "(I)I 1 / const I 2 / const I 3 / mul I / const I 6 / sub I / load I 0 / add I / const I 5 / const I 5 / sub I / add I / return I"), 1,
		"0 <; 0 param I 0; goto > 1", "1 < 0; 1 const I 2; 2 const I 3; 3 const I 6; 4 const I 6; 5 const I 0; 6 const I 5; 7 const I 5; 8 const I 0; return: 0")
	graphIs(t, "by number, so that what stands behind is no number yet", unitTold("", "()I 1 / const I 2 / store I 0 / goto b / a: / load I 0 / const I 0 / add I / return I / b: / load I 0 / const I 3 / mul I / store I 0 / goto a"), 1,
		"0 <; goto > 1", "1 < 0; 0 const I 2; goto > 3", "2 < 3; 1 const I 0; return: 3", "3 < 1; 2 const I 3; 3 const I 6; goto > 2")
	graphIs(t, "a number in the next pass", unitTold("", "()I 1 / const I 2 / store I 0 / goto b / a: / load I 0 / const I 7 / add I / return I / b: / load I 0 / const I 3 / mul I / store I 0 / goto a"), 1,
		"0 <; goto > 1", "1 < 0; 0 const I 2; goto > 3", "2 < 3; 1 const I 7; 2 const I 13; return: 2", "3 < 1; 3 const I 3; 4 const I 6; goto > 2")
	graphIs(t, "behind a phi that has one arg left", unitTold("", "(I)I 2 / const I 0 / if ne a / const I 3 / store I 1 / goto b / a: / const I 4 / store I 1 / b: / load I 1 / const I 2 / add I / const I 5 / ifint eq c / load I 0 / return I / c: / load I 1 / return I"), 1,
		"0 <; 0 param I 0; goto > 1",
		"1 < 0; 1 const I 0; goto > 2",
		"2 < 1; 2 const I 3; goto > 3",
		"3 < 2; 3 const I 2; 4 const I 5; 5 const I 5; goto > 4",
		"4 < 3; return: 2")
	graphIs(t, "a loop that nobody goes through", unitTold("", "(I)I 2 / const I 0 / store I 1 / a: / const I 1 / if gt out / inc 1 1 / goto a / out: / load I 1 / load I 0 / add I / return I"), 1,
		"0 <; 0 param I 0; goto > 1", "1 < 0; 1 const I 0; goto > 2", "2 < 1; 2 const I 1; goto > 3", "3 < 2; return: 0")
	graphIs(t, "a phi that keeps two of three", unitTold("", "(I)I 2 / const I 7 / store I 1 / load I 0 / if eq b / const I 8 / store I 1 / const I 1 / if lt b / const I 9 / store I 1 / b: / load I 1 / return I"), 1,
		"0 <; 0 param I 0; goto > 1",
		"1 < 0; 1 const I 7; if eq: 0 > 4 2",
		"2 < 1; 2 const I 8; 3 const I 1; goto > 3",
		"3 < 2; 4 const I 9; goto > 4",
		"4 < 1 3; 5 phi I: 1 4; return: 5")
	graphIs(t, "a phi with several ways of one block, of which one stays", unitTold("", "(I)I 2 / const I 5 / store I 1 / load I 0 / if eq b / inc 1 1 / const I 3 / switch 3 b b b / b: / load I 1 / return I"), 1,
		"0 <; 0 param I 0; goto > 1",
		"1 < 0; 1 const I 5; if eq: 0 > 3 2",
		"2 < 1; 2 const I 1; 3 const I 6; 4 const I 3; goto > 3",
		"3 < 1 2; 5 phi I: 1 3; return: 5")
	graphIs(t, "phis that are one node by what is folded", unitTold("", "(I)I 2 / load I 0 / store I 1 / load I 0 / if eq a / load I 0 / const I 0 / add I / store I 1 / a: / load I 1 / const I 1 / mul I / return I"), 1,
		"0 <; 0 param I 0; goto > 1", "1 < 0; if eq: 0 > 3 2", "2 < 1; 1 const I 0; goto > 3", "3 < 1 2; 2 const I 1; return: 0")
	graphIs(t, "for ever", unitTold("", "()V 0 / a: / const I 0 / if eq a / return"), 1, "0 <; goto > 1", "1 < 0 1; 0 const I 0; goto > 1")
}

// Ends of numbers alone go one way, by each condition and at each edge of a table.
func TestFoldsEnds(t *testing.T) {
	holds := map[string]string{"eq": "=", "ne": "<>", "lt": "<", "ge": "=>", "gt": ">", "le": "<="}
	for x, signs := range holds {
		for n, sign := range map[string]string{"-2147483648": "<", "-1": "<", "0": "=", "1": ">", "2147483647": ">"} {
			to := map[bool]string{true: "3", false: "2"}[strings.Contains(signs, sign)]
			got := shownGraph(impl.Compile(unitTold("", "()I 0 / const I "+n+" / if "+x+" on / const I 5 / return I / on: / const I 6 / return I"), 0, 1))
			same(t, "if "+x+" "+n, got, "0 <; goto > 1\n1 < 0; 0 const I "+n+"; goto > 2\n2 < 1; 1 const I "+map[string]string{"2": "5", "3": "6"}[to]+"; return: 1")
		}
		for _, row := range [][]string{{"-2147483648", "2147483647", "<"}, {"2147483647", "-2147483648", ">"}, {"7", "7", "="}, {"0", "-1", ">"}} {
			to := map[bool]string{true: "6", false: "5"}[strings.Contains(signs, row[2])]
			got := shownGraph(impl.Compile(unitTold("", "()I 0 / const I "+row[0]+" / const I "+row[1]+" / ifint "+x+" on / const I 5 / return I / on: / const I 6 / return I"), 0, 1))
			same(t, "ifint "+x, got, "0 <; goto > 1\n1 < 0; 0 const I "+row[0]+"; 1 const I "+row[1]+"; goto > 2\n2 < 1; 2 const I "+to+"; return: 2")
		}
	}
	for _, row := range []struct{ base, n, to string }{
		{"3", "2", "5"}, {"3", "3", "6"}, {"3", "4", "7"}, {"3", "5", "6"}, {"3", "6", "5"}, {"-1", "-2", "5"}, {"-1", "0", "7"}, {"-2147483648", "-2147483648", "6"}, {"-2147483648", "2147483647", "5"}, {"2147483647", "2147483647", "6"}, {"2147483647", "-2147483648", "5"}, {"2147483646", "-2147483648", "5"}, {"2147483646", "2147483647", "7"}, {"0", "-2147483648", "5"},
	} {
		u := unitTold("", "()I 0 / const I "+row.n+" / switch "+row.base+" a b c b / a: / const I 5 / return I / b: / const I 6 / return I / c: / const I 7 / return I")
		same(t, fmt.Sprint(row), shownGraph(impl.Compile(u, 0, 1)), "0 <; goto > 1\n1 < 0; 0 const I "+row.n+"; goto > 2\n2 < 1; 1 const I "+row.to+"; return: 1")
	}
	graphIs(t, "of one number and another", unitTold("", "(I)V 1 / load I 0 / const I 3 / ifint eq a / a: / const I 3 / load I 0 / ifint eq b / b: / return"), 1,
		"0 <; 0 param I 0; goto > 1", "1 < 0; 1 const I 3; if eq: 0 1 > 2 2", "2 < 1 1; 2 const I 3; if eq: 2 0 > 3 3", "3 < 2 2; return")
	graphIs(t, "two ways become one", unitTold("", "(I)I 1 / const I 1 / if eq a / a: / load I 0 / if eq b / b: / load I 0 / return I"), 1,
		"0 <; 0 param I 0; goto > 1", "1 < 0; 1 const I 1; goto > 2", "2 < 1; if eq: 0 > 3 3", "3 < 2 2; return: 0")
}
