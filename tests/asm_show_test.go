package tests

import (
	"fmt"
	"strconv"
	"strings"
	"testing"

	"loop.example/g00032/impl"
)

type shownIns struct {
	ins  impl.Ins
	text string
}

// shownInstructions are the rows of chapter 3's table, written out: each with each kind, condition, way of calling and target of a conversion that it may have, and numbers at their bounds.
func shownInstructions() []shownIns {
	out := append(shownConstants(), shownTextsOfIns()...)
	out = append(out, shownJumps()...)
	out = append(out, shownMembers()...)
	out = append(out, []shownIns{
		{impl.Ins{Op: 3}, "null"}, {impl.Ins{Op: 7}, "pop"}, {impl.Ins{Op: 8}, "dup"}, {impl.Ins{Op: 9}, "swap"}, {impl.Ins{Op: 10}, "under"},
		{impl.Ins{Op: 36}, "length"}, {impl.Ins{Op: 41}, "throw"}, {impl.Ins{Op: 42}, "enter"}, {impl.Ins{Op: 43}, "exit"},
		{impl.Ins{Op: 6, A: 0, B: 0}, "inc 0 0"}, {impl.Ins{Op: 6, A: 39, B: -32768}, "inc 39 -32768"}, {impl.Ins{Op: 6, A: 1, B: 32767}, "inc 1 32767"}, {impl.Ins{Op: 6, A: 2, B: -1}, "inc 2 -1"},
		{impl.Ins{Op: 23, Kind: 2}, "cmp J"}, {impl.Ins{Op: 23, Kind: 3, B: -1}, "cmp D -1"}, {impl.Ins{Op: 23, Kind: 3, B: 1}, "cmp D 1"},
		{impl.Ins{Op: 24, Kind: 1, A: 2}, "conv I J"}, {impl.Ins{Op: 24, Kind: 1, A: 3}, "conv I D"}, {impl.Ins{Op: 24, Kind: 1, A: 5}, "conv I B"}, {impl.Ins{Op: 24, Kind: 1, A: 6}, "conv I C"}, {impl.Ins{Op: 24, Kind: 1, A: 7}, "conv I S"},
		{impl.Ins{Op: 24, Kind: 2, A: 1}, "conv J I"}, {impl.Ins{Op: 24, Kind: 2, A: 3}, "conv J D"}, {impl.Ins{Op: 24, Kind: 3, A: 1}, "conv D I"}, {impl.Ins{Op: 24, Kind: 3, A: 2}, "conv D J"},
		{impl.Ins{Op: 44}, "return"},
	}...)
	for k, letter := range "IJDR" {
		kind := int64(k) + 1
		out = append(out, []shownIns{
			{impl.Ins{Op: 4, Kind: kind, A: 0}, "load " + string(letter) + " 0"}, {impl.Ins{Op: 4, Kind: kind, A: 39}, "load " + string(letter) + " 39"},
			{impl.Ins{Op: 5, Kind: kind, A: 0}, "store " + string(letter) + " 0"}, {impl.Ins{Op: 5, Kind: kind, A: 39}, "store " + string(letter) + " 39"},
			{impl.Ins{Op: 37, Kind: kind}, "aload " + string(letter)}, {impl.Ins{Op: 38, Kind: kind}, "astore " + string(letter)}, {impl.Ins{Op: 44, Kind: kind}, "return " + string(letter)},
		}...)
	}
	for k, word := range []string{"add", "sub", "mul", "div", "rem", "neg", "shl", "shr", "ushr", "and", "or", "xor"} {
		op := int64(k) + 11
		out = append(out, shownIns{impl.Ins{Op: op, Kind: 1}, word + " I"}, shownIns{impl.Ins{Op: op, Kind: 2}, word + " J"})
		if op <= 14 || op == 16 {
			out = append(out, shownIns{impl.Ins{Op: op, Kind: 3}, word + " D"})
		}
	}
	return out
}

func shownConstants() []shownIns {
	return []shownIns{
		{impl.Ins{Op: 1, Kind: 1}, "const I 0"}, {impl.Ins{Op: 1, Kind: 1, A: -1}, "const I -1"}, {impl.Ins{Op: 1, Kind: 1, A: 100}, "const I 100"}, {impl.Ins{Op: 1, Kind: 1, A: 2147483647}, "const I 2147483647"}, {impl.Ins{Op: 1, Kind: 1, A: -2147483648}, "const I -2147483648"},
		{impl.Ins{Op: 1, Kind: 2}, "const J 0"}, {impl.Ins{Op: 1, Kind: 2, A: -7}, "const J -7"}, {impl.Ins{Op: 1, Kind: 2, A: maxLong}, "const J 9223372036854775807"}, {impl.Ins{Op: 1, Kind: 2, A: minLong}, "const J -9223372036854775808"}, {impl.Ins{Op: 1, Kind: 2, A: 1000000000000000}, "const J 1000000000000000"},
		{impl.Ins{Op: 1, Kind: 3}, "const D 0p0"}, {impl.Ins{Op: 1, Kind: 3, A: minLong}, "const D -0p0"}, {impl.Ins{Op: 1, Kind: 3, A: one}, "const D 1p0"}, {impl.Ins{Op: 1, Kind: 3, A: 1}, "const D 1p-1074"}, {impl.Ins{Op: 1, Kind: 3, A: lastOne}, "const D 9007199254740991p971"}, {impl.Ins{Op: 1, Kind: 3, A: signBit | lastOne}, "const D -9007199254740991p971"},
		{impl.Ins{Op: 1, Kind: 3, A: impl.NaNBits}, "const D nan"}, {impl.Ins{Op: 1, Kind: 3, A: infinity}, "const D inf"}, {impl.Ins{Op: 1, Kind: 3, A: minusInfinity}, "const D -inf"},
	}
}

func shownTextsOfIns() []shownIns {
	every := make([]byte, 0, 95)
	for c := byte(32); c <= 126; c++ {
		if c != '"' && c != '\\' {
			every = append(every, c)
		}
	}
	return []shownIns{
		{impl.Ins{Op: 2}, `text ""`}, {impl.Ins{Op: 2, Text: "a"}, `text "a"`}, {impl.Ins{Op: 2, Text: " "}, `text " "`}, {impl.Ins{Op: 2, Text: "a  b ; c"}, `text "a  b ; c"`},
		{impl.Ins{Op: 2, Text: `"`}, `text "\22"`}, {impl.Ins{Op: 2, Text: `\`}, `text "\5c"`}, {impl.Ins{Op: 2, Text: `\22`}, `text "\5c22"`}, {impl.Ins{Op: 2, Text: `"a\b"`}, `text "\22a\5cb\22"`},
		{impl.Ins{Op: 2, Text: "\x00\x1f\x20\x7e\x7f\x80\xff"}, `text "\00\1f ~\7f\80\ff"`}, {impl.Ins{Op: 2, Text: "\n\r\t"}, `text "\0a\0d\09"`}, {impl.Ins{Op: 2, Text: "é€"}, `text "\c3\a9\e2\82\ac"`}, {impl.Ins{Op: 2, Text: "\xed\xa0\x80\xfe"}, `text "\ed\a0\80\fe"`},
		{impl.Ins{Op: 2, Text: string(every)}, `text "` + string(every) + `"`},
		{impl.Ins{Op: 2, Text: strings.Repeat("x", 200)}, `text "` + strings.Repeat("x", 200) + `"`}, {impl.Ins{Op: 2, Text: strings.Repeat("\xab", 200)}, `text "` + strings.Repeat(`\ab`, 200) + `"`},
	}
}

func shownJumps() []shownIns {
	out := []shownIns{
		{impl.Ins{Op: 25, A: 0}, "goto 0"}, {impl.Ins{Op: 25, A: 399}, "goto 399"},
		{impl.Ins{Op: 28, A: 3, B: 1}, "ifnull eq 3"}, {impl.Ins{Op: 28, A: 399, B: 2}, "ifnull ne 399"}, {impl.Ins{Op: 29, A: 0, B: 1}, "ifsame eq 0"}, {impl.Ins{Op: 29, A: 10, B: 2}, "ifsame ne 10"},
		{impl.Ins{Op: 30, A: 7, B: -2147483648, Table: []int64{9}}, "switch -2147483648 7 9"}, {impl.Ins{Op: 30, A: 399, B: 2147483647, Table: []int64{0, 399, 0}}, "switch 2147483647 399 0 399 0"},
		{impl.Ins{Op: 30, A: 1, B: 0, Table: make([]int64, 100)}, "switch 0 1" + strings.Repeat(" 0", 100)},
	}
	for k, word := range []string{"eq", "ne", "lt", "ge", "gt", "le"} {
		cond := int64(k) + 1
		out = append(out, shownIns{impl.Ins{Op: 26, A: 5, B: cond}, "if " + word + " 5"}, shownIns{impl.Ins{Op: 27, A: 399, B: cond}, "ifint " + word + " 399"})
	}
	return out
}

func shownMembers() []shownIns {
	name := longName(40)
	out := []shownIns{
		{impl.Ins{Op: 31, Class: "A", Name: "f", Type: "I"}, "get A f I"}, {impl.Ins{Op: 31, B: 1, Class: "A.b$", Name: "f_1", Type: "[[@A.b$"}, "getstatic A.b$ f_1 [[@A.b$"},
		{impl.Ins{Op: 32, Class: "A", Name: "f", Type: "@B"}, "put A f @B"}, {impl.Ins{Op: 32, B: 1, Class: name, Name: name, Type: "[[[[@" + name}, "putstatic " + name + " " + name + " [[[[@" + name},
		{impl.Ins{Op: 34, Class: "A"}, "new A"}, {impl.Ins{Op: 34, Class: name}, "new " + name},
		{impl.Ins{Op: 35, Type: "J"}, "newarray J"}, {impl.Ins{Op: 35, Type: "[[[D"}, "newarray [[[D"},
		{impl.Ins{Op: 39, Type: "@A"}, "cast @A"}, {impl.Ins{Op: 39, Type: "[[[[I"}, "cast [[[[I"}, {impl.Ins{Op: 40, Type: "@A"}, "is @A"}, {impl.Ins{Op: 40, Type: "[J"}, "is [J"},
		{impl.Ins{Op: 33, B: 1, Class: "static", Name: "end", Type: "(I,J,D,@A,[I,[@A,I,J)V"}, "call static static end (I,J,D,@A,[I,[@A,I,J)V"},
	}
	for k, word := range []string{"static", "virtual", "special", "interface"} {
		out = append(out, shownIns{impl.Ins{Op: 33, B: int64(k) + 1, Class: "A", Name: "m", Type: "(I,@A)[J"}, "call " + word + " A m (I,@A)[J"})
	}
	return out
}

func TestShowIns(t *testing.T) {
	met := map[int64]int{}
	for _, c := range shownInstructions() {
		met[c.ins.Op]++
		if got := impl.ShowIns(c.ins); got != c.text {
			t.Errorf("ShowIns(%+v) is %q, not %q", c.ins, got, c.text)
		}
	}
	if len(met) != 44 {
		t.Errorf("%d ops are held against their words", len(met))
	}
}

// showOracle gives the words of an instruction that can be.
func showOracle(i impl.Ins) string {
	plain := strings.Split(" const text null load store inc pop dup swap under add sub mul div rem neg shl shr ushr and or xor cmp conv goto if ifint ifnull ifsame switch get put call new newarray length aload astore cast is throw enter exit return", " ")
	kinds, conds, calls := " IJDR", strings.Split(" eq ne lt ge gt le", " "), strings.Split(" static virtual special interface", " ")
	word := plain[i.Op]
	switch i.Op {
	case 1:
		if i.Kind == 3 {
			return word + " D " + impl.ShowFloat(i.A)
		}
		return fmt.Sprintf("%s %c %d", word, kinds[i.Kind], i.A)
	case 2:
		out := ""
		for k := range len(i.Text) {
			if c := i.Text[k]; strconv.IsPrint(rune(c)) && c < 128 && !strings.ContainsRune(`"\`, rune(c)) {
				out += string(rune(c))
			} else {
				out += fmt.Sprintf(`\%02x`, c)
			}
		}
		return word + ` "` + out + `"`
	case 4, 5:
		return fmt.Sprintf("%s %c %d", word, kinds[i.Kind], i.A)
	case 6:
		return fmt.Sprintf("%s %d %d", word, i.A, i.B)
	case 23:
		if i.Kind == 3 {
			return fmt.Sprintf("%s D %d", word, i.B)
		}
		return word + " J"
	case 24:
		return fmt.Sprintf("%s %c %c", word, kinds[i.Kind], " IJD?BCS"[i.A])
	case 25:
		return fmt.Sprintf("%s %d", word, i.A)
	case 26, 27, 28, 29:
		return fmt.Sprintf("%s %s %d", word, conds[i.B], i.A)
	case 30:
		out := fmt.Sprintf("%s %d %d", word, i.B, i.A)
		for _, target := range i.Table {
			out += fmt.Sprintf(" %d", target)
		}
		return out
	case 31, 32:
		return fmt.Sprintf("%s%s %s %s %s", word, []string{"", "static"}[i.B], i.Class, i.Name, i.Type)
	case 33:
		return fmt.Sprintf("%s %s %s %s %s", word, calls[i.B], i.Class, i.Name, i.Type)
	case 34:
		return word + " " + i.Class
	case 35, 39, 40:
		return word + " " + i.Type
	}
	if i.Kind != 0 {
		return fmt.Sprintf("%s %c", word, kinds[i.Kind])
	}
	return word
}

// Each instruction, with each value in each field and each two fields changed together: those that can be have their words, all others nothing.
func TestShowInsEverywhere(t *testing.T) {
	t.Parallel()
	shown, refused := 0, 0
	look := func(i impl.Ins) {
		want := ""
		if impl.InsOk(i, impl.MaxCode, impl.MaxLocals) {
			want = showOracle(i)
			shown++
		} else {
			refused++
		}
		if got := impl.ShowIns(i); got != want {
			t.Errorf("ShowIns(%+v) is %q, not %q", i, got, want)
		}
	}
	for _, r := range append(rows(), row{}, row{op: 45}, row{op: -1}) {
		first := variations(r.fit())
		for f := range first {
			for _, i := range first[f] {
				look(i)
				for _, second := range variations(i)[f+1:] {
					for k := 0; k < len(second); k += 3 {
						look(second[k])
					}
				}
			}
		}
	}
	if shown < 1000 || refused < 10000 {
		t.Errorf("%d are shown, %d refused", shown, refused)
	}
}

// The bounds are those of MaxCode and MaxLocals: what is beyond them by one is nothing.
func TestShowInsBounds(t *testing.T) {
	for _, c := range []struct {
		ins  impl.Ins
		want string
	}{
		{impl.Ins{Op: impl.OpGoto, A: 399}, "goto 399"}, {impl.Ins{Op: impl.OpGoto, A: 400}, ""}, {impl.Ins{Op: impl.OpGoto, A: -1}, ""},
		{impl.Ins{Op: impl.OpIf, A: 400, B: 1}, ""}, {impl.Ins{Op: impl.OpIfInt, A: 400, B: 1}, ""}, {impl.Ins{Op: impl.OpIfNull, A: 400, B: 1}, ""}, {impl.Ins{Op: impl.OpIfSame, A: 400, B: 1}, ""},
		{impl.Ins{Op: impl.OpSwitch, A: 399, Table: []int64{399}}, "switch 0 399 399"}, {impl.Ins{Op: impl.OpSwitch, A: 400, Table: []int64{0}}, ""}, {impl.Ins{Op: impl.OpSwitch, Table: []int64{0, 400}}, ""}, {impl.Ins{Op: impl.OpSwitch}, ""}, {impl.Ins{Op: impl.OpSwitch, Table: make([]int64, 101)}, ""},
		{impl.Ins{Op: impl.OpLoad, Kind: 1, A: 39}, "load I 39"}, {impl.Ins{Op: impl.OpLoad, Kind: 1, A: 40}, ""}, {impl.Ins{Op: impl.OpStore, Kind: 4, A: 40}, ""}, {impl.Ins{Op: impl.OpInc, A: 40}, ""}, {impl.Ins{Op: impl.OpInc, A: 39, B: 32768}, ""},
		{impl.Ins{Op: impl.OpText, Text: strings.Repeat("x", 201)}, ""},
		{impl.Ins{Op: impl.OpConst, Kind: 1, A: 2147483648}, ""}, {impl.Ins{Op: impl.OpConst, Kind: 3, A: impl.NaNBits + 1}, ""}, {impl.Ins{Op: impl.OpConst, Kind: 4}, ""},
		{impl.Ins{Op: impl.OpRem, Kind: 3}, ""}, {impl.Ins{Op: impl.OpConv, Kind: 1, A: 1}, ""}, {impl.Ins{Op: impl.OpCmp, Kind: 1}, ""}, {impl.Ins{Op: impl.OpIfNull, A: 1, B: 3}, ""},
		{impl.Ins{Op: impl.OpPop, A: 1}, ""}, {impl.Ins{Op: impl.OpReturn, Kind: 5}, ""}, {impl.Ins{}, ""}, {impl.Ins{Op: 45}, ""},
	} {
		if got := impl.ShowIns(c.ins); got != c.want {
			t.Errorf("ShowIns(%+v) is %q, not %q", c.ins, got, c.want)
		}
	}
}
