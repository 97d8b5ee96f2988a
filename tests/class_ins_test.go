package tests

import (
	"strings"
	"testing"

	"loop.example/g00032/impl"
)

const (
	codeSize   = 7
	placeCount = 3
)

var anyName = whole(namePattern)

// A row is one line of chapter 2's table of instructions, one kind of it: an instruction is right when a row of its Op takes each of its fields.
type row struct {
	op    int64
	kinds []int64
	a     span
	b     span
	odd   func(a int64) bool
	text  bool
	class bool
	name  bool
	typ   func(string) bool
	table bool
}

// A span is a list of bounds, low and high by turns; one that is empty takes 0 alone.
type span []int64

func (s span) takes(n int64) bool {
	if len(s) == 0 {
		return n == 0
	}
	for k := 0; k < len(s); k += 2 {
		if n >= s[k] && n <= s[k+1] {
			return true
		}
	}
	return false
}

func rows() []row {
	place, target, int32s, any64 := span{0, placeCount - 1}, span{0, codeSize - 1}, span{minInt, maxInt}, span{minLong, maxLong}
	typ, sig, ref := whole(typePattern).MatchString, whole(sigPattern).MatchString, whole(`(?:@`+namePattern+`|\[{1,4}(?:[IJD]|@`+namePattern+`))`).MatchString
	element := whole(`\[{0,3}(?:[IJD]|@` + namePattern + `)`).MatchString
	out := []row{
		{op: 1, kinds: []int64{1}, a: int32s}, {op: 1, kinds: []int64{2}, a: any64},
		{op: 1, kinds: []int64{3}, a: any64, odd: func(a int64) bool { return isNone(a) && a != impl.NaNBits }},
		{op: 2, text: true},
		{op: 3}, {op: 7}, {op: 8}, {op: 9}, {op: 10}, {op: 36}, {op: 41}, {op: 42}, {op: 43},
		{op: 4, kinds: []int64{1, 2, 3, 4}, a: place}, {op: 5, kinds: []int64{1, 2, 3, 4}, a: place},
		{op: 6, a: place, b: span{-32768, 32767}},
		{op: 23, kinds: []int64{2}}, {op: 23, kinds: []int64{3}, b: span{-1, -1, 1, 1}},
		{op: 24, kinds: []int64{1}, a: span{2, 3, 5, 7}}, {op: 24, kinds: []int64{2}, a: span{1, 1, 3, 3}}, {op: 24, kinds: []int64{3}, a: span{1, 2}},
		{op: 25, a: target},
		{op: 26, a: target, b: span{1, 6}}, {op: 27, a: target, b: span{1, 6}}, {op: 28, a: target, b: span{1, 2}}, {op: 29, a: target, b: span{1, 2}},
		{op: 30, a: target, b: int32s, table: true},
		{op: 31, b: span{0, 1}, class: true, name: true, typ: typ}, {op: 32, b: span{0, 1}, class: true, name: true, typ: typ},
		{op: 33, b: span{1, 4}, class: true, name: true, typ: sig},
		{op: 34, class: true}, {op: 35, typ: element},
		{op: 37, kinds: []int64{1, 2, 3, 4}}, {op: 38, kinds: []int64{1, 2, 3, 4}},
		{op: 39, typ: ref}, {op: 40, typ: ref},
		{op: 44, kinds: []int64{0, 1, 2, 3, 4}},
	}
	for _, op := range []int64{15, 17, 18, 19, 20, 21, 22} {
		out = append(out, row{op: op, kinds: []int64{1, 2}})
	}
	for _, op := range []int64{11, 12, 13, 14, 16} {
		out = append(out, row{op: op, kinds: []int64{1, 2, 3}})
	}
	return out
}

func (r row) takes(i impl.Ins) bool {
	kind := len(r.kinds) == 0 && i.Kind == 0
	for _, k := range r.kinds {
		kind = kind || i.Kind == k
	}
	name := anyName
	ok := i.Op == r.op && kind && r.a.takes(i.A) && r.b.takes(i.B) && (r.odd == nil || !r.odd(i.A))
	ok = ok && (i.Text == "" || r.text && len(i.Text) <= 200)
	ok = ok && r.class == (i.Class != "") && (i.Class == "" || name.MatchString(i.Class))
	ok = ok && r.name == (i.Name != "") && (i.Name == "" || name.MatchString(i.Name))
	ok = ok && (r.typ != nil) == (i.Type != "") && (i.Type == "" || r.typ(i.Type))
	ok = ok && r.table == (len(i.Table) > 0) && len(i.Table) <= 100
	for _, target := range i.Table {
		ok = ok && target >= 0 && target < codeSize
	}
	return ok
}

// fit is an instruction that the row takes.
func (r row) fit() impl.Ins {
	i := impl.Ins{Op: r.op}
	if len(r.kinds) > 0 {
		i.Kind = r.kinds[len(r.kinds)-1]
	}
	if len(r.a) > 0 {
		i.A = r.a[len(r.a)-1]
		if r.odd != nil {
			i.A = one
		}
	}
	if len(r.b) > 0 {
		i.B = r.b[0]
	}
	if r.text {
		i.Text = "text"
	}
	if r.class {
		i.Class = "A"
	}
	if r.name {
		i.Name = "m"
	}
	for _, s := range []string{"[I", "(I)V"} {
		if r.typ != nil && r.typ(s) {
			i.Type = s
		}
	}
	if r.table {
		i.Table = []int64{0, 6}
	}
	return i
}

func insTexts() []string {
	return []string{"", "A", "I", "V", "m", "1a", "new", "@A", "[I", "[[[[J", "[[[@A", "[[[[[I", "[V", "()V", "(I,@A)[I", "(V)V", "é", longName(40), longName(41), "@" + longName(40), strings.Repeat("x", 200), strings.Repeat("x", 201), "\xff\x00\n\"", " "}
}

func insNumbers() []int64 {
	return []int64{minLong, minLong + 1, minInt - 1, minInt, -32769, -32768, -7, -2, -1, 0, 1, 2, 3, 4, 5, 6, 7, 8, 9, 39, 40, 399, 400, 32767, 32768, maxInt, maxInt + 1, 1<<32 + 1, one, infinity, minusInfinity, quiet, quiet + 1, loud, -1 << 51, signBit | impl.NaNBits, lastOne, maxLong}
}

func insTables() [][]int64 {
	full, over := make([]int64, 100), make([]int64, 101)
	late := make([]int64, 100)
	late[99] = codeSize
	return [][]int64{nil, {}, {0}, {codeSize - 1}, {codeSize}, {-1}, {0, 6, 3}, {0, 7}, {-1, 0}, {0, minLong}, {maxLong}, full, over, late}
}

// variations gives the instruction with one field changed at a time: once for each value of that field.
func variations(i impl.Ins) [][]impl.Ins {
	out := make([][]impl.Ins, 8)
	for _, n := range insNumbers() {
		k, a, b := i, i, i
		k.Kind, a.A, b.B = n, n, n
		out[0], out[1], out[2] = append(out[0], k), append(out[1], a), append(out[2], b)
	}
	for _, s := range insTexts() {
		text, class, name, typ := i, i, i, i
		text.Text, class.Class, name.Name, typ.Type = s, s, s, s
		out[3], out[4], out[5], out[6] = append(out[3], text), append(out[4], class), append(out[5], name), append(out[6], typ)
	}
	for _, table := range insTables() {
		j := i
		j.Table = table
		out[7] = append(out[7], j)
	}
	return out
}

func testIns(t *testing.T, all []row, i impl.Ins) {
	want := false
	for _, r := range all {
		want = want || r.takes(i)
	}
	if got := impl.InsOk(i, codeSize, placeCount); got != want {
		t.Errorf("InsOk(%+v) is %v", i, got)
	}
}

// Each instruction that is right, with each value in each field, and with each two fields changed together.
func TestInstructions(t *testing.T) {
	t.Parallel()
	byOp := map[int64][]row{}
	for _, r := range rows() {
		byOp[r.op] = append(byOp[r.op], r)
	}
	if len(byOp) != 44 {
		t.Fatalf("%d ops", len(byOp))
	}
	for _, r := range rows() {
		if i := r.fit(); !r.takes(i) || !impl.InsOk(i, codeSize, placeCount) {
			t.Errorf("InsOk(%+v) is false", i)
		}
		first := variations(r.fit())
		for f := range first {
			for _, i := range first[f] {
				testIns(t, byOp[r.op], i)
				for _, second := range variations(i)[f+1:] {
					for _, j := range second {
						testIns(t, byOp[r.op], j)
					}
				}
			}
		}
	}
}

func TestNoSuchOp(t *testing.T) {
	for _, op := range []int64{minLong, -44, -1, 0, 45, 46, 100, 1<<32 + impl.OpNull, 256 + impl.OpNull, maxLong} {
		for _, r := range append(rows(), row{}) {
			i := r.fit()
			i.Op = op
			if impl.InsOk(i, codeSize, placeCount) {
				t.Errorf("InsOk(%+v) is true", i)
			}
		}
	}
}

// Sizes and counts of locals: the last target and place is one below.
func TestInstructionBounds(t *testing.T) {
	bounds := []int64{minLong, minLong + 1, -1, 0, 1, 2, 400, 401, maxLong}
	for _, size := range bounds {
		for _, a := range []int64{minLong, -1, 0, 1, 2, 399, 400, 401, maxLong - 1, maxLong} {
			inside := a >= 0 && a < size
			for _, i := range []impl.Ins{
				{Op: impl.OpGoto, A: a}, {Op: impl.OpIf, A: a, B: impl.CondLe}, {Op: impl.OpIfInt, A: a, B: impl.CondEq}, {Op: impl.OpIfNull, A: a, B: impl.CondNe}, {Op: impl.OpIfSame, A: a, B: impl.CondEq}, {Op: impl.OpSwitch, A: a, Table: []int64{a}},
			} {
				if impl.InsOk(i, size, 0) != inside {
					t.Errorf("InsOk(%+v, %d, 0) is %v", i, size, !inside)
				}
			}
			for _, i := range []impl.Ins{{Op: impl.OpLoad, Kind: 1, A: a}, {Op: impl.OpStore, Kind: 4, A: a}, {Op: impl.OpInc, A: a, B: 5}} {
				if impl.InsOk(i, 0, size) != inside {
					t.Errorf("InsOk(%+v, 0, %d) is %v", i, size, !inside)
				}
			}
			table := impl.Ins{Op: impl.OpSwitch, Table: []int64{0, a}}
			if impl.InsOk(table, size, 9) != (inside && size > 0) {
				t.Errorf("InsOk(%+v, %d, 9) is %v", table, size, impl.InsOk(table, size, 9))
			}
		}
		for _, i := range []impl.Ins{{Op: impl.OpNull}, {Op: impl.OpConst, Kind: 2, A: minLong}, {Op: impl.OpReturn}, {Op: impl.OpText}} {
			if !impl.InsOk(i, size, size) {
				t.Errorf("InsOk(%+v, %d, %d) is false: it has neither target nor place", i, size, size)
			}
		}
	}
}

// Edges that are written out, so that they do not hang on the rows above.
func TestInstructionEdges(t *testing.T) {
	for _, c := range []struct {
		ins  impl.Ins
		want bool
	}{
		{impl.Ins{Op: impl.OpConst, Kind: impl.KindInt, A: -2147483648}, true},
		{impl.Ins{Op: impl.OpConst, Kind: impl.KindInt, A: -2147483649}, false},
		{impl.Ins{Op: impl.OpConst, Kind: impl.KindInt, A: 2147483647}, true},
		{impl.Ins{Op: impl.OpConst, Kind: impl.KindInt, A: 2147483648}, false},
		{impl.Ins{Op: impl.OpConst, Kind: impl.KindLong, A: 2147483648}, true},
		{impl.Ins{Op: impl.OpConst, Kind: impl.KindFloat, A: 9221120237041090560}, true},
		{impl.Ins{Op: impl.OpConst, Kind: impl.KindFloat, A: 9221120237041090561}, false},
		{impl.Ins{Op: impl.OpConst, Kind: impl.KindFloat, A: 9218868437227405312}, true},
		{impl.Ins{Op: impl.OpConst, Kind: impl.KindFloat, A: 9218868437227405313}, false},
		{impl.Ins{Op: impl.OpConst, Kind: impl.KindFloat, A: -1}, false},
		{impl.Ins{Op: impl.OpConst, Kind: impl.KindRef}, false},
		{impl.Ins{Op: impl.OpConst}, false},
		{impl.Ins{Op: impl.OpText}, true},
		{impl.Ins{Op: impl.OpText, Text: strings.Repeat("\xff", 200)}, true},
		{impl.Ins{Op: impl.OpText, Text: strings.Repeat("\xff", 201)}, false},
		{impl.Ins{Op: impl.OpInc, A: 2, B: -32768}, true},
		{impl.Ins{Op: impl.OpInc, A: 2, B: -32769}, false},
		{impl.Ins{Op: impl.OpInc, A: 2, B: 32767}, true},
		{impl.Ins{Op: impl.OpInc, A: 2, B: 32768}, false},
		{impl.Ins{Op: impl.OpInc, A: 3, B: 1}, false},
		{impl.Ins{Op: impl.OpInc, Kind: impl.KindInt, A: 2, B: 1}, false},
		{impl.Ins{Op: impl.OpLoad, A: 2}, false},
		{impl.Ins{Op: impl.OpLoad, Kind: 5, A: 2}, false},
		{impl.Ins{Op: impl.OpRem, Kind: impl.KindFloat}, false},
		{impl.Ins{Op: impl.OpShl, Kind: impl.KindFloat}, false},
		{impl.Ins{Op: impl.OpNeg, Kind: impl.KindFloat}, true},
		{impl.Ins{Op: impl.OpXor, Kind: impl.KindRef}, false},
		{impl.Ins{Op: impl.OpAdd}, false},
		{impl.Ins{Op: impl.OpCmp, Kind: impl.KindInt}, false},
		{impl.Ins{Op: impl.OpCmp, Kind: impl.KindLong, B: 1}, false},
		{impl.Ins{Op: impl.OpCmp, Kind: impl.KindFloat}, false},
		{impl.Ins{Op: impl.OpCmp, Kind: impl.KindFloat, B: -1}, true},
		{impl.Ins{Op: impl.OpConv, Kind: impl.KindInt, A: impl.KindInt}, false},
		{impl.Ins{Op: impl.OpConv, Kind: impl.KindLong, A: impl.ToByte}, false},
		{impl.Ins{Op: impl.OpConv, Kind: impl.KindInt, A: impl.ToShort}, true},
		{impl.Ins{Op: impl.OpIf, A: 6, B: 6}, true},
		{impl.Ins{Op: impl.OpIf, A: 7, B: 6}, false},
		{impl.Ins{Op: impl.OpIf, A: 6, B: 7}, false},
		{impl.Ins{Op: impl.OpIf, A: 6}, false},
		{impl.Ins{Op: impl.OpIfSame, A: 6, B: 3}, false},
		{impl.Ins{Op: impl.OpSwitch, A: 6, B: -2147483648, Table: []int64{6}}, true},
		{impl.Ins{Op: impl.OpSwitch, A: 6, B: -2147483649, Table: []int64{6}}, false},
		{impl.Ins{Op: impl.OpSwitch, A: 6, B: 2147483648, Table: []int64{6}}, false},
		{impl.Ins{Op: impl.OpSwitch, A: 6}, false},
		{impl.Ins{Op: impl.OpGoto, A: 6, Table: []int64{}}, true},
		{impl.Ins{Op: impl.OpGoto, A: 6, Table: []int64{0}}, false},
		{impl.Ins{Op: impl.OpGet, Class: "A", Name: "f", Type: "I", B: 2}, false},
		{impl.Ins{Op: impl.OpGet, Class: "A", Name: "f", Type: "V"}, false},
		{impl.Ins{Op: impl.OpPut, Class: "A", Name: "f", Type: "()V"}, false},
		{impl.Ins{Op: impl.OpCall, Class: "A", Name: "f", Type: "I", B: 1}, false},
		{impl.Ins{Op: impl.OpCall, Class: "A", Name: "f", Type: "()V"}, false},
		{impl.Ins{Op: impl.OpCall, Class: "A", Name: "f", Type: "()V", B: 5}, false},
		{impl.Ins{Op: impl.OpNew, Class: "@A"}, false},
		{impl.Ins{Op: impl.OpNewArray, Type: "[[[I"}, true},
		{impl.Ins{Op: impl.OpNewArray, Type: "[[[[I"}, false},
		{impl.Ins{Op: impl.OpCast, Type: "[[[[I"}, true},
		{impl.Ins{Op: impl.OpCast, Type: "I"}, false},
		{impl.Ins{Op: impl.OpIs, Type: "0"}, false},
		{impl.Ins{Op: impl.OpReturn, Kind: 4}, true},
		{impl.Ins{Op: impl.OpReturn, Kind: 5}, false},
		{impl.Ins{Op: impl.OpReturn, Kind: -1}, false},
		{impl.Ins{Op: impl.OpThrow, A: 1}, false},
		{impl.Ins{}, false},
	} {
		if impl.InsOk(c.ins, codeSize, placeCount) != c.want {
			t.Errorf("InsOk(%+v) is %v", c.ins, !c.want)
		}
	}
}
