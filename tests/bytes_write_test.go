package tests

import (
	"bytes"
	"slices"
	"strings"
	"testing"

	"loop.example/g00032/impl"
)

// laid puts bytes together: a text as it stands, a number as that byte, bytes as they are.
func laid(parts ...any) []byte {
	out := []byte{}
	for _, p := range parts {
		switch x := p.(type) {
		case int:
			out = append(out, byte(x))
		case string:
			out = append(out, x...)
		case []byte:
			out = append(out, x...)
		}
	}
	return out
}

// lies says that the class has just this file, and that it comes back from it.
func lies(t *testing.T, c impl.Class, file []byte) {
	t.Helper()
	if got := impl.ClassBytes(c); !bytes.Equal(got, file) {
		t.Errorf("%s is %q, not %q", c.Name, got, file)
	}
	got := impl.ReadBytes(file)
	if got.Code != impl.BytesOk || got.At != 0 || !alike(got.Class, c) {
		t.Errorf("%q is read as %d at %d: %+v", file, got.Code, got.At, got.Class)
	}
}

func TestNumbersOfFaults(t *testing.T) {
	got := []int64{impl.BytesOk, impl.BytesMagic, impl.BytesShort, impl.BytesNumber, impl.BytesPool, impl.BytesMore, impl.BytesClass, impl.MaxFile}
	if !slices.Equal(got, []int64{0, 1, 2, 3, 4, 5, 6, 200000}) {
		t.Errorf("they are %v", got)
	}
}

func TestSmallFiles(t *testing.T) {
	lies(t, impl.Class{Name: "A", Super: "B"}, laid("LRCH", 4, 2, "A", 2, "B", 0, 2, 0, 0, 0, 0, 0))
	// A text stands in the pool once, whatever it is there.
	lies(t, impl.Class{Name: "A", Super: "A"}, laid("LRCH", 2, 2, "A", 0, 0, 0, 0, 0, 0, 0))
	// The empty text is one, where the body has it.
	lies(t, impl.Class{Name: "Object"}, laid("LRCH", 4, 12, "Object", 0, 0, 2, 0, 0, 0, 0, 0))
	lies(t, impl.Class{Name: "B", Super: "A", Interfaces: []string{"C", "B"}, Flags: impl.FlagSealed, Permits: []string{"A", "D"}},
		laid("LRCH", 8, 2, "B", 2, "A", 2, "C", 2, "D", 0, 2, 4, 4, 0, 128, 4, 4, 2, 6, 0, 0))
	lies(t, impl.Class{Name: "A", Super: "Object", Flags: impl.FlagAbstract | impl.FlagInterface, Fields: []impl.Field{{Name: "A", Type: "I", Flags: 3}, {Name: "I", Type: "[I", Flags: 3}}, Methods: []impl.Method{bare("I", "()V", impl.FlagAbstract)}},
		laid("LRCH", 10, 2, "A", 12, "Object", 2, "I", 4, "[I", 6, "()V", 0, 2, 0, 136, 2, 0, 4, 0, 4, 6, 4, 6, 6, 2, 4, 8, 8, 0, 0, 0, 0, 0, 0))
}

// A name of 40 bytes has its count in one byte, a type of 64 in two.
func TestLongTexts(t *testing.T) {
	name := longName(40)
	lies(t, impl.Class{Name: name, Super: "A"}, laid("LRCH", 4, 80, name, 2, "A", 0, 2, 0, 0, 0, 0, 0))
	for _, c := range []struct {
		size  int
		count []byte
	}{
		{0, []byte{0}}, {1, []byte{2}}, {63, []byte{126}}, {64, []byte{128, 1}}, {127, []byte{254, 1}}, {128, []byte{128, 2}}, {200, []byte{144, 3}},
	} {
		text := strings.Repeat("\xff", c.size)
		lies(t, classOfIns(impl.Ins{Op: impl.OpText, Text: text}), insFile(laid(4, 8), laid(c.count, text)))
	}
}

// classOfIns has an instruction and nine more, so that targets and places of locals up to 9 may stand in it.
func classOfIns(i impl.Ins) impl.Class {
	return impl.Class{Name: "A", Super: "B", Methods: []impl.Method{{Name: "m", Sig: "()V", Flags: impl.FlagStatic, Locals: 10, Code: append([]impl.Ins{i}, pops(9)...)}}}
}

// insFile is the file of that class: the instruction as it stands in the body, and the texts that it adds to the pool.
func insFile(ins []byte, texts ...[]byte) []byte {
	return laid("LRCH", 8+2*len(texts), 2, "A", 2, "B", 2, "m", 6, "()V", bytes.Join(texts, nil),
		0, 2, 0, 0, 0, 0, 2, 4, 6, 2, 0, 20, 20, ins, 14, 14, 14, 14, 14, 14, 14, 14, 14, 0, 0, 0)
}

func TestNumbersInFiles(t *testing.T) {
	full := func(first byte, n int, last ...byte) []byte {
		return slices.Concat([]byte{first}, bytes.Repeat([]byte{255}, n), last)
	}
	bare := func(first byte, n int, last ...byte) []byte {
		return slices.Concat([]byte{first}, bytes.Repeat([]byte{128}, n), last)
	}
	for _, c := range []struct {
		n int64
		b []byte
	}{
		{0, []byte{0}}, {-1, []byte{1}}, {1, []byte{2}}, {-2, []byte{3}}, {2, []byte{4}}, {63, []byte{126}}, {-64, []byte{127}},
		{64, []byte{128, 1}}, {-65, []byte{129, 1}}, {127, []byte{254, 1}}, {-128, []byte{255, 1}}, {128, []byte{128, 2}}, {8191, []byte{254, 127}}, {-8192, []byte{255, 127}},
		{8192, []byte{128, 128, 1}}, {-8193, []byte{129, 128, 1}}, {1 << 20, bare(128, 2, 1)}, {maxInt, full(254, 3, 15)}, {minInt, full(255, 3, 15)},
		{1<<55 - 1, full(254, 6, 127)}, {-1 << 55, full(255, 6, 127)}, {1 << 55, bare(128, 7, 1)}, {-1<<55 - 1, bare(129, 7, 1)},
		{1<<62 - 1, full(254, 7, 127)}, {-1 << 62, full(255, 7, 127)}, {1 << 62, bare(128, 8, 1)}, {-1<<62 - 1, bare(129, 8, 1)},
		{maxLong, full(254, 8, 1)}, {minLong, full(255, 8, 1)}, {maxLong - 1, full(252, 8, 1)}, {minLong + 1, full(253, 8, 1)},
	} {
		lies(t, classOfIns(impl.Ins{Op: impl.OpConst, Kind: impl.KindLong, A: c.n}), insFile(laid(2, 4, c.b)))
		if got := numberBytes(c.n); !bytes.Equal(got, c.b) {
			t.Errorf("the oracle lays %d as %v", c.n, got)
		}
	}
	for _, n := range append(edgeNumbers(), extremes()...) {
		lies(t, classOfIns(impl.Ins{Op: impl.OpConst, Kind: impl.KindLong, A: n}), insFile(laid(2, 4, numberBytes(n))))
	}
	for k := range 64 {
		for _, n := range []int64{1 << k, 1<<k - 1, -1 << k, -1<<k - 1, 1<<k + 1} {
			lies(t, classOfIns(impl.Ins{Op: impl.OpConst, Kind: impl.KindLong, A: n}), insFile(laid(2, 4, numberBytes(n))))
		}
	}
}

// What each Op has: the bytes of the instruction, and the texts that are new.
func TestInstructionsInFiles(t *testing.T) {
	met := map[int64]bool{}
	lay := func(i impl.Ins, ins []byte, texts ...string) {
		t.Helper()
		met[i.Op] = true
		pool := [][]byte{}
		for _, s := range texts {
			pool = append(pool, laid(2*len(s), s))
		}
		lies(t, classOfIns(i), insFile(ins, pool...))
	}
	lay(impl.Ins{Op: 1, Kind: 1, A: -5}, laid(2, 2, 9))
	lay(impl.Ins{Op: 1, Kind: 3, A: impl.NaNBits}, laid(2, 6, 128, 128, 128, 128, 128, 128, 128, 248, 255, 1))
	lay(impl.Ins{Op: 2, Text: ""}, laid(4, 8), "")
	lay(impl.Ins{Op: 2, Text: "m"}, laid(4, 4))
	lay(impl.Ins{Op: 2, Text: "\x00\n\xff"}, laid(4, 8), "\x00\n\xff")
	for _, op := range []int64{3, 7, 8, 9, 10, 36, 41, 42, 43} {
		lay(impl.Ins{Op: op}, laid(int(2*op)))
	}
	lay(impl.Ins{Op: 4, Kind: 4, A: 9}, laid(8, 8, 18))
	lay(impl.Ins{Op: 5, Kind: 1, A: 2}, laid(10, 2, 4))
	lay(impl.Ins{Op: 6, A: 3, B: -32768}, laid(12, 6, 255, 255, 3))
	for op := int64(11); op <= 22; op++ {
		lay(impl.Ins{Op: op, Kind: 1}, laid(int(2*op), 2))
		lay(impl.Ins{Op: op, Kind: 2}, laid(int(2*op), 4))
	}
	lay(impl.Ins{Op: 11, Kind: 3}, laid(22, 6))
	// The B of OpCmp stands there with both kinds.
	lay(impl.Ins{Op: 23, Kind: 2}, laid(46, 4, 0))
	lay(impl.Ins{Op: 23, Kind: 3, B: -1}, laid(46, 6, 1))
	lay(impl.Ins{Op: 23, Kind: 3, B: 1}, laid(46, 6, 2))
	lay(impl.Ins{Op: 24, Kind: 1, A: 7}, laid(48, 2, 14))
	lay(impl.Ins{Op: 25, A: 9}, laid(50, 18))
	lay(impl.Ins{Op: 26, A: 1, B: 6}, laid(52, 2, 12))
	lay(impl.Ins{Op: 27, A: 2, B: 5}, laid(54, 4, 10))
	lay(impl.Ins{Op: 28, A: 3, B: 2}, laid(56, 6, 4))
	lay(impl.Ins{Op: 29, A: 4, B: 1}, laid(58, 8, 2))
	lay(impl.Ins{Op: 30, A: 5, B: -7, Table: []int64{9}}, laid(60, 10, 13, 2, 18))
	lay(impl.Ins{Op: 30, A: 0, B: 64, Table: []int64{3, 2, 1}}, laid(60, 0, 128, 1, 6, 6, 4, 2))
	lay(impl.Ins{Op: 30, Table: make([]int64, 100)}, laid(60, 0, 0, 200, 1, make([]byte, 100)))
	lay(impl.Ins{Op: 31, Class: "C", Name: "f", Type: "I"}, laid(62, 0, 8, 10, 12), "C", "f", "I")
	lay(impl.Ins{Op: 31, B: 1, Class: "B", Name: "A", Type: "@A"}, laid(62, 2, 2, 0, 8), "@A")
	lay(impl.Ins{Op: 32, B: 1, Class: "C", Name: "C", Type: "D"}, laid(64, 2, 8, 8, 10), "C", "D")
	lay(impl.Ins{Op: 33, B: 4, Class: "m", Name: "n", Type: "()V"}, laid(66, 8, 4, 8, 6), "n")
	lay(impl.Ins{Op: 34, Class: "C"}, laid(68, 8), "C")
	lay(impl.Ins{Op: 35, Type: "[J"}, laid(70, 8), "[J")
	lay(impl.Ins{Op: 37, Kind: 3}, laid(74, 6))
	lay(impl.Ins{Op: 38, Kind: 4}, laid(76, 8))
	lay(impl.Ins{Op: 39, Type: "@A"}, laid(78, 8), "@A")
	lay(impl.Ins{Op: 40, Type: "[I"}, laid(80, 8), "[I")
	lay(impl.Ins{Op: 44}, laid(88, 0))
	lay(impl.Ins{Op: 44, Kind: 4}, laid(88, 8))
	for op := int64(1); op <= 44; op++ {
		if !met[op] {
			t.Errorf("op %d is not told", op)
		}
	}
}

func TestMethodsInFiles(t *testing.T) {
	m := impl.Method{
		Name: "m", Sig: "(I)V", Flags: impl.FlagPrivate | impl.FlagSync, Stack: 3, Locals: 2, Code: []impl.Ins{{Op: 7}, {Op: 7}, {Op: 44}},
		Handlers: []impl.Handler{{From: 0, To: 3, At: 2, Type: ""}, {From: 1, To: 2, At: 0, Type: "E"}},
		Frames:   []impl.Frame{{At: 0, Locals: []string{"@A", "I"}}, {At: 2, Locals: []string{"-", "!1"}, Stack: []string{"0", "!!", "I"}}},
		Lines:    []impl.Line{{At: 0, N: 1}, {At: 1, N: 64}, {At: 2, N: 1000000}},
	}
	lies(t, impl.Class{Name: "A", Super: "E", Methods: []impl.Method{m}}, laid(
		"LRCH", 22, 2, "A", 2, "E", 2, "m", 8, "(I)V", 0, 4, "@A", 2, "I", 2, "-", 4, "!1", 2, "0", 4, "!!",
		0, 2, 0, 0, 0, 0, 2, 4, 6, 80, 6, 4,
		6, 14, 14, 88, 0,
		4, 0, 6, 4, 8, 2, 4, 0, 2,
		4, 0, 4, 10, 12, 0, 4, 4, 14, 16, 6, 18, 20, 12,
		6, 0, 2, 2, 128, 1, 4, 128, 137, 122))
}

// The class with everything, its file written out.
func TestRichFile(t *testing.T) {
	lies(t, richClass(), laid(
		"LRCH", 62, 12, "R.one$", 8, "Base", 4, "J2", 4, "J1", 2, "C", 2, "D", 2, "a", 2, "I", 2, "b", 18, "[[@R.one$", 2, "c", 2, "J", 12, "static",
		6, "new", 6, "()V", 6, "far", 26, "(I,@R.one$)[J", 8, "work", 8, "(D)I", 18, "say \"it\"\n", 10, "Error", 0, 2, "A", 14, "@R.one$", 2, "-", 4, "!!", 4, "!4", 2, "0", 6, "[[J", 4, "@A", 10, "start",
		0, 2, 4, 4, 6, 136, 4, 4, 8, 10,
		8, 12, 14, 0, 16, 18, 22, 20, 22, 50, 24, 10, 4,
		10,
		26, 28, 16, 2, 2, 6, 8, 8, 0, 66, 6, 2, 26, 28, 88, 0, 0, 0, 0,
		30, 32, 214, 1, 0, 0, 0, 0, 0, 0,
		30, 28, 8, 0, 0, 0, 0, 0, 0,
		34, 36, 68, 80, 6, 14, 4, 38, 14, 2, 2, 5, 60, 10, 1, 4, 0, 12, 68, 0, 2, 6, 128, 128, 128, 128, 128, 128, 128, 248, 255, 1, 88, 2,
		6, 0, 14, 4, 40, 2, 4, 12, 42, 0, 2, 0, 44,
		6, 0, 6, 46, 10, 48, 0, 10, 6, 50, 52, 54, 4, 14, 56, 12, 6, 14, 22, 58, 2, 54,
		6, 0, 2, 6, 2, 12, 128, 137, 122,
		60, 28, 2, 2, 0, 4, 50, 2, 88, 0, 0, 4, 0, 0, 0, 2, 0, 2, 58, 0))
}

func TestNoFileOfWhatIsNoClass(t *testing.T) {
	for _, c := range []classChange{
		{"no name", func(c *impl.Class) { c.Name = "" }},
		{"no super", func(c *impl.Class) { c.Super = "" }},
		{"a super that is no name", func(c *impl.Class) { c.Super = "-" }},
		{"an interface twice", func(c *impl.Class) { c.Interfaces = []string{"J", "J"} }},
		{"permits out of order", func(c *impl.Class) { c.Permits = []string{"D", "C"} }},
		{"a flag that is none", func(c *impl.Class) { c.Flags |= 512 }},
		{"flags below 0", func(c *impl.Class) { c.Flags = -1 }},
		{"a field twice", func(c *impl.Class) { c.Fields[1].Name = "a" }},
		{"a field of no type", func(c *impl.Class) { c.Fields[0].Type = "V" }},
		{"a method twice", func(c *impl.Class) { c.Methods[2].Sig = c.Methods[1].Sig }},
		{"an instruction that is none", func(c *impl.Class) { c.Methods[3].Code[1].Op = 45 }},
		{"a target outside", func(c *impl.Class) { c.Methods[3].Code[3].Table[1] = 7 }},
		{"a handler of nothing", func(c *impl.Class) { c.Methods[3].Handlers[0].To = 0 }},
		{"a frame of other locals", func(c *impl.Class) { c.Methods[3].Frames[0].Locals = nil }},
		{"a line 0", func(c *impl.Class) { c.Methods[3].Lines[0].N = 0 }},
	} {
		class := richClass()
		c.change(&class)
		if got := impl.ClassBytes(class); len(got) != 0 {
			t.Errorf("%s: %.80q", c.why, got)
		}
		file, _ := writeFile(class)
		if got := impl.ReadBytes(file); got.Code != impl.BytesClass || got.At != 0 || !alike(got.Class, impl.Class{}) {
			t.Errorf("%s: its file is read as %d at %d", c.why, got.Code, got.At)
		}
	}
	needless := richClass()
	needless.Methods[3].Code[1].Text = "x"
	if len(impl.ClassBytes(needless)) != 0 || len(impl.ClassBytes(impl.Class{})) != 0 {
		t.Error("an instruction with a needless text, or the zero class, has a file")
	}
}

func TestAnyClassHasTheFileOfTheOracle(t *testing.T) {
	t.Parallel()
	b := builder{numbers{state: 4}}
	for range 2000 {
		c := b.class()
		file, _ := writeFile(c)
		lies(t, c, file)
	}
}
