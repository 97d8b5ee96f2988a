package tests

import (
	"bytes"
	"strings"
	"testing"

	"loop.example/g00032/impl"
)

// readsBack says that a class comes back from its bytes as it is, and that these are its one form.
func readsBack(t *testing.T, c impl.Class) {
	t.Helper()
	file := impl.ClassBytes(c)
	got := impl.ReadBytes(file)
	if got.Code != impl.BytesOk || got.At != 0 || !alike(got.Class, c) {
		t.Errorf("%s does not come back: %d at %d", c.Name, got.Code, got.At)
	}
	if !bytes.Equal(impl.ClassBytes(got.Class), file) {
		t.Errorf("%s has two files", c.Name)
	}
	if want, _ := writeFile(c); !bytes.Equal(file, want) {
		t.Errorf("%s has another file than the oracle's", c.Name)
	}
}

func TestClassesComeBackFromBytes(t *testing.T) {
	for _, c := range append(impl.Boot(), richClass(), plainClass(), plainInterface(), plainObject()) {
		readsBack(t, c)
	}
	c := plainClass()
	c.Methods = append(c.Methods, plainMethod())
	readsBack(t, c)
}

func TestInstructionsComeBackFromBytes(t *testing.T) {
	for _, c := range shownInstructions() {
		readsBack(t, classOf(c.ins))
	}
	for c := range 256 {
		readsBack(t, classOf(impl.Ins{Op: impl.OpText, Text: "a" + string([]byte{byte(c), byte(255 - c)}) + "b"}))
	}
	for _, n := range append(edgeNumbers(), extremes()...) {
		readsBack(t, classOf(impl.Ins{Op: impl.OpConst, Kind: impl.KindInt, A: impl.Wrap(n)}))
		if !isNone(n) {
			readsBack(t, classOf(impl.Ins{Op: impl.OpConst, Kind: impl.KindFloat, A: n}))
		}
	}
}

// fullClass has as much as can be of each list.
func fullClass() impl.Class {
	c := impl.Class{Name: longName(40), Super: longName(40), Interfaces: manyNames(40), Flags: impl.FlagSealed, Permits: manyNames(40)}
	for _, name := range manyNames(40) {
		c.Fields = append(c.Fields, impl.Field{Name: name, Type: "[[[[@" + longName(40)})
		c.Methods = append(c.Methods, impl.Method{Name: name, Sig: "(" + manyParams(8) + ")V", Stack: 40, Locals: 40, Code: pops(1)})
	}
	m := &c.Methods[39]
	m.Code = pops(400)
	m.Code[7] = impl.Ins{Op: impl.OpSwitch, A: 399, B: minInt, Table: make([]int64, 100)}
	for k := range 400 {
		m.Lines = append(m.Lines, impl.Line{At: int64(k), N: int64(1000000 - k)})
		m.Frames = append(m.Frames, impl.Frame{At: int64(k), Locals: shapes(40, "!399"), Stack: shapes(k%41, "0")})
	}
	for range 20 {
		m.Handlers = append(m.Handlers, impl.Handler{From: 0, To: 400, At: 399, Type: longName(40)})
	}
	return c
}

func TestFullListsComeBackFromBytes(t *testing.T) { readsBack(t, fullClass()) }

// classOfFile has a file of just so many bytes: texts of its methods, no two alike, fill it.
func classOfFile(t *testing.T, size int) impl.Class {
	t.Helper()
	c := impl.Class{Name: "A", Super: "Object"}
	for _, name := range manyNames(4) {
		c.Methods = append(c.Methods, impl.Method{Name: name, Sig: "()V", Flags: impl.FlagStatic, Code: pops(1)})
	}
	text := func(k, length int) impl.Ins {
		number := string([]byte{byte(k), byte(k >> 8)})
		return impl.Ins{Op: impl.OpText, Text: number + strings.Repeat("x", length-len(number))}
	}
	count := 0
	for len(impl.ClassBytes(c)) < size-410 {
		m := &c.Methods[count/(impl.MaxCode-5)]
		m.Code = append(m.Code, text(count, 200))
		count++
	}
	m := &c.Methods[3]
	for length := 65; length < 400; length++ {
		m.Code = []impl.Ins{text(5000, min(length, 200)), text(5001, max(65, length-200)), text(5002, 65)}
		if len(impl.ClassBytes(c)) == size {
			return c
		}
	}
	t.Fatalf("no class of %d bytes", size)
	return c
}

// The file of a class may have more than MaxFile bytes; it is not read any more.
func TestFilesAtMaxFile(t *testing.T) {
	t.Parallel()
	for _, size := range []int{199999, 200000, 200001, 200002} {
		c := classOfFile(t, size)
		file := impl.ClassBytes(c)
		if want, _ := writeFile(c); !bytes.Equal(file, want) || len(file) != size {
			t.Errorf("the file of %d bytes has %d", size, len(file))
		}
		got := impl.ReadBytes(file)
		if size <= impl.MaxFile && (got.Code != impl.BytesOk || got.At != 0 || !alike(got.Class, c)) {
			t.Errorf("a class of %d bytes does not come back: %d at %d", size, got.Code, got.At)
		}
		if size > impl.MaxFile && (got.Code != impl.BytesMagic || got.At != 0 || !alike(got.Class, impl.Class{})) {
			t.Errorf("a file of %d bytes is read as %d at %d", size, got.Code, got.At)
		}
	}
}

// A class goes from text to bytes and back to text.
func TestTextsAndBytesAgree(t *testing.T) {
	b := builder{numbers{state: 17}}
	for range 300 {
		text := impl.PrintClass(b.class())
		got := impl.ReadBytes(impl.ClassBytes(impl.Assemble(text).Class))
		if got.Code != impl.BytesOk || impl.PrintClass(got.Class) != text {
			t.Errorf("%q comes back as %d at %d", text, got.Code, got.At)
		}
	}
}

// No two classes that differ somewhere have one file.
func TestOtherClassesHaveOtherFiles(t *testing.T) {
	base := string(impl.ClassBytes(richClass()))
	for _, c := range []classChange{
		{"name", func(c *impl.Class) { c.Name = "R" }},
		{"super", func(c *impl.Class) { c.Super = "C" }},
		{"interfaces in another order", func(c *impl.Class) { c.Interfaces = []string{"J1", "J2"} }},
		{"flags", func(c *impl.Class) { c.Flags = impl.FlagSealed; c.Methods[2].Flags = impl.FlagNative }},
		{"permits", func(c *impl.Class) { c.Permits = []string{"C"} }},
		{"a field's flags", func(c *impl.Class) { c.Fields[0].Flags = impl.FlagStatic }},
		{"fields in another order", func(c *impl.Class) { c.Fields[0], c.Fields[1] = c.Fields[1], c.Fields[0] }},
		{"methods in another order", func(c *impl.Class) { c.Methods[0], c.Methods[1] = c.Methods[1], c.Methods[0] }},
		{"stack", func(c *impl.Class) { c.Methods[0].Stack = 2 }},
		{"locals", func(c *impl.Class) { c.Methods[0].Locals = 2 }},
		{"a constant", func(c *impl.Class) { c.Methods[3].Code[2].A = 3 }},
		{"a table", func(c *impl.Class) { c.Methods[3].Code[3].Table = []int64{6, 0} }},
		{"handlers in another order", func(c *impl.Class) {
			h := c.Methods[3].Handlers
			h[0], h[1] = h[1], h[0]
		}},
		{"a frame's stack", func(c *impl.Class) { c.Methods[3].Frames[1].Stack = []string{"I"} }},
		{"no lines", func(c *impl.Class) { c.Methods[3].Lines = nil }},
	} {
		class := richClass()
		c.change(&class)
		if got := string(impl.ClassBytes(class)); got == base || got == "" {
			t.Errorf("%s: the file is %.40q", c.why, got)
		}
		readsBack(t, class)
	}
}
