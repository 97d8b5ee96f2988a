package tests

import (
	"fmt"
	"slices"
	"strings"
	"testing"

	"loop.example/g00032/impl"
)

// comesBack says that a class is shown and read again as it is, and that its text is its one form.
func comesBack(t *testing.T, c impl.Class) {
	t.Helper()
	text := impl.PrintClass(c)
	if text == "" {
		t.Errorf("%s has no text", c.Name)
		return
	}
	got := impl.Assemble(text)
	if got.Code != impl.AsmOk || got.Line != 0 || !alike(got.Class, c) {
		t.Errorf("%s does not come back: %d, line %d, %+v", c.Name, got.Code, got.Line, got.Class)
	}
	if again := impl.PrintClass(got.Class); again != text {
		t.Errorf("%s has two texts", c.Name)
	}
}

func TestClassesComeBack(t *testing.T) {
	for _, c := range append(impl.Boot(), richClass(), plainClass(), plainInterface(), plainObject()) {
		comesBack(t, c)
	}
	c := plainClass()
	c.Methods = append(c.Methods, plainMethod())
	comesBack(t, c)
}

func TestInstructionsComeBack(t *testing.T) {
	t.Parallel()
	for _, c := range shownInstructions() {
		comesBack(t, classOf(c.ins))
		got := impl.Assemble("class A Object\nmethod m ()V static stack 0 locals 40\n" + c.text + "\n" + strings.Repeat("pop\n", 399) + "end")
		if got.Code != impl.AsmOk || !alike(got.Class, classOf(c.ins)) {
			t.Errorf("%q is read as %d, line %d", c.text, got.Code, got.Line)
		}
	}
	for c := range 256 {
		comesBack(t, classOf(impl.Ins{Op: impl.OpText, Text: "a" + string([]byte{byte(c), byte(255 - c)}) + "b"}))
	}
	for _, n := range append(edgeNumbers(), extremes()...) {
		comesBack(t, classOf(impl.Ins{Op: impl.OpConst, Kind: impl.KindLong, A: n}))
		comesBack(t, classOf(impl.Ins{Op: impl.OpConst, Kind: impl.KindInt, A: impl.Wrap(n)}))
		if !isNone(n) {
			comesBack(t, classOf(impl.Ins{Op: impl.OpConst, Kind: impl.KindFloat, A: n}))
		}
	}
}

// A class with as much as can be of each list.
func TestFullListsComeBack(t *testing.T) {
	c := impl.Class{Name: longName(40), Super: longName(40), Interfaces: manyNames(40), Flags: impl.FlagSealed, Permits: manyNames(40)}
	for _, name := range manyNames(40) {
		c.Fields = append(c.Fields, impl.Field{Name: name, Type: "[[[[@" + longName(40)})
		c.Methods = append(c.Methods, impl.Method{Name: name, Sig: "(" + manyParams(8) + ")V", Stack: 40, Locals: 40, Code: pops(1)})
	}
	m := &c.Methods[39]
	m.Code = pops(400)
	for k := range 400 {
		m.Lines = append(m.Lines, impl.Line{At: int64(k), N: int64(1000000 - k)})
	}
	for range 20 {
		m.Handlers = append(m.Handlers, impl.Handler{From: 0, To: 400, At: 399, Type: longName(40)})
	}
	for k := range 40 {
		m.Frames = append(m.Frames, impl.Frame{At: int64(k * 10), Locals: shapes(40, "!399"), Stack: shapes(k+1, "0")})
	}
	comesBack(t, c)
}

// builder makes classes that look like any, by a fixed row of numbers.
type builder struct{ numbers }

func (b *builder) below(n int) int { return int(uint64(b.next()) % uint64(n)) }

func (b *builder) pick(words ...string) string { return words[b.below(len(words))] }

func (b *builder) name() string {
	return b.pick("A", "B.c", "end", "x_1", "Z$", "static", "stack", "final")
}

func (b *builder) typ() string {
	return strings.Repeat("[", b.below(4)) + b.pick("I", "J", "D", "@"+b.name())
}

func (b *builder) sig() string {
	params := make([]string, b.below(3))
	for k := range params {
		params[k] = b.typ()
	}
	return "(" + strings.Join(params, ",") + ")" + b.pick("V", b.typ())
}

func (b *builder) shapes(n int) []string {
	out := make([]string, n)
	for k := range out {
		out[k] = b.pick("0", "-", "!!", fmt.Sprint("!", b.below(400)), b.typ())
	}
	return out
}

func (b *builder) ins(size int) impl.Ins {
	all := shownInstructions()
	for {
		if i := all[b.below(len(all))].ins; impl.InsOk(i, int64(size), 5) {
			return i
		}
		if i := (impl.Ins{Op: impl.OpIf, A: int64(b.below(size)), B: 3}); b.below(4) == 0 {
			return i
		}
	}
}

func (b *builder) method(name string) impl.Method {
	m := impl.Method{Name: name, Sig: b.sig(), Flags: int64(b.below(2)), Stack: int64(b.below(4)), Locals: int64(3 + b.below(2))}
	size := 1 + b.below(9)
	for range size {
		m.Code = append(m.Code, b.ins(size))
	}
	for range b.below(3) {
		from := b.below(size)
		m.Handlers = append(m.Handlers, impl.Handler{From: int64(from), To: int64(from + 1 + b.below(size-from)), At: int64(b.below(size)), Type: b.pick("", b.name())})
	}
	for at := b.below(4); at < size; at += 1 + b.below(4) {
		m.Frames = append(m.Frames, impl.Frame{At: int64(at), Locals: b.shapes(int(m.Locals)), Stack: b.shapes(b.below(int(m.Stack) + 1))})
	}
	for at := b.below(4); at < size; at += 1 + b.below(4) {
		m.Lines = append(m.Lines, impl.Line{At: int64(at), N: int64(1 + b.below(1000000))})
	}
	return m
}

func (b *builder) class() impl.Class {
	c := impl.Class{Name: b.name(), Super: b.name(), Interfaces: manyNames(b.below(3))}
	if b.below(2) == 0 {
		c.Flags, c.Permits = impl.FlagSealed, manyNames(1+b.below(2))
	}
	for _, name := range manyNames(b.below(4)) {
		c.Fields = append(c.Fields, impl.Field{Name: name, Type: b.typ(), Flags: int64(b.below(4)) | int64(b.below(2)*8)})
	}
	for _, name := range manyNames(b.below(4)) {
		if b.below(4) == 0 {
			c.Methods = append(c.Methods, bare(name, b.sig(), impl.FlagNative|int64(b.below(4))))
		}
		c.Methods = append(c.Methods, b.method(name+"m"))
	}
	return c
}

func TestAnyClassComesBack(t *testing.T) {
	t.Parallel()
	b := builder{numbers{state: 3}}
	for range 3000 {
		c := b.class()
		if !impl.ClassOk(c) {
			t.Fatalf("no class: %+v", c)
		}
		comesBack(t, c)
	}
}

// reads says that a text means the class.
func reads(t *testing.T, text string, want impl.Class) {
	t.Helper()
	got := impl.Assemble(text)
	if got.Code != impl.AsmOk || got.Line != 0 || !alike(got.Class, want) {
		t.Errorf("%q is read as %d, line %d: %+v", text, got.Code, got.Line, got.Class)
	}
}

// Blanks, what stands behind ;, lines without words, and the last newline mean nothing.
func TestTextsBesideTheOneForm(t *testing.T) {
	want := richClass()
	reads(t, richText, want)
	reads(t, strings.TrimSuffix(richText, "\n"), want)
	reads(t, richText+"\n", want)
	reads(t, richText+"\n\n  \n;; end\n   ; class A B", want)
	reads(t, "\n ;class A B\n  \n"+richText, want)
	reads(t, strings.ReplaceAll(richText, "\n", "   \n"), want)
	reads(t, strings.ReplaceAll(richText, "\n", "\n   "), want)
	reads(t, strings.ReplaceAll(richText, "\n", "\n\n;\n ;;\"\n"), want)
	reads(t, strings.ReplaceAll(richText, "\n", " ; what \" it is\n"), want)
	reads(t, strings.ReplaceAll(richText, "\n", " ;\n"), want)
	reads(t, strings.ReplaceAll(richText, "\n", " ;\xff\x00\t\r é\n"), want)
	// Blanks between words, but not those of the text.
	spread := strings.ReplaceAll(strings.ReplaceAll(richText, " ", "   "), "say   ", "say ")
	reads(t, spread, want)
	// Where a text ends a word ends, so a ; there ends the line.
	reads(t, strings.ReplaceAll(richText, "\\0a\"\n", "\\0a\";\n"), want)
	reads(t, strings.ReplaceAll(richText, "\\0a\"\n", "\\0a\";x \"\n"), want)
	// A " inside a word is nothing of its own.
	if got := impl.Assemble(strings.Replace(richText, `text "`, `text"`, 1)); got.Code != impl.AsmLine || got.Line != 15 {
		t.Errorf("a text within a word: %d, line %d", got.Code, got.Line)
	}
	reads(t, "class A B\nend", impl.Class{Name: "A", Super: "B"})
}

// A ; within a word is a part of it.
func TestSemicolonWithinAWord(t *testing.T) {
	for _, c := range []struct {
		text string
		code int64
		line int64
	}{
		{"class A B\nend;", impl.AsmLine, 2},
		{"class A B;\nend", impl.AsmClass, 0},
		{"class; A B\nend", impl.AsmLine, 1},
	} {
		if got := impl.Assemble(c.text); got.Code != c.code || got.Line != c.line {
			t.Errorf("%q: %d, line %d", c.text, got.Code, got.Line)
		}
	}
}

func TestLinesInOtherOrders(t *testing.T) {
	want := impl.Class{
		Name: "A", Super: "B", Interfaces: []string{"X", "Y", "Z", "V"}, Flags: impl.FlagSealed, Permits: []string{"K", "L", "M"},
		Fields: []impl.Field{{Name: "f", Type: "I"}, {Name: "g", Type: "J", Flags: impl.FlagStatic}},
		Methods: []impl.Method{
			{Name: "m", Sig: "()V", Flags: impl.FlagNative},
			{
				Name: "n", Sig: "()V", Flags: impl.FlagStatic, Stack: 1, Locals: 1, Code: []impl.Ins{{Op: 7}, {Op: 25, A: 1}, {Op: 44}},
				Handlers: []impl.Handler{{From: 1, To: 2, At: 0, Type: "E"}, {From: 0, To: 1, At: 2}}, Frames: []impl.Frame{{At: 0, Locals: []string{"I"}}, {At: 2, Locals: []string{"-"}, Stack: []string{"0"}}}, Lines: []impl.Line{{At: 1, N: 5}, {At: 2, N: 4}},
			},
			{Name: "o", Sig: "()V", Flags: impl.FlagStatic, Code: []impl.Ins{{Op: 44}}},
		},
	}
	head := "class A B sealed\n"
	reads(t, head+`method m ()V native
field f I
implements X Y
permits K
method n ()V static stack 1 locals 1
line 1 5
frame 0 I |
handler 1 2 0 E
pop
implements Z
field g J static
goto 1
frame 2 - | 0
permits L M
handler 0 1 2 *
return
line 2 4
method o ()V static
implements V
return
end`, want)
	reads(t, head+`permits K L
implements X
implements Y
field f I
permits M
method m ()V native stack 0 locals 0
implements Z V
method n ()V static stack 1 locals 1
line 1 5
line 2 4
frame 0 I |
frame 2 - | 0
handler 1 2 0 E
handler 0 1 2 *
pop
goto 1
return
method o ()V static stack 0 locals 0
return
field g J static
end`, want)
	reads(t, impl.PrintClass(want), want)
}

// A method without stack and locals has none of both, with code and without it.
func TestMethodsWithoutStackAndLocals(t *testing.T) {
	reads(t, "class A B abstract\nmethod m ()V static\nreturn\nmethod n ()V abstract\nmethod o (I)V native\nmethod start ()V static\npop\nend", impl.Class{Name: "A", Super: "B", Flags: impl.FlagAbstract, Methods: []impl.Method{
		{Name: "m", Sig: "()V", Flags: impl.FlagStatic, Code: []impl.Ins{{Op: 44}}}, bare("n", "()V", impl.FlagAbstract), bare("o", "(I)V", impl.FlagNative), {Name: "start", Sig: "()V", Flags: impl.FlagStatic, Code: []impl.Ins{{Op: 7}}},
	}})
	if got := impl.Assemble("class A B\nmethod m ()V\nreturn\nend"); got.Code != impl.AsmClass {
		t.Errorf("a method without a local for this: %d", got.Code)
	}
}

func TestLabels(t *testing.T) {
	want := impl.Class{Name: "A", Super: "B", Methods: []impl.Method{
		{
			Name: "m", Sig: "()V", Flags: impl.FlagStatic, Stack: 1, Locals: 1,
			Code: []impl.Ins{
				{Op: 25, A: 3}, {Op: 26, A: 0, B: 1}, {Op: 27, A: 7, B: 6}, {Op: 28, A: 3, B: 2}, {Op: 29, A: 1, B: 1}, {Op: 30, A: 0, B: 3, Table: []int64{7, 0, 5, 3}}, {Op: 25, A: 6}, {Op: 44},
			},
			Handlers: []impl.Handler{{From: 0, To: 8, At: 3, Type: "end"}, {From: 3, To: 7, At: 7}},
			Frames:   []impl.Frame{{At: 0, Locals: []string{"!3"}}, {At: 3, Locals: []string{"-"}, Stack: []string{"!0"}}},
			Lines:    []impl.Line{{At: 3, N: 3}, {At: 7, N: 1}},
		},
		{Name: "n", Sig: "()V", Flags: impl.FlagStatic, Code: []impl.Ins{{Op: 7}, {Op: 25, A: 1}}},
		bare("o", "()V", impl.FlagNative),
	}}
	reads(t, `class A B
method m ()V static stack 1 locals 1
first:
also.first$_1:
goto mid
if eq first
ifint le last
mid: ; the third
ifnull ne mid
ifsame eq 1
switch 3 also.first$_1 last first 5 mid
self:
goto self
  last:
return
end:
handler first end mid end
handler mid last last *
frame first !3 |
frame mid - | !0
line mid 3
line last 1
method n ()V static
pop
mid:
first:
goto mid
method o ()V native
first:
end
`, want)
	// Labels and their uses need not stand together: a method's lines may be parted, and handlers may come ahead of the code.
	reads(t, `class A B
method m ()V static stack 1 locals 1
line mid 3
line last 1
handler first end mid end
handler mid last last *
frame first !3 |
frame mid - | !0
first:
goto mid
if eq first
ifint le last
method_: ; told, and never used
mid:
ifnull ne mid
ifsame eq 1
switch 3 first last first 5 mid
goto 6
last:
return
end:
method n ()V static
pop
l:
goto l
method o ()V native
end`, want)
	comesBack(t, want)
}

// Names of labels may be any: those of instructions and lines, of MaxName, and K, I or numbers' letters.
func TestNamesOfLabels(t *testing.T) {
	want := impl.Class{Name: "A", Super: "B", Methods: []impl.Method{{Name: "m", Sig: "()V", Flags: impl.FlagStatic, Code: []impl.Ins{{Op: 7}, {Op: 25, A: 1}, {Op: 30, A: 1, Table: []int64{1, 0}}}}}}
	for _, name := range []string{"class", "method", "end", "pop", "goto", "handler", "frame", "line", "I", "e1", "x", "stack", "a..", "Z$9_", longName(40)} {
		reads(t, "class A B\nmethod m ()V static\npop\n"+name+":\ngoto "+name+"\nswitch 0 "+name+" "+name+" 0\nend", want)
	}
}

// What is read from the text of any class with its lines in another order is that class.
func TestAnyOrderOfMembers(t *testing.T) {
	b := builder{numbers{state: 11}}
	for range 500 {
		c := b.class()
		lines := strings.SplitAfter(strings.TrimSuffix(impl.PrintClass(c), "end\n"), "\n")
		head, rest := lines[0], slices.DeleteFunc(lines[1:], func(s string) bool { return s == "" })
		front, body := []string{}, []string{}
		for _, line := range rest {
			switch strings.Fields(line)[0] {
			case "implements", "permits", "field":
				front = append(front, line)
			default:
				body = append(body, line)
			}
		}
		for _, line := range front {
			at := b.below(len(body) + 1)
			// Fields keep their order among each other, so each comes behind the one ahead.
			if last := slices.IndexFunc(body, func(s string) bool { return strings.HasPrefix(s, "field ") }); last >= 0 && strings.HasPrefix(line, "field ") {
				at = len(body)
			}
			body = slices.Insert(body, at, line)
		}
		reads(t, head+strings.Join(body, "")+"end", c)
	}
}
