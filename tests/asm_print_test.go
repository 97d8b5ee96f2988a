package tests

import (
	"slices"
	"strings"
	"testing"

	"loop.example/g00032/impl"
)

// richClass has everything that a class may have; richText is its text, written out.
func richClass() impl.Class {
	return impl.Class{
		Name: "R.one$", Super: "Base", Interfaces: []string{"J2", "J1"}, Flags: impl.FlagAbstract | impl.FlagSealed, Permits: []string{"C", "D"},
		Fields: []impl.Field{
			{Name: "a", Type: "I"}, {Name: "b", Type: "[[@R.one$", Flags: impl.FlagStatic | impl.FlagFinal | impl.FlagPrivate}, {Name: "c", Type: "J", Flags: impl.FlagStatic | impl.FlagPrivate | impl.FlagVolatile}, {Name: "static", Type: "D", Flags: impl.FlagFinal},
		},
		Methods: []impl.Method{
			{Name: "new", Sig: "()V", Flags: impl.FlagPrivate, Stack: 1, Locals: 1, Code: []impl.Ins{{Op: 4, Kind: 4}, {Op: 33, B: 3, Class: "Base", Name: "new", Type: "()V"}, {Op: 44}}},
			{Name: "far", Sig: "(I,@R.one$)[J", Flags: impl.FlagStatic | impl.FlagFinal | impl.FlagPrivate | impl.FlagSync | impl.FlagNative},
			{Name: "far", Sig: "()V", Flags: impl.FlagAbstract},
			{
				Name: "work", Sig: "(D)I", Flags: impl.FlagFinal | impl.FlagSync, Stack: 40, Locals: 3,
				Code: []impl.Ins{
					{Op: 2, Text: "say \"it\"\n"}, {Op: 7}, {Op: 1, Kind: 1, A: -3}, {Op: 30, A: 5, B: -1, Table: []int64{0, 6}}, {Op: 34, Class: "R.one$"}, {Op: 1, Kind: 3, A: impl.NaNBits}, {Op: 44, Kind: 1},
				},
				Handlers: []impl.Handler{{From: 0, To: 7, At: 2, Type: "Error"}, {From: 1, To: 2, At: 6}, {From: 0, To: 1, At: 0, Type: "A"}},
				Frames: []impl.Frame{
					{At: 0, Locals: []string{"@R.one$", "D", "-"}}, {At: 5, Locals: []string{"!!", "!4", "0"}, Stack: []string{"I", "[[J"}}, {At: 6, Locals: []string{"I", "J", "@A"}, Stack: []string{"0"}},
				},
				Lines: []impl.Line{{At: 0, N: 1}, {At: 3, N: 1}, {At: 6, N: 1000000}},
			},
			{
				Name: "start", Sig: "()V", Flags: impl.FlagStatic, Stack: 1,
				Code: []impl.Ins{{Op: 25, A: 1}, {Op: 44}}, Frames: []impl.Frame{{At: 0}, {At: 1, Stack: []string{"@A"}}},
			},
		},
	}
}

const richText = `class R.one$ Base abstract sealed
implements J2 J1
permits C D
field a I
field b [[@R.one$ static final private
field c J static private volatile
field static D final
method new ()V private stack 1 locals 1
load R 0
call special Base new ()V
return
method far (I,@R.one$)[J static final private sync native
method far ()V abstract
method work (D)I final sync stack 40 locals 3
text "say \22it\22\0a"
pop
const I -3
switch -1 5 0 6
new R.one$
const D nan
return I
handler 0 7 2 Error
handler 1 2 6 *
handler 0 1 0 A
frame 0 @R.one$ D - |
frame 5 !! !4 0 | I [[J
frame 6 I J @A | 0
line 0 1
line 3 1
line 6 1000000
method start ()V static stack 1 locals 0
goto 1
return
frame 0 |
frame 1 | @A
end
`

const objectText = `class Object -
method new ()V stack 0 locals 1
return
method wait ()V final native
method notify ()V final native
method wake ()V final native
method hash ()I final native
end
`

const throwableText = `class Throwable Object
field message @String
method new (@String)V stack 2 locals 2
load R 0
call special Object new ()V
load R 0
load R 1
put Throwable message @String
return
end
`

const interfaceText = `class J1 Object abstract interface
implements J2
field most I static final
method make ()I abstract
method far ()V native
method give ()V stack 0 locals 9
return
method help ()V private stack 0 locals 9
return
method start ()V static stack 0 locals 9
return
method near ()V static private stack 0 locals 9
return
end
`

func TestPrintClass(t *testing.T) {
	boot := impl.Boot()
	for _, c := range []struct {
		class impl.Class
		want  string
	}{
		{richClass(), richText},
		{boot[0], objectText},
		{boot[2], throwableText},
		{plainInterface(), interfaceText},
		{impl.Class{Name: "A", Super: "B"}, "class A B\nend\n"},
		{impl.Class{Name: "A", Super: "A", Flags: impl.FlagFinal}, "class A A final\nend\n"},
		{impl.Class{Name: "A", Super: "Object", Flags: impl.FlagAbstract | impl.FlagInterface | impl.FlagSealed, Permits: []string{"Z"}}, "class A Object abstract interface sealed\npermits Z\nend\n"},
		{impl.Class{Name: "A", Super: "B", Interfaces: []string{"I"}}, "class A B\nimplements I\nend\n"},
		{impl.Class{Name: "A", Super: "B", Methods: []impl.Method{{Name: "m", Sig: "()V", Flags: impl.FlagStatic, Code: pops(1)}}}, "class A B\nmethod m ()V static stack 0 locals 0\npop\nend\n"},
		{impl.Class{Name: "Object", Fields: []impl.Field{{Name: "end", Type: "@end"}}}, "class Object -\nfield end @end\nend\n"},
	} {
		if got := impl.PrintClass(c.class); got != c.want {
			t.Errorf("PrintClass(%s) is\n%s", c.class.Name, got)
		}
	}
}

// A class with code of all instructions shows each on a line of its own, as ShowIns shows it.
func TestPrintInstructions(t *testing.T) {
	for _, c := range shownInstructions() {
		got := impl.PrintClass(classOf(c.ins))
		if want := "class A Object\nmethod m ()V static stack 0 locals 40\n" + c.text + "\n" + strings.Repeat("pop\n", 399) + "end\n"; got != want {
			t.Errorf("the class of %+v is shown as %.200q", c.ins, got)
		}
	}
}

// classOf has one method with the instruction first, and so many behind it that all targets are there.
func classOf(i impl.Ins) impl.Class {
	return impl.Class{Name: "A", Super: "Object", Methods: []impl.Method{{Name: "m", Sig: "()V", Flags: impl.FlagStatic, Locals: impl.MaxLocals, Code: append([]impl.Ins{i}, pops(impl.MaxCode-1)...)}}}
}

// Each set of flags, as words in their order.
func TestPrintFlags(t *testing.T) {
	words := []string{"static", "final", "abstract", "private", "volatile", "sync", "native", "interface", "sealed"}
	shown := func(flags int64) string {
		out := ""
		for k, word := range words {
			if flags>>k&1 == 1 {
				out += " " + word
			}
		}
		return out
	}
	met := [3]int{}
	for flags := range int64(512) {
		class := impl.Class{Name: "A", Super: "Object", Flags: flags}
		if flags&impl.FlagSealed != 0 {
			class.Permits = []string{"P"}
		}
		field := impl.Class{Name: "A", Super: "Object", Fields: []impl.Field{{Name: "f", Type: "I", Flags: flags}}}
		body := impl.Class{Name: "A", Super: "Object", Flags: impl.FlagAbstract, Methods: []impl.Method{bare("m", "()V", flags)}}
		code := impl.Class{Name: "A", Super: "Object", Flags: impl.FlagAbstract, Methods: []impl.Method{coded("m", "()V", flags)}}
		for k, c := range []impl.Class{class, field, body, code} {
			want := ""
			if impl.ClassOk(c) {
				want = []string{
					"class A Object" + shown(flags) + "\n" + map[bool]string{true: "permits P\n"}[len(c.Permits) > 0] + "end\n",
					"class A Object\nfield f I" + shown(flags) + "\nend\n",
					"class A Object abstract\nmethod m ()V" + shown(flags) + "\nend\n",
					"class A Object abstract\nmethod m ()V" + shown(flags) + " stack 0 locals 9\nreturn\nend\n",
				}[k]
				met[min(k, 2)]++
			}
			if got := impl.PrintClass(c); got != want {
				t.Errorf("flags %d: %q, not %q", flags, got, want)
			}
		}
	}
	if !slices.Equal(met[:], []int{7, 12, 33}) {
		t.Errorf("sets of flags of classes, fields, methods: %v", met)
	}
}

func TestPrintRefuses(t *testing.T) {
	for _, c := range []classChange{
		{"the zero value", func(c *impl.Class) { *c = impl.Class{} }},
		{"no name", func(c *impl.Class) { c.Name = "" }},
		{"a name with a blank", func(c *impl.Class) { c.Name = "A B" }},
		{"no super", func(c *impl.Class) { c.Super = "" }},
		{"a super that is its own sign", func(c *impl.Class) { c.Super = "-" }},
		{"Object with a super", func(c *impl.Class) { c.Name = "Object" }},
		{"two interfaces alike", func(c *impl.Class) { c.Interfaces = []string{"A", "A"} }},
		{"permits that fall", func(c *impl.Class) { slices.Reverse(c.Permits) }},
		{"sealed without permits", func(c *impl.Class) { c.Permits = nil }},
		{"flags that no class has", func(c *impl.Class) { c.Flags |= impl.FlagStatic }},
		{"flags beyond all", func(c *impl.Class) { c.Flags |= 512 }},
		{"flags below 0", func(c *impl.Class) { c.Flags = -1 }},
		{"two fields of a name", func(c *impl.Class) { c.Fields[1].Name = c.Fields[0].Name }},
		{"a field of no type", func(c *impl.Class) { c.Fields[0].Type = "V" }},
		{"two methods alike", func(c *impl.Class) { c.Methods[1] = c.Methods[0] }},
		{"no code", func(c *impl.Class) { c.Methods[0].Code = nil }},
		{"code of an abstract one", func(c *impl.Class) { c.Methods[2].Code = pops(1) }},
		{"an instruction that can't be", func(c *impl.Class) { c.Methods[3].Code[1].Op = 45 }},
		{"a target beyond the code", func(c *impl.Class) { c.Methods[4].Code[0].A = 2 }},
		{"a place beyond the locals", func(c *impl.Class) { c.Methods[0].Code[0].A = 1 }},
		{"a handler beyond the code", func(c *impl.Class) { c.Methods[3].Handlers[0].To = 8 }},
		{"a handler of no name", func(c *impl.Class) { c.Methods[3].Handlers[1].Type = "*" }},
		{"frames that fall", func(c *impl.Class) { slices.Reverse(c.Methods[3].Frames) }},
		{"a frame with a bar", func(c *impl.Class) { c.Methods[3].Frames[1].Stack[0] = "|" }},
		{"a line 0", func(c *impl.Class) { c.Methods[3].Lines[0].N = 0 }},
	} {
		class := richClass()
		c.change(&class)
		if got := impl.PrintClass(class); got != "" {
			t.Errorf("%s: %.80q", c.why, got)
		}
	}
}

// classOfSize has a text of just so many bytes, as many as MaxSource about: texts of methods fill it.
func classOfSize(size int) impl.Class {
	c := impl.Class{Name: "A", Super: "Object"}
	rest := size - len("class A Object\nend\n")
	head, least := len("method m ()V static stack 1 locals 0\n"), len("text \"\"\n")
	most := least + impl.MaxText
	for _, name := range []string{"m", "n"} {
		m := impl.Method{Name: name, Sig: "()V", Flags: impl.FlagStatic, Stack: 1}
		rest -= head
		for rest > 0 && len(m.Code) < impl.MaxCode {
			take := min(rest, most)
			if rest > most && rest < most+least {
				take = least
			}
			m.Code = append(m.Code, impl.Ins{Op: impl.OpText, Text: strings.Repeat("x", take-least)})
			rest -= take
		}
		if c.Methods = append(c.Methods, m); rest <= head+least {
			break
		}
	}
	return c
}

func TestPrintAtMaxSource(t *testing.T) {
	for _, size := range []int{100, 5000, 59999, 60000, 60001, 60002, 70000} {
		c := classOfSize(size)
		if !impl.ClassOk(c) {
			t.Fatalf("the class of %d is not right", size)
		}
		text := impl.PrintClass(c)
		if size > impl.MaxSource {
			if text != "" {
				t.Errorf("a text of %d bytes is shown", size)
			}
			continue
		}
		if len(text) != size {
			t.Errorf("a text of %d bytes is shown with %d", size, len(text))
		}
		if back := impl.Assemble(text); back.Code != impl.AsmOk || !alike(back.Class, c) {
			t.Errorf("a class of %d bytes does not come back: %d, line %d", size, back.Code, back.Line)
		}
	}
}
