package tests

import (
	"strings"
	"testing"

	"loop.example/g00032/impl"
)

// fails says that a text is answered by a code and a line, and by nothing else.
func fails(t *testing.T, text string, code, line int64) {
	t.Helper()
	got := impl.Assemble(text)
	if got.Code != code || got.Line != line {
		t.Errorf("%.300q: %d, line %d, not %d, line %d", text, got.Code, got.Line, code, line)
	}
	if !alike(got.Class, impl.Class{}) {
		t.Errorf("%.300q: a class beside %d", text, got.Code)
	}
}

func TestTooLongTexts(t *testing.T) {
	class := "class A B\nend\n"
	reads(t, class+strings.Repeat(" ", impl.MaxSource-len(class)), impl.Class{Name: "A", Super: "B"})
	fails(t, class+strings.Repeat(" ", impl.MaxSource-len(class)+1), impl.AsmSize, 0)
	fails(t, strings.Repeat("\n", impl.MaxSource), impl.AsmEnd, 0)
	fails(t, strings.Repeat("\n", impl.MaxSource+1), impl.AsmSize, 0)
	fails(t, strings.Repeat("\n", impl.MaxSource-1)+"x", impl.AsmLine, impl.MaxSource)
	fails(t, strings.Repeat("x", impl.MaxSource), impl.AsmLine, 1)
	fails(t, strings.Repeat("x", impl.MaxSource+1), impl.AsmSize, 0)
	fails(t, "x"+strings.Repeat(" ", 1<<22), impl.AsmSize, 0)
	reads(t, impl.PrintClass(classOfSize(impl.MaxSource)), classOfSize(impl.MaxSource))
	fails(t, impl.PrintClass(classOfSize(impl.MaxSource))+" ", impl.AsmSize, 0)
}

// Each of these lines is at fault wherever it stands behind the class line; within a method, too.
func oddLines() []string {
	return []string{
		// Words that begin no line.
		"nonsense", "x", "Pop", "POP", "popx", "po", "pops", "ends", "End", ":", "|", "*", "-", "0", "12", "\"\"", "\"pop\"", "static", "stack", "locals", "eq", "I", "popstatic", "getfield", "callstatic", "tab\tpop", "\tpop", "pop\t", "pop\r", "pop,", "pop;", "pop;pop", "\x00", "é", "\xff", "pop\x00", "pop\u00a0", "ifeq 0", "iconst 1",
		// More words than there may be.
		"pop pop", "null 0", "dup x", "swap 1", "under I", "length I", "throw x", "enter x", "exit 1", "end end", "end 0", "end \"\"",
		"const I 1 2", "text \"a\" b", "text \"a\"b", "text \"a\"\"b\"", "text \"a\" \"b\"", "load I 0 0", "inc 0 1 2", "add I I", "cmp J 0", "cmp J 1", "cmp D 1 1", "conv I J J", "goto 0 0", "if eq 0 0", "ifint eq 0 0", "ifnull eq 0 0", "ifsame eq 0 0",
		"get A f I I", "getstatic A f I static", "put A f I 0", "putstatic A f I 1", "call static A m ()V V", "new A B", "newarray I I", "aload I 0", "astore I I", "cast @A @A", "is @A 0", "return I I", "return V V",
		// Fewer.
		"const", "const I", "const J", "const D", "text", "load", "load I", "store", "store R", "inc", "inc 0", "add", "sub", "mul", "div", "rem", "neg", "shl", "shr", "ushr", "and", "or", "xor", "cmp", "cmp D", "conv", "conv I", "goto", "if", "if eq", "ifint", "ifint eq", "ifnull", "ifnull eq", "ifsame", "ifsame ne", "switch", "switch 0", "switch 0 0",
		"get", "get A", "get A f", "getstatic A f", "put A f", "putstatic A", "call", "call static", "call static A", "call static A m", "new", "newarray", "aload", "astore", "cast", "is",
		// Words that are none of those that may stand there.
		"const R 0", "const V 0", "const i 0", "const 0", "const X 1", "const B 1", "load V 0", "load i 0", "load II 0", "load @A 0", "load 1 0", "store L 0", "add i", "add 1", "add V", "add B", "xor Z", "cmp I", "cmp R", "cmp 1", "cmp R 1", "cmp I 1", "conv I R", "conv I V", "conv V I", "conv i J", "conv I c", "conv B I",
		"aload B", "astore [I", "return V", "return X", "return 0", "return 1",
		"if equal 0", "if == 0", "if 0", "if 1 0", "if Eq 0", "ifint 0 eq", "if x 0", "ifnull null 0", "ifsame ifsame 0", "call 1 A m ()V", "call direct A m ()V", "call Static A m ()V", "call private A m ()V", "call A m ()V",
		"text a", "text 0", "text 'a'", "load 0 I", "goto eq 0",
		// Labels.
		"1:", "a-b:", "a :", ": a", "a: b", "a: pop", "a: a:", "::", "a::", "$a:", "é:", "@a:", "[a:", "\"a\":", "a:b", longName(41) + ":", "a :;",
		// Members of the class.
		"implements", "permits", "field", "field f", "field f I public", "field f I static static", "field f I final static", "field f I volatile private", "field f I 0", "field f I I", "field f I Static",
		"method", "method m", "method m ()V public", "method m ()V final static", "method m ()V static static", "method m ()V native sync", "method m ()V stack", "method m ()V stack 1", "method m ()V stack 1 locals", "method m ()V locals 1", "method m ()V locals 1 stack 1", "method m ()V stack 1 1", "method m ()V stack 1 local 1", "method m ()V stack locals 1 1", "method m ()V stack 1 locals 1 static", "method m ()V stack 1 locals 1 2", "method m ()V stack 1 locals 1 stack 1 locals 1", "method m ()V static 1 1", "method m ()V stack x locals 1", "method m ()V stack 1 locals x",
		"class", "class A", "class A B", "class A B final",
		// Handlers, frames, lines.
		"handler", "handler 0", "handler 0 1", "handler 0 1 0", "handler 0 1 0 * *", "handler 0 1 0 A B", "handler * 0 1 0", "handler 0 1 * 0",
		"frame", "frame 0", "frame 0 I", "frame 0 I I", "frame | 0", "frame |", "frame 0 I|", "frame 0 I || I", "frame 0 | |", "frame 0 I | I |", "frame I@ |",
		"line", "line 0", "line 0 1 1", "line 0 a", "line 0 -", "line 0 *",
	}
}

// Each of these numbers is none.
func oddNumbers() []string {
	return []string{"00", "01", "007", "-0", "-00", "-01", "+0", "+1", "--1", "-", "+", "1-", "1-1", "0x1", "0x", "1_0", "1e3", "1.0", "1,0", "1L", "0b1", "0o7", "1;", "'1'", "\"1\"", "\"0\"", "١", "1000000000000000", "-1000000000000000", "0000000000000000", "9223372036854775807", "-9223372036854775808", "9223372036854775808", "18446744073709551616", strings.Repeat("9", 5000), "-" + strings.Repeat("0", 5000)}
}

// linesOfNumber are lines that have a number, # in its place; targets are among them.
func linesOfNumber() []string {
	return []string{
		"const I #", "load I #", "store R #", "inc # 1", "inc 1 #", "cmp D #", "goto #", "if eq #", "ifint eq #", "ifnull eq #", "ifsame eq #", "switch # 0 0", "switch 0 # 0", "switch 0 0 #", "switch 0 0 0 0 #", "switch 0 0 # 0",
		"handler # 1 0 *", "handler 0 # 0 *", "handler 0 1 # *", "frame # |", "line # 1", "line 0 #", "method x ()V stack # locals 0", "method x ()V stack 0 locals #", "method x ()V static stack 0 locals #",
	}
}

const (
	faultHead = "class A B\nmethod m ()V static\npop\n"
	faultTail = "\nreturn\nend\n"
)

func TestOddLines(t *testing.T) {
	fails(t, faultHead+faultTail+"pop", impl.AsmLine, 7)
	reads(t, faultHead+faultTail, impl.Class{Name: "A", Super: "B", Methods: []impl.Method{{Name: "m", Sig: "()V", Flags: 1, Code: []impl.Ins{{Op: 7}, {Op: 44}}}}})
	for _, line := range oddLines() {
		fails(t, faultHead+line+faultTail, impl.AsmLine, 4)
		fails(t, faultHead+"\n ; \n  "+line+"  ;\n"+faultTail, impl.AsmLine, 6)
		fails(t, faultHead+"return\n"+line, impl.AsmLine, 5)
		if !strings.HasPrefix(line, "class A B") {
			fails(t, line+"\nend", impl.AsmLine, 1)
		}
	}
}

func TestOddNumbers(t *testing.T) {
	for _, line := range linesOfNumber() {
		for _, n := range oddNumbers() {
			fails(t, faultHead+strings.ReplaceAll(line, "#", n)+faultTail, impl.AsmLine, 4)
		}
		// What is a number as said, of 15 digits, is none that the class may have: its line is right.
		for _, n := range []string{"999999999999999", "-999999999999999", "100000000000000"} {
			fails(t, faultHead+strings.ReplaceAll(line, "#", n)+faultTail, impl.AsmClass, 0)
		}
		if !strings.Contains(" const I # inc 1 # switch # 0 0 cmp D #", " "+line) {
			fails(t, faultHead+strings.ReplaceAll(line, "#", "-1")+faultTail, impl.AsmClass, 0)
		}
	}
	// A number that is no target takes no label.
	for _, line := range []string{"const I #", "const J #", "const D #", "load I #", "store I #", "inc # 1", "inc 0 #", "cmp D #", "switch # 0 0", "line 0 #", "method x ()V stack # locals 0", "method x ()V stack 0 locals #"} {
		fails(t, faultHead+"here:\n"+strings.ReplaceAll(line, "#", "here")+faultTail, impl.AsmLine, 5)
	}
}

func TestOddConstants(t *testing.T) {
	static := func(line string) string { return faultHead + line + faultTail }
	for _, n := range []string{"00", "01", "-0", "+1", "-", "", "1.0", "0x1", "1p0", "9223372036854775808", "-9223372036854775809", "10000000000000000000", "0000000000000000000000", strings.Repeat("1", 4000), "\"1\"", "here"} {
		fails(t, static("const J "+n), impl.AsmLine, 4)
	}
	for _, n := range []string{"0", "1", "1.0", "0p1", "2p0", "1p", "p0", "+1p0", "01p0", "1p00", "1p-0", "1p1024", "1p-1075", "NaN", "-nan", "+inf", "Inf", "infinity", "--inf", "1P0", "1p0p0", "\"1p0\"", "here", strings.Repeat("1", 4000) + "p0"} {
		fails(t, static("const D "+n), impl.AsmLine, 4)
	}
	for _, q := range []string{`"`, `"a`, `"a\"`, `"\`, `"\"`, `"\2"`, `"\22`, `"\2g"`, `"\G2"`, `"\0A"`, `"\FF"`, `"\n"`, `"\\"`, `"\x0a"`, `"\ 1"`, `"\+1"`, `"\-1"`, `"\0_"`, `"\41"`, `"\20"`, `"\7e"`, `"\61b"`, "\"\t\"", "\"\r\"", "\"\x00\"", "\"\x7f\"", "\"\x80\"", "\"é\"", "\"\xff\"", `'a'`, `a"b"`, `a"`, `"a"b`, `""""`, `"" ""`} {
		fails(t, static("text "+q), impl.AsmLine, 4)
	}
	for _, q := range []string{`"\7f"`, `"\1f"`, `"\22"`, `"\5c"`, `""`, `" "`, `"\\`} {
		if got := impl.Assemble(static("text " + q)); (got.Code == impl.AsmOk) != (q != `"\\`) {
			t.Errorf("text %s: %d, line %d", q, got.Code, got.Line)
		}
	}
}

// The class line is the first, and it alone; the end line is the last.
func TestFirstAndLastLines(t *testing.T) {
	for _, line := range []string{"end", "pop", "a:", "implements X", "permits X", "field f I", "method m ()V", "handler 0 1 0 *", "frame 0 |", "line 0 1", "A B", "class", "class A", "class A B public", "class A B sealed final", "class A B final final", "class A B C", "Class A B", "classA B", "class A\tB", "\"class\" A B", "\xef\xbb\xbfclass A B"} {
		fails(t, line+"\nend", impl.AsmLine, 1)
		fails(t, "\n;\n "+line+"\nclass A B\nend", impl.AsmLine, 3)
	}
	for _, line := range []string{"pop", "a:", "handler 0 1 0 *", "frame 0 |", "line 0 1", "const I 0"} {
		fails(t, "class A B\n"+line+"\nend", impl.AsmLine, 2)
		fails(t, "class A B\nfield f I\nimplements J\n"+line+"\nmethod m ()V static\nreturn\nend", impl.AsmLine, 4)
	}
	for _, line := range []string{"end", "pop", "a:", "class A B", "implements X", "permits X", "field f I", "method m ()V native", "handler 0 1 0 *", "frame 0 |", "line 0 1", "x", "\"", "\t", "\r", "\x00"} {
		fails(t, "class A B\nend\n"+line, impl.AsmLine, 3)
		fails(t, "class A B\nmethod m ()V static\nreturn\nend\n\n ;\n"+line+"\n", impl.AsmLine, 7)
	}
	fails(t, "class A B\nclass A B\nend", impl.AsmLine, 2)
	fails(t, "class A B\nmethod m ()V native\nclass C D\nend", impl.AsmLine, 3)
}

func TestNoEndLine(t *testing.T) {
	for _, text := range []string{"", " ", "\n", "\n\n ;end\n", ";", ";\"", "class A B", "class A B\n", "class A B ; end\n", "class A B\nmethod m ()V static\nreturn\n", "class A B\nmethod m ()V static\nend:\n", "class 1 2", "class A B\nmethod m ()V static\ngoto 9"} {
		fails(t, text, impl.AsmEnd, 0)
	}
}

func TestLabelsAtFault(t *testing.T) {
	fails(t, faultHead+"a:\na:"+faultTail, impl.AsmLabel, 5)
	fails(t, faultHead+"a:\npop\nb:\n a: ;\n"+faultTail, impl.AsmLabel, 7)
	fails(t, faultHead+"a:\nfield f I\ngoto a\na:"+faultTail, impl.AsmLabel, 7)
	fails(t, "class A B\nmethod m ()V native\na:\na:\nend", impl.AsmLabel, 4)
	for _, line := range linesOfNumber() {
		word := strings.Fields(line)[0]
		isTarget := word == "goto" || strings.HasPrefix(word, "if") || word == "handler" || word == "frame" || line == "line # 1" || word == "switch" && !strings.HasPrefix(line, "switch #")
		if !isTarget {
			continue
		}
		use := strings.ReplaceAll(line, "#", "far")
		fails(t, faultHead+use+faultTail, impl.AsmLabel, 4)
		fails(t, faultHead+"\n"+use+"\n"+use+faultTail, impl.AsmLabel, 5)
		// A label of another method, ahead or behind, is none of this one.
		fails(t, "class A B\nmethod l ()V static\nfar:\nreturn\nmethod m ()V static\n"+use+faultTail, impl.AsmLabel, 6)
		fails(t, faultHead+use+"\nreturn\nmethod n ()V static\nfar:\nreturn\nend", impl.AsmLabel, 4)
		// Told, it is no fault of a label.
		if got := impl.Assemble(faultHead + use + "\nfar:" + faultTail); got.Code == impl.AsmLabel || got.Code == impl.AsmLine {
			t.Errorf("%s: %d, line %d, though the label is told", use, got.Code, got.Line)
		}
	}
	// Names of labels differ by each byte.
	fails(t, faultHead+"far:\ngoto Far"+faultTail, impl.AsmLabel, 5)
	fails(t, faultHead+"far:\ngoto fa"+faultTail, impl.AsmLabel, 5)
	// What is neither a number nor a name is no label that is missing.
	for _, word := range []string{"@a", "a-b", "1a", "_a", ".a", "$a", "a:", ":a", "é", "\"a\"", "[", longName(41)} {
		fails(t, faultHead+"goto "+word+faultTail, impl.AsmLine, 4)
	}
	// A ! in a frame takes no label.
	fails(t, "class A B\nmethod m ()V static stack 0 locals 1\na:\nframe 0 !a |\nreturn\nend", impl.AsmClass, 0)
}

func TestClassesAtFault(t *testing.T) {
	for _, text := range []string{
		"class 1 B\nend", "class A -\nend", "class Object A\nend", "class A 1\nend", "class " + longName(41) + " B\nend", "class \"A\" B\nend", "class A B static\nend", "class A B final abstract\nend", "class A B interface\nend", "class A B sealed\nend",
		"class A B\npermits C\nend", "class A B sealed\npermits D C\nend", "class A B sealed\npermits D\npermits C\nend", "class A B\nimplements C C\nend", "class A B\nimplements C\nimplements C\nend", "class A B\nimplements -\nend", "class A B\nimplements " + strings.Join(manyNames(41), " ") + "\nend",
		"class A B\nfield f V\nend", "class A B\nfield 1 I\nend", "class A B\nfield f I sync\nend", "class A B\nfield f I final volatile\nend", "class A B\nfield f I\nfield f J\nend",
		"class A B\nmethod m V\nend", "class A B\nmethod m ()V\nend", "class A B\nmethod m ()V native\npop\nend", "class A B\nmethod m ()V abstract\nend", "class A B\nmethod m ()V static volatile\nreturn\nend", "class A B\nmethod m ()V static\nreturn\nmethod m ()V native\nend", "class A B\nmethod m ()V native stack 1 locals 0\nend", "class A B\nmethod new ()I\nreturn\nend", "class A B\nmethod m ()V static stack 41 locals 0\nreturn\nend",
		faultHead + "goto 3" + faultTail, faultHead + "load I 0" + faultTail, faultHead + "const I 2147483648" + faultTail, faultHead + "text \"" + strings.Repeat("a", 201) + "\"" + faultTail, faultHead + "rem D" + faultTail, faultHead + "add R" + faultTail, faultHead + "conv I I" + faultTail, faultHead + "conv R I" + faultTail, faultHead + "cmp D 0" + faultTail, faultHead + "ifnull lt 0" + faultTail, faultHead + "switch 0 0" + strings.Repeat(" 0", 101) + faultTail, faultHead + "get A f V" + faultTail, faultHead + "new @A" + faultTail, faultHead + "newarray [[[[I" + faultTail, faultHead + "cast I" + faultTail, faultHead + "call static A m I" + faultTail, faultHead + "inc 0 32768" + faultTail,
		faultHead + "handler 1 1 0 *" + faultTail, faultHead + "handler 0 3 0 *" + faultTail, faultHead + "handler 0 1 2 *" + faultTail, faultHead + "handler 0 1 0 -" + faultTail, faultHead + "frame 2 |" + faultTail, faultHead + "frame 0 I |" + faultTail, faultHead + "frame 0 | I" + faultTail, faultHead + "frame 1 |\nframe 0 |" + faultTail, faultHead + "frame 0 |\nframe 0 |" + faultTail, faultHead + "line 1 1\nline 0 1" + faultTail, faultHead + "line 0 0" + faultTail, faultHead + "line 0 1000001" + faultTail,
		faultHead + "goto over\nreturn\nover:\nend", "class A B\nmethod m ()V static stack 0 locals 1\nreturn\nframe 0 V |\nend", "class A B\nmethod m ()V static stack 0 locals 1\nreturn\nframe 0 !01 |\nend",
		faultHead + strings.Repeat("pop\n", 400) + "end",
	} {
		fails(t, text, impl.AsmClass, 0)
	}
}

// Of several faults the first line counts; labels that are missing come behind all faults of lines, then a missing end line, then the class.
func TestWhichFaultCounts(t *testing.T) {
	for _, c := range []struct {
		text string
		code int64
		line int64
	}{
		{"class A B\nfield\nmethod\nx", impl.AsmLine, 2},
		{"class A B\nmethod m ()V static\na:\na:\nx\nend", impl.AsmLabel, 4},
		{"class A B\nmethod m ()V static\na:\nx\na:\nend", impl.AsmLine, 4},
		{"class A B\nmethod m ()V static\na:\na: x\nend", impl.AsmLine, 4},
		{"class A B\nmethod m ()V static\na:\nb:\nb:\na:\nend", impl.AsmLabel, 5},
		{"class A B\nmethod m ()V static\ngoto a\nx\nend", impl.AsmLine, 4},
		{"class A B\nmethod m ()V static\ngoto a\nb:\nb:\nend", impl.AsmLabel, 5},
		{"class A B\nmethod m ()V static\ngoto a\nend\npop", impl.AsmLine, 5},
		{"class A B\nmethod m ()V static\ngoto a\ngoto b\nend", impl.AsmLabel, 3},
		{"class A B\nmethod m ()V static\nb:\ngoto b\ngoto a\nend", impl.AsmLabel, 5},
		{"class A B\nmethod m ()V static\ngoto a\nmethod n ()V static\ngoto b\nend", impl.AsmLabel, 3},
		{"class A B\nmethod m ()V static\ngoto a\na:\nmethod n ()V static\ngoto a\nend", impl.AsmLabel, 6},
		{"class A B\nmethod m ()V static\ngoto a 1\nend", impl.AsmLine, 3},
		{"class A B\nmethod m ()V static\nhandler a b c\nend", impl.AsmLine, 3},
		{"class A B\nmethod m ()V static\nswitch x a a\nend", impl.AsmLine, 3},
		{"class A B\nmethod m ()V static\nswitch 0 a 01\nend", impl.AsmLine, 3},
		{"class A B\nmethod m ()V static\ngoto a\n", impl.AsmLabel, 3},
		{"class A B\nmethod m ()V static\nx", impl.AsmLine, 3},
		{"class A B\nmethod m ()V static\na:\na:", impl.AsmLabel, 4},
		{"class 1 B\nmethod m ()V static\ngoto a\nend", impl.AsmLabel, 3},
		{"class 1 B\nx\nend", impl.AsmLine, 2},
		{"class 1 B", impl.AsmEnd, 0},
		{"class 1 B\nend", impl.AsmClass, 0},
		{"x\nclass A B\nend\nend", impl.AsmLine, 1},
		{"class A B\nend\nend\nx", impl.AsmLine, 3},
		{"class A B\nend\n" + strings.Repeat(" ", impl.MaxSource), impl.AsmSize, 0},
		{"x" + strings.Repeat("\n", impl.MaxSource), impl.AsmSize, 0},
	} {
		fails(t, c.text, c.code, c.line)
	}
}
