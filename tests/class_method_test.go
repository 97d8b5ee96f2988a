package tests

import (
	"strings"
	"testing"

	"loop.example/g00032/impl"
)

func shapes(n int, s string) []string {
	out := make([]string, n)
	for k := range out {
		out[k] = s
	}
	return out
}

// plainMethod is one with everything: code, handlers, frames and lines.
func plainMethod() impl.Method {
	return impl.Method{
		Name: "work", Sig: "(I,@A)I", Stack: 2, Locals: 4,
		Code: []impl.Ins{
			{Op: impl.OpLoad, Kind: impl.KindInt, A: 1},
			{Op: impl.OpIf, A: 4, B: impl.CondEq},
			{Op: impl.OpNew, Class: "A"},
			{Op: impl.OpPop},
			{Op: impl.OpConst, Kind: impl.KindInt, A: 7},
			{Op: impl.OpReturn, Kind: impl.KindInt},
		},
		Handlers: []impl.Handler{{From: 0, To: 6, At: 4, Type: "Error"}, {From: 2, To: 3, At: 0}},
		Frames: []impl.Frame{
			{At: 0, Locals: []string{"@B", "I", "@A", "-"}, Stack: nil},
			{At: 4, Locals: []string{"@B", "I", "0", "!2"}, Stack: []string{"!!", "[I"}},
		},
		Lines: []impl.Line{{At: 0, N: 1}, {At: 5, N: impl.MaxLine}},
	}
}

func coded(name, sig string, flags int64) impl.Method {
	return impl.Method{Name: name, Sig: sig, Flags: flags, Locals: 9, Code: []impl.Ins{{Op: impl.OpReturn}}}
}

func bare(name, sig string, flags int64) impl.Method {
	return impl.Method{Name: name, Sig: sig, Flags: flags}
}

func pops(n int) []impl.Ins {
	out := make([]impl.Ins, n)
	for k := range out {
		out[k].Op = impl.OpPop
	}
	return out
}

type methodChange struct {
	why    string
	change func(m *impl.Method)
}

func testMethods(t *testing.T, changes []methodChange, want bool) {
	t.Helper()
	for _, c := range changes {
		m := plainMethod()
		c.change(&m)
		if impl.MethodOk(m) != want {
			t.Errorf("%s: MethodOk is %v", c.why, !want)
		}
		// A class has what its methods have.
		class := plainClass()
		class.Methods = []impl.Method{m}
		if impl.ClassOk(class) != want {
			t.Errorf("%s: ClassOk of its class is %v", c.why, !want)
		}
	}
}

func TestMethodsThatAreRight(t *testing.T) {
	testMethods(t, []methodChange{
		{"as it is", func(m *impl.Method) {}},
		{"a name of MaxName", func(m *impl.Method) { m.Name = longName(40) }},
		{"the result V", func(m *impl.Method) { m.Sig = "(I,@A)V" }},
		{"private, final, sync", func(m *impl.Method) { m.Flags = impl.FlagPrivate | impl.FlagFinal | impl.FlagSync }},
		{"static", func(m *impl.Method) { m.Flags = impl.FlagStatic }},
		{"MaxStack", func(m *impl.Method) { m.Stack = impl.MaxStack }},
		{"as many on the stack as it may hold", func(m *impl.Method) {
			m.Stack = impl.MaxStack
			m.Frames[0].Stack = shapes(impl.MaxStack, "I")
		}},
		{"no stack", func(m *impl.Method) { m.Stack, m.Frames = 0, nil }},
		{"MaxLocals", func(m *impl.Method) { m.Locals, m.Frames = impl.MaxLocals, nil }},
		{"MaxLocals, and frames with them", func(m *impl.Method) {
			m.Locals = impl.MaxLocals
			m.Frames = []impl.Frame{{At: 5, Locals: shapes(impl.MaxLocals, "!399")}}
		}},
		{"just the locals of its parameters", func(m *impl.Method) { m.Locals, m.Frames = 3, nil }},
		{"just the locals of its parameters, static", func(m *impl.Method) { m.Locals, m.Frames, m.Flags = 2, nil, impl.FlagStatic }},
		{"no locals", func(m *impl.Method) {
			*m = impl.Method{Name: "m", Sig: "()V", Flags: impl.FlagStatic, Code: []impl.Ins{{Op: impl.OpReturn}}}
		}},
		{"one instruction", func(m *impl.Method) {
			m.Code, m.Handlers, m.Frames, m.Lines = m.Code[5:], nil, nil, nil
		}},
		{"MaxCode", func(m *impl.Method) { m.Code = append(m.Code, pops(impl.MaxCode-6)...) }},
		{"the last target of MaxCode", func(m *impl.Method) {
			m.Code = append(m.Code, pops(impl.MaxCode-6)...)
			m.Code[1].A, m.Handlers[0].To, m.Handlers[1].At, m.Frames[1].At, m.Lines[1].At = 399, 400, 399, 399, 399
		}},
		{"no handlers", func(m *impl.Method) { m.Handlers = nil }},
		{"MaxHandlers, all alike", func(m *impl.Method) {
			for len(m.Handlers) < impl.MaxHandlers {
				m.Handlers = append(m.Handlers, m.Handlers[0])
			}
		}},
		{"handlers in any order", func(m *impl.Method) { m.Handlers[0], m.Handlers[1] = m.Handlers[1], m.Handlers[0] }},
		{"a handler of the last instruction, at the last", func(m *impl.Method) { m.Handlers[1] = impl.Handler{From: 5, To: 6, At: 5} }},
		{"a handler at 0 within itself", func(m *impl.Method) { m.Handlers[1] = impl.Handler{From: 0, To: 1, At: 0, Type: longName(40)} }},
		{"a frame at the last", func(m *impl.Method) { m.Frames[1].At = 5 }},
		{"a frame at each", func(m *impl.Method) {
			m.Frames = nil
			for k := range m.Code {
				m.Frames = append(m.Frames, impl.Frame{At: int64(k), Locals: shapes(4, "-"), Stack: shapes(k%3, "0")})
			}
		}},
		{"MaxCode frames and lines", func(m *impl.Method) {
			m.Code = append(m.Code, pops(impl.MaxCode-6)...)
			m.Frames, m.Lines = nil, nil
			for k := range int64(impl.MaxCode) {
				m.Frames = append(m.Frames, impl.Frame{At: k, Locals: shapes(4, "I")})
				m.Lines = append(m.Lines, impl.Line{At: k, N: 1 + k%2})
			}
		}},
		{"lines of falling numbers", func(m *impl.Method) { m.Lines = []impl.Line{{At: 2, N: 9}, {At: 3, N: 9}, {At: 4, N: 1}} }},
		{"no lines", func(m *impl.Method) { m.Lines = nil }},
		{"a new of flags private", func(m *impl.Method) { m.Name, m.Sig, m.Flags = "new", "(I,@A)V", impl.FlagPrivate }},
		{"a start", func(m *impl.Method) { m.Name, m.Sig, m.Flags = "start", "()V", impl.FlagStatic }},
		{"a start, private, final and sync", func(m *impl.Method) {
			m.Name, m.Sig, m.Flags = "start", "()V", impl.FlagStatic|impl.FlagPrivate|impl.FlagFinal|impl.FlagSync
		}},
		{"native", func(m *impl.Method) { *m = bare("m", "(I)I", impl.FlagNative) }},
		{"native of every flag that goes with it", func(m *impl.Method) {
			*m = bare("m", "(I)I", impl.FlagNative|impl.FlagStatic|impl.FlagFinal|impl.FlagPrivate|impl.FlagSync)
		}},
	}, true)
}

func TestMethodsThatBreakOneRule(t *testing.T) {
	changes := []methodChange{
		{"no name", func(m *impl.Method) { m.Name = "" }},
		{"a name of one byte more", func(m *impl.Method) { m.Name = longName(41) }},
		{"a name that is none", func(m *impl.Method) { m.Name = "1m" }},
		{"no signature", func(m *impl.Method) { m.Sig = "" }},
		{"a signature that is none", func(m *impl.Method) { m.Sig = "(I,@A)" }},
		{"a type for a signature", func(m *impl.Method) { m.Sig = "I" }},
		{"a stack below 0", func(m *impl.Method) { m.Stack, m.Frames = -1, nil }},
		{"a stack beyond MaxStack", func(m *impl.Method) { m.Stack = impl.MaxStack + 1 }},
		{"a stack of the greatest number", func(m *impl.Method) { m.Stack = maxLong }},
		{"locals beyond MaxLocals", func(m *impl.Method) { m.Locals, m.Frames = impl.MaxLocals+1, nil }},
		{"locals below 0", func(m *impl.Method) {
			*m = impl.Method{Name: "m", Sig: "()V", Flags: impl.FlagStatic, Locals: -1, Code: []impl.Ins{{Op: impl.OpReturn}}}
		}},
		{"too few locals for this and the parameters", func(m *impl.Method) { m.Locals, m.Frames = 2, nil }},
		{"too few locals for the parameters", func(m *impl.Method) {
			m.Locals, m.Frames, m.Flags = 1, nil, impl.FlagStatic
			m.Code[0].A = 0
		}},
		{"no local for this", func(m *impl.Method) { *m = impl.Method{Name: "m", Sig: "()V", Code: []impl.Ins{{Op: impl.OpReturn}}} }},
		{"no code", func(m *impl.Method) { m.Code, m.Handlers, m.Frames, m.Lines = nil, nil, nil, nil }},
		{"code beyond MaxCode", func(m *impl.Method) { m.Code = append(m.Code, pops(impl.MaxCode-5)...) }},
		{"an instruction that is none", func(m *impl.Method) { m.Code[3].Op = 0 }},
		{"the last instruction is none", func(m *impl.Method) { m.Code[5].Kind = 5 }},
		{"a target behind the code", func(m *impl.Method) { m.Code[1].A = 6 }},
		{"a place beyond the locals", func(m *impl.Method) { m.Code[0].A = 4 }},
		{"handlers beyond MaxHandlers", func(m *impl.Method) {
			for len(m.Handlers) <= impl.MaxHandlers {
				m.Handlers = append(m.Handlers, m.Handlers[0])
			}
		}},
		{"a handler of nothing", func(m *impl.Method) { m.Handlers[1].To = 2 }},
		{"a handler that ends ahead", func(m *impl.Method) { m.Handlers[1].To = 1 }},
		{"a handler from below 0", func(m *impl.Method) { m.Handlers[0].From = -1 }},
		{"a handler from the least number", func(m *impl.Method) { m.Handlers[0].From = minLong }},
		{"a handler beyond the code", func(m *impl.Method) { m.Handlers[0].To = 7 }},
		{"a handler from the end on", func(m *impl.Method) { m.Handlers[0].From, m.Handlers[0].To = 6, 7 }},
		{"a handler at the end", func(m *impl.Method) { m.Handlers[0].At = 6 }},
		{"a handler at below 0", func(m *impl.Method) { m.Handlers[1].At = -1 }},
		{"a handler of a type that is no name", func(m *impl.Method) { m.Handlers[0].Type = "@Error" }},
		{"a handler of a star", func(m *impl.Method) { m.Handlers[1].Type = "*" }},
		{"frames at one place", func(m *impl.Method) { m.Frames[0].At = 4 }},
		{"frames that fall", func(m *impl.Method) { m.Frames[0].At = 5 }},
		{"a frame at below 0", func(m *impl.Method) { m.Frames[0].At = -1 }},
		{"a frame at the least number", func(m *impl.Method) { m.Frames[0].At = minLong }},
		{"a frame behind the code", func(m *impl.Method) { m.Frames[1].At = 6 }},
		{"a frame of too few locals", func(m *impl.Method) { m.Frames[1].Locals = shapes(3, "I") }},
		{"a frame of too many locals", func(m *impl.Method) { m.Frames[1].Locals = shapes(5, "I") }},
		{"a frame without locals", func(m *impl.Method) { m.Frames[0].Locals = nil }},
		{"a frame of one on the stack too many", func(m *impl.Method) { m.Frames[0].Stack = shapes(3, "I") }},
		{"a local that is no shape", func(m *impl.Method) { m.Frames[0].Locals[3] = "V" }},
		{"a first local that is no shape", func(m *impl.Method) { m.Frames[1].Locals[0] = "" }},
		{"one on the stack that is no shape", func(m *impl.Method) { m.Frames[1].Stack[1] = "!400" }},
		{"lines at one place", func(m *impl.Method) { m.Lines[0].At = 5 }},
		{"lines that fall", func(m *impl.Method) { m.Lines[1].At, m.Lines[0].At = 3, 4 }},
		{"a line at below 0", func(m *impl.Method) { m.Lines[0].At = -1 }},
		{"a line behind the code", func(m *impl.Method) { m.Lines[1].At = 6 }},
		{"a line of number 0", func(m *impl.Method) { m.Lines[0].N = 0 }},
		{"a line of a number below 0", func(m *impl.Method) { m.Lines[0].N = minLong }},
		{"a line beyond MaxLine", func(m *impl.Method) { m.Lines[1].N = impl.MaxLine + 1 }},
		{"a new that gives something", func(m *impl.Method) { m.Name = "new" }},
		{"a start that is not static", func(m *impl.Method) { m.Name, m.Sig = "start", "()V" }},
		{"a start of a parameter", func(m *impl.Method) { m.Name, m.Sig, m.Flags = "start", "(I)V", impl.FlagStatic }},
		{"a start that gives something", func(m *impl.Method) { m.Name, m.Sig, m.Flags = "start", "()I", impl.FlagStatic }},
		{"a start that is native", func(m *impl.Method) { *m = bare("start", "()V", impl.FlagStatic|impl.FlagNative) }},
		{"a new that is native", func(m *impl.Method) { *m = bare("new", "()V", impl.FlagNative) }},
		{"a new that is abstract", func(m *impl.Method) { *m = bare("new", "()V", impl.FlagAbstract) }},
	}
	for _, f := range []int64{impl.FlagStatic, impl.FlagFinal, impl.FlagSync} {
		changes = append(changes, methodChange{"a new of a flag that it has not", func(m *impl.Method) { m.Name, m.Sig, m.Flags = "new", "()V", f }})
	}
	for _, f := range []int64{impl.FlagVolatile, impl.FlagInterface, impl.FlagSealed, 512, 1 << 40, minLong, -1} {
		changes = append(changes, methodChange{"a flag that is none", func(m *impl.Method) { m.Flags = f }})
	}
	for _, f := range []int64{impl.FlagNative, impl.FlagAbstract} {
		changes = append(changes,
			methodChange{"flags without a body, and a body", func(m *impl.Method) { m.Flags = f }},
			methodChange{"code", func(m *impl.Method) {
				*m = bare("m", "()V", f)
				m.Code = []impl.Ins{{Op: impl.OpReturn}}
			}},
			methodChange{"a stack", func(m *impl.Method) { *m = impl.Method{Name: "m", Sig: "()V", Flags: f, Stack: 1} }},
			methodChange{"locals", func(m *impl.Method) { *m = impl.Method{Name: "m", Sig: "()V", Flags: f, Locals: 1} }},
			methodChange{"a handler", func(m *impl.Method) {
				*m = impl.Method{Name: "m", Sig: "()V", Flags: f, Handlers: []impl.Handler{{To: 1}}}
			}},
			methodChange{"a frame", func(m *impl.Method) { *m = impl.Method{Name: "m", Sig: "()V", Flags: f, Frames: []impl.Frame{{}}} }},
			methodChange{"a line", func(m *impl.Method) { *m = impl.Method{Name: "m", Sig: "()V", Flags: f, Lines: []impl.Line{{N: 1}}} }},
		)
	}
	testMethods(t, changes, false)
}

// Frames and Lines are at most MaxCode: more can't ascend, either, so the limit shows in that they are not gone through.
func TestTooManyFrames(t *testing.T) {
	m := plainMethod()
	m.Code = append(m.Code, pops(impl.MaxCode-6)...)
	m.Lines = nil
	for k := range int64(impl.MaxCode + 1) {
		m.Lines = append(m.Lines, impl.Line{At: k, N: 1})
	}
	if impl.MethodOk(m) {
		t.Error("one line too many is right")
	}
	m.Lines = nil
	m.Frames = nil
	for k := range int64(impl.MaxCode + 1) {
		m.Frames = append(m.Frames, impl.Frame{At: k, Locals: shapes(4, "I")})
	}
	if impl.MethodOk(m) {
		t.Error("one frame too many is right")
	}
}

// methodFlagsOk says what the chapter says of flags, name and result, of a method with or without a body.
func methodFlagsOk(name, sig string, flags int64, body bool) bool {
	has := func(f int64) bool { return flags&f != 0 }
	if flags < 0 || flags > 127 || has(16) || has(4) && has(64) {
		return false
	}
	if has(4) && (has(1) || has(2) || has(8) || has(32)) {
		return false
	}
	if body == (has(4) || has(64)) {
		return false
	}
	if name == "new" {
		return strings.HasSuffix(sig, ")V") && !has(1) && !has(2) && !has(4) && !has(64) && !has(32)
	}
	return name != "start" || has(1) && sig == "()V" && !has(64)
}

func TestAllFlagsOfMethods(t *testing.T) {
	for flags := int64(-300); flags < 1100; flags++ {
		for _, name := range []string{"m", "new", "start", "news", "News", "run", "star"} {
			for _, sig := range []string{"()V", "()I", "(I)V", "(@A,J)@B"} {
				if want := methodFlagsOk(name, sig, flags, true); impl.MethodOk(coded(name, sig, flags)) != want {
					t.Errorf("%s %s with code, flags %d: MethodOk is %v", name, sig, flags, !want)
				}
				if want := methodFlagsOk(name, sig, flags, false); impl.MethodOk(bare(name, sig, flags)) != want {
					t.Errorf("%s %s without code, flags %d: MethodOk is %v", name, sig, flags, !want)
				}
			}
		}
	}
}

func TestLocalsOfParameters(t *testing.T) {
	for n := 0; n <= impl.MaxParams; n++ {
		sig := "(" + manyParams(n) + ")V"
		for locals := int64(-1); locals < 12; locals++ {
			for flags := range int64(2) {
				m := impl.Method{Name: "m", Sig: sig, Flags: flags, Locals: locals, Code: []impl.Ins{{Op: impl.OpReturn}}}
				want := locals >= int64(n)+1-flags
				if impl.MethodOk(m) != want {
					t.Errorf("%s with %d locals, flags %d: MethodOk is %v", sig, locals, flags, !want)
				}
			}
		}
	}
}
