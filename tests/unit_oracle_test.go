package tests

import (
	"fmt"
	"regexp"
	"slices"
	"testing"

	"loop.example/g00032/impl"
)

// A second working out of chapter 15: runs on the instructions of a unit itself, classes of units, and units of classes by the words of instructions.

// unitScene is a frame of a unit's run.
type unitScene struct {
	code   []impl.Ins
	result bool
	pc     int64
	locals []int64
	stack  []int64
}

func unitSceneOf(f impl.Func, args []int64) *unitScene {
	s := &unitScene{code: f.Code, result: impl.Result(f.Sig) != "V", locals: make([]int64, f.Locals)}
	copy(s.locals, args)
	return s
}

func (s *unitScene) push(n int64) { s.stack = append(s.stack, n) }

func (s *unitScene) pop() int64 {
	n := s.stack[len(s.stack)-1]
	s.stack = s.stack[:len(s.stack)-1]
	return n
}

// unitPlayed is what UnitRun has to answer of a right unit, with arguments and fuel that can be.
func unitPlayed(u impl.Unit, f int64, args []int64, fuel int64) impl.UnitOut {
	out := impl.UnitOut{Code: -1, Globals: make([]int64, len(u.Globals))}
	scenes := []*unitScene{unitSceneOf(u.Funcs[f], args)}
	for out.Code < 0 {
		if out.Steps == fuel {
			out.Code = impl.UnitFuel
			return out
		}
		out.Steps++
		s := scenes[len(scenes)-1]
		i := s.code[s.pc]
		s.pc++
		switch i.Op {
		case impl.OpCall:
			scenes = unitCalled(u, s, i.A, scenes, &out)
		case impl.OpReturn:
			scenes = scenes[:len(scenes)-1]
			switch {
			case len(scenes) == 0:
				out.Code = impl.UnitDone
				if s.result {
					out.N = s.pop()
				}
			case s.result:
				scenes[len(scenes)-1].push(s.pop())
			}
		case impl.OpGet:
			s.push(out.Globals[i.A])
		case impl.OpPut:
			out.Globals[i.A] = s.pop()
		default:
			if !unitMoved(s, i) {
				out.Code = impl.UnitArith
			}
		}
	}
	return out
}

func unitCalled(u impl.Unit, s *unitScene, n int64, scenes []*unitScene, out *impl.UnitOut) []*unitScene {
	if n < 0 {
		out.Trace = append(out.Trace, fmt.Sprint(s.pop()))
		return scenes
	}
	if len(scenes) == 100 {
		out.Code = impl.UnitDeep
		return scenes
	}
	args := make([]int64, len(impl.Params(u.Funcs[n].Sig)))
	for k := range args {
		args[len(args)-1-k] = s.pop()
	}
	return append(scenes, unitSceneOf(u.Funcs[n], args))
}

// unitMoved does an instruction that needs its frame alone; it says no of a division by 0.
func unitMoved(s *unitScene, i impl.Ins) bool {
	switch i.Op {
	case impl.OpConst:
		s.push(i.A)
	case impl.OpLoad:
		s.push(s.locals[i.A])
	case impl.OpStore:
		s.locals[i.A] = s.pop()
	case impl.OpInc:
		s.locals[i.A] = int64(int32(s.locals[i.A] + i.B))
	case impl.OpPop:
		s.pop()
	case impl.OpDup:
		s.push(s.stack[len(s.stack)-1])
	case impl.OpSwap, impl.OpUnder:
		a, b := s.pop(), s.pop()
		s.push(a)
		s.push(b)
		if i.Op == impl.OpUnder {
			s.push(a)
		}
	case impl.OpGoto, impl.OpIf, impl.OpIfInt, impl.OpSwitch:
		unitJumped(s, i)
	default:
		return unitReckoned(s, i)
	}
	return true
}

func unitJumped(s *unitScene, i impl.Ins) {
	second := int64(0)
	switch i.Op {
	case impl.OpGoto:
		s.pc = i.A
		return
	case impl.OpSwitch:
		k := s.pop() - i.B
		s.pc = i.A
		if k >= 0 && k < int64(len(i.Table)) {
			s.pc = i.Table[k]
		}
		return
	case impl.OpIfInt:
		second = s.pop()
	}
	first := s.pop()
	if []bool{false, first == second, first != second, first < second, first >= second, first > second, first <= second}[i.B] {
		s.pc = i.A
	}
}

func unitReckoned(s *unitScene, i impl.Ins) bool {
	second := int64(0)
	if i.Op != impl.OpConv && i.Op != impl.OpNeg {
		second = s.pop()
	}
	n, ok := s.pop(), true
	switch {
	case i.Op == impl.OpCmp && n < second:
		n = -1
	case i.Op == impl.OpCmp && n > second:
		n = 1
	case i.Op == impl.OpCmp:
		n = 0
	case i.Op == impl.OpConv:
		n = map[int64]int64{1: int64(int32(n)), 2: n, 5: int64(int8(n)), 6: int64(uint16(n)), 7: int64(int16(n))}[i.A]
	default:
		n, ok = wholeOracle(uint(32*i.Kind), i.Op, n, second)
	}
	s.push(n)
	return ok
}

// unitKinds are the kinds that an instruction of a unit may have; none where a unit has no such instruction.
func unitKinds(op int64) []int64 {
	switch {
	case op == 1 || op == 4 || op == 5 || op >= 11 && op <= 22 || op == 24:
		return []int64{1, 2}
	case op == 23:
		return []int64{2}
	case op == 44:
		return []int64{0, 1, 2}
	case op >= 6 && op <= 10 || op >= 25 && op <= 27 || op >= 30 && op <= 33:
		return []int64{0}
	}
	return nil
}

// unitClassWorked gives the class that a unit has to have, and sure; where it is left open which class that is, none but that it is not right.
func unitClassWorked(u impl.Unit) (c impl.Class, sure bool) {
	c, sure = impl.Class{Name: "U", Super: "Object"}, len(u.Globals) <= 40 && len(u.Funcs) <= 40
	for k, typ := range u.Globals {
		if typ != "I" && typ != "J" {
			return impl.Class{}, true
		}
		c.Fields = append(c.Fields, impl.Field{Name: fmt.Sprint("g", k), Type: typ, Flags: 1})
	}
	for k, f := range u.Funcs {
		if !unitSig.MatchString(f.Sig) {
			return impl.Class{}, true
		}
		m := impl.Method{Name: fmt.Sprint("f", k), Sig: f.Sig, Flags: 1, Stack: 40, Locals: f.Locals}
		for _, i := range f.Code {
			j, some := unitInsWorked(u, i)
			if !some {
				return impl.Class{}, true
			}
			sure = sure && impl.InsOk(j, int64(len(f.Code)), f.Locals)
			m.Code = append(m.Code, j)
		}
		c.Methods = append(c.Methods, m)
	}
	return c, sure
}

var unitSig = regexp.MustCompile(`\A\(([IJ](,[IJ]){0,7})?\)[IJV]\z`)

func unitInsWorked(u impl.Unit, i impl.Ins) (impl.Ins, bool) {
	named := func(class, name string, n int64, typ string) (impl.Ins, bool) {
		if n >= 0 {
			name = fmt.Sprint(name, n)
		}
		return impl.Ins{Op: i.Op, B: 1, Class: class, Name: name, Type: typ}, alike(i, impl.Ins{Op: i.Op, A: i.A, B: 1})
	}
	field, kinds := i.Op == impl.OpGet || i.Op == impl.OpPut, unitKinds(i.Op)
	switch {
	case len(kinds) == 0, slices.Max(kinds) > 0 && !slices.Contains(kinds, i.Kind), i.Op == impl.OpConv && i.A == 3:
		return i, false
	case field && i.A >= 0 && i.A < int64(len(u.Globals)):
		return named("U", "g", i.A, u.Globals[i.A])
	case i.Op == impl.OpCall && i.A >= 0 && i.A < int64(len(u.Funcs)):
		return named("U", "f", i.A, u.Funcs[i.A].Sig)
	case i.Op == impl.OpCall && (i.A == -1 || i.A == -2):
		return named("System", "print", -1, []string{"(I)V", "(J)V"}[-1-i.A])
	}
	return i, !field && i.Op != impl.OpCall
}

// testUnit holds the class of a unit, and whether that is right, against the second working out; of what is a class it looks that it comes back.
func testUnit(t *testing.T, u impl.Unit) bool {
	t.Helper()
	got := impl.UnitClass(u)
	want, sure := unitClassWorked(u)
	if sure && !alike(got, want) {
		t.Fatalf("%v:\n%v\nnot %v", u, got, want)
	}
	right := impl.ClassOk(got)
	if right && !sure {
		t.Fatalf("%v: right is %v", u, got)
	}
	ok := impl.UnitOk(u)
	if ok != (right && len(impl.InferAll([]impl.Class{got})) == 0) {
		t.Fatalf("%v: UnitOk is %v", u, ok)
	}
	if right {
		same(t, "a unit taken back", impl.UnitOf([]impl.Class{got}, "U"), u)
		testUnitText(t, got)
	}
	return ok
}

// testUnitText looks that the class of a unit comes back from its text and from its bytes.
func testUnitText(t *testing.T, c impl.Class) {
	t.Helper()
	text := impl.PrintClass(c)
	if a := impl.Assemble(text); text != "" && (a.Code != impl.AsmOk || !alike(a.Class, c) || impl.PrintClass(a.Class) != text) {
		t.Fatalf("%s\ncomes back as %v", text, a)
	}
	if b := impl.ClassBytes(c); len(b) <= impl.MaxFile {
		r := impl.ReadBytes(b)
		same(t, "from bytes", r, impl.Read{Class: c})
	}
}

// testUnitRun holds a run against the second working out, and against the unit's class.
func testUnitRun(t *testing.T, u impl.Unit, right bool, f int64, args []int64, fuel int64) impl.UnitOut {
	t.Helper()
	got := impl.UnitRun(u, f, args, fuel)
	want := impl.UnitOut{Code: impl.UnitArgs}
	if right && f >= 0 && f < int64(len(u.Funcs)) && argsCanBe(u.Funcs[f].Sig, args) && fuel >= 0 && fuel <= 100000 {
		want = unitPlayed(u, f, args, fuel)
	}
	if !alike(got, want) {
		t.Fatalf("f%d of %v with %d:\n%v\nnot %v\n%s", f, args, fuel, got, want, impl.PrintClass(impl.UnitClass(u)))
	}
	testAsClass(t, u, f, args, fuel, got)
	return got
}

func argsCanBe(sig string, args []int64) bool {
	params := impl.Params(sig)
	for k, n := range args {
		if k < len(params) && params[k] == "I" && n != int64(int32(n)) {
			return false
		}
	}
	return len(params) == len(args)
}

func (b *builder) unitArgs(sig string) []int64 {
	args := []int64{}
	for _, typ := range impl.Params(sig) {
		n := b.numberOf(impl.KindOf(typ))
		if b.below(3) > 0 {
			n = int64(b.below(12) - 4)
		}
		args = append(args, n)
	}
	return args
}

func TestUnitsOfAnyForm(t *testing.T) {
	t.Parallel()
	c := &counted{times: map[string]int{}}
	inGroups(t, 1510, func(t *testing.T, b *builder) {
		for range 50 {
			u := b.unit()
			if !testUnit(t, u) {
				t.Fatalf("not right: %s", impl.PrintClass(impl.UnitClass(u)))
			}
			for range 3 {
				f := int64(b.below(len(u.Funcs)))
				fuel := []int64{int64(b.below(60)), 300, 1500, 1500}[b.below(4)]
				o := testUnitRun(t, u, true, f, b.unitArgs(u.Funcs[f].Sig), fuel)
				c.add(fmt.Sprint("code ", o.Code), true)
				c.add("printed", len(o.Trace) > 1)
				c.add("gave", o.N != 0)
				c.add("put", slices.ContainsFunc(o.Globals, func(n int64) bool { return n != 0 }))
			}
		}
	})
	c.enough(t, 60, "code 0", "code 2", "code 3", "code 4", "printed", "gave", "put")
}

// spoiltUnit has one thing in it changed, or a few.
func (b *builder) spoiltUnit(u impl.Unit) impl.Unit {
	f := &u.Funcs[b.below(len(u.Funcs))]
	i := &f.Code[b.below(len(f.Code))]
	numbers := append(insNumbers(), 1, 2, 1, 2, 0, 0, 3, 4)
	n := numbers[b.below(len(numbers))]
	switch b.below(16) {
	case 0, 1:
		i.Op = int64(b.below(47))
	case 2, 3:
		i.Kind = n
	case 4, 5:
		i.A = n
	case 6:
		i.B = n
	case 7:
		i.Table = insTables()[b.below(len(insTables()))]
	case 8:
		i.Text, i.Class, i.Name, i.Type = b.pick("", "", "x"), b.pick("", "", "U"), b.pick("", "", "g0"), b.pick("", "", "I")
	case 9:
		f.Sig = b.pick("(I)V", "(J)V", "()I", "()J", "(I,J)I", "(D)V", "(I)D", "(@A)I", "", "(I,I,I,I,I,I,I,I,I)V", b.sig())
	case 10:
		f.Locals += int64(b.below(4) - 2)
	case 11:
		f.Locals = n
	case 12:
		if len(u.Globals) > 0 {
			u.Globals[b.below(len(u.Globals))] = b.pick("I", "J", "J", "D", "", "@A", "[I")
		}
	case 13:
		f.Code = f.Code[:b.below(len(f.Code)+1)]
	case 14:
		f.Code = append(f.Code, unitIns(b.pick(append(unitInstructions(), otherInUnit...)...)))
	default:
		*i = unitIns(b.pick(append(unitInstructions(), otherInUnit...)...))
	}
	return u
}

var otherInUnit = []string{"get 0", "get 1", "put 0", "put 3", "call 0", "call 1", "call -1", "call -2", "call -3", "call 5"}

func TestUnitsThatAreSpoilt(t *testing.T) {
	t.Parallel()
	c := &counted{times: map[string]int{}}
	inGroups(t, 1520, func(t *testing.T, b *builder) {
		for range 30 {
			u := b.unit()
			for range 12 {
				changed := b.spoiltUnit(copiedUnit(u))
				right := testUnit(t, changed)
				got := impl.UnitClass(changed)
				c.add("zero", got.Name == "")
				c.add("right", right)
				c.add("not found right", impl.ClassOk(got) && !right)
				f := int64(b.below(len(u.Funcs)))
				testUnitRun(t, changed, right, f, b.unitArgs(changed.Funcs[f].Sig), int64(b.below(300)))
				u = map[bool]impl.Unit{true: changed, false: u}[right]
			}
			f := int64(b.below(len(u.Funcs)+4) - 2)
			args := []int64{}
			for range b.below(4) {
				args = append(args, b.numberOf(2))
			}
			testUnitRun(t, u, true, f, args, int64(b.below(400)-50))
		}
	})
	c.enough(t, 200, "zero", "right", "not found right")
}

func copiedUnit(u impl.Unit) impl.Unit {
	u.Globals, u.Funcs = slices.Clone(u.Globals), slices.Clone(u.Funcs)
	for k := range u.Funcs {
		u.Funcs[k].Code = slices.Clone(u.Funcs[k].Code)
	}
	return u
}

// unitTaken is what UnitOf has to take of the class A, which has no start, right below Object: methods are left out one by one, as long as one is found whose words are none of a unit.
func unitTaken(c impl.Class) impl.Unit {
	u, globals, finals := impl.Unit{}, []string{}, []bool{}
	for _, f := range c.Fields {
		if f.Flags&impl.FlagStatic != 0 && (f.Type == "I" || f.Type == "J") {
			u.Globals = append(u.Globals, f.Type)
			globals = append(globals, "A "+f.Name+" "+f.Type)
			finals = append(finals, f.Flags&impl.FlagFinal != 0)
		}
	}
	taken := slices.DeleteFunc(slices.Clone(c.Methods), func(m impl.Method) bool {
		return m.Flags&impl.FlagStatic == 0 || m.Flags&(impl.FlagSync|impl.FlagNative) != 0 || len(m.Handlers) > 0 || !unitSig.MatchString(m.Sig)
	})
	number := func(i impl.Ins) int {
		what, call := i.Class+" "+i.Name+" "+i.Type, i.Op == impl.OpCall
		k := slices.Index(globals, what)
		switch {
		case i.B != 1 || !call && (k < 0 || finals[k] && i.Op == impl.OpPut):
			return -3
		case !call:
			return k
		case what == "System print (I)V":
			return -1
		case what == "System print (J)V":
			return -2
		}
		if k = slices.IndexFunc(taken, func(m impl.Method) bool { return "A "+m.Name+" "+m.Sig == what }); k < 0 {
			return -3
		}
		return k
	}
	none := func(i impl.Ins) bool {
		if slices.Contains([]int64{impl.OpGet, impl.OpPut, impl.OpCall}, i.Op) {
			return number(i) == -3
		}
		return !unitLine.MatchString(impl.ShowIns(i))
	}
	lacks := func(m impl.Method) bool { return slices.ContainsFunc(m.Code, none) }
	for k := 0; k >= 0; k = slices.IndexFunc(taken, lacks) {
		if len(taken) > 0 && lacks(taken[k]) {
			taken = slices.Delete(taken, k, k+1)
		}
	}
	for _, m := range taken {
		f := impl.Func{Sig: m.Sig, Locals: m.Locals}
		for _, i := range m.Code {
			if i.Class != "" {
				i = impl.Ins{Op: i.Op, A: int64(number(i)), B: 1}
			}
			f.Code = append(f.Code, i)
		}
		u.Funcs = append(u.Funcs, f)
	}
	return u
}

var unitLine = regexp.MustCompile(`\A(?:(?:const|load|store|add|sub|mul|div|rem|neg|shl|shr|ushr|and|or|xor) [IJ]( .*)?|cmp J|conv [IJ] [IJBCS]|inc .*|pop|dup|swap|under|goto .*|(?:if|ifint) .*|switch .*|return(?: [IJ])?)\z`)

// partClass makes a class with members that a unit takes, and others.
func (b *builder) partClass() impl.Class {
	text := "class A Object" + b.pick("", "", " final", " abstract")
	fields, sigs := []string{}, []string{}
	for k := range 2 + b.below(6) {
		field := fmt.Sprintf("%c %s", 'p'+k, b.pick("I", "J", "I", "J", "I", "J", "D", "@A"))
		fields = append(fields, field)
		text += " / field " + field + b.pick(" static", " static", " static", " static", " static final", " static private", "")
	}
	for k := range 2 + b.below(7) {
		sigs = append(sigs, fmt.Sprintf("m%d %s", b.below(2)*k, b.pick("()V", "(I)V", "(J)I", "(I,J)J", "()I", "(J,J)V", "(I)I", "(D)V")))
	}
	slices.Sort(sigs)
	sigs = slices.Compact(sigs)
	for _, sig := range sigs {
		flags := b.pick(" static", " static", " static", " static", " static", " static private", " static final", " static", " static", " static sync", "", " static native")
		text += " / method " + sig + flags
		if flags == " static native" {
			continue
		}
		text += " stack 4 locals 4"
		for range 1 + b.below(6) {
			text += " / " + b.partLine(fields, sigs)
		}
		if b.below(20) == 0 {
			text += fmt.Sprintf(" / handler 0 1 0 %s", b.pick("*", "Error"))
		}
	}
	return told(text)[0]
}

// partLine is an instruction that a unit has, mostly, if what it means is one of the unit.
func (b *builder) partLine(fields, sigs []string) string {
	owner := "A"
	if b.below(20) == 0 {
		owner = "B"
	}
	switch b.below(40) {
	case 0, 1, 2, 3, 4, 5:
		return b.pick("getstatic", "getstatic", "putstatic") + " " + owner + " " + b.pick(fields...)
	case 6:
		return b.pick("getstatic", "putstatic") + " A " + b.pick("p", "q", "r", "z") + " " + b.pick("I", "J")
	case 7, 8, 9, 10, 11, 12, 13:
		return "call static " + owner + " " + b.pick(sigs...)
	case 14:
		return "call special A " + b.pick(sigs...)
	case 15, 16, 17:
		return "call static " + b.pick("System", "System", "System", "System", "System", "A") + " print " + b.pick("(I)V", "(J)V", "(I)V", "(J)V", "(I)V", "(J)V", "(D)V")
	case 18:
		return b.pick("null", "load R 0", "const D 1p0", "add D", "conv I D", "cmp D 1", "return R", "return D", "aload I", "length", "new A", "get A p I", "throw", "ifnull eq 0")
	}
	return b.pick("load I 0", "load J 3", "store I 2", "const I 7", "const J -1", "add I", "div J", "conv J I", "conv I S", "cmp J", "goto 0", "if ne 0", "ifint lt 0", "switch 1 0 0 0", "dup", "return", "return I", "inc 1 2")
}

func TestUnitsOfAnyClass(t *testing.T) {
	t.Parallel()
	c := &counted{times: map[string]int{}}
	inGroups(t, 1530, func(t *testing.T, b *builder) {
		for range 250 {
			a := b.partClass()
			cs := append(told("class B Object / field p I static / method m0 ()V static stack 0 locals 0 / return"), a)
			got, want := impl.UnitOf(cs, "A"), unitTaken(a)
			if !alike(got, want) {
				t.Fatalf("%s\n%v\nnot %v", impl.PrintClass(a), got, want)
			}
			if impl.UnitClass(got).Name != "U" {
				t.Fatalf("%v has no class", got)
			}
			testUnit(t, got)
			c.add("none", len(got.Funcs) == 0)
			c.add("several", len(got.Funcs) > 2)
			c.add("not all", len(got.Funcs) > 0 && len(got.Funcs) < len(a.Methods))
			c.add("calls", slices.ContainsFunc(got.Funcs, func(f impl.Func) bool {
				return slices.ContainsFunc(f.Code, func(i impl.Ins) bool { return i.Op == impl.OpCall && i.A >= 0 })
			}))
			c.add("fields", slices.ContainsFunc(got.Funcs, func(f impl.Func) bool {
				return slices.ContainsFunc(f.Code, func(i impl.Ins) bool { return i.Op == impl.OpGet || i.Op == impl.OpPut })
			}))
		}
	})
	c.enough(t, 50, "none", "several", "not all", "calls", "fields")
}
