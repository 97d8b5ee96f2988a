package tests

import (
	"fmt"
	"regexp"
	"slices"
	"strconv"
	"strings"
	"testing"

	"loop.example/g00032/impl"
)

var (
	unitNumber = regexp.MustCompile(`\b(get|put|call) (-?)(\d+)`)
	unitWords  = map[string]string{"get": "getstatic X %s I", "put": "putstatic X %s I", "call": "call static X %s ()V"}
)

// unitTold reads a unit: the types of its globals; each function by its signature, its locals and, behind a slash, its code, which has labels, and get N, put N, call N for what a unit has in its own way.
func unitTold(globals string, funcs ...string) impl.Unit {
	u := impl.Unit{Globals: words(globals)}
	for _, text := range funcs {
		head, code, _ := strings.Cut(text, " / ")
		w := words(head)
		code = unitNumber.ReplaceAllStringFunc(code, func(s string) string {
			m := unitNumber.FindStringSubmatch(s)
			return fmt.Sprintf(unitWords[m[1]], map[string]string{"": "x", "-": "minus"}[m[2]]+m[3])
		})
		u.Funcs = append(u.Funcs, impl.Func{Sig: w[0], Locals: place64(w[1]), Code: unitCode("class X Object / method m " + w[0] + " static stack 40 locals " + w[1] + " / " + code)})
	}
	return u
}

func place64(s string) int64 {
	n, err := strconv.ParseInt(s, 10, 64)
	if err != nil {
		panic(err)
	}
	return n
}

func unitCode(class string) []impl.Ins {
	code := told(class)[0].Methods[0].Code
	for k, i := range code {
		if i.Class == "" {
			continue
		}
		n := place64(strings.NewReplacer("x", "", "minus", "-").Replace(i.Name))
		code[k] = impl.Ins{Op: i.Op, A: n, B: 1}
	}
	return code
}

// unitIns reads one instruction of a unit.
func unitIns(text string) impl.Ins {
	return unitTold("", "(I,J)V 6 / "+text+strings.Repeat(" / pop", 6)).Funcs[0].Code[0]
}

const noUnit = "none"

// classIs looks for the class of a unit: its lines behind the first one; none where it is to be the zero value.
func classIs(t *testing.T, why string, u impl.Unit, lines string) {
	t.Helper()
	if lines == noUnit {
		same(t, why, impl.UnitClass(u), impl.Class{})
		return
	}
	same(t, why, impl.UnitClass(u), told("class U Object" + lines)[0])
}

func TestUnitCodes(t *testing.T) {
	for k, code := range []int64{impl.UnitDone, impl.UnitArgs, impl.UnitFuel, impl.UnitArith, impl.UnitDeep} {
		same(t, "code", code, int64(k))
	}
}

func TestUnitClass(t *testing.T) {
	classIs(t, "nothing", impl.Unit{}, "")
	classIs(t, "nothing", impl.Unit{Globals: []string{}, Funcs: []impl.Func{}}, "")
	classIs(t, "globals", unitTold("I J J"), " / field g0 I static / field g1 J static / field g2 J static")
	classIs(t, "a function", unitTold("", "()V 0 / return"), " / method f0 ()V static stack 40 locals 0 / return")
	classIs(t, "functions", unitTold("J I",
		"(I,J)J 4 / load I 0 / if ne on / load J 1 / return J / on: / load I 0 / load J 1 / call 1 / conv I J / return J",
		"(I,J)I 3 / get 1 / load I 0 / add I / put 1 / load J 1 / dup / put 0 / call -2 / get 1 / call -1 / get 1 / return I",
		"()V 0 / again: / call 2 / goto again",
	), " / field g0 J static / field g1 I static"+
		" / method f0 (I,J)J static stack 40 locals 4 / load I 0 / if ne 4 / load J 1 / return J / load I 0 / load J 1 / call static U f1 (I,J)I / conv I J / return J"+
		" / method f1 (I,J)I static stack 40 locals 3 / getstatic U g1 I / load I 0 / add I / putstatic U g1 I / load J 1 / dup / putstatic U g0 J / call static System print (J)V / getstatic U g1 I / call static System print (I)V / getstatic U g1 I / return I"+
		" / method f2 ()V static stack 40 locals 0 / call static U f2 ()V / goto 0")
	classIs(t, "a table", unitTold("", "(I)V 1 / load I 0 / switch -2147483648 a b b a / a: / return / b: / return"),
		" / method f0 (I)V static stack 40 locals 1 / load I 0 / switch -2147483648 2 3 3 2 / return / return")
	// What the class is, is told though its code is not right, and it is told of whatever comes first.
	classIs(t, "not right", unitTold("I", "(J,I)I 2 / pop / put 0 / return"), " / field g0 I static / method f0 (J,I)I static stack 40 locals 2 / pop / putstatic U g0 I / return")
}

// unitInstructions are all of a unit that stand in its class as they are.
func unitInstructions() []string {
	out := []string{
		"const I 0", "const I -2147483648", "const I 2147483647", "const J 0", "const J -9223372036854775808", "const J 9223372036854775807",
		"load I 0", "load J 5", "store I 5", "store J 0", "inc 0 -32768", "inc 5 32767", "pop", "dup", "swap", "under", "cmp J",
		"conv I J", "conv I B", "conv I C", "conv I S", "conv J I", "goto 0", "goto 6", "return", "return I", "return J",
		"switch 0 6 6", "switch 2147483647 0 1 2 3 4 5 6", "switch -5 3" + strings.Repeat(" 6", impl.MaxTable),
	}
	for _, x := range []string{"eq", "ne", "lt", "ge", "gt", "le"} {
		out = append(out, "if "+x+" 0", "ifint "+x+" 6")
	}
	for _, op := range []string{"add", "sub", "mul", "div", "rem", "neg", "shl", "shr", "ushr", "and", "or", "xor"} {
		out = append(out, op+" I", op+" J")
	}
	return out
}

// otherInstructions are right in a class, and none of a unit.
func otherInstructions() []string {
	out := []string{
		"const D 0p0", "const D nan", `text ""`, `text "x"`, "null", "load D 0", "load R 0", "store D 0", "store R 0", "cmp D 1", "cmp D -1", "conv I D", "conv J D", "conv D I", "conv D J",
		"ifnull eq 0", "ifnull ne 6", "ifsame eq 0", "ifsame ne 6", "new A", "newarray I", "newarray @A", "length", "cast @A", "is [I", "throw", "enter", "exit", "return D", "return R",
	}
	for _, k := range []string{"I", "J", "D", "R"} {
		out = append(out, "aload "+k, "astore "+k)
	}
	for _, op := range []string{"add", "sub", "mul", "div", "neg"} {
		out = append(out, op+" D")
	}
	return out
}

// unitAround has one instruction, the fourth of seven, in a function that is the second of three.
func unitAround(i impl.Ins) impl.Unit {
	u := unitTold("I J", "()V 0 / return", "(I,J)V 6 / return / return / return / return / return / return / return", "(J)I 2 / call 1 / return I")
	u.Funcs[1].Code[3] = i
	return u
}

// aroundIs looks for the class of such a unit, with this in the instruction's place.
func aroundIs(t *testing.T, why string, i impl.Ins, want string) {
	t.Helper()
	if want == noUnit {
		classIs(t, why, unitAround(i), noUnit)
		return
	}
	classIs(t, why, unitAround(i), " / field g0 I static / field g1 J static / method f0 ()V static stack 40 locals 0 / return / method f1 (I,J)V static stack 40 locals 6 / return / return / return / "+
		want+" / return / return / return / method f2 (J)I static stack 40 locals 2 / call static U f1 (I,J)V / return I")
}

func TestUnitClassOfEachInstruction(t *testing.T) {
	for _, text := range unitInstructions() {
		aroundIs(t, text, unitIns(text), text)
	}
	for _, text := range otherInstructions() {
		i := told("class X Object / method m (I,J)V static stack 0 locals 6 / " + text + strings.Repeat(" / pop", 6))[0].Methods[0].Code[0]
		aroundIs(t, text, i, noUnit)
	}
	for _, i := range []impl.Ins{{}, {Op: -1}, {Op: 45}, {Op: 1<<32 + 7}, {Op: minLong}, {Op: maxLong}, {Op: impl.OpText}, {Op: impl.OpGet}, {Op: impl.OpPut}, {Op: impl.OpCall}} {
		aroundIs(t, fmt.Sprint(i), i, noUnit)
	}
}

// Of an instruction that a unit has, with another Kind, and of a conversion with another A, none is left.
func TestUnitClassOfEachKind(t *testing.T) {
	kinds := map[int64][]int64{impl.OpCmp: {2}, impl.OpReturn: {0, 1, 2}}
	for _, op := range append(allOps(), impl.OpConst, impl.OpLoad, impl.OpStore, impl.OpConv) {
		kinds[op] = []int64{1, 2}
	}
	for op, right := range kinds {
		for _, kind := range []int64{minLong, -1, 0, 1, 2, 3, 4, 5, 1<<32 + 1, maxLong} {
			i := impl.Ins{Op: op, Kind: kind}
			if op == impl.OpConv {
				i.A = 3 - kind
			}
			got := impl.UnitClass(unitAround(i))
			if slices.Contains(right, kind) != (got.Name == "U") || got.Name == "U" && !alike(got.Methods[1].Code[3], i) {
				t.Errorf("%v: %v", i, got)
			}
		}
	}
	for kind, right := range map[int64][]int64{1: {2, 5, 6, 7}, 2: {1}} {
		for a := int64(-1); a < 10; a++ {
			i := impl.Ins{Op: impl.OpConv, Kind: kind, A: a}
			if got := impl.UnitClass(unitAround(i)); slices.Contains(right, a) != (got.Name == "U") {
				t.Errorf("%v: %v", i, got)
			}
		}
	}
}

// An instruction that can't be by chapter 2 is in no class that is right.
func TestUnitsOfInstructionsThatCantBe(t *testing.T) {
	for _, text := range []string{"load I 5", "store J 5", "inc 5 1", "goto 6", "if eq 6", "ifint le 6", "switch 1 6 6"} {
		for _, a := range []int64{minLong, -1, 6, 7, 39, 40, 399, 400, maxLong} {
			i := unitIns(text)
			i.A = a
			u := unitAround(i)
			if fits := a == 6 && i.Op >= impl.OpGoto; impl.ClassOk(impl.UnitClass(u)) != fits || !fits && impl.UnitOk(u) {
				t.Errorf("%s with A %d: %v", text, a, impl.UnitClass(u))
			}
		}
	}
	for _, text := range unitInstructions() {
		for _, change := range []func(i *impl.Ins){
			func(i *impl.Ins) { i.Text = "x" }, func(i *impl.Ins) { i.Class = "U" }, func(i *impl.Ins) { i.Name = "g0" }, func(i *impl.Ins) { i.Type = "I" }, func(i *impl.Ins) { i.B += 1 << 32 },
			func(i *impl.Ins) { i.Kind += 7 }, func(i *impl.Ins) { i.A += 1 << 32 }, func(i *impl.Ins) { i.A = -1 }, func(i *impl.Ins) { i.Table = append(slices.Clone(i.Table), 7) }, func(i *impl.Ins) { i.Table = []int64{0, -1} },
			func(i *impl.Ins) { i.Table = make([]int64, len(i.Table)/2*impl.MaxTable) }, func(i *impl.Ins) { i.B = -1 - i.B }, func(i *impl.Ins) { i.B += 7 },
		} {
			i := unitIns(text)
			change(&i)
			if u := unitAround(i); !impl.InsOk(i, 7, 6) && (impl.ClassOk(impl.UnitClass(u)) || impl.UnitOk(u)) {
				t.Errorf("%s changed to %v: %v", text, i, impl.UnitClass(u))
			}
		}
	}
}

func TestUnitClassOfGlobalsAndCalls(t *testing.T) {
	for a, field := range map[int64]string{-2: "", -1: "", 0: "g0 I", 1: "g1 J", 2: "", 1 << 32: "", minLong: "", maxLong: ""} {
		for op, word := range map[int64]string{impl.OpGet: "getstatic U ", impl.OpPut: "putstatic U "} {
			want := word + field
			if field == "" {
				want = noUnit
			}
			aroundIs(t, fmt.Sprint(word, a), impl.Ins{Op: op, A: a, B: 1}, want)
		}
	}
	for a, called := range map[int64]string{-4: "", -3: "", -2: "System print (J)V", -1: "System print (I)V", 0: "U f0 ()V", 1: "U f1 (I,J)V", 2: "U f2 (J)I", 3: "", 4: "", 1 << 32: "", minLong: "", maxLong: ""} {
		want := "call static " + called
		if called == "" {
			want = noUnit
		}
		aroundIs(t, fmt.Sprint("call ", a), impl.Ins{Op: impl.OpCall, A: a, B: impl.CallStatic}, want)
	}
	for _, op := range []int64{impl.OpGet, impl.OpPut, impl.OpCall} {
		for why, change := range map[string]func(i *impl.Ins){
			"Kind": func(i *impl.Ins) { i.Kind = 1 }, "Kind below": func(i *impl.Ins) { i.Kind = -1 }, "Text": func(i *impl.Ins) { i.Text = "x" }, "Class": func(i *impl.Ins) { i.Class = "U" }, "Name": func(i *impl.Ins) { i.Name = "g0" },
			"Type": func(i *impl.Ins) { i.Type = "I" }, "Table": func(i *impl.Ins) { i.Table = []int64{0} }, "no B": func(i *impl.Ins) { i.B = 0 }, "B 2": func(i *impl.Ins) { i.B = 2 }, "B 3": func(i *impl.Ins) { i.B = 3 }, "B 4": func(i *impl.Ins) { i.B = 4 }, "B -1": func(i *impl.Ins) { i.B = -1 },
		} {
			i := impl.Ins{Op: op, B: 1}
			change(&i)
			aroundIs(t, fmt.Sprint(why, " of ", op), i, noUnit)
		}
		empty := impl.Ins{Op: op, B: 1, Table: []int64{}}
		same(t, "an empty table", impl.UnitClass(unitAround(empty)), impl.UnitClass(unitAround(impl.Ins{Op: op, B: 1})))
	}
	// As in a class they are none of a unit.
	for _, i := range []impl.Ins{{Op: impl.OpGet, B: 1, Class: "U", Name: "g0", Type: "I"}, {Op: impl.OpPut, B: 1, Class: "U", Name: "g0", Type: "I"}, {Op: impl.OpCall, B: 1, Class: "U", Name: "f0", Type: "()V"}, {Op: impl.OpCall, B: 1, Class: "System", Name: "print", Type: "(I)V"}} {
		aroundIs(t, fmt.Sprint(i), i, noUnit)
	}
	// There are none of which to tell.
	for _, text := range []string{"get 0", "put 0", "call 0"} {
		u := unitTold("", "()V 0 / "+text+" / return")
		if u.Funcs[0].Code[0].Op == impl.OpCall {
			u.Funcs[0].Code[0].A = 1
		}
		classIs(t, text, u, noUnit)
	}
}

func TestUnitClassOfOtherGlobals(t *testing.T) {
	for _, typ := range []string{"", "D", "V", "@A", "@I", "[I", "[J", "i", "j", "I ", " J", "IJ", "II", "I,J", "0", "-", "\xff", "I\x00", strings.Repeat("I", 1000)} {
		for k := range 3 {
			u := unitTold("I J I", "()V 0 / get 1 / pop / return")
			u.Globals[k] = typ
			classIs(t, typ, u, noUnit)
			if impl.UnitOk(u) {
				t.Errorf("right with a global %q", typ)
			}
		}
	}
}

func TestUnitClassOfOtherSignatures(t *testing.T) {
	for _, sig := range []string{"()V", "()I", "()J", "(I)V", "(J)J", "(I,J)I", "(I,I,I,I,I,I,I,I)V", "(J,J,J,J,J,J,J,I)J"} {
		loops := unitTold("", sig+" 8 / again: / goto again")
		classIs(t, sig, loops, " / method f0 "+sig+" static stack 40 locals 8 / goto 0")
		if !impl.UnitOk(loops) {
			t.Errorf("not right: %s", sig)
		}
	}
	for _, sig := range []string{
		"()D", "(D)V", "(I,D)I", "(D,J)J", "(@A)V", "()@A", "([I)V", "()[J", "(I,[[J,I)V", "(I,@Object)J", "(I)@String", "(J,J,J,J,J,J,J,D)V",
		"", "V", "()", "(V)V", "(I", "I)I", "(I,)I", "(I I)I", "(i)V", "()VV", "(I,I,I,I,I,I,I,I,I)V", "(I)(I)I", " ()V", "()V ",
	} {
		// Where this was a signature of a class, each of these would be right.
		u := unitTold("", "(I,J)V 9 / again: / goto again", "(I,J)V 9 / again: / goto again", "(I)V 1 / return")
		u.Funcs[1].Sig = sig
		classIs(t, sig, u, noUnit)
		if impl.UnitOk(u) {
			t.Errorf("right: %s", sig)
		}
	}
}

func TestUnitClassOfTheMost(t *testing.T) {
	build := func(globals, funcs int) impl.Unit {
		u := impl.Unit{Globals: words(strings.Repeat("J ", globals))}
		for range funcs {
			u.Funcs = append(u.Funcs, unitTold("I", "()I 1 / get 0 / return I").Funcs...)
		}
		if globals > 0 {
			u.Globals[0] = "I"
		}
		return u
	}
	for _, n := range []int{1, 2, impl.MaxMany - 1, impl.MaxMany} {
		c := impl.UnitClass(build(n, n))
		same(t, "fields", len(c.Fields), n)
		same(t, "methods", len(c.Methods), n)
		same(t, "the last field", c.Fields[n-1], impl.Field{Name: fmt.Sprint("g", n-1), Type: []string{"I", "J"}[min(n-1, 1)], Flags: impl.FlagStatic})
		same(t, "the last method", c.Methods[n-1].Name, fmt.Sprint("f", n-1))
		if !impl.UnitOk(build(n, n)) {
			t.Errorf("%d of each are not right", n)
		}
	}
	for _, u := range []impl.Unit{build(impl.MaxMany+1, 1), build(1, impl.MaxMany+1), build(impl.MaxMany+1, 0), build(1<<18, 2), build(2, 1<<14), build(impl.MaxMany+1, impl.MaxMany+1)} {
		if impl.ClassOk(impl.UnitClass(u)) || impl.UnitOk(u) {
			t.Errorf("%d globals and %d functions are right", len(u.Globals), len(u.Funcs))
		}
	}
	// The last of all is got, put and called.
	u := build(impl.MaxMany, impl.MaxMany)
	u.Funcs[0] = unitTold("", "()J 0 / call 39 / pop / get 39 / dup / put 39 / return J").Funcs[0]
	same(t, "the last of all", impl.UnitClass(u).Methods[0].Code, told("class U Object / method f0 ()J static stack 40 locals 0 / call static U f39 ()I / pop / getstatic U g39 J / dup / putstatic U g39 J / return J")[0].Methods[0].Code)
}
