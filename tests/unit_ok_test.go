package tests

import (
	"fmt"
	"strings"
	"testing"

	"loop.example/g00032/impl"
)

// unitIs says whether a unit is right, which is so when its class is and the finder finds nothing.
func unitIs(t *testing.T, why string, want bool, u impl.Unit) {
	t.Helper()
	if impl.UnitOk(u) != want {
		t.Errorf("%s: UnitOk is %v", why, !want)
	}
	c := impl.UnitClass(u)
	if by := impl.ClassOk(c) && len(impl.InferAll([]impl.Class{c})) == 0; by != want {
		t.Errorf("%s: by its class it is %v", why, by)
	}
}

func TestUnitsThatAreRight(t *testing.T) {
	unitIs(t, "nothing", true, impl.Unit{})
	unitIs(t, "globals alone", true, unitTold("I J I"))
	for _, funcs := range [][]string{
		{"()V 0 / return"}, {"()V 40 / return"}, {"(I,J,I,J,I,J,I,J)J 8 / load J 7 / return J"}, {"()V 0 / again: / goto again"}, {"(J)I 1 / load J 0 / call 0 / return I"},
		{"(I)I 1 / load I 0 / call 1 / conv J I / return I", "(I)J 1 / load I 0 / call 0 / conv I J / return J"},
		{"(I,J)J 3 / load I 0 / if lt a / load J 1 / goto b / a: / get 1 / b: / return J"},
		// What lies on the stack stays there over jumps, and what a local holds may be of one kind here and of the other there.
		{"(I)I 2 / const I 7 / again: / load I 0 / add I / inc 0 -1 / load I 0 / if gt again / return I"},
		{"(I)J 2 / load I 0 / store I 1 / load I 1 / conv I J / store J 1 / load J 1 / return J"},
		{"(I)V 2 / load I 0 / if eq a / const I 1 / store I 1 / goto b / a: / const J 1 / store J 1 / b: / return"},
		// To what is behind these nothing leads.
		{"()I 1 / const I 1 / return I / pop / load J 0 / pop", "()V 0 / return / add I / return J"},
		{"(I,J,J)V 3 / load I 0 / switch 0 a b c / a: / load J 1 / load J 2 / cmp J / call -1 / b: / load J 1 / neg J / call -2 / c: / const I 1 / get 0 / under / swap / pop / dup / pop / pop / put 0 / return"},
	} {
		unitIs(t, fmt.Sprint(funcs), true, unitTold("I J", funcs...))
	}
	unitIs(t, "the most code", true, unitTold("", "()V 0"+strings.Repeat(" / goto 399", impl.MaxCode-1)+" / return"))
	unitIs(t, "the most on the stack", true, unitTold("", "()I 0"+strings.Repeat(" / const J 1", impl.MaxStack-1)+" / const I 1 / return I"))
	unitIs(t, "the most locals", true, unitTold("", "(J)J 40 / load J 0 / store J 39 / load J 39 / return J"))
}

// These have all that a unit has, but make no class.
func TestUnitsWhoseClassIsWrong(t *testing.T) {
	const good = "(I,J)V 2 / return"
	most := func() []impl.Ins {
		return unitTold("", "()V 0"+strings.Repeat(" / return", impl.MaxCode)).Funcs[0].Code
	}
	for why, change := range map[string]func(f *impl.Func){
		"no code": func(f *impl.Func) { f.Code = nil }, "empty code": func(f *impl.Func) { f.Code = []impl.Ins{} }, "too much code": func(f *impl.Func) { f.Code = append(most(), f.Code...) },
		"too few locals": func(f *impl.Func) { f.Locals = 1 }, "no locals": func(f *impl.Func) { f.Locals = 0 }, "locals below 0": func(f *impl.Func) { f.Locals = -1 },
		"too many locals": func(f *impl.Func) { f.Locals = impl.MaxLocals + 1 }, "far too many locals": func(f *impl.Func) { f.Locals = maxLong },
		"a local that it lacks":  func(f *impl.Func) { f.Code = append(unitTold("", "()V 3 / inc 2 1").Funcs[0].Code, f.Code...) },
		"a target that it lacks": func(f *impl.Func) { f.Code = append([]impl.Ins{{Op: impl.OpGoto, A: 2}}, f.Code...) },
	} {
		for k := range 3 {
			u := unitTold("I", good, good, good)
			change(&u.Funcs[k])
			unitIs(t, why, false, u)
			if impl.ClassOk(impl.UnitClass(u)) {
				t.Errorf("%s: the class is right", why)
			}
		}
	}
}

func TestUnitsInWhichSomethingIsFound(t *testing.T) {
	for text, code := range map[string]int64{
		"()V 0 / pop / return": impl.VerStack, "()I 0" + strings.Repeat(" / const I 1", impl.MaxStack+1) + " / return I": impl.VerStack, "(I)I 1 / load I 0 / add I / return I": impl.VerStack, "()I 0 / return I": impl.VerStack,
		"()I 0 / const J 1 / return I": impl.VerShape, "()I 0 / const I 1 / return": impl.VerShape, "()V 0 / const I 1 / return I": impl.VerShape, "()J 0 / const I 1 / return J": impl.VerShape,
		"(I)V 1 / load J 0 / pop / return": impl.VerShape, "(J)V 1 / inc 0 1 / return": impl.VerShape, "(J)V 2 / load I 1 / pop / return": impl.VerShape, "(I,J)V 2 / load I 0 / load J 1 / add I / pop / return": impl.VerShape,
		"(J)V 1 / load J 0 / load J 0 / shl J / pop / return": impl.VerShape, "(J)V 1 / load J 0 / if eq 0 / return": impl.VerShape, "(I)V 1 / load I 0 / load I 0 / cmp J / pop / return": impl.VerShape,
		"()V 0 / get 0 / put 1 / return": impl.VerShape, "()V 0 / get 1 / call -1 / return": impl.VerShape, "()V 0 / get 0 / call -2 / return": impl.VerShape, "(J)V 1 / get 0 / call 1 / return": impl.VerShape, "(J)I 1 / load J 0 / call 1 / return I": impl.VerShape,
		"(I)V 1 / load I 0 / pop": impl.VerFall, "()V 0 / call 1": impl.VerFall, "(I)V 1 / load I 0 / if eq 0": impl.VerFall,
		"()V 0 / again: / const I 1 / goto again": impl.VerMerge, "(I)V 1 / load I 0 / if eq b / const I 1 / b: / return": impl.VerMerge,
		"(I)V 2 / load I 0 / if eq a / const I 1 / store I 1 / goto b / a: / const J 1 / store J 1 / b: / load I 1 / pop / return": impl.VerShape,
	} {
		other := "()V 0 / return"
		if strings.Contains(text, "call 1") {
			other = map[bool]string{true: "(J)J 1 / load J 0 / return J", false: other}[code == impl.VerShape]
		}
		u := unitTold("I J", text, other)
		unitIs(t, text, false, u)
		got := impl.InferAll([]impl.Class{impl.UnitClass(u)})
		if len(got) != 1 || got[0].Code != code || got[0].Name != "f0" {
			t.Errorf("%s: %v", text, got)
		}
		u.Funcs = append(u.Funcs[1:], u.Funcs[0])
		u.Funcs = append(u.Funcs, unitTold("", "()V 0 / return").Funcs...)
		if !strings.Contains(text, "call 1") {
			unitIs(t, text+", in another place", false, u)
		}
	}
}
