package tests

import (
	"slices"
	"strings"
	"testing"

	"loop.example/g00032/impl"
)

// start is called by no instruction, new by CallSpecial alone; that is looked at ahead of the stack.
func TestNamesThatAreNotCalled(t *testing.T) {
	stacks := []string{"- - |", "!! - | !!", "- - | !3", "- - | @B", "- - | 0", "- - | I I I"}
	for _, stack := range stacks {
		for _, method := range []string{"m ()V stack 3 locals 2", "new ()V stack 3 locals 2", "start ()V static stack 3 locals 2"} {
			for _, sort := range words("static virtual special interface") {
				for _, class := range words("A B Object I Nope") {
					for _, sig := range words("()V (I)V ()I") {
						try("class B A", method, "call "+sort+" "+class+" start "+sig).faulty(t, situated(stack), impl.VerShape)
						if sort != "special" {
							try("class B A", method, "call "+sort+" "+class+" new "+sig).faulty(t, situated(stack), impl.VerShape)
						}
					}
				}
			}
		}
	}
	// Names that only look like them are called as others.
	for _, name := range words("news New starts Start ne") {
		plain("call static A "+name+" ()V").leads(t, situated("- - | I"), situated("- - | I"))
		plain("call virtual A "+name+" ()V").leads(t, situated("- - | I @A"), situated("- - | I"))
	}
}

// What an OpNew made becomes whole wherever it is held.
func TestNewOfWhatWasMade(t *testing.T) {
	for _, method := range []string{"m ()V stack 3 locals 2", "m ()V static stack 3 locals 2", "new ()V stack 3 locals 2", "start ()V static stack 3 locals 2"} {
		call := func(words string) trial { return try("class B A", method, "call special "+words) }
		call("A new ()V").leads(t, situated("!3 !5 | !3 !7 !3"), situated("@A !5 | @A !7"))
		call("A new ()V").leads(t, situated("!! !3 | !! !3 !3"), situated("!! @A | !! @A"))
		call("B new ()V").leads(t, situated("!3 !5 | !7 !3 !5"), situated("!3 @B | !7 !3"))
		call("E new ()V").leads(t, situated("!7 !70 | !7"), situated("@E !70 |"))
		call("A new (I,@E)V").leads(t, situated("- !3 | !3 I @E"), situated("- @A |"))
		call("A new (J)V").leads(t, situated("- @A | I !3 J"), situated("- @A | I"))
		// What is laid behind the call may be the very shape.
		call("A new ()@A").leads(t, situated("- - | !3 !3"), situated("- - | @A @A"))
		call("E new ()J").leads(t, situated("- - | !7"), situated("- - | J"))
		for _, class := range words("Object B C E I Nope String") {
			call(class+" new ()V").faulty(t, situated("!3 - | !3"), impl.VerShape)
		}
		for _, wrong := range words("!0 !1 !2 !4 !5 !6 !7 !8 !9 !10 !33 !30 !70 !399 @A @B @Object 0 - I J D [I [@A") {
			call("A new ()V").faulty(t, situation{words("!3 !!"), []string{"!3", wrong}}, impl.VerShape)
		}
		call("A new ()V").faulty(t, situated("!3 - |"), impl.VerStack)
		call("A new (I)V").faulty(t, situated("!3 - | I"), impl.VerStack)
		call("A new (I)V").faulty(t, situated("!3 - | !3"), impl.VerShape)
		call("A new (@A)V").faulty(t, situated("!3 - | !3 !3"), impl.VerShape)
	}
}

// The shape's number is that of the instruction itself, not of one that looks like it.
func TestNumbersOfNew(t *testing.T) {
	for _, n := range []int{0, 9, 10, 99, 100, 396} {
		code := append(pops(n), impl.Ins{Op: impl.OpNew, Class: "A"}, impl.Ins{Op: impl.OpDup}, impl.Ins{Op: impl.OpCall, B: impl.CallSpecial, Class: "A", Name: "new", Type: "()V"}, impl.Ins{Op: impl.OpReturn, Kind: impl.KindRef})
		for k := range n {
			code[k] = impl.Ins{Op: impl.OpInc}
		}
		m := impl.Method{Name: "m", Sig: "(I)@A", Flags: impl.FlagStatic, Stack: 2, Locals: 1, Code: code}
		cs := append(checkSpace(), impl.Class{Name: "B", Super: "A", Methods: []impl.Method{m}})
		same(t, "made far behind", impl.Check(cs, "B", "m", "(I)@A"), impl.Verdict{})
	}
}

// This becomes whole by its class's new or its Super's, in a method new alone.
func TestNewOfThis(t *testing.T) {
	call := func(class, method, words string) trial { return try(class, method, "call special "+words) }
	const method = "new ()V stack 3 locals 2"
	for _, class := range words("A B") {
		call("class B A", method, class+" new ()V").leads(t, situated("!! !! | !! !3 !!"), situated("@B @B | @B !3"))
		call("class B A", method, class+" new (I,J)V").leads(t, situated("!! !5 | !! I J"), situated("@B !5 |"))
		call("class B A", method, class+" new ()D").leads(t, situated("- - | !!"), situated("- - | D"))
		call("class B A", method, class+" new ()V").faulty(t, situated("!! - |"), impl.VerStack)
		for _, wrong := range words("@A @B @C 0 I - @Object !0 !1 !70") {
			call("class B A", method, class+" new ()V").faulty(t, situation{words("!! -"), []string{wrong}}, impl.VerShape)
		}
		for _, other := range []string{"m ()V stack 3 locals 2", "m ()V static stack 3 locals 2", "start ()V static stack 3 locals 2", "news ()V stack 3 locals 2"} {
			call("class B A", other, class+" new ()V").faulty(t, situated("!! - | !!"), impl.VerShape)
		}
	}
	for _, class := range words("Object C E I J Nope String") {
		call("class B A", method, class+" new ()V").faulty(t, situated("!! - | !!"), impl.VerShape)
	}
	// A class of another Super; Object's new by those right below it.
	call("class Y E / implements I J", method, "E new ()V").leads(t, situated("!! - | !!"), situation{[]string{"@Y", "-"}, nil})
	call("class Y E / implements I J", method, "Y new ()V").leads(t, situated("!! - | !!"), situation{[]string{"@Y", "-"}, nil})
	call("class Y Object", method, "Object new ()V").leads(t, situated("!! - | !!"), situation{[]string{"@Y", "-"}, nil})
	for _, class := range words("I J Object A B") {
		call("class Y E / implements I J", method, class+" new ()V").faulty(t, situated("!! - | !!"), impl.VerShape)
	}
	// What was made stays apart from this.
	call("class B A", method, "A new ()V").leads(t, situated("!! !3 | !! !3"), situated("!! @A | !!"))
	call("class B A", method, "A new ()V").leads(t, situated("!! !3 | !3 !!"), situated("@B !3 | !3"))
}

// With CallSpecial the object is of the method's own class, and the Class stands above that.
func TestCallSpecial(t *testing.T) {
	for _, method := range []string{"m ()V stack 3 locals 2", "m ()V static stack 3 locals 2", "new ()V stack 3 locals 2"} {
		for _, class := range words("B A Object I") {
			r := try("class B A", method, "call special "+class+" v (I)J")
			for _, object := range words("@B @C 0") {
				r.leads(t, situation{words("!! -"), []string{"!7", object, "I"}}, situation{words("!! -"), []string{"!7", "J"}})
			}
			for _, object := range words("@A @Object @E @I @Nope !! !1 !3 !5 - I [I [@B") {
				r.faulty(t, situation{words("!! -"), []string{object, "I"}}, impl.VerShape)
			}
			r.faulty(t, situated("- - | I"), impl.VerStack)
		}
		for _, class := range words("C E J X Nope String Throwable") {
			r := try("class B A", method, "call special "+class+" v ()V")
			for _, object := range words("@B @C 0 @X @Nope @E") {
				r.faulty(t, situation{words("- -"), []string{object}}, impl.VerShape)
			}
			r.faulty(t, situated("- - |"), impl.VerStack)
		}
	}
	// To an interface, as everywhere, all that is whole fits.
	for _, object := range words("@K @I @E @Nope 0 [I @Object") {
		for _, class := range words("K J Object") {
			try("class K Object abstract interface / implements J", "m ()V stack 3 locals 2", "call special "+class+" v ()V").leads(t, situation{words("- -"), []string{object}}, situated("- - |"))
		}
		try("class K Object abstract interface / implements J", "m ()V stack 3 locals 2", "call special I v ()V").faulty(t, situation{words("- -"), []string{object}}, impl.VerShape)
	}
}

// The most parameters, of all kinds, in their order.
func TestManyParameters(t *testing.T) {
	types := words("I J D @A [I @Nope @I [[@B")
	sig := "(" + strings.Join(types, ",") + ")V"
	r := try("class B A", "m ()V stack 9 locals 2", "call virtual A v "+sig)
	stack := append([]string{"@B"}, types...)
	r.leads(t, situation{words("- -"), stack}, situated("- - |"))
	for k := range stack {
		swapped := slices.Clone(stack)
		swapped[k], swapped[(k+1)%9] = swapped[(k+1)%9], swapped[k]
		r.faulty(t, situation{words("- -"), swapped}, impl.VerShape)
		r.faulty(t, situation{words("- -"), stack[k+1:]}, impl.VerStack)
	}
	s := try("class B A", "m ()V stack 9 locals 2", "call static A v "+sig)
	s.leads(t, situation{words("- -"), stack}, situated("- - | @B"))
}

// The result is laid where the parameters were; without any there has to be room.
func TestResultsOfCalls(t *testing.T) {
	plain("call static A s ()I").faulty(t, situated("- - | I I I"), impl.VerStack)
	plain("call static A s ()V").leads(t, situated("- - | I I I"), situated("- - | I I I"))
	plain("call static A s (I)@A").leads(t, situated("- - | I I I"), situated("- - | I I @A"))
	plain("call virtual A v ()D").leads(t, situated("- - | I I @A"), situated("- - | I I D"))
	plain("call special A new ()I").leads(t, situated("- - | I I !3"), situated("- - | I I I"))
}

// The shape that an OpNew is to lay lies nowhere else: in locals it is used up, on the stack it is a fault.
func TestNew(t *testing.T) {
	for _, class := range words("A B C E I Object Nope String Throwable") {
		r := plain("new " + class)
		r.leads(t, situated("- - |"), situated("- - | !1"))
		r.leads(t, situated("!1 !1 | !3 !7"), situated("- - | !3 !7 !1"))
		r.leads(t, situated("!1 @A | I"), situated("- @A | I !1"))
		r.leads(t, situated("I !1 | !!"), situated("I - | !! !1"))
		r.leads(t, situated("!! !70 | -"), situated("!! !70 | - !1"))
		r.faulty(t, situated("- - | !1"), impl.VerShape)
		r.faulty(t, situated("- - | !1 I"), impl.VerShape)
		r.faulty(t, situated("!1 - | I !1"), impl.VerShape)
		r.faulty(t, situated("- - | I I I"), impl.VerStack)
		r.faulty(t, situated("!1 - | I I I"), impl.VerStack)
		r.faulty(t, situated("- - | !1 I I"), impl.VerShape)
	}
}

// What OpPop, OpDup, OpSwap and OpUnder move need not be of use.
func TestAnythingIsMoved(t *testing.T) {
	plain("dup").leads(t, situated("!! - | - !1"), situated("!! - | - !1 !1"))
	plain("dup").leads(t, situated("- - | !! -"), situated("- - | !! - -"))
	plain("swap").leads(t, situated("- - | I !! -"), situated("- - | I - !!"))
	plain("under").leads(t, situated("- - | I @A"), situated("- - | @A I @A"))
	plain("under").leads(t, situated("- - | - !!"), situated("- - | !! - !!"))
	plain("under").faulty(t, situated("- - | J I D"), impl.VerStack)
	plain("under").faulty(t, situated("- - | D"), impl.VerStack)
	plain("swap").faulty(t, situated("- - | D"), impl.VerStack)
	plain("dup").faulty(t, situated("- - | J I D"), impl.VerStack)
	plain("pop").leads(t, situated("- - | I -"), situated("- - | I"))
}

// Null is an array of every kind; what is loaded from it is of the kind that is asked for.
func TestNullAsAnArray(t *testing.T) {
	for kind, got := range map[string]string{"I": "I", "J": "J", "D": "D", "R": "0"} {
		plain("aload "+kind).leads(t, situated("- - | !3 0 I"), situation{words("- -"), []string{"!3", got}})
	}
	plain("aload R").leads(t, situated("- - | [[[[J I"), situated("- - | [[[J"))
	plain("aload R").leads(t, situated("- - | [@Nope I"), situated("- - | @Nope"))
	for _, row := range []string{"I 0 I I", "J 0 I J", "D 0 I D", "R 0 I 0", "R 0 I @A", "R [@A I @E", "R [@A I [I", "R [[I I @A"} {
		kind, stack, _ := strings.Cut(row, " ")
		plain("astore "+kind).leads(t, situation{words("- !1"), words(stack)}, situated("- !1 |"))
	}
	plain("length").leads(t, situated("- - | 0"), situated("- - | I"))
}
