package tests

import (
	"fmt"
	"slices"
	"strings"
	"sync"
	"testing"

	"loop.example/g00032/impl"
)

// checkWorld has the space that all instructions are tried in.
var checkWorld = sync.OnceValue(func() world { return newWorld(checkSpace("class B A")) })

// situation is a state; its text has the locals, a |, and the stack.
type situation struct{ locals, stack []string }

func situated(text string) situation {
	locals, stack, _ := strings.Cut(text, "|")
	return situation{words(locals), words(stack)}
}

func (s situation) String() string { return fmt.Sprint(s.locals, "|", s.stack) }

// trial is a method whose instruction 1 is tried in states that frames tell: behind it stand, at 3, 5 and 7, new A, new B and new E.
type trial struct {
	cs     []impl.Class
	method *impl.Method
	jumps  bool
}

// try wants the lines of a class and of its method, without code.
func try(class, method, ins string) trial {
	cs := checkSpace(class + " / method " + method + " / goto 0 / " + ins + " / goto 2 / new A / pop / new B / pop / new E / pop / goto 3")
	if !strings.HasPrefix(class, "class B ") {
		cs = append(cs, told("class B A")...)
	}
	r := trial{cs: cs, method: &cs[0].Methods[0]}
	r.jumps = slices.Contains([]int64{impl.OpGoto, impl.OpIf, impl.OpIfInt, impl.OpIfNull, impl.OpIfSame, impl.OpSwitch}, r.method.Code[1].Op)
	return r
}

// plain tries an instruction in a method m of B, with two locals and a stack of three.
func plain(ins string) trial { return try("class B A", "m ()V stack 3 locals 2", ins) }

// verdict is told of a method where instruction 1 has one state ahead of it, and the next, which it jumps to if it jumps, another.
func (r trial) verdict(before, after situation) impl.Verdict {
	none := shapes(int(r.method.Locals), "-")
	if len(after.locals) == 0 {
		after.locals = none
	}
	r.method.Frames = []impl.Frame{{Locals: none}, {At: 1, Locals: before.locals, Stack: before.stack}, {At: 2, Locals: after.locals, Stack: after.stack}, {At: 3, Locals: none}}
	return impl.Check(r.cs, r.cs[0].Name, r.method.Name, r.method.Sig)
}

// faulty says that the instruction is at fault in a state.
func (r trial) faulty(t *testing.T, before situation, code int64) {
	t.Helper()
	if got, want := r.verdict(before, situation{}), (impl.Verdict{Code: code, At: 1}); got != want {
		t.Errorf("%s in %v: %v, not %v", impl.ShowIns(r.method.Code[1]), before, got, want)
	}
}

// leads says that behind the instruction there is this state, and no other: each place fits what its shape fits, and nothing else.
func (r trial) leads(t *testing.T, before, after situation) {
	t.Helper()
	w := checkWorld()
	if r.cs[0].Name != "B" {
		w = newWorld(r.cs)
	}
	mismatch := impl.Verdict{Code: impl.VerFrame, At: 2}
	if r.jumps {
		mismatch.At = 1
	}
	is := func(other situation, want impl.Verdict) {
		t.Helper()
		if got := r.verdict(before, other); got != want {
			t.Errorf("%s in %v leads to %v: %v, not %v", impl.ShowIns(r.method.Code[1]), before, other, got, want)
		}
	}
	is(after, impl.Verdict{})
	if n := len(after.stack); n > 0 {
		is(situation{after.locals, after.stack[:n-1]}, mismatch)
	}
	if n := len(after.stack); n < int(r.method.Stack) {
		is(situation{after.locals, append(slices.Clone(after.stack), "-")}, mismatch)
	}
	for _, list := range [][]string{after.locals, after.stack} {
		for k, shape := range list {
			for _, other := range checkShapes() {
				want := mismatch
				if w.shapeFits(shape, other) {
					want = impl.Verdict{}
				}
				list[k] = other
				is(after, want)
			}
			list[k] = shape
		}
	}
}

// checkShapes are those that instructions are tried with.
func checkShapes() []string {
	return words("I J D 0 - !! !1 !3 !5 !7 !70 @Object @String @A @B @C @E @I @Nope @Throwable @Error @X [I [J [D [@A [@B [@I [@Nope [[I [[@A [[[[J")
}

func wholeShape(s string) bool { return s == "0" || refType(s) }

func (w world) shapeFits(s, t string) bool {
	return t == "-" || s == t || wholeShape(s) && wholeShape(t) && w.isA(s, t, true)
}

// effect is what an instruction takes, the top one first, and what it lays: shapes, or 1, 2 for those that were taken, or element for what an array has.
type effect struct {
	ins   string
	takes []string
	lays  []string
}

// takes says whether a shape is one of those that a word of an effect means.
func (w world) takes(word, shape string) bool {
	switch word {
	case "any":
		return true
	case "whole":
		return wholeShape(shape)
	case "array":
		return shape == "0" || shape[0] == '['
	case "arrayI", "arrayJ", "arrayD":
		return shape == "0" || shape == "["+word[5:]
	case "arrayR":
		return shape == "0" || shape[0] == '[' && refType(shape[1:])
	}
	return w.shapeFits(shape, word)
}

// effects are the rows of chapter 7, but for those that hang on locals or on what is not yet whole.
func effects() []effect {
	rows := []string{
		"const I 7 : : I", "const I -2147483648 : : I", "const J 7 : : J", "const D 1p0 : : D", "const D nan : : D", `text "" : : @String`, `text "ab" : : @String`, "null : : 0",
		"pop : any :", "dup : any : 1 1", "swap : any any : 1 2", "under : any any : 1 2 1",
		"cmp J : J J : I", "cmp D 1 : D D : I", "cmp D -1 : D D : I",
		"conv I J : I : J", "conv I D : I : D", "conv I B : I : I", "conv I C : I : I", "conv I S : I : I", "conv J I : J : I", "conv J D : J : D", "conv D I : D : I", "conv D J : D : J",
		"goto 2 : :", "ifnull eq 2 : whole :", "ifnull ne 2 : whole :", "ifsame eq 2 : whole whole :", "ifsame ne 2 : whole whole :", "switch 0 2 2 : I :", "switch -5 2 2 2 2 : I :",
		"get A f I : @A : I", "get B f @B : @B : @B", "get E f [D : @E : [D", "get I f J : @I : J", "get Nope f @Nope : @Nope : @Nope", "get Object f @I : @Object : @I", "get X f D : @X : D",
		"getstatic A f I : : I", "getstatic Nope f [[@A : : [[@A", "getstatic I new @Object : : @Object",
		"put A f I : I @A :", "put A f J : J @A :", "put B f D : D @B :", "put E f @A : @A @E :", "put I f @I : @I @I :", "put Nope f @Nope : @Nope @Nope :", "put C f [@A : [@A @C :", "put A f @Object : @Object @A :", "put X f [I : [I @X :",
		"putstatic A f I : I :", "putstatic A start D : D :", "putstatic Nope f @B : @B :", "putstatic I f @I : @I :", "putstatic B f [[@A : [[@A :",
		"length : array : I", "aload I : I arrayI : I", "aload J : I arrayJ : J", "aload D : I arrayD : D", "aload R : I arrayR : element",
		"astore I : I I arrayI :", "astore J : J I arrayJ :", "astore D : D I arrayD :", "astore R : whole I arrayR :",
		"newarray I : I : [I", "newarray J : I : [J", "newarray D : I : [D", "newarray @A : I : [@A", "newarray @Nope : I : [@Nope", "newarray [I : I : [[I", "newarray [[[@B : I : [[[[@B",
		"cast @A : whole : @A", "cast @Nope : whole : @Nope", "cast [I : whole : [I", "cast @I : whole : @I", "cast [[@B : whole : [[@B", "is @A : whole : I", "is [[I : whole : I", "is @Nope : whole : I",
		"throw : @Throwable :", "enter : whole :", "exit : whole :",
		"call static A s ()V : :", "call static Nope s ()I : : I", "call static I s (I)J : I : J", "call static A s (I,J)D : J I : D", "call static B s (@A,[I,D)@E : D [I @A : @E", "call static A s (@I,@Nope)[@A : @Nope @I : [@A", "call static Object hash ()@Nope : : @Nope",
		"call virtual A v ()V : @A :", "call virtual B v (I)I : I @B : I", "call virtual C v (@B,J)@C : J @B @C : @C", "call virtual Nope v ()D : @Nope : D", "call virtual I v ()J : @I : J", "call virtual Object v (@Object)V : @Object @Object :", "call virtual X v ([@A)V : [@A @X :",
		"call interface I v ()V : @I :", "call interface A v (D)I : D @A : I", "call interface Nope v (@E)[I : @E @Nope : [I", "call interface J v (@J)@I : @J @J : @I",
		"call special B v ()V : @B :", "call special A v (I)I : I @B : I", "call special Object v (@A,J)D : J @A @B : D", "call special I v ()@X : @B : @X",
	}
	for _, op := range words("add sub mul div") {
		rows = append(rows, kinded(op+" K : K K : K", "I", "J", "D")...)
	}
	for _, op := range words("rem and or xor") {
		rows = append(rows, kinded(op+" K : K K : K", "I", "J")...)
	}
	for _, op := range words("shl shr ushr") {
		rows = append(rows, kinded(op+" K : I K : K", "I", "J")...)
	}
	rows = append(rows, kinded("neg K : K : K", "I", "J", "D")...)
	for _, cond := range words("eq ne lt ge gt le") {
		rows = append(rows, "if "+cond+" 2 : I :", "ifint "+cond+" 2 : I I :")
	}
	out := []effect{}
	for _, row := range rows {
		parts := strings.Split(row, " :")
		out = append(out, effect{parts[0], words(parts[1]), words(parts[2])})
	}
	return out
}

func kinded(row string, kinds ...string) []string {
	out := []string{}
	for _, k := range kinds {
		out = append(out, strings.ReplaceAll(row, "K", k))
	}
	return out
}

// laid gives what stands behind an effect, when these were taken (the top one first).
func (e effect) laid(taken []string) []string {
	out := slices.Clone(e.lays)
	for k, word := range out {
		switch word {
		case "1", "2":
			out[k] = taken[word[0]-'1']
		case "element":
			out[k] = strings.TrimPrefix(taken[1], "[")
		}
	}
	return out
}

// rights gives for each place that is taken the shapes that are right there.
func (e effect) rights(w world) [][]string {
	out := [][]string{}
	for _, word := range e.takes {
		out = append(out, slices.DeleteFunc(checkShapes(), func(s string) bool { return !w.takes(word, s) }))
	}
	return out
}

// over lays what is to be taken, the top one first, above one shape that stays.
func over(low string, taken []string) []string {
	out := slices.Clone(taken)
	slices.Reverse(out)
	return append([]string{low}, out...)
}

func TestEveryInstruction(t *testing.T) {
	t.Parallel()
	w := checkWorld()
	for _, e := range effects() {
		r := plain(e.ins)
		rights := e.rights(w)
		most := len(rights) + 1
		room := max(most, len(e.lays)+1)
		locals := []string{"J", "!5"}
		for turn := range 3 {
			taken := []string{}
			for k, right := range rights {
				if len(right) == 0 {
					t.Fatalf("%s: nothing is right", e.ins)
				}
				taken = append(taken, right[(turn*(5+k))%len(right)])
			}
			before := situation{locals, over("!7", taken)}
			after := situation{slices.Clone(locals), append([]string{"!7"}, e.laid(taken)...)}
			if r.method.Stack = int64(room); e.ins == "throw" {
				same(t, e.ins, r.verdict(before, situation{}), impl.Verdict{})
			} else {
				r.leads(t, before, after)
			}
			for k := range taken {
				for _, other := range checkShapes() {
					right := slices.Contains(rights[k], other)
					if changed := slices.Clone(taken); !right {
						changed[k] = other
						r.faulty(t, situation{locals, over("!7", changed)}, impl.VerShape)
					}
				}
				// Of those at the top all but some are there.
				short := over("", taken[:k])[1:]
				r.faulty(t, situation{locals, short}, impl.VerStack)
			}
			if len(e.lays) > len(taken) {
				r.method.Stack = int64(len(e.lays))
				r.faulty(t, before, impl.VerStack)
			}
		}
	}
}

// All shapes that are right at a place are taken, and lead on.
func TestEveryRightShape(t *testing.T) {
	t.Parallel()
	w := checkWorld()
	for _, e := range effects() {
		r := plain(e.ins)
		r.method.Stack = 5
		rights := e.rights(w)
		for k := range rights {
			for _, shape := range rights[k] {
				taken := []string{}
				for _, right := range rights {
					taken = append(taken, right[0])
				}
				taken[k] = shape
				before := situation{[]string{"-", "-"}, over("D", taken)}
				after := situation{[]string{"-", "-"}, append([]string{"D"}, e.laid(taken)...)}
				if e.ins == "throw" {
					after.stack = nil
				}
				if got := r.verdict(before, after); got != (impl.Verdict{}) {
					t.Errorf("%s in %v: %v", e.ins, before, got)
				}
			}
		}
	}
}

// The shapes that are taken are looked at one by one, from the top: what is wrong at the top is told ahead of what lacks below.
func TestTheTopIsTakenFirst(t *testing.T) {
	for _, row := range []string{
		"add I : J", "sub J : I", "div D : 0", "shl J : J", "ushr I : -", "cmp J : D", "cmp D 1 : J", "ifint eq 2 : @A", "ifsame eq 2 : I", "ifsame ne 2 : !!", "put A f I : J", "put A f @A : @E",
		"astore I : D", "astore R : I", "astore R : J @A", "aload I : J", "call static A s (I,J)V : I", "call virtual A v (I)V : D", "call special Object new (I)V : J", "call special A v (@A)V : @E",
	} {
		ins, stack, _ := strings.Cut(row, " : ")
		plain(ins).faulty(t, situation{words("- -"), words(stack)}, impl.VerShape)
	}
	for _, row := range []string{"add I : I", "shl J : I", "cmp J : J", "ifint eq 2 : I", "ifsame eq 2 : 0", "put A f I : I", "astore R : @A", "astore R : I @A", "aload J : I", "call static A s (I,J)V : J", "call virtual A v (I)V : I", "call special Object new (I)V : I"} {
		ins, stack, _ := strings.Cut(row, " : ")
		plain(ins).faulty(t, situation{words("- -"), words(stack)}, impl.VerStack)
	}
}

// keptShapes are those that load K and store K take.
func keptShapes() map[string]string {
	return map[string]string{"I": "I", "J": "J", "D": "D", "R": "0 !! !1 !3 !5 !7 !70 @Object @String @A @B @C @E @I @Nope @Throwable @Error @X [I [J [D [@A [@B [@I [@Nope [[I [[@A [[[[J"}
}

func TestLoad(t *testing.T) {
	for k, right := range keptShapes() {
		first, second := plain("load "+k+" 0"), plain("load "+k+" 1")
		for _, s := range checkShapes() {
			if !slices.Contains(words(right), s) {
				first.faulty(t, situation{[]string{s, words(right)[0]}, nil}, impl.VerShape)
				second.faulty(t, situation{[]string{words(right)[0], s}, nil}, impl.VerShape)
				// Where there is no room either, it is the shape that is told: what is not right is not laid.
				first.faulty(t, situation{[]string{s, "-"}, words("I I I")}, impl.VerShape)
				continue
			}
			first.leads(t, situation{[]string{s, "-"}, words("D !!")}, situation{[]string{s, "-"}, []string{"D", "!!", s}})
			second.leads(t, situation{[]string{"-", s}, nil}, situation{[]string{"-", s}, []string{s}})
			first.faulty(t, situation{[]string{s, "-"}, words("I I I")}, impl.VerStack)
		}
	}
}

func TestStore(t *testing.T) {
	for k, right := range keptShapes() {
		first, second := plain("store "+k+" 0"), plain("store "+k+" 1")
		for _, s := range checkShapes() {
			if !slices.Contains(words(right), s) {
				first.faulty(t, situation{words("- -"), []string{words(right)[0], s}}, impl.VerShape)
				second.faulty(t, situation{[]string{words(right)[0], words(right)[0]}, []string{s}}, impl.VerShape)
				continue
			}
			first.leads(t, situation{words("J @A"), []string{"D", s}}, situation{[]string{s, "@A"}, []string{"D"}})
			second.leads(t, situation{words("J @A"), []string{"-", "!3", s}}, situation{[]string{"J", s}, []string{"-", "!3"}})
		}
		first.faulty(t, situation{[]string{words(right)[0], "-"}, nil}, impl.VerStack)
	}
}

// In a method new place 0 is this, and stays it; but for the taking nothing comes ahead of that.
func TestStoreInNew(t *testing.T) {
	for _, method := range []string{"new ()V stack 3 locals 2", "new ()V private stack 3 locals 2"} {
		for _, this := range []string{"!!", "@B", "-"} {
			for k, right := range keptShapes() {
				first, second := try("class B A", method, "store "+k+" 0"), try("class B A", method, "store "+k+" 1")
				for _, s := range words(right) {
					first.faulty(t, situation{[]string{this, "-"}, []string{s}}, impl.VerShape)
					second.leads(t, situation{[]string{this, "-"}, []string{s}}, situation{[]string{this, s}, nil})
				}
				first.faulty(t, situation{[]string{this, "-"}, nil}, impl.VerStack)
			}
		}
	}
	// Place 0 of other methods may be stored to; that of new may not, however near a class's name comes to Object's.
	for _, method := range []string{"new1 ()V stack 3 locals 2", "start ()V static stack 3 locals 2", "m ()V static stack 3 locals 2"} {
		try("class B A", method, "store R 0").leads(t, situated("!! - | @E"), situated("@E - |"))
	}
	try("class Objects A", "new ()V stack 3 locals 2", "store R 0").faulty(t, situated("@Objects - | @Objects"), impl.VerShape)
}

func TestInc(t *testing.T) {
	first, second := plain("inc 0 -1"), plain("inc 1 32767")
	for _, s := range checkShapes() {
		if s == "I" {
			first.leads(t, situation{[]string{s, "-"}, words("D !! -")}, situation{[]string{s, "-"}, words("D !! -")})
			second.leads(t, situation{[]string{"J", s}, nil}, situation{[]string{"J", s}, nil})
			continue
		}
		first.faulty(t, situation{[]string{s, "I"}, nil}, impl.VerShape)
		second.faulty(t, situation{[]string{"I", s}, words("I I I")}, impl.VerShape)
	}
	try("class B A", "new ()V stack 1 locals 2", "inc 0 1").leads(t, situated("I !! |"), situated("I !! |"))
}

func TestReturn(t *testing.T) {
	w := checkWorld()
	kinds := map[string]string{"V": "", "I": "I", "J": "J", "D": "D", "@A": "R", "@I": "R", "@Object": "R", "@Nope": "R", "[I": "R", "[@A": "R", "[[J": "R"}
	for result, kind := range kinds {
		for _, other := range []string{"", " I", " J", " D", " R"} {
			r := try("class B A", "m ()"+result+" static stack 3 locals 2", "return"+other)
			if strings.TrimSpace(other) != kind {
				r.faulty(t, situated("- - |"), impl.VerShape)
				for _, s := range checkShapes() {
					r.faulty(t, situation{words("- -"), []string{s}}, impl.VerShape)
				}
				continue
			}
			if result == "V" {
				same(t, "nothing on the stack", r.verdict(situated("- - |"), situation{}), impl.Verdict{})
				same(t, "something on the stack", r.verdict(situated("!! - | !7 I -"), situation{}), impl.Verdict{})
				continue
			}
			r.faulty(t, situated("- - |"), impl.VerStack)
			for _, s := range checkShapes() {
				before := situation{words("!! -"), []string{"-", s}}
				if !w.shapeFits(s, result) {
					r.faulty(t, before, impl.VerShape)
				} else if got := r.verdict(before, situation{}); got != (impl.Verdict{}) {
					t.Errorf("%s is returned as %s: %v", s, result, got)
				}
			}
		}
	}
}

// In a method new local 0 is the class itself, no more and no less, wherever it returns.
func TestReturnFromNew(t *testing.T) {
	for _, class := range []string{"class B A", "class Objects A"} {
		own := "@" + words(class)[1]
		r := try(class, "new (I)V stack 3 locals 2", "return")
		for _, s := range append(checkShapes(), own) {
			before := situation{[]string{s, own}, words("I -")}
			if s != own {
				r.faulty(t, before, impl.VerShape)
			} else if got := r.verdict(before, situation{}); got != (impl.Verdict{}) {
				t.Errorf("new of %s returns: %v", class, got)
			}
		}
		for _, kind := range words("I J D R") {
			try(class, "new ()V stack 3 locals 2", "return "+kind).faulty(t, situation{[]string{own, "-"}, words("I")}, impl.VerShape)
		}
	}
	// A method of another name asks nothing of local 0.
	same(t, "renew", try("class B A", "renew ()V stack 3 locals 2", "return").verdict(situated("!! - |"), situation{}), impl.Verdict{})
}
