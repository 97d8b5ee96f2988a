package tests

import (
	"fmt"
	"slices"
	"strings"
	"testing"

	"loop.example/g00032/impl"
)

// heapClasses are such as objects may be of, and such as they may not.
func heapClasses() []impl.Class {
	return told(
		"class A Object / implements I / field n I / field s J static / field w J / field f D / field a @A / field i @I / field o @Object / field r [@A / field k [I",
		"class B A / field b @B final private",
		"class C Object abstract / field c I / field d @C",
		"class D C / implements J / field d @J volatile",
		"class E Object", "class F Object final / field e @E", "class T Thread / field t @Thread", "class U T", "class X Error / field x [[@I",
		ifaceI+" / field q I static final", ifaceJ, "class S Object sealed / permits Z", "class Z S",
	)
}

func heapIs(t *testing.T, why string, cs []impl.Class, want bool, objects []impl.ObjectState) {
	t.Helper()
	if got := impl.HeapOk(cs, objects); got != want {
		t.Errorf("%s: %.200q is a heap: %v", why, fmt.Sprint(objects), got)
	}
	if told := heapOracle(cs, objects); told != want {
		t.Errorf("%s: the oracle says of %.200q: %v", why, fmt.Sprint(objects), told)
	}
}

const someA = "@A i1 j2 d3 >0 >0 >0 >0 >0"

func TestHeaps(t *testing.T) {
	cs := heapClasses()
	faultsOf(t, "the space", cs)
	for _, h := range [][]string{
		{}, {"@Object"}, {"@E"}, {someA}, {"@String"}, {"@String text"}, {"@String a b c"}, {"@System"}, {"@Thread"}, {"@T >0"}, {"@U >0"}, {"@Throwable >0"}, {"@StopError >0"}, {"@X >0 >0"}, {"@F >0"}, {"@S"}, {"@Z"},
		{"@D i-1 >0 >0"}, {"@D i-1 >0 >1"}, {"@B i1 j2 d3 >0 >0 >0 >0 >0 >0"},
		{"[I"}, {"[I i1 i2"}, {"[J j1"}, {"[D d0"}, {"[@A >0 >0"}, {"[@C >0"}, {"[@I"}, {"[@Nope >0"}, {"[@Thread >0"}, {"[@T"}, {"[[I >0"}, {"[[[[D >0"}, {"[[[[@A >0"}, {"[@Object >1"}, {"[@" + longName(40)},
		{"@A i1 j2 d3 >1 >1 >1 >0 >0", "@E"}, {"@A i1 j2 d3 >2 >2 >3 >4 >5", "@B i0 j0 d0 >1 >1 >2 >4 >0 >2", "@String x", "[@A >0 >1 >2", "[I i7"},
		{"@Throwable >2", "@String why"}, {"@F >3", "@F >3", "@E"}, {"@X >2 >3", "@String", "[[@I >4 >0 >5", "[@I >1 >2 >3", "[@A >0"}, {"@T >1"}, {"@T >2", "@U >1"},
	} {
		heapIs(t, "a heap", cs, true, heapOf(h...))
	}
	heapIs(t, "nil", cs, true, nil)
	heapIs(t, "nil, without classes", nil, true, nil)
	heapIs(t, "without classes", nil, true, heapOf("@Object", "@String x", "@Error >2", "[@Object >1 >2 >3 >4", "@Thread", "[@A >0"))
}

func TestTypesOfHeaps(t *testing.T) {
	cs := heapClasses()
	for _, typ := range append(wrongTypes(), "0", "@C", "@I", "@J", "@Nope", "@a", "I", "J", "D", "@object", "@String ", "@A\x00", "[@"+longName(41), "[[[[[@A", "[ I", "[@", "[[", "@I[", "[V", strings.Repeat("[", 1<<16)+"I", "@"+strings.Repeat("A", 1<<16)) {
		for values := range 3 {
			heapIs(t, "a Type that is none", cs, false, []impl.ObjectState{{Type: typ, Values: make([]impl.Value, values)}})
			heapIs(t, "of references", cs, false, []impl.ObjectState{{Type: typ, Values: slices.Repeat([]impl.Value{ref(0)}, values)}})
			heapIs(t, "of numbers", cs, false, []impl.ObjectState{{Type: typ, Values: slices.Repeat([]impl.Value{whole32(0)}, values)}})
		}
	}
	// An abstract class, and a class that is none, may be what an array has.
	for _, typ := range words("[@C [@I [@J [@Nope [[@C [[[[@I") {
		heapIs(t, "an array", cs, true, heapOf(typ))
		heapIs(t, "an array with null", cs, true, heapOf(typ+" >0"))
	}
	// Objects that nobody names count as well.
	heapIs(t, "the last is none", cs, false, heapOf("@E", "@E", "@C i0 >0"))
	heapIs(t, "the first is none", cs, false, heapOf("@C i0 >0", "@E"))
	// Each class is there by its own space alone.
	heapIs(t, "a class of another space", nil, false, heapOf("@E"))
}

func TestMostOfAHeap(t *testing.T) {
	cs := heapClasses()
	many := func(n int, object string) []impl.ObjectState { return slices.Repeat(heapOf(object), n) }
	heapIs(t, "MaxObjects", cs, true, many(impl.MaxObjects, "@E"))
	heapIs(t, "one more", cs, false, many(impl.MaxObjects+1, "@E"))
	heapIs(t, "far more", cs, false, many(10*impl.MaxObjects, "@E"))
	heapIs(t, "the last of the most is none", cs, false, append(many(impl.MaxObjects-1, "@E"), objectOf("@C")))
	heapIs(t, "a reference to the last of the most", cs, true, append(many(impl.MaxObjects-1, "@F >4000"), objectOf("@E")))
	heapIs(t, "a reference beyond the most", cs, false, append(many(impl.MaxObjects-1, "@F >4001"), objectOf("@E")))
	for typ, value := range map[string]impl.Value{"[I": whole32(7), "[J": {Kind: 2, N: minLong}, "[D": {Kind: 3, N: impl.NaNBits}, "[@E": ref(0), "[@Object": ref(1), "[[I": ref(0), "[@Nope": ref(0)} {
		array := func(n int) []impl.ObjectState {
			return []impl.ObjectState{{Type: typ, Values: slices.Repeat([]impl.Value{value}, n)}}
		}
		heapIs(t, "an empty array", cs, true, array(0))
		heapIs(t, "MaxArray", cs, true, array(impl.MaxArray))
		heapIs(t, "one more", cs, false, array(impl.MaxArray+1))
	}
	text := func(n int) []impl.ObjectState {
		return []impl.ObjectState{{Type: "@String", Text: strings.Repeat("\xff", n)}}
	}
	heapIs(t, "no text", cs, true, text(0))
	heapIs(t, "MaxText", cs, true, text(impl.MaxText))
	heapIs(t, "one more", cs, false, text(impl.MaxText+1))
	heapIs(t, "runes", cs, false, []impl.ObjectState{{Type: "@String", Text: strings.Repeat("é", 101)}})
}

func TestTextsOfHeaps(t *testing.T) {
	cs := heapClasses()
	for _, text := range []string{"", "x", "\x00", " ", "\n"} {
		heapIs(t, "a text", cs, true, []impl.ObjectState{{Type: "@String", Text: text}})
		for _, values := range [][]impl.Value{{ref(0)}, {ref(1)}, {whole32(0)}, {{}}, make([]impl.Value, 2)} {
			heapIs(t, "a text with values", cs, false, []impl.ObjectState{{Type: "@String", Text: text, Values: values}})
		}
		for _, o := range heapOf("@E", "@Object", someA, "[I", "[I i1", "[@String", "[@String >0", "@Thread", "@Throwable >0") {
			o.Text = text
			heapIs(t, "a text of "+o.Type, cs, text == "", []impl.ObjectState{o})
		}
	}
	heapIs(t, "values that are empty", cs, true, []impl.ObjectState{{Type: "@String", Text: "x", Values: []impl.Value{}}, {Type: "[I", Values: []impl.Value{}}, {Type: "@E", Values: []impl.Value{}}})
}

// Of each class as many values as it has fields, one fewer and one more; each of another kind; numbers at the bounds of their kind.
func TestValuesOfHeaps(t *testing.T) {
	cs := heapClasses()
	w := newWorld(cs)
	for _, name := range w.names {
		if !w.mayBe("@" + name) {
			continue
		}
		o := impl.ObjectState{Type: "@" + name}
		for _, slot := range w.layout(name) {
			o.Values = append(o.Values, zeroOf(slot.Type))
		}
		heapIs(t, "as many", cs, true, []impl.ObjectState{o})
		for _, extra := range []impl.Value{{}, ref(0), whole32(0), {Kind: 2}, {Kind: 3}} {
			more := o
			more.Values = append(slices.Clone(o.Values), extra)
			heapIs(t, "one more", cs, false, []impl.ObjectState{more})
		}
		for k := range o.Values {
			fewer := o
			fewer.Values = slices.Delete(slices.Clone(o.Values), k, k+1)
			heapIs(t, "one fewer", cs, false, []impl.ObjectState{fewer})
			for kind := int64(-1); kind < 9; kind++ {
				other := o
				other.Values = slices.Clone(o.Values)
				other.Values[k].Kind = kind
				heapIs(t, "another kind", cs, kind == o.Values[k].Kind, []impl.ObjectState{other})
			}
		}
	}
	for typ, letter := range map[string]string{"[I": "i", "[J": "j", "[D": "d", "[@A": ">", "[[I": ">"} {
		for _, other := range words("i j d >") {
			heapIs(t, "an element of another kind", cs, other == letter, heapOf(typ+" "+other+"0"))
			heapIs(t, "a later one", cs, other == letter, heapOf(typ+" "+letter+"0 "+other+"0"))
		}
	}
	for _, n := range append(edgeNumbers(), extremes()...) {
		heapIs(t, "an int", cs, n >= minInt && n <= maxInt, heapOf(fmt.Sprintf("[I i%d", n)))
		heapIs(t, "a long", cs, true, heapOf(fmt.Sprintf("[J j%d", n)))
		heapIs(t, "a float", cs, !isNone(n) || n == impl.NaNBits, heapOf(fmt.Sprintf("[D d%d", n)))
		heapIs(t, "fields", cs, n >= minInt && n <= maxInt && (!isNone(n) || n == impl.NaNBits), heapOf(fmt.Sprintf("@A i%d j%d d%d >0 >0 >0 >0 >0", n, n, n)))
		heapIs(t, "a reference", cs, n >= 0 && n <= 1, heapOf(fmt.Sprintf("[@Object >%d", n)))
	}
}

// Each object stands where each type is asked for: it may where it fits.
func TestReferencesOfHeaps(t *testing.T) {
	cs := heapClasses()
	objects := heapOf("@Object", "@E", someA, "@B i1 j2 d3 >0 >0 >0 >0 >0 >0", "@D i0 >0 >0", "@F >0", "@String x", "@T >0", "@U >0", "@Thread", "@X >0 >0", "@Error >0", "[I", "[J", "[@A", "[@B", "[@I", "[@J", "[@C", "[@Object", "[[I", "[[@B", "[@Nope", "[@Thread")
	types := words("@Object @A @B @C @D @E @I @J @String @Thread @T @Nope @Error @Throwable [I [J [D [@A [@I [@J [@C [@Object [@Nope [[I [[@A [[@I [@Thread")
	fit := 0
	for _, typ := range types {
		cs := append(heapClasses(), impl.Class{Name: "Holder", Super: "Object", Fields: []impl.Field{{Name: "h", Type: typ}}})
		for n := range objects {
			want := impl.Fits(cs, objects[n].Type, typ)
			if want {
				fit++
			}
			held := append(slices.Clone(objects), impl.ObjectState{Type: "@Holder", Values: []impl.Value{ref(int64(n + 1))}})
			heapIs(t, objects[n].Type+" as a field "+typ, cs, want, held)
			held[len(objects)] = impl.ObjectState{Type: "[" + typ, Values: []impl.Value{ref(0), ref(int64(n + 1))}}
			heapIs(t, objects[n].Type+" as an element "+typ, cs, want, held)
		}
		for _, n := range []int64{-1, int64(len(objects)) + 2, minLong, maxLong} {
			heapIs(t, "a number that is none", cs, false, append(slices.Clone(objects), impl.ObjectState{Type: "@Holder", Values: []impl.Value{ref(n)}}))
		}
		heapIs(t, "null", cs, true, append(slices.Clone(objects), impl.ObjectState{Type: "@Holder", Values: []impl.Value{ref(0)}}))
	}
	if fit < 100 || fit > len(objects)*len(types)/2 {
		t.Errorf("%d fit", fit)
	}
	heapIs(t, "the last object", cs, true, heapOf("@F >3", "@F >3", "@E"))
	heapIs(t, "beyond the last", cs, false, heapOf("@F >4", "@F >3", "@E"))
	heapIs(t, "to what is no object", cs, false, heapOf("[@Object >2", "@Nope"))
}

// Without a space that holds nothing is a heap, not even an empty one.
func TestHeapsWithoutASpace(t *testing.T) {
	for why, cs := range brokenSpaces() {
		heapIs(t, why, cs, false, nil)
		heapIs(t, why, cs, false, heapOf("@Object"))
		heapIs(t, why, cs, false, heapOf("@A"))
		heapIs(t, why+", in part", cs[:1], true, heapOf("@A"))
	}
	for why, cs := range wrongSpaces() {
		heapIs(t, why, cs, false, nil)
		heapIs(t, why, cs, false, heapOf("@Object", "@String x"))
		heapIs(t, why, cs, false, heapOf("@A i0"))
		heapIs(t, why+", in part", cs[:2], true, heapOf("@A i0"))
	}
}

// Heaps of any form, and with one thing changed.
func TestAnyHeap(t *testing.T) {
	t.Parallel()
	b := builder{numbers{state: 1202}}
	met := map[bool]int{}
	for range 300 {
		cs := b.heapSpace()
		w := newWorld(cs)
		for range 4 {
			objects := b.someObjects(w)
			heapIs(t, "any", cs, true, objects)
			for range 6 {
				other := b.otherObjects(objects)
				want := w.isHeap(other)
				met[want]++
				if impl.HeapOk(cs, other) != want {
					t.Errorf("%v is a heap: %v", other, !want)
				}
			}
		}
	}
	if met[true] < 800 || met[false] < 800 {
		t.Errorf("%v", met)
	}
}

// otherObjects are these with something else at one place.
func (b *builder) otherObjects(objects []impl.ObjectState) []impl.ObjectState {
	out := slices.Clone(objects)
	if len(out) == 0 {
		return heapOf(b.pick("@Object", "@A", "@String x", "[I i1", "[@A >1"))
	}
	o := &out[b.below(len(out))]
	o.Values = slices.Clone(o.Values)
	k := b.below(len(o.Values) + 1)
	switch pick := b.below(9); {
	case pick == 0:
		o.Type = b.pick("@A", "@B", "@C", "@D", "@Object", "@String", "[I", "[@Object", "[@A", "@Error", "", "@Nope")
	case pick == 1:
		o.Text = b.pick("", "x", strings.Repeat("x", 201))
	case pick == 2:
		o.Values = slices.Insert(o.Values, k, ref(0))
	case pick == 3:
		out = out[:len(out)-1]
	case pick == 4:
		out = append(out, objectOf("@Object"))
	case k == len(o.Values):
		o.Values = o.Values[:max(0, k-1)]
	case pick == 5:
		o.Values[k].Kind = int64(b.below(6))
	case pick == 6:
		o.Values[k].N = b.numberOf(2)
	default:
		o.Values[k].N = int64(b.below(len(out) + 2))
	}
	return out
}
