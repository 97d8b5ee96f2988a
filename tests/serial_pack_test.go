package tests

import (
	"bytes"
	"fmt"
	"slices"
	"strings"
	"testing"

	"loop.example/g00032/impl"
)

// packs says that objects, from the root on, have just these bytes, and that they come back alike.
func packs(t *testing.T, cs []impl.Class, root int64, objects []impl.ObjectState, parts ...any) {
	t.Helper()
	want := append([]byte("LPAK"), laid(parts...)...)
	if got := realmOf(cs).testPack(t, objects, root); !bytes.Equal(got, want) {
		t.Errorf("%d of %.200q is packed as %.200q, not %.200q", root, fmt.Sprint(objects), got, want)
	}
}

// packless says that there are no bytes.
func packless(t *testing.T, why string, cs []impl.Class, root int64, objects []impl.ObjectState) {
	t.Helper()
	if got := realmOf(cs).testPack(t, objects, root); len(got) != 0 {
		t.Errorf("%s: %d of %.200q is packed as %.60q", why, root, fmt.Sprint(objects), got)
	}
}

func packClasses() []impl.Class {
	return told(
		"class A Object / field n I / field s @A static / field x @A", "class B A / field n J / field d D", "class C B / field x @Object", "class E Object",
		"class F Object abstract / field f @I", "class G F / implements I", ifaceI, "class T Thread / field t @T", "class H Object / field h @Thread",
	)
}

// slotsOfA are the slots of A in a description, without their count.
func slotsOfA() []byte { return laid(2, "A", 2, "n", 2, "I", 2, "A", 2, "x", 4, "@A") }

func describedA() []byte { return laid(4, "@A", 4, slotsOfA()) }

func TestPackNull(t *testing.T) {
	packs(t, nil, 0, nil, 0)
	packs(t, packClasses(), 0, nil, 0)
	// What is not reached leaves no trace, but has to be right.
	packs(t, packClasses(), 0, heapOf("@E", "@T >2"), 0)
	packless(t, "no heap", packClasses(), 0, heapOf("@E", "@F >0"))
}

func TestPackObjects(t *testing.T) {
	cs := packClasses()
	packs(t, cs, 1, heapOf("@E"), 2, 2, 4, "@E", 0)
	packs(t, cs, 2, heapOf("@A i0 >0", "@E"), 2, 2, 4, "@E", 0)
	packs(t, nil, 1, heapOf("@Object"), 2, 2, 14, "@Object", 0)
	packs(t, nil, 1, heapOf("@System"), 2, 2, 14, "@System", 0)
	packs(t, cs, 1, heapOf("@A i5 >0"), 2, 2, describedA(), 10, 0)
	packs(t, cs, 1, heapOf("@A i-5 >1"), 2, 2, describedA(), 9, 2)
	// Fields from above come first; those of one name have their class.
	packs(t, cs, 1, heapOf("@B i1 >0 j2 d3"), 2, 2, 4, "@B", 8, slotsOfA(), 2, "B", 2, "n", 2, "J", 2, "B", 2, "d", 2, "D", 2, 0, 4, 6)
	packs(t, cs, 1, heapOf("@C i1 >0 j2 d3 >1"), 2, 2, 4, "@C", 10, slotsOfA(), 2, "B", 2, "n", 2, "J", 2, "B", 2, "d", 2, "D", 2, "C", 2, "x", 14, "@Object", 2, 0, 4, 6, 2)
	packs(t, cs, 1, heapOf("@G >0"), 2, 2, 4, "@G", 2, 2, "F", 2, "f", 4, "@I", 0)
	packs(t, nil, 1, heapOf("@StopError >0"), 2, 2, 20, "@StopError", 2, 18, "Throwable", 14, "message", 14, "@String", 0)
	packs(t, cs, 1, heapOf("@H >0"), 2, 2, 4, "@H", 2, 2, "H", 2, "h", 14, "@Thread", 0)
}

// Places of objects go by the order in which they come, not by their numbers; so do those of descriptions, which have a row of their own.
func TestPackGraphs(t *testing.T) {
	cs := packClasses()
	packs(t, cs, 1, heapOf("@A i1 >2", "@A i2 >1"), 2, 2, describedA(), 2, 4, 2, 4, 2)
	packs(t, cs, 2, heapOf("@A i1 >2", "@A i2 >1"), 2, 2, describedA(), 4, 4, 2, 2, 2)
	packs(t, cs, 3, heapOf("@A i1 >2", "@A i2 >0", "@A i3 >1"), 2, 2, describedA(), 6, 4, 2, 2, 6, 2, 4, 0)
	packs(t, cs, 1, heapOf("[@Object >2 >2 >1 >3 >3", "@E", "@E"), 2, 2, 16, "[@Object", 10, 4, 4, 4, "@E", 0, 4, 2, 6, 4, 6)
	// Depth first: what an object leads to comes ahead of its next value.
	packs(t, cs, 4, heapOf("@E", "[@Object >1", "@E", "[@Object >2 >3 >1"),
		2, 2, 16, "[@Object", 6, 4, 2, 2, 6, 4, 4, "@E", 0, 8, 4, 6)
	// A Type that comes again between others.
	packs(t, cs, 1, heapOf("[@Object >2 >3 >4 >5", "@String a", "@E", "@String b", "[I i1"),
		2, 2, 16, "[@Object", 8, 4, 4, 14, "@String", 2, "a", 6, 6, 4, "@E", 0, 8, 4, 2, "b", 10, 8, 4, "[I", 2, 2)
	// The same text in two objects is two objects.
	packs(t, nil, 1, heapOf("[@String >2 >3 >2", "@String x", "@String x"), 2, 2, 16, "[@String", 6, 4, 4, 14, "@String", 2, "x", 6, 4, 2, "x", 4)
}

func TestPackTexts(t *testing.T) {
	for _, c := range []struct {
		size  int
		count []byte
	}{{0, []byte{0}}, {1, []byte{2}}, {63, []byte{126}}, {64, []byte{128, 1}}, {200, []byte{144, 3}}} {
		text := strings.Repeat("\xfe", c.size)
		packs(t, nil, 1, []impl.ObjectState{{Type: "@String", Text: text}}, 2, 2, 14, "@String", c.count, text)
	}
	packs(t, nil, 1, heapOf("@String \x00\n\"é"), 2, 2, 14, "@String", 10, "\x00\n\"é")
	packless(t, "MaxText and one", nil, 1, []impl.ObjectState{{Type: "@String", Text: strings.Repeat("x", 201)}})
}

func TestPackArrays(t *testing.T) {
	cs := packClasses()
	for _, typ := range words("[I [J [D [@A [[I [@F [@I [@Nope [[[[@T [@Thread") {
		packs(t, cs, 1, heapOf(typ), 2, 2, 2*len(typ), typ, 0)
	}
	packs(t, nil, 1, heapOf("[I i0 i-1 i63 i64"), 2, 2, 4, "[I", 8, 0, 1, 126, 128, 1)
	packs(t, nil, 1, []impl.ObjectState{{Type: "[I", Values: []impl.Value{whole32(minInt), whole32(maxInt)}}}, 2, 2, 4, "[I", 4, 255, 255, 255, 255, 15, 254, 255, 255, 255, 15)
	packs(t, nil, 1, []impl.ObjectState{{Type: "[J", Values: []impl.Value{{Kind: 2, N: minLong}, {Kind: 2, N: maxLong}}}}, 2, 2, 4, "[J", 4, repeated(255, 9), 1, 254, repeated(255, 8), 1)
	packs(t, nil, 1, []impl.ObjectState{{Type: "[D", Values: []impl.Value{{Kind: 3, N: impl.NaNBits}, {Kind: 3, N: minLong}, {Kind: 3}}}}, 2, 2, 4, "[D", 6, 128, 128, 128, 128, 128, 128, 128, 248, 255, 1, repeated(255, 9), 1, 0)
	packs(t, cs, 1, heapOf("[@A >0 >2 >2", "@B i1 >0 j2 d3"), 2, 2, 6, "[@A", 6, 0, 4, 4, 4, "@B", 8, slotsOfA(), 2, "B", 2, "n", 2, "J", 2, "B", 2, "d", 2, "D", 2, 0, 4, 6, 4)
	packs(t, cs, 1, heapOf("[[I >2 >0", "[I i7"), 2, 2, 6, "[[I", 4, 4, 4, 4, "[I", 2, 14, 0)
	packs(t, cs, 1, heapOf("[@Thread >0"), 2, 2, 16, "[@Thread", 2, 0)
	for _, n := range []int{999, 1000} {
		packs(t, nil, 1, []impl.ObjectState{{Type: "[I", Values: slices.Repeat([]impl.Value{whole32(3)}, n)}}, 2, 2, 4, "[I", numberBytes(int64(n)), repeated(6, n))
	}
	packless(t, "MaxArray and one", nil, 1, []impl.ObjectState{{Type: "[I", Values: slices.Repeat([]impl.Value{whole32(3)}, 1001)}})
}

func TestPackRefuses(t *testing.T) {
	cs := packClasses()
	good := heapOf("@E", "@A i1 >0")
	for _, root := range []int64{-1, -2, 3, 4, minLong, maxLong, 1 << 32, 1<<32 + 1} {
		packless(t, "a root that is none", cs, root, good)
		packless(t, "a root of nothing", cs, root, nil)
	}
	packless(t, "1 of nothing", cs, 1, nil)
	for why, objects := range map[string][]impl.ObjectState{
		"abstract": heapOf("@E", "@F >0"), "an interface": heapOf("@E", "@I"), "no type": heapOf("@E", "E"), "a value fewer": heapOf("@E", "@A i1"), "a value more": heapOf("@E >0"), "another kind": heapOf("@A j1 >0"), "beyond the bounds": heapOf("@A i2147483648 >0"),
		"a reference that does not fit": heapOf("@A i1 >2", "@E"), "a reference beyond the list": heapOf("@A i1 >2"), "below 0": heapOf("@A i1 >-1"), "a text": {{Type: "@E", Text: "x"}}, "too many": slices.Repeat(heapOf("@E"), 4001),
	} {
		for root := range int64(2) {
			packless(t, why, cs, root, objects)
		}
	}
	for why, cs := range brokenSpaces() {
		packless(t, why, cs, 0, nil)
		packless(t, why, cs, 1, heapOf("@Object"))
	}
	for why, cs := range wrongSpaces() {
		packless(t, why, cs, 0, nil)
		packless(t, why, cs, 1, heapOf("@Object"))
	}
}

// Threads are of a run alone: none is packed that is reached, wherever it stands.
func TestPackThreads(t *testing.T) {
	cs := packClasses()
	for _, thread := range []string{"@Thread", "@T >0", "@T >2", "@T >1"} {
		objects := heapOf("@E", thread, "@H >2", "[@Object >0 >2", "[@Object >4", "[@Thread >0", "[@Object >1 >6")
		for root, want := range map[int64]bool{0: true, 1: true, 2: false, 3: false, 4: false, 5: false, 6: true, 7: true} {
			if thread == "@T >1" {
				objects[1] = objectOf("@T >0")
			}
			if got := realmOf(cs).testPack(t, objects, root); (len(got) > 0) != want {
				t.Errorf("%s: from %d on %q is packed", thread, root, got)
			}
		}
	}
	// A class below is one by its Supers; one of the name alone is none.
	deep := told("class A Thread", "class B A", "class C B / field c @C", "class Threads Object", "class thread Object")
	for _, o := range []string{"@A", "@B", "@C >0"} {
		packless(t, "below Thread", deep, 1, heapOf(o))
	}
	packs(t, deep, 1, heapOf("@Threads"), 2, 2, 16, "@Threads", 0)
	packs(t, deep, 1, heapOf("@thread"), 2, 2, 14, "@thread", 0)
}

// As many objects as may be, one behind the other and side by side, and as many bytes as are read.
func TestPackTheMost(t *testing.T) {
	t.Parallel()
	cs := told("class A Object / field n I / field x @A")
	row := []impl.ObjectState{}
	for k := range impl.MaxObjects {
		row = append(row, impl.ObjectState{Type: "@A", Values: []impl.Value{whole32(int64(k)), ref(int64(k))}})
	}
	if got := realmOf(cs).testPack(t, row, impl.MaxObjects); len(got) < 4*impl.MaxObjects {
		t.Errorf("a row of the most objects has %d bytes", len(got))
	}
	row[0].Values[1] = ref(impl.MaxObjects)
	realmOf(cs).testPack(t, row, impl.MaxObjects/2)
	row = append(row, row[0])
	packless(t, "one more", cs, 1, row)
	// Arrays of long numbers, and one of short ones, as many as make the bytes MaxFile.
	full := func(extra int) []impl.ObjectState {
		out := []impl.ObjectState{{Type: "[@Object", Values: []impl.Value{ref(2)}}, {Type: "[J", Values: make([]impl.Value, 100)}}
		for k := range 20 {
			out[0].Values = append(out[0].Values, ref(int64(k+3)))
			out = append(out, impl.ObjectState{Type: "[J", Values: slices.Repeat([]impl.Value{{Kind: 2, N: minLong}}, 996)})
		}
		for k := range out[1].Values {
			out[1].Values[k].Kind = 2
		}
		b, _ := newWorld(nil).writePack(out, 1)
		for range impl.MaxFile + extra - len(b) {
			out[1].Values = append(out[1].Values, impl.Value{Kind: 2})
		}
		return out
	}
	for extra := -2; extra < 3; extra++ {
		b := realmOf(nil).testPack(t, full(extra), 1)
		if len(b) != impl.MaxFile+extra {
			t.Fatalf("%d bytes, not %d", len(b), impl.MaxFile+extra)
		}
		if got := impl.Unpack(nil, b); (got.Code == impl.BytesOk) != (extra <= 0) || extra > 0 && !alike(got, impl.Unpacked{Code: impl.BytesMagic}) {
			t.Errorf("%d bytes are read as %d at %d", len(b), got.Code, got.At)
		}
	}
}

// Heaps of any form come back (promise 10).
func TestAnyPack(t *testing.T) {
	t.Parallel()
	b := builder{numbers{state: 1205}}
	met := map[string]int{}
	for range 400 {
		cs := b.heapSpace()
		r := realmOf(cs)
		for range 3 {
			objects := b.someObjects(r.world)
			for root := range int64(len(objects) + 1) {
				switch got := r.testPack(t, objects, root); {
				case len(got) == 0:
					met["threads"]++
				case len(got) > 100:
					met["long"]++
				default:
					met["short"]++
				}
			}
			r.testPack(t, b.otherObjects(objects), int64(b.below(len(objects)+2)-1))
		}
	}
	if met["threads"] < 50 || met["long"] < 500 || met["short"] < 500 {
		t.Errorf("%v", met)
	}
}
