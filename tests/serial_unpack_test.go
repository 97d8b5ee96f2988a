package tests

import (
	"fmt"
	"testing"

	"loop.example/g00032/impl"
)

// unpacks says that bytes tell a heap to some classes.
func unpacks(t *testing.T, cs []impl.Class, b []byte, root int64, objects ...string) {
	t.Helper()
	if got := impl.Unpack(cs, b); !alike(got, impl.Unpacked{Objects: heapOf(objects...), Root: root}) {
		t.Errorf("%.200q is read as %.300q, not %d of %q", b, fmt.Sprint(got), root, objects)
	}
	realmOf(cs).testUnpack(t, b)
}

// unfit says that bytes are at fault, with nothing beside the code and the place.
func unfit(t *testing.T, why string, cs []impl.Class, b []byte, code, at int64) {
	t.Helper()
	if got := impl.Unpack(cs, b); !alike(got, impl.Unpacked{Code: code, At: at}) {
		t.Errorf("%s: %.120q (%d bytes) is read as %.200q, not %d at %d", why, b, len(b), fmt.Sprint(got), code, at)
	}
	realmOf(cs).testUnpack(t, b)
}

func packed(parts ...any) []byte { return append([]byte("LPAK"), laid(parts...)...) }

func TestUnpackCodes(t *testing.T) {
	got := []int64{impl.PackPlace, impl.PackType, impl.PackField, impl.PackValue, impl.PackHeap}
	same(t, "the codes", got, []int64{7, 8, 9, 10, 11})
}

func TestUnpackObjects(t *testing.T) {
	cs := packClasses()
	unpacks(t, nil, packed(0), 0)
	unpacks(t, cs, packed(0), 0)
	unpacks(t, cs, packed(2, 2, 4, "@E", 0), 1, "@E")
	unpacks(t, cs, packed(2, 2, describedA(), 9, 2), 1, "@A i-5 >1")
	unpacks(t, cs, packed(2, 2, describedA(), 2, 4, 2, 4, 2), 1, "@A i1 >2", "@A i2 >1")
	unpacks(t, cs, packed(2, 2, 16, "[@Object", 8, 4, 4, 14, "@String", 2, "a", 6, 6, 4, "@E", 0, 8, 4, 2, "b", 10, 8, 4, "[I", 2, 2), 1,
		"[@Object >2 >3 >4 >5", "@String a", "@E", "@String b", "[I i1")
	unpacks(t, nil, packed(2, 2, 14, "@String", 144, 3, repeated('x', 200)), 1, "@String "+string(repeated('x', 200)))
	unpacks(t, nil, packed(2, 2, 20, "@StopError", 2, 18, "Throwable", 14, "message", 14, "@String", 4, 4, 14, "@String", 0), 1, "@StopError >2", "@String")
	unpacks(t, cs, packed(2, 2, 4, "[D", 6, 128, 128, 128, 128, 128, 128, 128, 248, 255, 1, repeated(255, 9), 1, 0), 1, fmt.Sprintf("[D d%d d%d d0", int64(impl.NaNBits), int64(minLong)))
	// Arrays of what is no class, of abstract classes and of threads may come; there is nothing in them.
	for _, typ := range words("[@Nope [@F [@I [@Thread [[[[@T") {
		unpacks(t, cs, packed(2, 2, 2*len(typ), typ, 4, 0, 0), 1, typ+" >0 >0")
	}
}

// The form that Pack gives is one of several: slots may stand in another order, and a Type may be described again.
func TestUnpackOtherForms(t *testing.T) {
	cs := packClasses()
	unpacks(t, cs, packed(2, 2, 4, "@A", 4, 2, "A", 2, "x", 4, "@A", 2, "A", 2, "n", 2, "I", 2, 14), 1, "@A i7 >1")
	unpacks(t, cs, packed(2, 2, 4, "@A", 2, 2, "A", 2, "x", 4, "@A", 4, 4, 4, "@A", 2, 2, "A", 2, "n", 2, "I", 14), 1, "@A i0 >2", "@A i7 >0")
	unpacks(t, cs, packed(2, 2, 4, "@A", 2, 2, "A", 2, "x", 4, "@A", 4, 4, describedA(), 14, 6, 2, 8, 4, 16, 0), 1, "@A i0 >2", "@A i7 >3", "@A i0 >4", "@A i8 >0")
	unpacks(t, cs, packed(2, 2, 16, "[@Object", 4, 4, 4, 14, "@String", 0, 6, 6, 14, "@String", 2, "x"), 1, "[@Object >2 >3", "@String", "@String x")
	unpacks(t, cs, packed(2, 2, 6, "[@A", 4, 4, 4, 4, "@A", 0, 6, 6, 4, "@B", 2, 2, "B", 2, "n", 2, "J", 1), 1, "[@A >2 >3", "@A i0 >0", "@B i0 >0 j-1 d0")
}

// Classes that have changed: what the Layout has no more is read and left out, what the description has not is 0.
func TestUnpackChangedClasses(t *testing.T) {
	old := told("class A Object / field n I / field x @A / field w J / field d D / field o @Object", "class B A / field n J / field t @String")
	b := impl.Pack(old, heapOf("@B i1 >2 j3 d4 >3 j5 >4", "@A i-6 >1 j7 d8 >1", "[@A >1 >2", "@String why"), 1)
	unpacks(t, old, b, 1, "@B i1 >2 j3 d4 >3 j5 >4", "@A i-6 >1 j7 d8 >1", "[@A >1 >2", "@String why")
	// Fewer: objects that nobody names any more keep their places.
	unpacks(t, told("class A Object / field n I", "class B A"), b, 1, "@B i1", "@A i-6", "[@A >1 >2", "@String why")
	unpacks(t, told("class A Object", "class B A"), b, 1, "@B", "@A", "[@A >1 >2", "@String why")
	unpacks(t, told("class A Object / field d D", "class B A / field t @String"), b, 1, "@B d4 >4", "@A d8", "[@A >1 >2", "@String why")
	// More, with the zero of their kinds, and in another order.
	unpacks(t, told("class A Object / field z D / field o @Object / field d D / field y [I / field w J / field x @A / field v J / field n I / field u I", "class B A / field t @String / field n J"), b, 1,
		"@B d0 >3 d4 >0 j3 >2 j0 i1 i0 >4 j5", "@A d0 >1 d8 >0 j7 >1 j0 i-6 i0", "[@A >1 >2", "@String why")
	// Static fields are none of an object's; a field of another class is another one.
	unpacks(t, told("class A Object / field n I static / field x @A", "class B A / field n J static / field w J"), b, 1, "@B >2 j0", "@A >1", "[@A >1 >2", "@String why")
	// Another Super: its fields are there, those of the old one not.
	unpacks(t, told("class A Object / field n I", "class B Object / field n J"), packed(impl.Pack(old, heapOf("@B i1 >1 j3 d4 >1 j5 >0"), 1)[4:]), 1, "@B j5")
	unpacks(t, told("class A Error / field n I", "class B A"), b, 1, "@B >0 i1", "@A >0 i-6", "[@A >1 >2", "@String why")
	// A class of the name, where the Type is not the old one.
	unfit(t, "another Type", told("class A Object / field n J", "class B A"), b, impl.PackField, 10)
	unfit(t, "another Type further on", told("class A Object / field d I", "class B A"), b, impl.PackField, 29)
	unfit(t, "no class", told("class A Object"), b, impl.PackType, 6)
	unfit(t, "abstract by now", told("class A Object", "class B A abstract"), b, impl.PackType, 6)
	unfit(t, "a thread by now", told("class A Thread", "class B A"), b, impl.PackType, 6)
	unfit(t, "another Type of the second description", told("class A Object / field x @A / field o @A", "class B Object"), b, impl.PackField, 97)
	unfit(t, "not below any more", told("class A Object / field x @A", "class B Object"), b, impl.PackHeap, 0)
}

// What is left out is read as it stands: its kind is that of the Type that the description tells.
func TestUnpackLeftOut(t *testing.T) {
	cs := told("class E Object", "class A Object / field n I")
	described := func(typ string) []byte {
		return laid(2, 2, 4, "@E", 2, 2, "Q", 2, "q", 2*len(typ), typ)
	}
	unpacks(t, cs, packed(described("I"), 1), 1, "@E")
	unpacks(t, cs, packed(described("J"), repeated(255, 9), 1), 1, "@E")
	unpacks(t, cs, packed(described("D"), 2), 1, "@E")
	for _, typ := range words("@E @A @Nope [I [[@Nope @Object @String @Thread [@Thread") {
		unpacks(t, cs, packed(described(typ), 0), 1, "@E")
		unpacks(t, cs, packed(described(typ), 2), 1, "@E")
		// It need not fit: nobody has it.
		unpacks(t, cs, packed(described(typ), 4, 4, 4, "[I", 2, 6), 1, "@E", "[I i3")
		unpacks(t, cs, packed(described(typ), 4, 2, 4), 1, "@E", "@E")
		unfit(t, "a place above", cs, packed(described(typ), 6), impl.PackPlace, int64(len(packed(described(typ)))))
	}
	at := int64(len(packed(described("I"))))
	unfit(t, "not of 32 bits", cs, packed(described("I"), 128, 128, 128, 128, 16), impl.PackValue, at)
	unfit(t, "no number of its own", cs, packed(described("D"), numberBytes(impl.NaNBits+1)), impl.PackValue, at)
	unfit(t, "no value", cs, packed(described("I")), impl.BytesShort, at)
	for _, typ := range append(wrongTypes(), "0", "[[[[[I") {
		b := packed(2, 2, 4, "@E", 2, 2, "Q", 2, "q", numberBytes(int64(len(typ))), typ, 0)
		unfit(t, "a Type that is none", cs, b, impl.PackField, 10)
	}
	// Class and Name of such a slot may be anything.
	for _, name := range []string{"", "1", "\xff", "a b", "@E", string(repeated('x', 1000))} {
		size := numberBytes(int64(len(name)))
		unpacks(t, cs, packed(2, 2, 4, "@E", 2, size, name, size, name, 2, "I", 0), 1, "@E")
	}
	// One of the names of a field, of another class, or the other way round.
	unpacks(t, cs, packed(2, 2, 4, "@A", 8, 2, "E", 2, "n", 2, "J", 2, "A", 2, "m", 2, "D", 2, "A", 2, "n", 2, "I", 2, "B", 2, "n", 4, "@A", 2, 4, 6, 2), 1, "@A i3")
}

func TestUnpackMagic(t *testing.T) {
	good := packed(2, 2, 4, "@E", 0)
	cs := packClasses()
	unfit(t, "nil", cs, nil, impl.BytesMagic, 0)
	for k := range 4 {
		unfit(t, "a beginning", cs, good[:k], impl.BytesMagic, 0)
		unfit(t, "from there on", cs, good[k+1:], impl.BytesMagic, 0)
		for n := range 256 {
			b := laid(good)
			if b[k] != byte(n) {
				b[k] = byte(n)
				unfit(t, "a wrong byte", cs, b, impl.BytesMagic, 0)
			}
		}
	}
	unfit(t, "a class file", cs, laid("LRCH", good[4:]), impl.BytesMagic, 0)
	unfit(t, "a byte ahead", cs, laid(0, good), impl.BytesMagic, 0)
	many := append(laid(good), make([]byte, impl.MaxFile)...)
	unfit(t, "MaxFile bytes", cs, many[:impl.MaxFile], impl.BytesMore, int64(len(good)))
	unfit(t, "one more", cs, many[:impl.MaxFile+1], impl.BytesMagic, 0)
}

// smallPack is an A with 5 and null: 4 the place of the object, 5 of the description, 6 its size, 9 how many slots, 10 and 16 the slots, 23 and 24 the values.
func smallPack() []byte { return packed(2, 2, describedA(), 10, 0) }

func TestUnpackShort(t *testing.T) {
	cs := packClasses()
	b := smallPack()
	if len(b) != 25 {
		t.Fatalf("%d bytes", len(b))
	}
	for k, at := range []int64{4, 5, 6, 7, 7, 9, 10, 11, 12, 13, 14, 15, 16, 17, 18, 19, 20, 21, 21, 23, 24} {
		unfit(t, "a cut", cs, b[:k+4], impl.BytesShort, at)
	}
	text := packed(2, 2, 14, "@String", 144, 3, repeated('x', 200))
	for k, at := range []int64{14, 14, 16, 16, 16} {
		unfit(t, "a text that is cut", cs, text[:k+14], impl.BytesShort, at)
	}
	unfit(t, "its last byte lacks", cs, text[:len(text)-1], impl.BytesShort, 16)
	unfit(t, "elements lack", cs, packed(2, 2, 4, "[I", 4, 2), impl.BytesShort, 11)
	unfit(t, "within an element", cs, packed(2, 2, 4, "[I", 4, 2, 200), impl.BytesShort, 11)
	unfit(t, "the count of elements lacks", cs, packed(2, 2, 4, "[I"), impl.BytesShort, 9)
	unfit(t, "within the count", cs, packed(2, 2, 4, "[I", 128), impl.BytesShort, 9)
	unfit(t, "a Type of more bytes than there are", cs, packed(2, 2, 254, repeated(255, 8), 1, "@A"), impl.BytesShort, 16)
	unfit(t, "more slots than there are", cs, packed(2, 2, 4, "@E", 254, repeated(255, 8), 1), impl.BytesShort, 19)
	// What is cut off would be too much all the same.
	unfit(t, "a place that is cut", cs, packed(255, 255, 255), impl.BytesShort, 4)
	unfit(t, "a description's place that is cut", cs, packed(2, 255, 255, 255), impl.BytesShort, 5)
	unfit(t, "a value that is cut", cs, packed(2, 2, 4, "[I", 2, repeated(255, 9)), impl.BytesShort, 10)
	unfit(t, "a count that is cut", cs, packed(2, 2, 4, "[I", 255, 255, 255), impl.BytesShort, 9)
	unfit(t, "a text's count that is cut", cs, packed(2, 2, 14, "@String", 254, 255, 255), impl.BytesShort, 14)
}

// fullHeap has of all that there may be something.
func fullHeap() []impl.ObjectState {
	return append(heapOf("[@Object >2 >3 >4 >0 >5 >6 >7 >8", "@B i-1 >2 j2 d3", "@String text", "@C i1 >2 j-200 d5 >3", "[I i1 i-2 i300", "[J j1 j-2", "[@A >2 >4 >9 >0", "[[I >5 >0 >10", "@A i7 >2", "[I"),
		impl.ObjectState{Type: "[D", Values: []impl.Value{{Kind: 3, N: impl.NaNBits}, {Kind: 3}}})
}

// Every cut of good bytes, each number that is none, and counts below 0, at every piece.
func TestUnpackPieces(t *testing.T) {
	t.Parallel()
	b := builder{numbers{state: 1206}}
	met := map[byte]int{}
	for k := range 60 {
		r := realmOf(b.heapSpace())
		objects := b.someObjects(r.world)
		if k == 0 {
			r, objects = realmOf(packClasses()), fullHeap()
			objects[0].Values = append(objects[0].Values, ref(11))
		}
		longest := int64(0)
		for root := range int64(len(objects) + 1) {
			if len(r.pack(objects, root)) > len(r.pack(objects, longest)) {
				longest = root
			}
		}
		file, pieces := r.writePack(objects, longest)
		for _, p := range pieces {
			met[p.what]++
			r.testPiece(t, file, p)
		}
	}
	for _, what := range []byte("oylxcs123t") {
		if met[what] < 10 {
			t.Errorf("%c is met %d times", what, met[what])
		}
	}
}

func (r realm) testPiece(t *testing.T, file []byte, p piece) {
	at := int64(p.at)
	faulty := func(why string, b []byte, code int64) {
		t.Helper()
		if got := impl.Unpack(r.cs, b); !alike(got, impl.Unpacked{Code: code, At: at}) {
			t.Errorf("%s: %.200q is read as %.200q, not %d at %d", why, b, fmt.Sprint(got), code, at)
		}
	}
	for k := p.at; k < p.end; k++ {
		faulty("a cut", file[:k], impl.BytesShort)
	}
	if p.what == aText {
		return
	}
	for why, b := range wrongNumbers() {
		faulty(why, laid(file[:p.at], b, file[p.end:]), impl.BytesNumber)
		faulty(why+" at the end", laid(file[:p.at], b), impl.BytesNumber)
	}
	for _, n := range []int64{-1, -2, -64, -65, minInt - 1, minLong, 0, 1, 2, 3, 5, 200, 201, 1000, 1001, 4000, 4001, maxInt, maxInt + 1, impl.NaNBits, impl.NaNBits + 1, maxLong} {
		for _, b := range [][]byte{laid(file[:p.at], numberBytes(n), file[p.end:]), laid(file[:p.at], numberBytes(n))} {
			r.testUnpack(t, b)
			if n < 0 && isCountHere(p) {
				faulty("a count below 0", b, impl.BytesNumber)
			}
		}
	}
}

func TestUnpackPlaces(t *testing.T) {
	cs := packClasses()
	for _, n := range []int64{2, 3, 63, 64, 4000, 4001, maxInt, maxLong} {
		unfit(t, "the root's place", cs, packed(numberBytes(n)), impl.PackPlace, 4)
		unfit(t, "and more", cs, packed(numberBytes(n), 2, describedA(), 10, 0), impl.PackPlace, 4)
		unfit(t, "a description's place", cs, packed(2, numberBytes(n)), impl.PackPlace, 5)
		unfit(t, "and more", cs, packed(2, numberBytes(n), describedA(), 10, 0), impl.PackPlace, 5)
	}
	for n := int64(3); n < 10; n++ {
		unfit(t, "a field's place", cs, packed(2, 2, describedA(), 10, numberBytes(n)), impl.PackPlace, 24)
		unfit(t, "a second description's place", cs, packed(2, 2, describedA(), 10, 4, numberBytes(n)), impl.PackPlace, 25)
		unfit(t, "an element's place", cs, packed(2, 2, 16, "[@Object", 4, 0, numberBytes(n)), impl.PackPlace, 17)
	}
	// There is no description of place 0.
	unfit(t, "no description", cs, packed(2, 0), impl.PackPlace, 5)
	unfit(t, "no description, later", cs, packed(2, 2, describedA(), 10, 4, 0), impl.PackPlace, 25)
	unfit(t, "no description, and more", cs, packed(2, 0, describedA(), 10, 0), impl.PackPlace, 5)
	// Objects and descriptions have rows of their own.
	unpacks(t, cs, packed(2, 2, 16, "[@Object", 6, 4, 2, 0, 6, 2, 0, 8, 4, 4, "@E", 0), 1, "[@Object >2 >3 >4", "[@Object", "[@Object", "@E")
	unfit(t, "the third object has the second description", cs, packed(2, 2, 16, "[@Object", 4, 4, 2, 0, 6, 6, 4, "@E", 0), impl.PackPlace, 20)
}

// manyPacked are an array of five, four of which are arrays of 1000 with an E at each place, as long as there are no more than so many objects; the fifth stands behind.
func manyPacked(objects int, behind ...any) []byte {
	b := packed(2, 2, 16, "[@Object", numberBytes(5))
	next := 2
	for range 4 {
		b = append(b, laid(numberBytes(int64(next)), 2, numberBytes(1000))...)
		next++
		for range 1000 {
			switch {
			case next > objects:
				b = append(b, 0)
				continue
			case next == 3:
				b = append(b, laid(numberBytes(3), 4, 4, "@E", 0)...)
			default:
				b = append(b, laid(numberBytes(int64(next)), 4)...)
			}
			next++
		}
	}
	return append(b, laid(behind...)...)
}

func TestUnpackTheMost(t *testing.T) {
	t.Parallel()
	cs := told("class E Object")
	r := realmOf(cs)
	for n, want := range map[int]int{3: 6, 100: 103, 3998: 3998, 3999: 3999} {
		b := manyPacked(n, 0)
		if got := impl.Unpack(cs, b); got.Code != impl.BytesOk || len(got.Objects) != want {
			t.Errorf("%d objects: %d at %d, with %d", n, got.Code, got.At, len(got.Objects))
		}
		r.testUnpack(t, b)
	}
	most := manyPacked(4000, 0)
	got := impl.Unpack(cs, most)
	if got.Code != impl.BytesOk || len(got.Objects) != 4000 || got.Root != 1 {
		t.Fatalf("the most objects: %d at %d, with %d", got.Code, got.At, len(got.Objects))
	}
	r.testUnpack(t, most)
	full := manyPacked(4000)
	for _, n := range []int64{1, 2, 3999, 4000} {
		if got := impl.Unpack(cs, laid(full, numberBytes(n))); got.Code != impl.BytesOk || got.Objects[0].Values[4].N != n {
			t.Errorf("the place %d again: %d at %d", n, got.Code, got.At)
		}
	}
	for _, n := range []int64{4001, 4002, 8000, maxLong} {
		unfit(t, "one more", cs, laid(full, numberBytes(n), 4), impl.PackPlace, int64(len(full)))
		unfit(t, "one more, at the end", cs, laid(full, numberBytes(n)), impl.PackPlace, int64(len(full)))
	}
}

func TestUnpackTypes(t *testing.T) {
	cs := packClasses()
	types := append(wrongTypes(), "0", "I", "J", "D", "@F", "@I", "@Nope", "@Thread", "@T", "[ I", "@e", "@E ", string(repeated('[', 70000)), "@"+string(repeated('A', 70000)))
	for _, typ := range types {
		size := numberBytes(int64(len(typ)))
		unfit(t, "a Type", cs, packed(2, 2, size, typ, 0), impl.PackType, 6)
		unfit(t, "a Type at the end", cs, packed(2, 2, size, typ), impl.PackType, 6)
		unfit(t, "a Type, and a wrong number", cs, packed(2, 2, size, typ, 128, 0), impl.PackType, 6)
		unfit(t, "a second Type", cs, packed(2, 2, 16, "[@Object", 2, 4, 4, size, typ, 0), impl.PackType, 18)
		unfit(t, "a value's Type", cs, packed(2, 2, describedA(), 10, 4, 4, size, typ, 0), impl.PackType, 26)
		if len(typ) > 1 && len(typ) < 60 {
			unfit(t, "a Type that is cut", cs, packed(2, 2, size, typ[:len(typ)-1]), impl.BytesShort, 7)
		}
	}
	// By other classes other Types are none.
	unfit(t, "no class of Boot", nil, packed(2, 2, 4, "@E", 0), impl.PackType, 6)
	unpacks(t, nil, packed(2, 2, 14, "@System", 0), 1, "@System")
	deep := told("class A Thread", "class B A", "class C B")
	for _, typ := range words("@A @B @C @Thread") {
		unfit(t, "below Thread", deep, packed(2, 2, 2*len(typ), typ, 0), impl.PackType, 6)
		unpacks(t, deep, packed(2, 2, 2*len(typ)+2, "["+typ, 0), 1, "["+typ)
	}
}

func TestUnpackSlotsTwice(t *testing.T) {
	cs := packClasses()
	n, x := laid(2, "A", 2, "n", 2, "I"), laid(2, "A", 2, "x", 4, "@A")
	gone, float := laid(2, "Q", 2, "q", 2, "J"), laid(2, "Q", 2, "q", 2, "D")
	told := func(count int, slots ...any) []byte { return packed(2, 2, 4, "@A", 2*count, laid(slots...)) }
	for why, b := range map[string][]byte{
		"a field": told(2, n, n), "a field, later": told(3, n, x, n), "a field at the end": told(9, x, n, x), "one left out": told(2, gone, gone), "one left out, of another Type": told(2, gone, float), "and more": told(2, n, n, 2, 2), "and wrong bytes": told(3, n, n, 128, 0), "after a reference": told(3, x, gone, x),
	} {
		unfit(t, why, cs, b, impl.PackType, 6)
	}
	// One fewer told, what comes is a value.
	unfit(t, "the second is no slot", cs, told(1, n, n), impl.BytesMore, 17)
	// PackField of a slot comes ahead of its being there twice, and both ahead of a later slot's.
	second := int64(len(told(2, n)))
	unfit(t, "twice, with another Type", cs, told(2, n, 2, "A", 2, "n", 2, "J"), impl.PackField, second)
	unfit(t, "twice, with no Type", cs, told(2, gone, 2, "Q", 2, "q", 2, "V"), impl.PackField, second)
	unfit(t, "twice, then another Type", cs, told(3, n, n, 2, "A", 2, "x", 2, "I"), impl.PackType, 6)
	unfit(t, "another Type, then twice", cs, told(3, 2, "A", 2, "n", 2, "J", x, x), impl.PackField, 10)
	unfit(t, "another Type twice", cs, told(2, 2, "A", 2, "n", 2, "J", 2, "A", 2, "n", 2, "J"), impl.PackField, 10)
	unfit(t, "twice, but cut", cs, told(2, n, 2, "A", 2, "n", 2), impl.BytesShort, second+5)
	// In another description it is not twice; of another class, or another name, neither.
	unpacks(t, cs, packed(2, 2, 16, "[@Object", 4, 4, 4, 4, "@A", 2, n, 2, 6, 6, 4, "@A", 2, n, 4), 1, "[@Object >2 >3", "@A i1 >0", "@A i2 >0")
	unpacks(t, cs, told(4, n, laid(2, "B", 2, "n", 2, "I"), laid(2, "A", 2, "m", 2, "I"), laid(4, "An", 0, 2, "I"), 2, 4, 6, 8), 1, "@A i1 >0")
	unpacks(t, cs, told(3, laid(0, 4, "An", 2, "I"), laid(4, "An", 0, 2, "I"), n, 2, 4, 6), 1, "@A i3 >0")
}

func TestUnpackFields(t *testing.T) {
	cs := packClasses()
	described := func(slots ...any) []byte { return packed(2, 2, 4, "@B", 8, laid(slots...)) }
	for _, typ := range append(wrongTypes(), "0", "J", "D", "@A", "@Object", "[I", "@Nope") {
		size := numberBytes(int64(len(typ)))
		unfit(t, "n of A", cs, described(2, "A", 2, "n", size, typ), impl.PackField, 10)
		unfit(t, "n of A, with more", cs, described(2, "A", 2, "n", size, typ, slotsOfA(), 0, 0, 0, 0), impl.PackField, 10)
		unfit(t, "behind another", cs, described(2, "B", 2, "d", 2, "D", 2, "A", 2, "n", size, typ), impl.PackField, 16)
	}
	for _, typ := range append(wrongTypes(), "0") {
		size := numberBytes(int64(len(typ)))
		unfit(t, "x of A", cs, described(2, "A", 2, "x", size, typ), impl.PackField, 10)
		unfit(t, "one that is none", cs, described(2, "A", 2, "y", size, typ), impl.PackField, 10)
		unfit(t, "a static one", cs, described(2, "A", 2, "s", size, typ), impl.PackField, 10)
	}
	unfit(t, "a Type below", cs, described(2, "A", 2, "x", 4, "@B"), impl.PackField, 10)
	unfit(t, "a Type above", cs, described(2, "A", 2, "x", 14, "@Object"), impl.PackField, 10)
	unfit(t, "message of another Type", nil, packed(2, 2, 12, "@Error", 2, 18, "Throwable", 14, "message", 14, "@Object", 0), impl.PackField, 14)
	// A static field is none of the Layout: its slot may be of any Type.
	unpacks(t, cs, packed(2, 2, 4, "@A", 2, 2, "A", 2, "s", 2, "J", 9), 1, "@A i0 >0")
	// The names are those of the class that has the field.
	unpacks(t, cs, packed(2, 2, 4, "@B", 2, 2, "B", 2, "x", 2, "I", 8), 1, "@B i0 >0 j0 d0")
	unfit(t, "cut within its Type", cs, described(2, "A", 2, "n", 4, "J"), impl.BytesShort, 15)
}

func TestUnpackValues(t *testing.T) {
	cs := packClasses()
	for _, n := range append(edgeNumbers(), extremes()...) {
		code := func(right bool) int64 {
			if right {
				return impl.BytesOk
			}
			return impl.PackValue
		}
		whole, float := n >= minInt && n <= maxInt, !isNone(n) || n == impl.NaNBits
		for typ, want := range map[string]int64{"I": code(whole), "J": impl.BytesOk, "D": code(float)} {
			array, at := packed(2, 2, 4, "["+typ, 4, 0, numberBytes(n)), int64(11)
			field, there := packed(2, 2, 4, "@E", 2, 2, "E", 2, "e", 2, typ, numberBytes(n)), int64(16)
			if want == impl.BytesOk {
				letter := map[string]string{"I": "i", "J": "j", "D": "d"}[typ]
				unpacks(t, cs, array, 1, fmt.Sprintf("[%s %s0 %s%d", typ, letter, letter, n))
				unpacks(t, told("class E Object / field e "+typ), field, 1, fmt.Sprintf("@E %s%d", letter, n))
				continue
			}
			unfit(t, "an element", cs, array, want, at)
			unfit(t, "a field", told("class E Object / field e "+typ), field, want, there)
			unfit(t, "a field that is left out", cs, field, want, there)
			unfit(t, "with more", cs, laid(array, 9), want, at)
		}
	}
	for _, n := range []int64{1001, 1002, 4001, maxInt, maxLong} {
		for _, typ := range words("[I [J [D [@E [[I") {
			head := packed(2, 2, 2*len(typ), typ)
			unfit(t, "an array", cs, laid(head, numberBytes(n)), impl.PackValue, int64(len(head)))
			unfit(t, "an array, with its elements", cs, laid(head, numberBytes(n), make([]byte, 1100)), impl.PackValue, int64(len(head)))
		}
		unfit(t, "an array within", cs, packed(2, 2, 16, "[@Object", 2, 4, 2, numberBytes(n), 0), impl.PackValue, 18)
	}
	// Of a text that is too long and whose bytes lack, too, it is told that they lack.
	for _, n := range []int64{201, 202, 1000, maxInt, maxLong} {
		head := packed(2, 2, 14, "@String", numberBytes(n))
		short := int64(len(head))
		for _, there := range []int64{0, 1, 199, 200, 201, 999, 1000, 1100} {
			b := laid(head, repeated('x', int(there)))
			if there < n {
				unfit(t, "a text of which bytes lack", cs, b, impl.BytesShort, short)
			} else {
				unfit(t, "a text that is too long", cs, b, impl.PackValue, 14)
			}
		}
		unfit(t, "a text within", cs, packed(2, 2, 16, "[@Object", 2, 4, 4, 14, "@String", numberBytes(n), repeated('x', 150)), impl.BytesShort, short+12)
	}
	if got := impl.Unpack(cs, packed(2, 2, 4, "[I", numberBytes(1000), make([]byte, 1000))); got.Code != impl.BytesOk || len(got.Objects[0].Values) != 1000 {
		t.Errorf("MaxArray: %d at %d", got.Code, got.At)
	}
	if got := impl.Unpack(cs, packed(2, 2, 14, "@String", numberBytes(200), repeated(0, 200))); got.Code != impl.BytesOk || len(got.Objects[0].Text) != 200 {
		t.Errorf("MaxText: %d at %d", got.Code, got.At)
	}
	// Types and names of slots are no values: they may be longer.
	long := string(repeated('x', 300))
	unpacks(t, cs, packed(2, 2, 4, "@E", 2, numberBytes(300), long, numberBytes(300), long, 2, "I", 7), 1, "@E")
}

func TestUnpackMore(t *testing.T) {
	cs := packClasses()
	for _, b := range [][]byte{packed(0), smallPack(), packed(2, 2, 4, "@E", 0), packed(2, 2, 14, "@String", 2, "x"), packed(2, 2, 4, "[I", 0)} {
		for n := range 256 {
			unfit(t, "a byte more", cs, laid(b, n), impl.BytesMore, int64(len(b)))
		}
		unfit(t, "wrong bytes", cs, laid(b, repeated(255, 20)), impl.BytesMore, int64(len(b)))
		unfit(t, "the same again", cs, laid(b, b), impl.BytesMore, int64(len(b)))
	}
}

func TestUnpackHeap(t *testing.T) {
	cs := packClasses()
	unfit(t, "a field that does not fit", cs, packed(2, 2, describedA(), 10, 4, 4, 4, "@E", 0), impl.PackHeap, 0)
	unfit(t, "an element that does not fit", cs, packed(2, 2, 6, "[@A", 4, 0, 2), impl.PackHeap, 0)
	unfit(t, "a class that is none", cs, packed(2, 2, 12, "[@Nope", 2, 4, 4, 4, "@E", 0), impl.PackHeap, 0)
	unfit(t, "a back reference that does not fit", cs, packed(2, 2, 16, "[@Object", 2, 4, 4, describedA(), 0, 2), impl.PackHeap, 0)
	unfit(t, "behind what is left out", cs, packed(2, 2, 4, "@E", 2, 2, "Q", 2, "q", 4, "@E", 4, 4, 6, "[@A", 2, 2), impl.PackHeap, 0)
	// Interfaces take all.
	unpacks(t, cs, packed(2, 2, 4, "@G", 2, 2, "F", 2, "f", 4, "@I", 4, 4, 4, "@E", 0), 1, "@G >2", "@E")
	// BytesMore comes ahead.
	unfit(t, "and more", cs, packed(2, 2, 6, "[@A", 4, 0, 2, 7), impl.BytesMore, 13)
}

// A space that does not hold has its classes all the same, until the end; a list that is none has those of Boot.
func TestUnpackWithoutASpace(t *testing.T) {
	null, system := packed(0), packed(2, 2, 14, "@System", 0)
	for why, cs := range brokenSpaces() {
		unfit(t, why, cs, null, impl.PackHeap, 0)
		unfit(t, why, cs, system, impl.PackHeap, 0)
		unfit(t, why, cs, packed(2, 2, 4, "@A", 0), impl.PackHeap, 0)
		unfit(t, why+", and more", cs, packed(2, 2, 4, "@A", 0, 0), impl.BytesMore, 10)
		unfit(t, why+", short", cs, packed(2, 2, 4, "@A"), impl.BytesShort, 9)
		unfit(t, why+", a wrong value", cs, packed(2, 2, 4, "[I", 2, numberBytes(maxInt+1)), impl.PackValue, 10)
		unfit(t, why+", no class, cut", cs, packed(2, 2, 12, "@Neve"), impl.BytesShort, 7)
		unfit(t, why+", no class", cs, packed(2, 2, 12, "@Never", 0), impl.PackType, 6)
	}
	for why, cs := range wrongSpaces() {
		unfit(t, why, cs, null, impl.PackHeap, 0)
		unfit(t, why, cs, system, impl.PackHeap, 0)
		unfit(t, why, cs, packed(2, 2, 4, "@A", 2, 2, "A", 2, "x", 2, "I", 0), impl.PackType, 6)
		unfit(t, why+", an array", cs, packed(2, 2, 6, "[@A", 0), impl.PackHeap, 0)
		unfit(t, why+", and more", cs, laid(system, 1), impl.BytesMore, int64(len(system)))
		unfit(t, why+", message", cs, packed(2, 2, 12, "@Error", 2, 18, "Throwable", 14, "message", 2, "I", 0), impl.PackField, 14)
		unfit(t, why+", no magic", cs, laid("LPAC", 0), impl.BytesMagic, 0)
	}
	// Layouts of what does not hold are those of chapter 6: a ring has none, what is missing above has no fields.
	cs := told("class A B / field a I", "class B A / field b I", "class C Nope / field c I")
	unfit(t, "a ring has no slots", cs, packed(2, 2, 4, "@A", 2, 2, "A", 2, "a", 2, "J", 0), impl.PackHeap, 0)
	unfit(t, "c of C", cs, packed(2, 2, 4, "@C", 2, 2, "C", 2, "c", 2, "J", 0), impl.PackField, 10)
	unfit(t, "c of C", cs, packed(2, 2, 4, "@C", 2, 2, "C", 2, "c", 2, "I", 0), impl.PackHeap, 0)
	// Thread is above where a chain leads to it, though it does not hold.
	below := told("class A Thread / implements Nope", "class B A", "class C Object / implements A")
	for _, typ := range words("@A @B @C") {
		unfit(t, "below Thread", below, packed(2, 2, 4, typ, 0), impl.PackType, 6)
	}
}

// Of two faults the first from the left counts.
func TestUnpackTwoFaults(t *testing.T) {
	cs := packClasses()
	for _, c := range []struct {
		why  string
		b    []byte
		code int64
		at   int64
	}{
		{"no magic, and wrong bytes", laid("LPAL", 128, 0), impl.BytesMagic, 0},
		{"a wrong number ahead of a wrong place", packed(128, 0, 9), impl.BytesNumber, 4},
		{"a needless byte of a place that is above", packed(136, 0), impl.BytesNumber, 4},
		{"a place below 0", packed(1), impl.BytesNumber, 4},
		{"a wrong place ahead of a wrong number", packed(4, 128, 0), impl.PackPlace, 4},
		{"a wrong place ahead of the end", packed(4), impl.PackPlace, 4},
		{"a description's place, then no Type", packed(2, 4, 2, "V"), impl.PackPlace, 5},
		{"a Type that is none, then a slot that is wrong", packed(2, 2, 4, "@F", 2, 2, "F", 2, "f", 2, "I"), impl.PackType, 6},
		{"a Type that is none, then a wrong count", packed(2, 2, 4, "@F", 1), impl.PackType, 6},
		{"a wrong count of a Type, which is none", packed(2, 2, 1, "V"), impl.BytesNumber, 6},
		{"a wrong count of slots, then a wrong slot", packed(2, 2, 4, "@A", 1, 2, "A", 2, "n", 2, "J"), impl.BytesNumber, 9},
		{"a wrong slot, then a wrong count", packed(2, 2, 4, "@A", 4, 2, "A", 2, "n", 2, "J", 1), impl.PackField, 10},
		{"a wrong count within a slot that is wrong", packed(2, 2, 4, "@A", 4, 2, "A", 2, "n", 1, "J"), impl.BytesNumber, 14},
		{"a wrong slot, then the end", packed(2, 2, 4, "@A", 4, 2, "A", 2, "n", 2, "J"), impl.PackField, 10},
		{"a wrong value, then a wrong place", packed(2, 2, describedA(), 128, 128, 128, 128, 16, 9), impl.PackValue, 23},
		{"a wrong place, then more", packed(2, 2, describedA(), 10, 6, 9, 9), impl.PackPlace, 24},
		{"a wrong number in the place of a value", packed(2, 2, describedA(), 128, 128, 128, 128, 16, 128, 0), impl.PackValue, 23},
		{"a needless byte of a value that is too great", packed(2, 2, 4, "[I", 2, 254, 255, 255, 255, 255, 255, 0), impl.BytesNumber, 10},
		{"too long an array, whose elements are wrong", packed(2, 2, 4, "[I", numberBytes(1001), 128, 0), impl.PackValue, 9},
		{"a wrong element of many", packed(2, 2, 4, "[I", numberBytes(1000), 128, 0), impl.BytesNumber, 11},
		{"too long a text, of which bytes lack", packed(2, 2, 14, "@String", numberBytes(201), "x"), impl.BytesShort, 16},
		{"too long a text, then more", packed(2, 2, 14, "@String", numberBytes(201), repeated('x', 202)), impl.PackValue, 14},
		{"too long an array, of which elements lack", packed(2, 2, 4, "[I", numberBytes(1001), 0), impl.PackValue, 9},
		{"a text of which bytes lack", packed(2, 2, 14, "@String", numberBytes(200), "x"), impl.BytesShort, 16},
		{"a count of a text below 0", packed(2, 2, 14, "@String", 1), impl.BytesNumber, 14},
		{"a count of an array below 0", packed(2, 2, 4, "[I", 1), impl.BytesNumber, 9},
		{"more, and what does not fit", packed(2, 2, 6, "[@A", 2, 2, 0), impl.BytesMore, 12},
		{"what does not fit, then a wrong value", packed(2, 2, describedA(), 10, 4, 4, 4, "[I", 2, 128, 128, 128, 128, 16), impl.PackValue, 30},
	} {
		unfit(t, c.why, cs, c.b, c.code, c.at)
	}
}
