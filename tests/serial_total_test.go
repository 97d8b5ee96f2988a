package tests

import (
	"bytes"
	"fmt"
	"reflect"
	"slices"
	"strings"
	"sync"
	"testing"

	"loop.example/g00032/impl"
)

// Every function of chapter 12 answers at every argument: a panic, or one that never ends, fails the run.

func oddObjects() [][]impl.ObjectState {
	long := strings.Repeat("[", 100000)
	many := 1 << 18
	out := [][]impl.ObjectState{
		nil, {}, {{}}, make([]impl.ObjectState, 4000), make([]impl.ObjectState, 4001), make([]impl.ObjectState, 100000), heapOf("@Object"), heapOf("@A >1"), fullHeap(),
		{{Type: long, Text: long}}, {{Type: "@String", Text: long}}, {{Type: "[@Object", Values: make([]impl.Value, many)}}, {{Type: "[@Object", Values: slices.Repeat([]impl.Value{ref(1)}, many)}}, {{Type: "@Object", Values: make([]impl.Value, many)}},
		append(slices.Repeat(heapOf("[@Object >4000 >4000 >4000"), 3999), impl.ObjectState{Type: long}),
	}
	for _, n := range append(extremes(), 2, 3, 4, 5) {
		for _, s := range []string{"", "A", "@A", "@Object", "@String", "[I", "[@Object", "\xff"} {
			list := fullHeap()
			spread(reflect.ValueOf(&list).Elem(), n, s)
			out = append(out, list)
		}
		list := fullHeap()
		list[0].Values[0].N = n
		kinds := fullHeap()
		kinds[1].Values[1].Kind = n
		out = append(out, list, kinds, []impl.ObjectState{{Type: "[I", Values: []impl.Value{{Kind: n, N: n}}}})
	}
	return out
}

// askSerial asks all functions of the chapter but Unpack.
func askSerial(cs []impl.Class, class string, objects, others []impl.ObjectState, roots []int64, x, y int64) []any {
	return []any{
		impl.HeapOk(cs, objects), impl.Alike(objects, x, others, y), impl.Alike(objects, x, objects, y), impl.Members(cs, class), impl.Reached(objects, roots), impl.Pack(cs, objects, x), impl.Pack(cs, objects, y),
	}
}

func TestSerialAnswersEverywhere(t *testing.T) {
	t.Parallel()
	spaces := append(oddSpaces()[:20], packClasses(), told("class A Object / field x @A"))
	lists, picks, texts := oddObjects(), oddPicks(), linkTexts()
	for k, objects := range lists {
		for j, cs := range spaces {
			x := append(extremes(), 1, 2, 4000)[(k+j)%(len(extremes())+3)]
			got := askSerial(cs, texts[(k*7+j)%len(texts)], objects, lists[(k+j)%len(lists)], picks[(k+j)%len(picks)], x, 1)
			bytes := len(got[5].([]byte)) + len(got[6].([]byte))
			if heap := got[0].(bool); !heap && bytes > 0 || heap && len(objects) > 4000 || heap && !impl.SpaceOk(cs) {
				t.Errorf("list %d, space %d: a heap is %v, packed in %d bytes", k, j, heap, bytes)
			}
		}
	}
}

func TestSerialOddNumbers(t *testing.T) {
	t.Parallel()
	cs := packClasses()
	heapIs(t, "the full heap", cs, true, fullHeap())
	r := realmOf(cs)
	for _, x := range append(extremes(), 2, 3, 4, 10, 11, 12) {
		r.testPack(t, fullHeap(), x)
		for _, y := range append(extremes(), 2, 3, 4, 10, 11, 12) {
			if got, want := impl.Alike(fullHeap(), x, fullHeap(), y), alikeOracle(fullHeap(), x, fullHeap(), y); got != want {
				t.Errorf("%d and %d are alike: %v", x, y, got)
			}
		}
	}
	reaches(t, fullHeap(), extremes(), reachedOracle(fullHeap(), extremes())...)
}

func oddPacks() [][]byte {
	out := [][]byte{nil, {}}
	for _, s := range append(insTexts(), "\x00", "\xff\xfe", "LPAK", "LPA", "lpak", "LPAKLPAK") {
		out = append(out, []byte(s), packed(s), packed(2, 2, s), packed(2, 2, numberBytes(int64(len(s))), s), packed(2, 2, numberBytes(int64(len(s))), s, 0))
	}
	for n := range 256 {
		for _, size := range []int{1, 2, 9, 10, 11, 100, impl.MaxFile - 100, impl.MaxFile, impl.MaxFile + 1} {
			if size > 1000 && n > 10 && n%32 != 0 && n%31 != 0 {
				continue
			}
			rest := repeated(byte(n), size)
			out = append(out, rest, packed(rest), packed(2, 2, describedA(), rest), packed(2, 2, 4, "@E", rest), packed(2, 2, 16, "[@Object", rest), packed(2, 2, 14, "@String", rest))
		}
	}
	return out
}

func TestUnpackAnswersEverywhere(t *testing.T) {
	t.Parallel()
	b := builder{numbers{state: 1221}}
	files := oddPacks()
	for range 3000 {
		odd := make([]byte, b.below(60))
		for k := range odd {
			odd[k] = byte(b.next() >> b.below(8))
		}
		files = append(files, odd, packed(odd), packed(2, 2, describedA(), odd), packed(2, 2, 16, "[@Object", 6, odd))
	}
	r := realmOf(packClasses())
	for _, file := range files {
		got := impl.Unpack(r.cs, file)
		if len(file) < 1000 {
			r.testUnpack(t, file)
		}
		if got.Code != impl.BytesOk && !alike(got, impl.Unpacked{Code: got.Code, At: got.At}) || got.At < 0 || got.At > int64(len(file)) {
			t.Errorf("%.60q: %.200q", file, fmt.Sprint(got))
		}
		if got.Code == impl.BytesOk && !impl.HeapOk(r.cs, got.Objects) {
			t.Errorf("%.60q: what is read is no heap", file)
		}
		if magic := len(file) > impl.MaxFile || !bytes.HasPrefix(file, []byte("LPAK")); magic != (got.Code == impl.BytesMagic) {
			t.Errorf("%.60q, of %d bytes: code %d", file, len(file), got.Code)
		}
	}
	good := impl.Pack(r.cs, fullHeap(), 1)
	for _, cs := range oddSpaces() {
		for _, file := range [][]byte{good, packed(0), packed(2, 2, 14, "@Object", 0), smallPack()} {
			if got := impl.Unpack(cs, file); got.Code == impl.BytesOk && !impl.HeapOk(cs, got.Objects) {
				t.Errorf("%.60q: what is read is no heap", file)
			}
		}
	}
}

// Counts that are far greater than what is left ask for no memory of their size.
func TestUnpackGreatCounts(t *testing.T) {
	r := realmOf(packClasses())
	file, pieces := r.writePack(fullHeap(), 1)
	for _, p := range pieces {
		if !isCountHere(p) {
			continue
		}
		for _, n := range []int64{900, 10000, 1 << 31, 1 << 62, maxLong} {
			for _, b := range [][]byte{laid(file[:p.at], numberBytes(n)), laid(file[:p.at], numberBytes(n), file[p.end:])} {
				if room := taken(func() { impl.Unpack(r.cs, b) }); room > 1<<20 {
					t.Errorf("a count of %d at %d asks for %d bytes", n, p.at, room)
				}
				r.testUnpack(t, b)
			}
		}
	}
	// Arrays one within the other, each of which tells of 1000 elements.
	deep := packed(2, 2, 16, "[@Object", numberBytes(1000))
	for k := 2; k <= 4000; k++ {
		deep = append(deep, laid(numberBytes(int64(k)), 2, numberBytes(1000))...)
	}
	if room := taken(func() { unfit(t, "deep arrays", nil, deep, impl.BytesShort, int64(len(deep))) }); room > 1<<24 {
		t.Errorf("deep arrays ask for %d bytes", room)
	}
	unfit(t, "too deep", nil, laid(deep, numberBytes(4001), 2, 0), impl.PackPlace, int64(len(deep)))
}

// tallClasses are a row of classes one below the other, with as many fields as may be.
func tallClasses(typ string) []impl.Class {
	cs := manyClasses(impl.MaxClasses)
	for k := range cs {
		if k > 0 {
			cs[k].Super = cs[k-1].Name
		}
		for _, name := range manyNames(impl.MaxMany) {
			cs[k].Fields = append(cs[k].Fields, impl.Field{Name: name, Type: typ})
		}
	}
	return cs
}

// As many objects as may be, of as many values as may be.
func TestSerialOfTheGreatest(t *testing.T) {
	t.Parallel()
	arrays := slices.Repeat([]impl.ObjectState{{Type: "[@Object", Values: make([]impl.Value, 1000)}}, 4000)
	for k := range arrays[0].Values {
		arrays[0].Values[k] = ref(int64(k*4 + 1))
	}
	for k := range arrays {
		arrays[k].Type = []string{"[@Object", "[@I", "[[@Object", "[@J"}[k%4]
	}
	cs := told(ifaceI, ifaceJ)
	if impl.HeapOk(cs, arrays) != heapOracle(cs, arrays[:4000]) || !impl.HeapOk(cs, arrays) {
		t.Error("arrays of the most are no heap")
	}
	b := impl.Pack(cs, arrays, 1)
	if want := 1000 * 1000; len(b) < want || !impl.Alike(arrays, 1, arrays, 1) || len(impl.Reached(arrays, []int64{1})) != 1000 {
		t.Errorf("arrays of the most have %d bytes", len(b))
	}
	for _, typ := range []string{"I", "@Object"} {
		tall := tallClasses(typ)
		last := tall[len(tall)-1].Name
		object := impl.ObjectState{Type: "@" + last, Values: slices.Repeat([]impl.Value{zeroOf(typ)}, 2400)}
		objects := slices.Repeat([]impl.ObjectState{object}, 4000)
		if typ == "@Object" {
			for k := range object.Values {
				object.Values[k].N = int64(k + 1)
			}
		}
		if !impl.HeapOk(tall, objects) || len(impl.Pack(tall, objects, 1)) < 2400 {
			t.Errorf("tall objects of %s are no heap, or have no bytes", typ)
		}
	}
	// Of each Type a description of its own, that tells nothing.
	tall := tallClasses("I")
	file := packed(2, 2, 16, "[@Object", numberBytes(4))
	next, types := int64(2), int64(2)
	for range 4 {
		file = append(file, laid(numberBytes(next), 2, numberBytes(1000))...)
		next++
		for range 1000 {
			if next > 1200 {
				file = append(file, 0)
				continue
			}
			file = append(file, laid(numberBytes(next), numberBytes(types), 10, "@N159", 0)...)
			next, types = next+1, types+1
		}
	}
	if got := impl.Unpack(tall, file); got.Code != impl.BytesOk || len(got.Objects) < 1200 || len(got.Objects[100].Values) != 2400 {
		t.Errorf("many descriptions: %d at %d", got.Code, got.At)
	}
	// A description of very many slots, all left out.
	slots := []byte{}
	for k := range 15000 {
		slots = append(slots, laid(2, "Q", 2*len(fmt.Sprint(k)), fmt.Sprint(k), 2, "I")...)
	}
	wide := packed(2, 2, 14, "@Object", numberBytes(15000), slots)
	if len(wide)+15000 > impl.MaxFile {
		t.Fatalf("%d bytes", len(wide))
	}
	unpacks(t, nil, append(wide, make([]byte, 15000)...), 1, "@Object")
}

func TestSerialArgumentsStay(t *testing.T) {
	t.Parallel()
	b := builder{numbers{state: 1222}}
	for k := range 60 {
		cs, objects, roots := b.heapSpace(), []impl.ObjectState{}, []int64{1, 0, 2, -1, 1}
		objects = b.someObjects(newWorld(cs))
		switch k % 4 {
		case 1:
			objects = b.otherObjects(objects)
		case 2:
			cs, objects = packClasses(), fullHeap()
		}
		file := impl.Pack(cs, objects, int64(min(1, len(objects))))
		if k%3 == 0 {
			file = b.changedFile(append(file, "LPAK\x02\x02"...))
		}
		given := []reflect.Value{roomy(reflect.ValueOf(cs)), roomy(reflect.ValueOf(objects)), roomy(reflect.ValueOf(roots))}
		whole := append(slices.Clone(file), "spare room behind"...)
		before := []any{full(given[0]), full(given[1]), full(given[2])}
		plain := append(askSerial(cs, "A", objects, objects, roots, 1, 2), impl.Unpack(cs, slices.Clip(slices.Clone(file))))
		classes, list := given[0].Interface().([]impl.Class), given[1].Interface().([]impl.ObjectState)
		got := append(askSerial(classes, "A", list, list, given[2].Interface().([]int64), 1, 2), impl.Unpack(classes, whole[:len(file)]))
		if !alike(got, plain) {
			t.Errorf("spare room changes an answer: %.300q", fmt.Sprint(got))
		}
		for _, answer := range got[3:] {
			v := reflect.New(reflect.TypeOf(answer)).Elem()
			v.Set(reflect.ValueOf(answer))
			spoil(v)
		}
		if !reflect.DeepEqual(before, []any{full(given[0]), full(given[1]), full(given[2])}) || string(whole) != string(file)+"spare room behind" {
			t.Error("arguments are not as they were")
		}
	}
}

func TestSerialAnswersAreNew(t *testing.T) {
	t.Parallel()
	b := builder{numbers{state: 1223}}
	lists := 0
	for k := range 60 {
		cs := b.heapSpace()
		objects := b.someObjects(newWorld(cs))
		if k%3 == 0 {
			cs, objects = packClasses(), fullHeap()
		}
		cs = roomy(reflect.ValueOf(cs)).Interface().([]impl.Class)
		objects = roomy(reflect.ValueOf(objects)).Interface().([]impl.ObjectState)
		roots := []int64{1, 2, 3, 4}
		file := impl.Pack(cs, objects, int64(len(objects)))
		if k%3 == 0 {
			file = impl.Pack(cs, objects, 1)
		}
		ask := func() []any {
			return append(askSerial(cs, "B", objects, objects, roots, 1, 2)[3:], impl.Unpack(cs, file))
		}
		one, two := ask(), ask()
		apart(t, "serial", append(append([]any{cs, objects, roots, file}, one...), two...)...)
		lists += len(one[4].(impl.Unpacked).Objects)
		want := fmt.Sprint(two)
		for _, answer := range one {
			v := reflect.New(reflect.TypeOf(answer)).Elem()
			v.Set(reflect.ValueOf(answer))
			spoil(v)
			if bytes, ok := answer.([]byte); ok {
				clear(bytes[:cap(bytes)])
			}
		}
		if fmt.Sprint(two) != want || fmt.Sprint(ask()) != want {
			t.Error("an answer is to be seen in another")
		}
		clear(file[:cap(file)])
		if fmt.Sprint(two) != want {
			t.Error("what is read changes with its bytes")
		}
	}
	if lists < 200 {
		t.Errorf("%d objects came back", lists)
	}
}

// What lies behind the bytes that are told, in their spare room, is not read.
func TestUnpackSpareRoomIsNotRead(t *testing.T) {
	cs := packClasses()
	file := impl.Pack(cs, fullHeap(), 1)
	for k := range file {
		if got, want := impl.Unpack(cs, file[:k]), impl.Unpack(cs, slices.Clip(slices.Clone(file[:k]))); !alike(got, want) {
			t.Errorf("%d bytes with more behind are read as %d at %d", k, got.Code, got.At)
		}
	}
}

// An answer hangs on its arguments alone, whatever was asked ahead of it or is asked beside it.
func TestSerialAnswersTheSameAgain(t *testing.T) {
	t.Parallel()
	b := builder{numbers{state: 1224}}
	calls := []func() string{}
	for range 20 {
		cs := b.heapSpace()
		objects := b.someObjects(newWorld(cs))
		file := impl.Pack(cs, objects, int64(len(objects)))
		broken := b.changedFile(append(slices.Clone(file), "LPAK"...))
		calls = append(calls, func() string {
			return fmt.Sprint(askSerial(cs, "A", objects, objects, []int64{3, 1}, 1, 2), impl.Unpack(cs, file), impl.Unpack(cs, broken))
		})
	}
	want := []string{}
	for _, call := range calls {
		want = append(want, call())
	}
	var beside sync.WaitGroup
	for n := range 8 {
		beside.Go(func() {
			for k := range calls {
				k = (k*7 + n) % len(calls)
				if calls[k]() != want[k] {
					t.Errorf("%d: another answer than before", k)
				}
			}
		})
	}
	beside.Wait()
}
