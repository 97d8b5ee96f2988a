package tests

import (
	"bytes"
	"fmt"
	"slices"
	"strconv"
	"strings"
	"testing"

	"loop.example/g00032/impl"
)

// Chapter 12 worked out once more: what came already stands in lists, and a fault ends the reading at once.

// objectOf reads an object: its Type, then its values: i, j or d and a number, > and the number of an object; of @String the Text is all that stands behind the blank.
func objectOf(s string) impl.ObjectState {
	typ, rest, _ := strings.Cut(s, " ")
	o := impl.ObjectState{Type: typ}
	if typ == "@String" {
		o.Text = rest
		return o
	}
	for _, word := range strings.Fields(rest) {
		n, err := strconv.ParseInt(word[1:], 10, 64)
		if err != nil {
			panic(s)
		}
		o.Values = append(o.Values, impl.Value{Kind: int64(strings.Index("?ijd>", word[:1])), N: n})
	}
	return o
}

func heapOf(objects ...string) []impl.ObjectState {
	out := []impl.ObjectState{}
	for _, s := range objects {
		out = append(out, objectOf(s))
	}
	return out
}

// mayBe says whether an object may have the Type.
func (w world) mayBe(typ string) bool {
	if !refType(typ) {
		return false
	}
	return typ[0] == '[' || w.has(typ[1:]) && !w.is(typ[1:], 4) && !w.is(typ[1:], 128)
}

func (w world) ofThread(typ string) bool { return typ[0] == '@' && w.isAbove(typ[1:], "Thread") }

func valueIs(v impl.Value, typ string) bool {
	switch {
	case v.Kind != zeroOf(typ).Kind:
		return false
	case v.Kind == 1:
		return v.N >= minInt && v.N <= maxInt
	case v.Kind == 3:
		return !isNone(v.N) || v.N == impl.NaNBits
	}
	return true
}

// placesOf gives the types of the places of an object; ok is false when it has none such, or too many.
func (w world) placesOf(o impl.ObjectState) (types []string, ok bool) {
	if o.Type[0] == '[' {
		return slices.Repeat([]string{o.Type[1:]}, len(o.Values)), len(o.Values) <= 1000
	}
	for _, slot := range w.layout(o.Type[1:]) {
		types = append(types, slot.Type)
	}
	return types, len(types) == len(o.Values)
}

func (w world) isHeap(objects []impl.ObjectState) bool {
	if len(objects) > 4000 {
		return false
	}
	for _, o := range objects {
		if !w.mayBe(o.Type) || o.Type != "@String" && o.Text != "" || len(o.Text) > 200 {
			return false
		}
		types, ok := w.placesOf(o)
		if !ok {
			return false
		}
		for k, v := range o.Values {
			if !valueIs(v, types[k]) || v.Kind == 4 && v.N != 0 && (v.N < 0 || v.N > int64(len(objects)) || !w.isA(objects[v.N-1].Type, types[k], true)) {
				return false
			}
		}
	}
	return true
}

// A realm is a list of classes with what is known of them; a list that is no space is known as an empty one, and does not hold.
type realm struct {
	world
	cs    []impl.Class
	holds bool
}

func realmOf(cs []impl.Class) realm {
	if !impl.SpaceOk(cs) {
		return realm{newWorld(nil), cs, false}
	}
	w := newWorld(cs)
	faulty := slices.ContainsFunc(cs, func(c impl.Class) bool {
		code, _ := w.fault(c)
		return code != 0
	})
	return realm{w, cs, !faulty}
}

func heapOracle(cs []impl.Class, objects []impl.ObjectState) bool {
	r := realmOf(cs)
	return r.holds && r.isHeap(objects)
}

func membersOracle(cs []impl.Class, class string) []string {
	w := realmOf(cs).world
	out := []string{}
	for _, name := range w.above(class) {
		for _, f := range w.classes[name].Fields {
			out = append(out, fmt.Sprint("field ", name, " ", f.Name, " ", f.Type))
		}
		for _, m := range w.classes[name].Methods {
			out = append(out, fmt.Sprint("method ", name, " ", m.Name, " ", m.Sig))
		}
	}
	return out
}

// reachedOracle looks at all objects again and again, until nothing new is reached.
func reachedOracle(objects []impl.ObjectState, roots []int64) []int64 {
	in := map[int64]bool{}
	add := func(n int64) bool {
		new := n > 0 && n <= int64(len(objects)) && !in[n]
		if new {
			in[n] = true
		}
		return new
	}
	for _, n := range roots {
		add(n)
	}
	for more := true; more; {
		more = false
		for k, o := range objects {
			if !in[int64(k+1)] {
				continue
			}
			for _, v := range o.Values {
				if v.Kind == 4 && add(v.N) {
					more = true
				}
			}
		}
	}
	out := []int64{}
	for k := range objects {
		if in[int64(k+1)] {
			out = append(out, int64(k+1))
		}
	}
	return out
}

// formOf writes down a graph so that those that are alike, and no others, have one text: objects go by the order in which they come. It says no of a number that leads nowhere.
func formOf(objects []impl.ObjectState, root int64) (string, bool) {
	came := []int64{0}
	right := true
	come := func(n int64) string {
		right = right && n >= 0 && n <= int64(len(objects))
		if !slices.Contains(came, n) {
			came = append(came, n)
		}
		return fmt.Sprint(" >", slices.Index(came, n))
	}
	text := []string{come(root)}
	for k := 1; k < len(came) && right; k++ {
		o := objects[came[k]-1]
		text = append(text, fmt.Sprintf("\n%q %q", o.Type, o.Text))
		for _, v := range o.Values {
			if v.Kind == 4 {
				text = append(text, come(v.N))
			} else {
				text = append(text, fmt.Sprint(" ", v.Kind, ":", v.N))
			}
		}
	}
	return strings.Join(text, ""), right
}

func alikeOracle(a []impl.ObjectState, x int64, b []impl.ObjectState, y int64) bool {
	one, right := formOf(a, x)
	other, too := formOf(b, y)
	return right && too && one == other
}

// The pieces of packed objects besides those of a class file: the place of an object and that of a description, how many elements an array has, how many bytes a text, and numbers of the three kinds.
const (
	anObject = 'o'
	aType    = 'y'
	aLength  = 'l'
	aString  = 'x'
	anInt    = '1'
	aLong    = '2'
	aFloat   = '3'
)

func isCountHere(p piece) bool { return strings.ContainsRune("oylxcs", rune(p.what)) }

type packWriter struct {
	fileWriter
	w       world
	objects []impl.ObjectState
	came    []int64
	types   []string
}

func (p *packWriter) count(what byte, n int) { p.add(what, numberBytes(int64(n))) }

func (p *packWriter) text(what byte, s string) {
	p.count(what, len(s))
	p.add(aText, []byte(s))
}

func (p *packWriter) reference(n int64) {
	if n == 0 {
		p.count(anObject, 0)
		return
	}
	if k := slices.Index(p.came, n); k >= 0 {
		p.count(anObject, k+1)
		return
	}
	p.came = append(p.came, n)
	p.count(anObject, len(p.came))
	o := p.objects[n-1]
	p.description(o.Type)
	switch {
	case o.Type == "@String":
		p.text(aString, o.Text)
	case o.Type[0] == '[':
		p.count(aLength, len(o.Values))
	}
	for _, v := range o.Values {
		if v.Kind == 4 {
			p.reference(v.N)
		} else {
			p.add(byte('0'+v.Kind), numberBytes(v.N))
		}
	}
}

func (p *packWriter) description(typ string) {
	k := slices.Index(p.types, typ)
	if k >= 0 {
		p.count(aType, k+1)
		return
	}
	p.types = append(p.types, typ)
	p.count(aType, len(p.types))
	p.text(aSize, typ)
	if typ == "@String" || typ[0] == '[' {
		return
	}
	slots := p.w.layout(typ[1:])
	p.count(aCount, len(slots))
	for _, s := range slots {
		p.text(aSize, s.Class)
		p.text(aSize, s.Name)
		p.text(aSize, s.Type)
	}
}

// writePack gives the bytes of a heap of a space that holds, with their pieces behind LPAK, whatever threads there are.
func (w world) writePack(objects []impl.ObjectState, root int64) ([]byte, []piece) {
	p := packWriter{fileWriter: fileWriter{out: []byte("LPAK")}, w: w, objects: objects}
	p.reference(root)
	return p.out, p.pieces
}

func (r realm) pack(objects []impl.ObjectState, root int64) []byte {
	if !r.holds || !r.isHeap(objects) || root < 0 || root > int64(len(objects)) {
		return nil
	}
	for _, n := range reachedOracle(objects, []int64{root}) {
		if r.ofThread(objects[n-1].Type) {
			return nil
		}
	}
	b, _ := r.writePack(objects, root)
	return b
}

// packReader has in types each description that came: its Type, and the slots that it tells.
type packReader struct {
	fileReader
	w       world
	objects []impl.ObjectState
	types   []typeTold
}

type typeTold struct {
	typ   string
	slots []impl.Slot
}

func (r *packReader) text() string {
	size := r.count()
	if size > int64(len(r.b)-r.at) {
		panic(fault{impl.BytesShort, int64(r.at)})
	}
	r.at += int(size)
	return string(r.b[r.at-int(size) : r.at])
}

func (r *packReader) reference() int64 {
	from := int64(r.at)
	n := r.count()
	if n > int64(len(r.objects)+1) || n == 4001 {
		panic(fault{impl.PackPlace, from})
	}
	if n == int64(len(r.objects)+1) {
		r.objects = append(r.objects, impl.ObjectState{})
		r.object(n)
	}
	return n
}

func (r *packReader) object(n int64) {
	d := r.description()
	o := impl.ObjectState{Type: d.typ}
	from := int64(r.at)
	switch {
	case d.typ == "@String":
		o.Text = r.text()
		if len(o.Text) > 200 {
			panic(fault{impl.PackValue, from})
		}
	case d.typ[0] == '[':
		size := r.count()
		if size > 1000 {
			panic(fault{impl.PackValue, from})
		}
		for range size {
			o.Values = append(o.Values, r.value(d.typ[1:]))
		}
	default:
		o.Values = r.fields(d)
	}
	r.objects[n-1] = o
}

func (r *packReader) fields(d typeTold) []impl.Value {
	read := []impl.Value{}
	for _, s := range d.slots {
		read = append(read, r.value(s.Type))
	}
	out := []impl.Value{}
	for _, s := range r.w.layout(d.typ[1:]) {
		if k := slices.Index(d.slots, s); k >= 0 {
			out = append(out, read[k])
		} else {
			out = append(out, zeroOf(s.Type))
		}
	}
	return out
}

func (r *packReader) value(typ string) impl.Value {
	if zeroOf(typ).Kind == 4 {
		return ref(r.reference())
	}
	from := int64(r.at)
	v := impl.Value{Kind: zeroOf(typ).Kind, N: r.number()}
	if !valueIs(v, typ) {
		panic(fault{impl.PackValue, from})
	}
	return v
}

func (r *packReader) description() typeTold {
	from := int64(r.at)
	n := r.count()
	if n < 1 || n > int64(len(r.types)+1) {
		panic(fault{impl.PackPlace, from})
	}
	if n <= int64(len(r.types)) {
		return r.types[n-1]
	}
	begin := int64(r.at)
	d := typeTold{typ: r.text()}
	if !r.w.mayBe(d.typ) || r.w.ofThread(d.typ) {
		panic(fault{impl.PackType, begin})
	}
	if d.typ != "@String" && d.typ[0] == '@' {
		for n := r.count(); n > 0; n-- {
			d.slots = append(d.slots, r.slot(d, begin))
		}
	}
	r.types = append(r.types, d)
	return d
}

func (r *packReader) slot(d typeTold, begin int64) impl.Slot {
	from := int64(r.at)
	s := impl.Slot{Class: r.text()}
	s.Name = r.text()
	s.Type = r.text()
	sameField := func(x impl.Slot) bool { return x.Class == s.Class && x.Name == s.Name }
	layout := r.w.layout(d.typ[1:])
	if k := slices.IndexFunc(layout, sameField); k >= 0 && layout[k].Type != s.Type || k < 0 && s.Type != "I" && s.Type != "J" && s.Type != "D" && !refType(s.Type) {
		panic(fault{impl.PackField, from})
	}
	if slices.ContainsFunc(d.slots, sameField) {
		panic(fault{impl.PackType, begin})
	}
	return s
}

func (r realm) unpack(b []byte) (out impl.Unpacked) {
	defer func() {
		if f, ok := recover().(fault); ok {
			out = impl.Unpacked{Code: f.code, At: f.at}
		}
	}()
	if len(b) > 200000 || len(b) < 4 || string(b[:4]) != "LPAK" {
		panic(fault{impl.BytesMagic, 0})
	}
	reader := &packReader{fileReader: fileReader{b: b, at: 4}, w: r.world}
	root := reader.reference()
	if reader.at < len(b) {
		panic(fault{impl.BytesMore, int64(reader.at)})
	}
	if !r.holds || !r.isHeap(reader.objects) {
		panic(fault{impl.PackHeap, 0})
	}
	return impl.Unpacked{Objects: reader.objects, Root: root}
}

// testUnpack holds what the program reads against the oracle, and gives the code.
func (r realm) testUnpack(t *testing.T, b []byte) int64 {
	t.Helper()
	got, want := impl.Unpack(r.cs, b), r.unpack(b)
	if !alike(got, want) {
		t.Errorf("%.300q (%d bytes) is read as %.300q, not %.300q", b, len(b), fmt.Sprint(got), fmt.Sprint(want))
	}
	return got.Code
}

// testPack holds what the program packs against the oracle; what is packed comes back alike, and is packed as it was (promise 10).
func (r realm) testPack(t *testing.T, objects []impl.ObjectState, root int64) []byte {
	t.Helper()
	got, want := impl.Pack(r.cs, objects, root), r.pack(objects, root)
	if !bytes.Equal(got, want) {
		t.Errorf("%d of %.300q is packed as %.300q, not %.300q", root, fmt.Sprint(objects), got, want)
	}
	if len(got) > 0 && len(got) <= impl.MaxFile {
		r.testBack(t, objects, root, got)
	}
	return got
}

func (r realm) testBack(t *testing.T, objects []impl.ObjectState, root int64, packed []byte) {
	t.Helper()
	back := impl.Unpack(r.cs, packed)
	if back.Code != impl.BytesOk || back.At != 0 || back.Root != min(root, 1) || !impl.HeapOk(r.cs, back.Objects) {
		t.Errorf("%.300q, of %.300q, comes back as %.300q", packed, fmt.Sprint(objects), fmt.Sprint(back))
		return
	}
	if !impl.Alike(objects, root, back.Objects, back.Root) || !impl.Alike(back.Objects, back.Root, objects, root) || !alikeOracle(objects, root, back.Objects, back.Root) {
		t.Errorf("%.300q from %d on is not like %.300q", fmt.Sprint(objects), root, fmt.Sprint(back.Objects))
	}
	if again := impl.Pack(r.cs, back.Objects, back.Root); !bytes.Equal(again, packed) {
		t.Errorf("%.300q is packed again as %.300q", packed, again)
	}
	if n := len(impl.Reached(objects, []int64{root})); n != len(back.Objects) {
		t.Errorf("%d objects are reached from %d, %d come back", n, root, len(back.Objects))
	}
}

// heapSpace makes a space that holds, with fields of many types, most of which objects have.
func (b *builder) heapSpace() []impl.Class {
	for {
		cs := b.space(true)
		for k := range cs {
			for j := range cs[k].Fields {
				cs[k].Fields[j].Type = b.fieldType()
				if cs[k].Flags&impl.FlagInterface == 0 && b.below(4) > 0 {
					cs[k].Fields[j].Flags = 0
				}
			}
		}
		if len(impl.LinkFaults(cs)) == 0 {
			return cs
		}
	}
}

func (b *builder) fieldType() string {
	return b.pick("I", "J", "D", "I", "J", "D", "I", "J", "D", "@A", "@B", "@C", "@Object", "@Object", "@String", "@Nope", "[I", "[J", "[D", "[@A", "[@Object", "[[@B", "[[I", "[@String", "@Error", "[@Nope")
}

func (b *builder) numberOf(kind int64) int64 {
	all := append(edgeNumbers(), b.next(), b.next(), int64(b.below(5)), int64(b.below(500)-250))
	n := all[b.below(len(all))]
	switch {
	case kind == 1:
		return int64(int32(n))
	case kind == 3 && isNone(n):
		return impl.NaNBits
	}
	return n
}

// someObjects makes a heap of a space, now and then with threads in it.
func (b *builder) someObjects(w world) []impl.ObjectState {
	classes := slices.DeleteFunc(slices.Clone(w.names), func(name string) bool {
		return !w.mayBe("@"+name) || w.isAbove(name, "Thread") && b.below(12) > 0
	})
	own := slices.DeleteFunc(slices.Clone(classes), func(name string) bool { return len(name) > 1 })
	out := []impl.ObjectState{}
	for range b.below(14) {
		typ := "@" + b.pick(classes...)
		switch pick := b.below(10); {
		case pick < 5 && len(own) > 0:
			typ = "@" + b.pick(own...)
		case pick == 6:
			typ = "@String"
		case pick > 6:
			typ = "[" + b.fieldType()
		}
		out = append(out, impl.ObjectState{Type: typ})
	}
	for k := range out {
		b.fill(w, out, &out[k])
	}
	return out
}

func (b *builder) fill(w world, objects []impl.ObjectState, o *impl.ObjectState) {
	if o.Type == "@String" {
		o.Text = b.pick("", "x", "text", "\x00\xff", "a b\n", strings.Repeat("y", 63+b.below(3)), strings.Repeat("z", 200))
		return
	}
	if o.Type[0] == '[' {
		o.Values = make([]impl.Value, b.below(5))
	} else {
		o.Values = make([]impl.Value, len(w.layout(o.Type[1:])))
	}
	types, _ := w.placesOf(*o)
	for k, typ := range types {
		o.Values[k] = zeroOf(typ)
		if o.Values[k].Kind != 4 {
			o.Values[k].N = b.numberOf(o.Values[k].Kind)
			continue
		}
		for range 6 {
			n := b.below(len(objects))
			if w.isA(objects[n].Type, typ, true) {
				o.Values[k].N = int64(n + 1)
			}
		}
	}
}
