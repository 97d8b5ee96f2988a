package tests

import (
	"bytes"
	"math/big"
	"reflect"
	"slices"
	"testing"

	"loop.example/g00032/impl"
)

// Files worked out once more, from the words of chapter 4: the fields of the structs stand in the order of the file, so a look at the types goes through all of it.

// partsOfOp are the fields of an instruction that its Op has in a file.
func partsOfOp(op int64) []string {
	switch op {
	case 1, 24, 4, 5:
		return []string{"Kind", "A"}
	case 2:
		return []string{"Text"}
	case 6, 26, 27, 28, 29:
		return []string{"A", "B"}
	case 25:
		return []string{"A"}
	case 11, 12, 13, 14, 15, 16, 17, 18, 19, 20, 21, 22, 37, 38, 44:
		return []string{"Kind"}
	case 23:
		return []string{"Kind", "B"}
	case 30:
		return []string{"A", "B", "Table"}
	case 31, 32, 33:
		return []string{"B", "Class", "Name", "Type"}
	case 34:
		return []string{"Class"}
	case 35, 39, 40:
		return []string{"Type"}
	}
	return nil
}

// numberBytes divides the doubled number by 128 until nothing is left.
func numberBytes(n int64) []byte {
	u := new(big.Int).Mul(big.NewInt(n), big.NewInt(2))
	if n < 0 {
		u.Neg(u).Sub(u, big.NewInt(1))
	}
	out := []byte{}
	for {
		group := new(big.Int)
		u.DivMod(u, big.NewInt(128), group)
		if u.Sign() == 0 {
			return append(out, byte(group.Int64()))
		}
		out = append(out, byte(group.Int64())+128)
	}
}

// A piece is a number or a text of a file.
type piece struct {
	at, end int
	what    byte
}

const (
	aNumber = 'n'
	aCount  = 'c'
	aSize   = 's'
	aPlace  = 'p'
	aText   = 't'
)

func (p piece) isCount() bool { return p.what == aCount || p.what == aSize || p.what == aPlace }

type fileWriter struct {
	out    []byte
	pieces []piece
	pool   []string
}

func (w *fileWriter) add(what byte, b []byte) {
	w.pieces = append(w.pieces, piece{len(w.out), len(w.out) + len(b), what})
	w.out = append(w.out, b...)
}

func (w *fileWriter) value(v reflect.Value) {
	switch v.Kind() {
	case reflect.Int64:
		w.add(aNumber, numberBytes(v.Int()))
	case reflect.String:
		place := slices.Index(w.pool, v.String())
		if place < 0 {
			place = len(w.pool)
			w.pool = append(w.pool, v.String())
		}
		w.add(aPlace, numberBytes(int64(place)))
	case reflect.Slice:
		w.add(aCount, numberBytes(int64(v.Len())))
		for k := range v.Len() {
			w.value(v.Index(k))
		}
	case reflect.Struct:
		eachPart(v, w.value)
	}
}

// eachPart visits the fields that stand in a file, in their order; those of an instruction hang on its Op, which is visited first.
func eachPart(v reflect.Value, visit func(reflect.Value)) {
	for k := range v.NumField() {
		if name := v.Type().Field(k).Name; v.Type() != reflect.TypeFor[impl.Ins]() || name == "Op" || slices.Contains(partsOfOp(v.FieldByName("Op").Int()), name) {
			visit(v.Field(k))
		}
	}
}

// writeFile gives the file of a class, be it right or not, with the pieces behind LRCH; a pool that is told stands ahead of what is missing in it.
func writeFile(c impl.Class, pool ...string) ([]byte, []piece) {
	body := fileWriter{pool: pool}
	body.value(reflect.ValueOf(c))
	head := fileWriter{out: []byte("LRCH")}
	head.add(aCount, numberBytes(int64(len(body.pool))))
	for _, s := range body.pool {
		head.add(aSize, numberBytes(int64(len(s))))
		head.add(aText, []byte(s))
	}
	start := len(head.out)
	for _, p := range body.pieces {
		head.pieces = append(head.pieces, piece{p.at + start, p.end + start, p.what})
	}
	return append(head.out, body.out...), head.pieces
}

// A fault is what ends the oracle's reading.
type fault struct{ code, at int64 }

type fileReader struct {
	b    []byte
	at   int
	pool []string
}

func (r *fileReader) number() int64 {
	end := r.at
	for end < len(r.b) && r.b[end] >= 128 && end < r.at+9 {
		end++
	}
	if end == len(r.b) {
		panic(fault{impl.BytesShort, int64(r.at)})
	}
	last, length := r.b[end], end-r.at+1
	if length > 1 && last == 0 || length == 10 && last > 1 {
		panic(fault{impl.BytesNumber, int64(r.at)})
	}
	u := new(big.Int)
	for k := end; k >= r.at; k-- {
		u.Mul(u, big.NewInt(128)).Add(u, big.NewInt(int64(r.b[k]%128)))
	}
	r.at = end + 1
	if u.Bit(0) == 1 {
		u.Add(u, big.NewInt(1)).Neg(u)
	}
	return u.Quo(u, big.NewInt(2)).Int64()
}

func (r *fileReader) count() int64 {
	from := r.at
	n := r.number()
	if n < 0 {
		panic(fault{impl.BytesNumber, int64(from)})
	}
	return n
}

func (r *fileReader) readPool() {
	for n := r.count(); n > 0; n-- {
		size := r.count()
		if size > int64(len(r.b)-r.at) {
			panic(fault{impl.BytesShort, int64(r.at)})
		}
		r.pool = append(r.pool, string(r.b[r.at:r.at+int(size)]))
		r.at += int(size)
	}
}

func (r *fileReader) value(v reflect.Value) {
	switch v.Kind() {
	case reflect.Int64:
		v.SetInt(r.number())
	case reflect.String:
		from := r.at
		place := r.count()
		if place >= int64(len(r.pool)) {
			panic(fault{impl.BytesPool, int64(from)})
		}
		v.SetString(r.pool[place])
	case reflect.Slice:
		for n := r.count(); n > 0; n-- {
			x := reflect.New(v.Type().Elem()).Elem()
			r.value(x)
			v.Set(reflect.Append(v, x))
		}
	case reflect.Struct:
		eachPart(v, r.value)
	}
}

func readFile(b []byte) (out impl.Read) {
	defer func() {
		if f, ok := recover().(fault); ok {
			out = impl.Read{Code: f.code, At: f.at}
		}
	}()
	if len(b) > 200000 || len(b) < 4 || string(b[:4]) != "LRCH" {
		panic(fault{impl.BytesMagic, 0})
	}
	r := &fileReader{b: b, at: 4}
	r.readPool()
	c := impl.Class{}
	r.value(reflect.ValueOf(&c).Elem())
	if r.at < len(b) {
		panic(fault{impl.BytesMore, int64(r.at)})
	}
	if !impl.ClassOk(c) {
		panic(fault{impl.BytesClass, 0})
	}
	if form, _ := writeFile(c); !bytes.Equal(form, b) {
		panic(fault{impl.BytesClass, 0})
	}
	return impl.Read{Class: c}
}

// testFile holds what the program reads against the oracle, and gives the code.
func testFile(t *testing.T, b []byte) int64 {
	t.Helper()
	got, want := impl.ReadBytes(b), readFile(b)
	if got.Code != want.Code || got.At != want.At || !alike(got.Class, want.Class) {
		t.Errorf("%.300q (%d bytes) is read as %d at %d, not %d at %d", b, len(b), got.Code, got.At, want.Code, want.At)
	}
	if got.Code == impl.BytesOk && !bytes.Equal(impl.ClassBytes(got.Class), b) {
		t.Errorf("%.300q is not the file of what is read", b)
	}
	return got.Code
}

// changedFile is a file with something else here or there.
func (b *builder) changedFile(file []byte) []byte {
	out := slices.Clone(file)
	for range 1 + b.below(2) {
		at := 4 + b.below(max(1, len(out)-3))
		if b.below(40) == 0 {
			at = b.below(4)
		}
		at = min(at, len(out))
		to := min(len(out), at+1+b.below(4))
		odd := [][]byte{{0}, {1}, {2}, {4}, {127}, {128}, {129}, {255}, {128, 0}, {128, 1}, {byte(b.next())}, numberBytes(b.next()), numberBytes(minLong), numberBytes(maxLong), bytes.Repeat([]byte{128}, 9), bytes.Repeat([]byte{255}, 10), append(bytes.Repeat([]byte{128}, 9), 2)}[b.below(17)]
		switch b.below(6) {
		case 0:
			out = out[:at]
		case 1:
			out = slices.Delete(out, at, to)
		case 2:
			out = slices.Insert(out, at, odd...)
		case 3:
			out = slices.Replace(out, at, min(at+1, len(out)), odd...)
		case 4:
			out = slices.Insert(out, at, slices.Clone(out[at:to])...)
		case 5:
			if at < len(out) {
				out[at] += byte(1 + b.below(3)*125)
			}
		}
	}
	return out
}

// Files that were changed are read as the oracle reads them; every code comes about, of most many times.
func TestChangedFiles(t *testing.T) {
	t.Parallel()
	b := builder{numbers{state: 21}}
	met := map[int64]int{}
	for range 4000 {
		c := b.class()
		if b.below(8) == 0 {
			c = richClass()
		}
		file, _ := writeFile(c)
		if testFile(t, file) != impl.BytesOk {
			t.Fatalf("%+v does not come back", c)
		}
		for range 10 {
			met[testFile(t, b.changedFile(file))]++
		}
	}
	for code, least := range []int{20, 100, 2000, 2000, 2000, 500, 2000} {
		if met[int64(code)] < least {
			t.Errorf("code %d comes about %d times alone", code, met[int64(code)])
		}
	}
}

// One byte of a file after the other, as each other that it can be (of a long file: some of them).
func TestEachByteOfAFile(t *testing.T) {
	t.Parallel()
	for _, c := range []impl.Class{richClass(), impl.Boot()[0], {Name: "A", Super: "A"}} {
		file, _ := writeFile(c)
		step := 1
		if len(file) > 50 {
			step = 9
		}
		for at := range file {
			for n := at % step; n < 256; n += step {
				changed := slices.Clone(file)
				changed[at] = byte(n)
				testFile(t, changed)
			}
			testFile(t, slices.Delete(slices.Clone(file), at, at+1))
		}
	}
}
