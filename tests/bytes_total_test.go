package tests

import (
	"bytes"
	"reflect"
	"runtime"
	"slices"
	"strings"
	"testing"

	"loop.example/g00032/impl"
)

// Every function of chapter 4 answers at every argument: a panic, or one that never ends, fails the run.

func oddFiles() [][]byte {
	out := [][]byte{nil, {}}
	for _, s := range append(insTexts(), "\x00", "\xff\xfe", "LRCH", "LRC", "lrch", "LRCHLRCH") {
		out = append(out, []byte(s), laid("LRCH", s))
	}
	small := smallFile()
	for n := range 256 {
		for _, size := range []int{1, 2, 9, 10, 11, 100, impl.MaxFile - 100, impl.MaxFile, impl.MaxFile + 1} {
			if size > 1000 && n > 10 && n%32 != 0 && n%31 != 0 {
				continue
			}
			rest := repeated(byte(n), size)
			out = append(out, rest, laid("LRCH", rest), laid(small[:15], rest), laid(small[:15], 2, 0, 2, 0, 0, 0, rest))
		}
	}
	return out
}

func TestReadBytesAnswersEverywhere(t *testing.T) {
	b := builder{numbers{state: 51}}
	files := oddFiles()
	for range 2000 {
		odd := make([]byte, b.below(60))
		for k := range odd {
			odd[k] = byte(b.next() >> b.below(8))
		}
		files = append(files, odd, laid("LRCH", odd), laid("LRCH", 4, 2, "A", 2, "B", odd))
	}
	for _, file := range files {
		got := impl.ReadBytes(file)
		size := int64(len(file))
		switch got.Code {
		case impl.BytesOk:
			if got.At != 0 || !impl.ClassOk(got.Class) || !bytes.Equal(impl.ClassBytes(got.Class), file) {
				t.Errorf("%.60q is read as a class of which it is not the file", file)
			}
			continue
		case impl.BytesMagic, impl.BytesClass:
			if got.At != 0 {
				t.Errorf("%.60q: %d at %d", file, got.Code, got.At)
			}
		case impl.BytesShort, impl.BytesNumber, impl.BytesPool, impl.BytesMore:
			if got.At < 4 || got.At > size || got.At == size && got.Code != impl.BytesShort {
				t.Errorf("%.60q, of %d bytes: %d at %d", file, size, got.Code, got.At)
			}
		default:
			t.Errorf("%.60q: code %d", file, got.Code)
		}
		if !alike(got.Class, impl.Class{}) {
			t.Errorf("%.60q: a class beside %d", file, got.Code)
		}
		if magic := len(file) > impl.MaxFile || !bytes.HasPrefix(file, []byte("LRCH")); magic != (got.Code == impl.BytesMagic) {
			t.Errorf("%.60q, of %d bytes: code %d", file, size, got.Code)
		}
	}
}

// The rest of a file, whole, where something else has to stand.
func TestMovedFiles(t *testing.T) {
	file := impl.ClassBytes(richClass())
	for k := 4; k < len(file); k++ {
		testFile(t, laid("LRCH", file[k:]))
		testFile(t, laid(file[:k], file[4:]))
		testFile(t, laid(file[:k], "LRCH"))
	}
}

// taken is how many bytes of memory a call asks for.
func taken(call func()) uint64 {
	var before, after runtime.MemStats
	runtime.ReadMemStats(&before)
	call()
	runtime.ReadMemStats(&after)
	return after.TotalAlloc - before.TotalAlloc
}

// Counts that are far greater than what is left ask for no memory of their size.
func TestGreatCounts(t *testing.T) {
	file, pieces := writeFile(richClass())
	for _, p := range pieces {
		if p.what != aCount && p.what != aSize {
			continue
		}
		for _, n := range []int64{10000, 1 << 31, 1 << 40, 1 << 62, maxLong} {
			for _, b := range [][]byte{laid(file[:p.at], numberBytes(n)), laid(file[:p.at], numberBytes(n), file[p.end:])} {
				got := impl.Read{}
				if room := taken(func() { got = impl.ReadBytes(b) }); room > 1<<20 {
					t.Errorf("a count of %d at %d asks for %d bytes", n, p.at, room)
				}
				if got.Code == impl.BytesOk || got.Code == impl.BytesClass {
					t.Errorf("a count of %d at %d: %d", n, p.at, got.Code)
				}
				testFile(t, b)
			}
		}
		faulty(t, "a great count at the end", laid(file[:p.at], numberBytes(maxLong)), impl.BytesShort, int64(p.at+10))
	}
}

// As many of each as the most bytes have room for.
func TestLongLists(t *testing.T) {
	small := smallFile()
	zeros := func(head ...any) []byte {
		b := laid(head...)
		return append(b, make([]byte, impl.MaxFile-len(b))...)
	}
	count := numberBytes(maxLong)
	method := laid(small[:15], 2, 0, 2, 0, 0, 0)
	for why, b := range map[string][]byte{
		"texts":        zeros("LRCH", count),
		"interfaces":   zeros(small[:11], count),
		"permits":      zeros(small[:13], count),
		"fields":       zeros(small[:14], count),
		"methods":      zeros(small[:15], count),
		"instructions": zeros(method, count),
		"a table":      zeros(method, 2, 60, 0, 0, count),
		"handlers":     zeros(method, 0, count),
		"frames":       zeros(method, 0, 0, count),
		"locals":       zeros(method, 0, 0, 2, 0, count),
		"stack":        zeros(method, 0, 0, 2, 0, 0, count),
		"lines":        zeros(method, 0, 0, 0, count),
		"a text":       zeros("LRCH", 2, count),
	} {
		got := impl.ReadBytes(b)
		if got.Code != impl.BytesShort || got.At != int64(len(b)) && why != "a text" {
			t.Errorf("%s: %d at %d", why, got.Code, got.At)
		}
	}
	// One text of nearly all bytes, which the body names again and again.
	long := strings.Repeat("[", 150000)
	body := laid(0, 0, numberBytes(40000), make([]byte, 40000), 0, 0, 0, 0)
	faulty(t, "a long text again and again", laid("LRCH", 2, numberBytes(int64(len(long))), long, body), impl.BytesClass, 0)
}

func TestClassBytesAnswersEverywhere(t *testing.T) {
	for _, n := range extremes() {
		for _, s := range []string{"", "A", "I", "()V", "new", "start", "Object", "|", "-", "\n", "\xff", strings.Repeat("[", 100000)} {
			c := richClass()
			spread(reflect.ValueOf(&c).Elem(), n, s)
			if got := impl.ClassBytes(c); len(got) != 0 {
				t.Errorf("a class of %d and %.20q alone has a file: %.60q", n, s, got)
			}
		}
	}
	many := 1 << 18
	for _, c := range []impl.Class{
		{}, {Name: "A", Super: "B", Interfaces: make([]string, many)}, {Name: "A", Super: "B", Fields: make([]impl.Field, many)}, {Name: "A", Super: "B", Methods: make([]impl.Method, many)},
		{Name: "A", Super: "B", Methods: []impl.Method{{Name: "m", Sig: "()V", Flags: 1, Code: pops(many)}}},
	} {
		if got := impl.ClassBytes(c); len(got) != 0 {
			t.Errorf("%.60q is a file", got)
		}
	}
	empty := impl.Class{Name: "A", Super: "B", Interfaces: []string{}, Permits: []string{}, Fields: []impl.Field{}, Methods: []impl.Method{{Name: "A", Sig: "()V", Flags: impl.FlagNative, Code: []impl.Ins{}, Handlers: []impl.Handler{}, Frames: []impl.Frame{}, Lines: []impl.Line{}}}}
	lies(t, empty, laid("LRCH", 6, 2, "A", 2, "B", 6, "()V", 0, 2, 0, 0, 0, 0, 2, 0, 4, 128, 1, 0, 0, 0, 0, 0, 0))
}

// The greatest class has a file, too, of far more bytes than are read.
func TestFileOfTheGreatestClass(t *testing.T) {
	t.Parallel()
	c := impl.Class{Name: "A", Super: "B"}
	for _, name := range manyNames(impl.MaxMany) {
		m := impl.Method{Name: name, Sig: "()V", Flags: impl.FlagStatic, Stack: impl.MaxStack, Locals: impl.MaxLocals, Code: pops(impl.MaxCode)}
		for k := range impl.MaxCode {
			m.Frames = append(m.Frames, impl.Frame{At: int64(k), Locals: shapes(impl.MaxLocals, "I"), Stack: shapes(impl.MaxStack, "@"+name)})
		}
		c.Methods = append(c.Methods, m)
	}
	file := impl.ClassBytes(c)
	if want, _ := writeFile(c); !bytes.Equal(file, want) {
		t.Errorf("the greatest class has %d bytes, not %d", len(file), len(want))
	}
	faulty(t, "the greatest class", file, impl.BytesMagic, 0)
}

func TestBytesArgumentsStay(t *testing.T) {
	for _, base := range append(impl.Boot(), richClass(), plainInterface(), impl.Class{Name: "1"}) {
		v := roomy(reflect.ValueOf(base))
		before := full(v)
		impl.ClassBytes(v.Interface().(impl.Class))
		if !reflect.DeepEqual(before, full(v)) {
			t.Errorf("%s is not as it was", base.Name)
		}
	}
	files := append(oddFiles()[:50], impl.ClassBytes(richClass()), impl.ClassBytes(richClass())[:100], laid(smallFile(), 9))
	for _, file := range files {
		whole := append(slices.Clone(file), "spare room behind"...)
		before := slices.Clone(whole)
		impl.ReadBytes(whole[:len(file)])
		if !bytes.Equal(whole, before) {
			t.Errorf("%.60q is not as it was", file)
		}
	}
}

// What lies behind the bytes that are told, in their spare room, is not read.
func TestSpareRoomIsNotRead(t *testing.T) {
	file := impl.ClassBytes(richClass())
	for k := range file {
		got, want := impl.ReadBytes(file[:k]), impl.ReadBytes(slices.Clip(slices.Clone(file[:k])))
		if got.Code != want.Code || got.At != want.At {
			t.Errorf("%d bytes with more behind are read as %d at %d", k, got.Code, got.At)
		}
	}
}

// No two lists of one answer share memory, nor of two answers, nor an answer and an argument.
func TestFilesShareNothing(t *testing.T) {
	b := builder{numbers{state: 61}}
	classes := append(impl.Boot(), richClass())
	for range 20 {
		classes = append(classes, b.class())
	}
	for _, c := range classes {
		one, two := impl.ClassBytes(c), impl.ClassBytes(c)
		want := slices.Clone(two)
		clear(one[:cap(one)])
		if !bytes.Equal(two, want) || !bytes.Equal(impl.ClassBytes(c), want) {
			t.Errorf("%s: a file is to be seen in another", c.Name)
		}
		first, second := impl.ReadBytes(two), impl.ReadBytes(two)
		all := append(stretches(reflect.ValueOf(first)), stretches(reflect.ValueOf(second))...)
		all = append(all, stretches(reflect.ValueOf(two))...)
		for k, x := range all {
			for _, y := range all[:k] {
				if x.from < y.to && y.from < x.to {
					t.Errorf("%s: two lists share memory", c.Name)
				}
			}
		}
		clear(two[:cap(two)])
		if !alike(first.Class, c) {
			t.Errorf("%s: a class changes with its bytes", c.Name)
		}
		spoil(reflect.ValueOf(&first).Elem())
		if !alike(second.Class, c) {
			t.Errorf("%s: a class is to be seen in another", c.Name)
		}
	}
}

func TestBytesAnswersAreTheSameAgain(t *testing.T) {
	want := impl.ClassBytes(richClass())
	for range 50 {
		faulty(t, "short", want[:60], impl.BytesShort, impl.ReadBytes(want[:60]).At)
		faulty(t, "more", laid(want, 0), impl.BytesMore, int64(len(want)))
		lies(t, impl.Class{Name: "A", Super: "B"}, smallFile())
		lies(t, richClass(), want)
	}
}
