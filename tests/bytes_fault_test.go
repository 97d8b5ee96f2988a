package tests

import (
	"bytes"
	"slices"
	"strings"
	"testing"

	"loop.example/g00032/impl"
)

// faulty says that bytes are at fault, with nothing beside the code and the place.
func faulty(t *testing.T, why string, b []byte, code, at int64) {
	t.Helper()
	got := impl.ReadBytes(b)
	if got.Code != code || got.At != at || !alike(got.Class, impl.Class{}) {
		t.Errorf("%s: %.80q (%d bytes) is read as %d at %d, not %d at %d; the class is %.60q", why, b, len(b), got.Code, got.At, code, at, got.Class.Name)
	}
}

func repeated(b byte, n int) []byte { return bytes.Repeat([]byte{b}, n) }

// smallFile is that of the class A below B; a fault stands in the place of a piece of it.
func smallFile() []byte { return laid("LRCH", 4, 2, "A", 2, "B", 0, 2, 0, 0, 0, 0, 0) }

func TestMagic(t *testing.T) {
	faulty(t, "nil", nil, impl.BytesMagic, 0)
	for k := range 4 {
		faulty(t, "a beginning", []byte("LRCH")[:k], impl.BytesMagic, 0)
		faulty(t, "the magic from there on", smallFile()[k+1:], impl.BytesMagic, 0)
		for n := range 256 {
			b := smallFile()
			if b[k] == byte(n) {
				continue
			}
			b[k] = byte(n)
			faulty(t, "a wrong byte", b, impl.BytesMagic, 0)
			faulty(t, "a wrong byte and no more", b[:4], impl.BytesMagic, 0)
		}
	}
	faulty(t, "a byte ahead", laid(0, smallFile()), impl.BytesMagic, 0)
	faulty(t, "small letters", laid("lrch", smallFile()[4:]), impl.BytesMagic, 0)
	faulty(t, "another kind of bytes", laid("LPAK", smallFile()[4:]), impl.BytesMagic, 0)
}

func TestMostBytes(t *testing.T) {
	many := append(smallFile(), make([]byte, impl.MaxFile)...)
	faulty(t, "MaxFile bytes", many[:impl.MaxFile], impl.BytesMore, int64(len(smallFile())))
	faulty(t, "one more", many[:impl.MaxFile+1], impl.BytesMagic, 0)
	faulty(t, "far more", append(many, many...), impl.BytesMagic, 0)
}

// Each beginning of a file ends within a number or a text, or where one lacks.
func TestBeginningsOfFiles(t *testing.T) {
	t.Parallel()
	b := builder{numbers{state: 31}}
	classes := append(impl.Boot(), richClass(), fullClass(), classOfIns(impl.Ins{Op: impl.OpConst, Kind: impl.KindLong, A: minLong}), classOfIns(impl.Ins{Op: impl.OpText, Text: strings.Repeat("x", 200)}))
	for range 20 {
		classes = append(classes, b.class())
	}
	for _, c := range classes {
		file, pieces := writeFile(c)
		pieces = slices.DeleteFunc(pieces, func(p piece) bool { return p.at == p.end })
		for _, p := range pieces {
			if p.at > 3000 && p.at < len(file)-300 {
				continue
			}
			for k := p.at; k < p.end; k++ {
				faulty(t, "a beginning", file[:k], impl.BytesShort, int64(p.at))
			}
		}
	}
}

func TestShortPieces(t *testing.T) {
	for _, c := range []struct {
		why  string
		file []byte
		at   int64
	}{
		{"nothing behind the magic", laid("LRCH"), 4},
		{"within the count of the pool", laid("LRCH", 128), 4},
		{"within a long count", laid("LRCH", repeated(255, 9)), 4},
		{"no text where one has to be", laid("LRCH", 2), 5},
		{"within the count of a text", laid("LRCH", 2, 130), 5},
		{"a text of one byte that lacks", laid("LRCH", 2, 2), 6},
		{"a text with a byte too few", laid("LRCH", 2, 10, "abcd"), 6},
		{"the first byte of two lacks", laid("LRCH", 2, 128, 1), 7},
		{"within a text with a count of two bytes", laid("LRCH", 2, 128, 1, strings.Repeat("x", 63)), 7},
		{"a second text", laid("LRCH", 4, 2, "A"), 7},
		{"a text longer than anything", laid("LRCH", 2, 254, repeated(255, 8), 1, "abc"), 15},
		{"a text with the rest as its bytes, and one more", laid("LRCH", 4, 2, "A", 20, "B", 0, 2, 0, 0, 0, 0, 0), 8},
		{"no body", laid("LRCH", 4, 2, "A", 2, "B"), 9},
		{"no body behind an empty pool", laid("LRCH", 0), 5},
		{"no body behind an empty text", laid("LRCH", 2, 0), 6},
		{"no super", smallFile()[:10], 10},
		{"no count of methods", smallFile()[:15], 15},
		{"one method that lacks", laid(smallFile()[:15], 2), 16},
		{"the most methods that lack", laid(smallFile()[:15], 254, repeated(255, 8), 1), 25},
		{"within a field's flags", laid(smallFile()[:14], 2, 0, 2, 128), 17},
		{"flags of the class", laid(smallFile()[:12], 255, 255), 12},
	} {
		faulty(t, c.why, c.file, impl.BytesShort, c.at)
	}
}

// wrongNumbers are no numbers, whatever comes behind them.
func wrongNumbers() map[string][]byte {
	return map[string][]byte{
		"0 with a needless byte":           {128, 0},
		"1 with a needless byte":           {130, 0},
		"-1 with a needless byte":          {129, 0},
		"63 with a needless byte":          {254, 0},
		"64 with a needless byte":          {128, 129, 0},
		"0 with two needless bytes":        {128, 128, 0},
		"ten bytes, the last needless":     append(repeated(128, 9), 0),
		"ten bytes of 255, and a needless": append(repeated(255, 9), 0),
		"a tenth of 2":                     append(repeated(128, 9), 2),
		"a tenth of 3":                     append(repeated(255, 9), 3),
		"a tenth of 127":                   append(repeated(129, 9), 127),
		"eleven bytes":                     append(repeated(128, 10), 1),
		"eleven bytes, the tenth of 129":   append(append(repeated(128, 9), 129), 0),
		"eleven bytes of 255":              append(repeated(255, 10), 1),
		"twelve bytes":                     append(repeated(128, 11), 1),
		"thirty bytes":                     append(repeated(255, 30), 1),
	}
}

// In the place of each number of a file stands one that is none; of each count also one below 0.
func TestWrongNumbers(t *testing.T) {
	for _, c := range []impl.Class{{Name: "A", Super: "B"}, richClass(), classOfIns(impl.Ins{Op: impl.OpSwitch, A: 1, B: -1, Table: []int64{2, 3}})} {
		file, pieces := writeFile(c)
		met := map[byte]int{}
		for _, p := range pieces {
			if p.what == aText {
				continue
			}
			met[p.what]++
			for why, b := range wrongNumbers() {
				faulty(t, why, laid(file[:p.at], b, file[p.end:]), impl.BytesNumber, int64(p.at))
				faulty(t, why+" at the end", laid(file[:p.at], b), impl.BytesNumber, int64(p.at))
			}
			for _, n := range []int64{-1, -2, -64, -65, minInt, minLong, minLong + 1} {
				b := laid(file[:p.at], numberBytes(n), file[p.end:])
				if p.isCount() {
					faulty(t, "a count below 0", b, impl.BytesNumber, int64(p.at))
					faulty(t, "a count below 0 at the end", b[:p.at+len(numberBytes(n))], impl.BytesNumber, int64(p.at))
					continue
				}
				testFile(t, b)
				if got := impl.ReadBytes(b); got.Code == impl.BytesNumber && got.At == int64(p.at) {
					t.Errorf("%d is at fault as a number", n)
				}
			}
		}
		if met[aCount] == 0 || met[aSize] == 0 || met[aPlace] == 0 || met[aNumber] == 0 {
			t.Errorf("%v", met)
		}
	}
}

// The tenth byte tells by itself that it is wrong, also where the bytes end behind it.
func TestTenthByteAtTheEnd(t *testing.T) {
	faulty(t, "ten bytes that go on", laid("LRCH", repeated(128, 10)), impl.BytesNumber, 4)
	faulty(t, "ten bytes of 255", laid("LRCH", repeated(255, 10)), impl.BytesNumber, 4)
	faulty(t, "nine bytes that go on", laid("LRCH", repeated(128, 9)), impl.BytesShort, 4)
}

// The greatest number and the least one are numbers: as a count of the pool the first is too many texts, the second below 0.
func TestNumbersAtTheBounds(t *testing.T) {
	faulty(t, "the greatest count", laid("LRCH", 254, repeated(255, 8), 1), impl.BytesShort, 14)
	faulty(t, "the least number as a count", laid("LRCH", 255, repeated(255, 8), 1), impl.BytesNumber, 4)
	flags := func(b ...any) []byte { return laid("LRCH", 4, 2, "A", 2, "B", 0, 2, 0, laid(b...), 0, 0, 0) }
	faulty(t, "the greatest number as flags", flags(254, repeated(255, 8), 1), impl.BytesClass, 0)
	faulty(t, "the least number as flags", flags(255, repeated(255, 8), 1), impl.BytesClass, 0)
	faulty(t, "-1 as flags", flags(1), impl.BytesClass, 0)
	faulty(t, "a tenth above 1 as flags", flags(254, repeated(255, 8), 2), impl.BytesNumber, 12)
}

// A text's place is one of the pool's: the first that is not, and far greater ones.
func TestPlacesOutsideThePool(t *testing.T) {
	for _, c := range []impl.Class{{Name: "A", Super: "B"}, richClass(), classOfIns(impl.Ins{Op: impl.OpCall, B: 2, Class: "A", Name: "m", Type: "(I)I"})} {
		file, pieces := writeFile(c)
		texts := int64(len(slices.DeleteFunc(slices.Clone(pieces), func(p piece) bool { return p.what != aText })))
		met := 0
		for _, p := range pieces {
			if p.what != aPlace {
				continue
			}
			met++
			for _, n := range []int64{texts, texts + 1, 1000, maxInt + 1, maxLong} {
				b := laid(file[:p.at], numberBytes(n), file[p.end:])
				faulty(t, "a place", b, impl.BytesPool, int64(p.at))
				faulty(t, "a place at the end", b[:p.at+len(numberBytes(n))], impl.BytesPool, int64(p.at))
			}
			last := laid(file[:p.at], numberBytes(texts-1), file[p.end:])
			if code := testFile(t, last); code == impl.BytesPool {
				t.Error("the last place of the pool is not in it")
			}
		}
		if met < 2 {
			t.Errorf("%s has %d places", c.Name, met)
		}
	}
	faulty(t, "an empty pool", laid("LRCH", 0, 0), impl.BytesPool, 5)
	faulty(t, "an empty pool and a whole body", laid("LRCH", 0, 0, 0, 0, 0, 0, 0, 0), impl.BytesPool, 5)
	faulty(t, "a pool of one", laid("LRCH", 2, 2, "A", 0, 2, 0, 0, 0, 0, 0), impl.BytesPool, 8)
}

func TestBytesBehindTheBody(t *testing.T) {
	for _, c := range []impl.Class{{Name: "A", Super: "B"}, richClass(), impl.Boot()[0]} {
		file := impl.ClassBytes(c)
		at := int64(len(file))
		for n := range 256 {
			faulty(t, "one byte more", laid(file, n), impl.BytesMore, at)
		}
		faulty(t, "the file once more", laid(file, file), impl.BytesMore, at)
		faulty(t, "what is no number", laid(file, repeated(255, 20)), impl.BytesMore, at)
		faulty(t, "many noughts", laid(file, make([]byte, 1000)), impl.BytesMore, at)
	}
}

// Files that can be read of what is no class.
func TestFilesOfNoClass(t *testing.T) {
	for _, c := range []struct {
		why  string
		file []byte
	}{
		{"an empty name", laid("LRCH", 4, 0, 2, "B", 0, 2, 0, 0, 0, 0, 0)},
		{"an empty super", laid("LRCH", 4, 2, "A", 0, 0, 2, 0, 0, 0, 0, 0)},
		{"a name that is none", laid("LRCH", 4, 2, "1", 2, "B", 0, 2, 0, 0, 0, 0, 0)},
		{"a name of other bytes", laid("LRCH", 4, 2, 255, 2, "B", 0, 2, 0, 0, 0, 0, 0)},
		{"a name that is too long", laid("LRCH", 4, 82, longName(41), 2, "B", 0, 2, 0, 0, 0, 0, 0)},
		{"Object with a super", laid("LRCH", 4, 12, "Object", 2, "B", 0, 2, 0, 0, 0, 0, 0)},
		{"flags that are none", laid("LRCH", 4, 2, "A", 2, "B", 0, 2, 0, 2, 0, 0, 0)},
		{"sealed without permits", laid("LRCH", 4, 2, "A", 2, "B", 0, 2, 0, 128, 4, 0, 0, 0)},
		{"an interface twice", laid("LRCH", 4, 2, "A", 2, "B", 0, 2, 4, 0, 0, 0, 0, 0, 0)},
		{"permits out of order", laid("LRCH", 4, 2, "A", 2, "B", 0, 2, 0, 128, 4, 4, 2, 0, 0, 0)},
	} {
		faulty(t, c.why, c.file, impl.BytesClass, 0)
	}
	for _, change := range []func(*impl.Class){
		func(c *impl.Class) { c.Interfaces = manyNames(41) },
		func(c *impl.Class) { c.Permits = manyNames(41) },
		func(c *impl.Class) { c.Fields = slices.Repeat([]impl.Field{{Name: "a", Type: "I"}}, 2) },
		func(c *impl.Class) { c.Methods = slices.Repeat([]impl.Method{bare("m", "()V", impl.FlagNative)}, 2) },
		func(c *impl.Class) { c.Methods[3].Code = nil },
		func(c *impl.Class) { c.Methods[3].Code = pops(401) },
		func(c *impl.Class) { c.Methods[3].Code[3].Table = nil },
		func(c *impl.Class) { c.Methods[3].Code[3].Table = make([]int64, 101) },
		func(c *impl.Class) { c.Methods[3].Code[2].A = 1 << 40 },
		func(c *impl.Class) { c.Methods[3].Code[0].Text = strings.Repeat("x", 201) },
		func(c *impl.Class) { c.Methods[3].Handlers = slices.Repeat(c.Methods[3].Handlers, 7) },
		func(c *impl.Class) { c.Methods[3].Frames[1].At = 0 },
		func(c *impl.Class) { c.Methods[3].Frames[1].Locals = shapes(2, "I") },
		func(c *impl.Class) { c.Methods[3].Frames[1].Stack = shapes(41, "I") },
		func(c *impl.Class) { c.Methods[3].Frames[1].Stack = shapes(2, "!400") },
		func(c *impl.Class) { c.Methods[3].Lines[2].N = 1000001 },
		func(c *impl.Class) { c.Methods[3].Stack = 41 },
		func(c *impl.Class) { c.Methods[3].Locals = -3 },
	} {
		c := richClass()
		change(&c)
		file, _ := writeFile(c)
		faulty(t, "no class", file, impl.BytesClass, 0)
	}
}

// Of an Op that is none nothing stands in a file but it.
func TestOpsThatAreNoneInFiles(t *testing.T) {
	for _, op := range []int64{0, -1, -44, 45, 46, 64, 100, 300, minLong, maxLong, maxInt + 2, 1<<32 + 1} {
		faulty(t, "an op that is none", insFile(numberBytes(op)), impl.BytesClass, 0)
		faulty(t, "an op that is none, with a kind", insFile(laid(numberBytes(op), 2)), impl.BytesShort, int64(len(insFile(laid(numberBytes(op), 2)))))
	}
	// A number too many is read as the next op, so that the last pop is a count of handlers, which lack; one too few takes the next op.
	faulty(t, "pop with a kind", insFile(laid(14, 2)), impl.BytesShort, int64(len(insFile(laid(14, 2)))))
	faulty(t, "OpCmp without B", insFile(laid(46, 4)), impl.BytesShort, int64(len(insFile(laid(46, 4)))))
}

// The pool has the texts of the body, each once, in the order in which the body first has them.
func TestOtherPools(t *testing.T) {
	c := impl.Class{Name: "A", Super: "B"}
	for _, p := range []struct {
		why  string
		pool []string
	}{
		{"another order", []string{"B", "A"}},
		{"one ahead that the body has not", []string{"C"}},
		{"an empty one ahead", []string{""}},
		{"one behind", []string{"A", "B", "C"}},
		{"an empty one behind", []string{"A", "B", ""}},
		{"one between", []string{"A", "C", "B"}},
		{"one twice", []string{"A", "A", "B"}},
		{"the last one twice", []string{"A", "B", "B"}},
		{"the first one again", []string{"A", "B", "A"}},
	} {
		file, _ := writeFile(c, p.pool...)
		faulty(t, p.why, file, impl.BytesClass, 0)
	}
	// The place of the second of two that are alike stands in the body.
	faulty(t, "alike, and both are used", laid("LRCH", 4, 2, "A", 2, "A", 0, 2, 0, 0, 0, 0, 0), impl.BytesClass, 0)
	rich := richClass()
	file, _ := writeFile(rich, "Base", "R.one$")
	faulty(t, "the first two have changed places", file, impl.BytesClass, 0)
	file, _ = writeFile(rich, "R.one$", "Base", "start")
	faulty(t, "the last one comes early", file, impl.BytesClass, 0)
}

// Where there are several faults the first from the front counts.
func TestSeveralFaults(t *testing.T) {
	for _, c := range []struct {
		why  string
		file []byte
		code int64
		at   int64
	}{
		{"the magic ahead of all", laid("LRCI", 128, 0), impl.BytesMagic, 0},
		{"too many bytes, and wrong ones", laid("LRCH", repeated(255, impl.MaxFile)), impl.BytesMagic, 0},
		{"a needless byte, then the end", laid("LRCH", 128, 0), impl.BytesNumber, 4},
		{"a needless byte within what is a count below 0", laid("LRCH", 129, 0), impl.BytesNumber, 4},
		{"two wrong numbers", laid("LRCH", 2, 128, 0, 128, 0), impl.BytesNumber, 5},
		{"a text that is too short ahead of a wrong number in it", laid("LRCH", 2, 20, 128, 0), impl.BytesShort, 6},
		{"a count below 0, then the end", laid("LRCH", 1), impl.BytesNumber, 4},
		{"a count that would be below 0 is not whole", laid("LRCH", 129), impl.BytesShort, 4},
		{"a place that is below 0 is a wrong number", laid("LRCH", 0, 1), impl.BytesNumber, 5},
		{"a place outside with a needless byte is a wrong number", laid("LRCH", 2, 2, "A", 136, 0), impl.BytesNumber, 7},
		{"a place outside that is not whole", laid("LRCH", 2, 2, "A", 136), impl.BytesShort, 7},
		{"a place outside, then the end", laid("LRCH", 2, 2, "A", 8), impl.BytesPool, 7},
		{"a place outside, then a wrong number", laid("LRCH", 2, 2, "A", 8, 128, 0), impl.BytesPool, 7},
		{"a wrong number, then a place outside", laid("LRCH", 4, 2, "A", 2, "B", 128, 0, 90), impl.BytesNumber, 9},
		{"two places outside", laid("LRCH", 4, 2, "A", 2, "B", 0, 90, 2, 90), impl.BytesPool, 10},
		{"no class, and a wrong number behind its name", laid("LRCH", 4, 2, "1", 2, "B", 0, 2, 1), impl.BytesNumber, 11},
		{"no class, and a place outside", laid("LRCH", 4, 2, "1", 2, "B", 0, 4), impl.BytesPool, 10},
		{"no class, and the end", laid("LRCH", 4, 2, "1", 2, "B", 0, 2, 0), impl.BytesShort, 12},
		{"no class, and more", laid("LRCH", 4, 2, "1", 2, "B", 0, 2, 0, 0, 0, 0, 0, 9), impl.BytesMore, 16},
		{"another pool, and more", laid("LRCH", 4, 2, "B", 2, "A", 2, 0, 0, 0, 0, 0, 0, 128), impl.BytesMore, 16},
		{"a pool of many texts takes the body for them", laid("LRCH", 40, 2, "A", 2, "B", 0, 2, 0, 0, 0, 0, 0), impl.BytesShort, 16},
		{"a pool of no texts takes them for the body", laid("LRCH", 0, 2, "A", 2, "B"), impl.BytesPool, 5},
	} {
		faulty(t, c.why, c.file, c.code, c.at)
		testFile(t, c.file)
	}
}

// Two faults made in one file: the one that begins first counts.
func TestTwoFaultsInOneFile(t *testing.T) {
	file, pieces := writeFile(richClass())
	b := builder{numbers{state: 41}}
	wrong := [][]byte{{128, 0}, append(repeated(255, 9), 2), append(repeated(128, 10), 1)}
	for range 2000 {
		first, second := b.below(len(pieces)), b.below(len(pieces))
		if first == second || pieces[first].what == aText || pieces[second].what == aText {
			continue
		}
		p, q := pieces[min(first, second)], pieces[max(first, second)]
		broken := laid(file[:p.at], wrong[b.below(3)], file[p.end:q.at], wrong[b.below(3)], file[q.end:])
		faulty(t, "two wrong numbers", broken, impl.BytesNumber, int64(p.at))
		faulty(t, "a wrong number and an end", laid(file[:p.at], wrong[b.below(3)], file[p.end:q.at]), impl.BytesNumber, int64(p.at))
	}
}
