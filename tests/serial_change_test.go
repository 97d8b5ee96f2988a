package tests

import (
	"slices"
	"testing"

	"loop.example/g00032/impl"
)

// Bytes that were changed are read as the oracle reads them; every code comes about many times.
func TestUnpackChangedBytes(t *testing.T) {
	t.Parallel()
	b := builder{numbers{state: 1211}}
	met := map[int64]int{}
	for k := range 500 {
		r := realmOf(b.heapSpace())
		objects := b.someObjects(r.world)
		if k%8 == 0 {
			r, objects = realmOf(packClasses()), fullHeap()
		}
		file := r.pack(objects, int64(b.below(len(objects)+1)))
		if len(file) == 0 {
			continue
		}
		for range 15 {
			met[r.testUnpack(t, b.changedFile(file))]++
		}
		// The same bytes to other classes.
		met[realmOf(b.space(b.below(2) == 0)).testUnpack(t, file)]++
	}
	for code, least := range map[int64]int{impl.BytesOk: 300, impl.BytesMagic: 50, impl.BytesShort: 300, impl.BytesNumber: 300, impl.BytesMore: 300, impl.PackPlace: 300, impl.PackType: 300, impl.PackField: 100, impl.PackValue: 15, impl.PackHeap: 100} {
		if met[code] < least {
			t.Errorf("code %d comes about %d times alone", code, met[code])
		}
	}
	if met[impl.BytesPool]+met[impl.BytesClass] > 0 {
		t.Errorf("%v", met)
	}
}

// One byte after the other, as each other that it can be.
func TestUnpackEachByte(t *testing.T) {
	t.Parallel()
	r := realmOf(packClasses())
	small, _ := r.writePack(heapOf("@A i1 >2", "@A i2 >1"), 1)
	full, _ := r.writePack(fullHeap(), 1)
	for _, file := range [][]byte{small, full} {
		step := 1 + len(file)/20
		for at := 4; at < len(file); at++ {
			for n := at % step; n < 256; n += step {
				changed := slices.Clone(file)
				changed[at] = byte(n)
				r.testUnpack(t, changed)
			}
			r.testUnpack(t, slices.Delete(slices.Clone(file), at, at+1))
			r.testUnpack(t, slices.Insert(slices.Clone(file), at, file[at]))
		}
	}
}

// otherFields gives the classes with fields more or less, and in another order.
func (b *builder) otherFields(cs []impl.Class) []impl.Class {
	out := slices.Clone(cs)
	for k := range out {
		if out[k].Flags&impl.FlagInterface != 0 {
			continue
		}
		fields := slices.DeleteFunc(slices.Clone(out[k].Fields), func(impl.Field) bool { return b.below(3) == 0 })
		for _, name := range []string{"u", "v"} {
			if b.below(3) == 0 {
				fields = slices.Insert(fields, b.below(len(fields)+1), impl.Field{Name: name, Type: b.fieldType()})
			}
		}
		if len(fields) > 1 && b.below(2) == 0 {
			fields[0], fields[len(fields)-1] = fields[len(fields)-1], fields[0]
		}
		for j := range fields {
			if b.below(12) == 0 {
				fields[j].Flags ^= impl.FlagStatic
			}
		}
		out[k].Fields = fields
	}
	return out
}

// To classes with fields more or less objects come with what both have; to those from which they were packed they come back.
func TestUnpackOtherFields(t *testing.T) {
	t.Parallel()
	b := builder{numbers{state: 1212}}
	kept, gone, fresh := 0, 0, 0
	for range 1000 {
		old := realmOf(b.heapSpace())
		objects := b.someObjects(old.world)
		file := impl.Pack(old.cs, objects, int64(b.below(len(objects)+1)))
		if len(file) == 0 {
			continue
		}
		before := impl.Unpack(old.cs, file)
		now := realmOf(b.otherFields(old.cs))
		after := impl.Unpack(now.cs, file)
		now.testUnpack(t, file)
		if after.Code != impl.BytesOk || after.Root != before.Root || len(after.Objects) != len(before.Objects) {
			t.Errorf("%.300q is read as %d at %d, with %d objects, not %d", file, after.Code, after.At, len(after.Objects), len(before.Objects))
			continue
		}
		for k, o := range after.Objects {
			was := before.Objects[k]
			if o.Type != was.Type || o.Text != was.Text {
				t.Errorf("%v was %v", o, was)
			}
			if o.Type[0] == '[' {
				same(t, "an array", o.Values, was.Values)
				continue
			}
			had, has := old.layout(o.Type[1:]), now.layout(o.Type[1:])
			for j, slot := range has {
				want := zeroOf(slot.Type)
				if at := slices.Index(had, slot); at >= 0 {
					want = was.Values[at]
					kept++
				} else {
					fresh++
				}
				same(t, slot.Class+"."+slot.Name, o.Values[j], want)
			}
			for _, slot := range had {
				if !slices.Contains(has, slot) {
					gone++
				}
			}
		}
	}
	if kept < 200 || gone < 200 || fresh < 200 {
		t.Errorf("%d fields are kept, %d gone, %d new", kept, gone, fresh)
	}
}

// What a run has made, and its snapshot tells, is a heap; from each of its objects on that leads to no thread it comes back.
func TestPackWhatRunsMake(t *testing.T) {
	t.Parallel()
	b := builder{numbers{state: 1213}}
	objects, packed := 0, 0
	for range 60 {
		cs := b.program()
		for _, steps := range []int64{50, 200, 1000} {
			s := impl.SnapshotAt(cs, "M", "main", "()I", nil, nil, steps)
			r := realmOf(cs)
			if !impl.HeapOk(cs, s.Objects) || !r.isHeap(s.Objects) {
				t.Errorf("what a run made is no heap: %v", s.Objects)
				continue
			}
			for root := range min(20, int64(len(s.Objects))) {
				objects++
				if len(r.testPack(t, s.Objects, root+1)) > 0 {
					packed++
				}
			}
		}
	}
	if packed < 500 || packed == objects {
		t.Errorf("of %d objects %d are packed", objects, packed)
	}
}
