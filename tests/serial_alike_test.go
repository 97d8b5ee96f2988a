package tests

import (
	"fmt"
	"slices"
	"testing"

	"loop.example/g00032/impl"
)

// graphs says whether two graphs are alike, asked both ways.
func graphs(t *testing.T, why string, want bool, a []impl.ObjectState, x int64, b []impl.ObjectState, y int64) {
	t.Helper()
	if impl.Alike(a, x, b, y) != want || impl.Alike(b, y, a, x) != want {
		t.Errorf("%s: %d of %.200q is like %d of %.200q: %v, %v", why, x, fmt.Sprint(a), y, fmt.Sprint(b), impl.Alike(a, x, b, y), impl.Alike(b, y, a, x))
	}
	if alikeOracle(a, x, b, y) != want {
		t.Errorf("%s: the oracle says of %d of %.200q and %d of %.200q: %v", why, x, fmt.Sprint(a), y, fmt.Sprint(b), !want)
	}
}

func TestAlikeNumbers(t *testing.T) {
	one, two := heapOf("@A"), heapOf("@A", "@A")
	graphs(t, "null and null", true, nil, 0, nil, 0)
	graphs(t, "null and null of lists", true, one, 0, two, 0)
	graphs(t, "null and an object", false, one, 0, two, 1)
	graphs(t, "null and an object without anything", false, nil, 0, make([]impl.ObjectState, 1), 1)
	graphs(t, "objects", true, one, 1, two, 2)
	graphs(t, "objects without anything", true, make([]impl.ObjectState, 1), 1, make([]impl.ObjectState, 2), 2)
	for _, n := range []int64{-1, -2, 2, 3, minLong, maxLong, 1 << 32, 1<<32 + 1} {
		graphs(t, "no number, and an object", false, one, n, one, 1)
		graphs(t, "no number, and null", false, one, n, one, 0)
		graphs(t, "no number twice", false, one, n, one, n)
		graphs(t, "no number of nothing", false, nil, n, nil, n)
		// The same within an object.
		bad := []impl.ObjectState{{Type: "@A", Values: []impl.Value{ref(n)}}}
		graphs(t, "a value that leads nowhere, twice", false, bad, 1, bad, 1)
		graphs(t, "a value that leads nowhere, and null", false, bad, 1, heapOf("@A >0"), 1)
		graphs(t, "a value that leads nowhere, not met", true, append(heapOf("@A"), bad...), 1, append(heapOf("@A"), bad...), 1)
	}
	graphs(t, "1 of nothing", false, nil, 1, nil, 1)
}

func TestAlikeObjects(t *testing.T) {
	base := "@A i1 j2 d3 >0"
	for _, other := range []string{"@B i1 j2 d3 >0", "@A i1 j2 d3", "@A i1 j2 d3 >0 >0", "@A i2 j2 d3 >0", "@A i1 j3 d3 >0", "@A i1 j2 d4 >0", "@A j1 j2 d3 >0", "@A i1 i2 d3 >0", "@A i1 j2 j3 >0", "@A i1 j2 d3 i0", "@A >0 i1 j2 d3", "@A i1 j2 d3 >1", "@A", " i1 j2 d3 >0", "@a i1 j2 d3 >0"} {
		graphs(t, "another object", false, heapOf(base), 1, heapOf(other), 1)
		// One step away, and two.
		graphs(t, "one away", false, heapOf("[@A >2", base), 1, heapOf("[@A >2", other), 1)
		graphs(t, "two away", false, heapOf("[@A >2", "[@A >0 >3", base), 1, heapOf("[@A >3", other, "[@A >0 >2"), 1)
		// Not to be met, it does not matter.
		graphs(t, "beside", true, heapOf(base, other), 1, heapOf(other, base), 2)
	}
	graphs(t, "the same", true, heapOf(base), 1, heapOf(base), 1)
	graphs(t, "texts", true, heapOf("@String x"), 1, heapOf("@String x"), 1)
	graphs(t, "other texts", false, heapOf("@String x"), 1, heapOf("@String y"), 1)
	graphs(t, "a longer text", false, heapOf("@String x"), 1, heapOf("@String xx"), 1)
	graphs(t, "a text and none", false, heapOf("@String x"), 1, heapOf("@String"), 1)
	graphs(t, "a text of what has none", false, []impl.ObjectState{{Type: "@A", Text: "x"}}, 1, []impl.ObjectState{{Type: "@A", Text: "y"}}, 1)
	// Floats by their bits: 0 and -0 are not the same N, nor are two that are no number.
	graphs(t, "0 and -0", false, []impl.ObjectState{{Values: []impl.Value{{Kind: 3}}}}, 1, []impl.ObjectState{{Values: []impl.Value{{Kind: 3, N: minLong}}}}, 1)
	graphs(t, "no numbers", false, []impl.ObjectState{{Values: []impl.Value{{Kind: 3, N: loud}}}}, 1, []impl.ObjectState{{Values: []impl.Value{{Kind: 3, N: impl.NaNBits}}}}, 1)
	// Kinds that are none have their N as well.
	for _, kind := range []int64{0, 5, -4, minLong, maxLong} {
		a, b := []impl.ObjectState{{Values: []impl.Value{{Kind: kind, N: 1}}}, {}}, []impl.ObjectState{{Values: []impl.Value{{Kind: kind, N: 2}}}, {}}
		graphs(t, "a kind that is none", true, a, 1, a, 1)
		graphs(t, "a kind that is none, another N", false, a, 1, b, 1)
		graphs(t, "a kind that is none, and a reference", false, a, 1, heapOf(" >1"), 1)
	}
	graphs(t, "nil and empty", true, []impl.ObjectState{{Type: "[I", Values: []impl.Value{}}}, 1, heapOf("[I"), 1)
}

func TestAlikeGraphs(t *testing.T) {
	ring := func(n int) []impl.ObjectState {
		out := []impl.ObjectState{}
		for k := range n {
			out = append(out, impl.ObjectState{Type: "@A", Values: []impl.Value{ref(int64((k+1)%n + 1))}})
		}
		return out
	}
	for a := 1; a < 6; a++ {
		for b := 1; b < 6; b++ {
			for x := range a {
				for y := range b {
					graphs(t, "rings", a == b, ring(a), int64(x+1), ring(b), int64(y+1))
				}
			}
		}
	}
	graphs(t, "a ring and a row", false, ring(3), 1, heapOf("@A >2", "@A >3", "@A >0"), 1)
	graphs(t, "a ring that is entered", false, heapOf("@A >2", "@A >3", "@A >1"), 1, heapOf("@A >2", "@A >3", "@A >2"), 1)
	// One object of b for each of a, and the other way round.
	shared, two := heapOf("@P >2 >2", "@A"), heapOf("@P >2 >3", "@A", "@A")
	graphs(t, "a shared one and two", false, shared, 1, two, 1)
	graphs(t, "a shared one, twice", true, shared, 1, heapOf("@A", "@P >1 >1"), 2)
	graphs(t, "two, twice", true, two, 1, heapOf("@A", "@A", "@P >2 >1"), 3)
	graphs(t, "shared crosswise", true, heapOf("@P >2 >3", "@Q >3", "@Q >2"), 1, heapOf("@P >3 >2", "@Q >3", "@Q >2"), 1)
	graphs(t, "each itself", false, heapOf("@P >2 >3", "@Q >2", "@Q >3"), 1, heapOf("@P >2 >3", "@Q >3", "@Q >2"), 1)
	graphs(t, "itself within, and the root again", false, heapOf("@P >1"), 1, heapOf("@P >2", "@P >1"), 1)
	graphs(t, "itself within, and another", false, heapOf("@P >1 >1"), 1, heapOf("@P >1 >2", "@P >1 >2"), 1)
	graphs(t, "shared further down", false, heapOf("@P >2 >3", "@Q >4", "@Q >4", "@A"), 1, heapOf("@P >2 >3", "@Q >4", "@Q >5", "@A", "@A"), 1)
	graphs(t, "null in the place of one", false, heapOf("@P >2 >0", "@A"), 1, heapOf("@P >2 >2", "@A"), 1)
	graphs(t, "in another order", false, heapOf("@P >2 >3", "@A", "@B"), 1, heapOf("@P >3 >2", "@A", "@B"), 1)
}

// Of one list, from several objects.
func TestAlikeInOneList(t *testing.T) {
	list := heapOf("@A >2", "@A >1", "@A >3", "@A >5", "@A >4", "@A >0", "@A >1")
	for x := range 8 {
		for y := range 8 {
			want := x == y || slices.Contains([]int{12, 21, 14, 15, 24, 25, 41, 42, 51, 52, 45, 54}, x*10+y)
			graphs(t, "one list", want, list, int64(x), list, int64(y))
		}
	}
}

// renumbered are the same objects in another order, with some more between; places tells where each one is.
func (b *builder) renumbered(objects []impl.ObjectState) (out []impl.ObjectState, places []int64) {
	out = make([]impl.ObjectState, len(objects)+b.below(3))
	free := []int64{}
	for k := range out {
		free = append(free, int64(k+1))
	}
	places = []int64{0}
	for range objects {
		k := b.below(len(free))
		places = append(places, free[k])
		free = slices.Delete(free, k, k+1)
	}
	for k, o := range objects {
		o.Values = slices.Clone(o.Values)
		for j, v := range o.Values {
			if v.Kind == 4 && v.N >= 0 && v.N <= int64(len(objects)) {
				o.Values[j].N = places[v.N]
			} else if v.Kind == 4 && v.N > 0 {
				o.Values[j].N = maxLong
			}
		}
		out[places[k+1]-1] = o
	}
	return out, places
}

func TestAnyAlike(t *testing.T) {
	t.Parallel()
	b := builder{numbers{state: 1204}}
	met := map[bool]int{}
	for range 4000 {
		objects := b.anyObjects(b.below(4) == 0)
		other, places := b.renumbered(objects)
		for range 3 {
			x := b.below(len(objects) + 1)
			_, right := formOf(objects, int64(x))
			graphs(t, "renumbered", right, objects, int64(x), other, places[x])
			changed := b.otherObjects(other)
			y := min(int64(len(changed)), places[b.below(len(places))])
			if b.below(3) > 0 {
				y = min(int64(len(changed)), places[x])
			}
			want := alikeOracle(objects, int64(x), changed, y)
			met[want]++
			graphs(t, "changed", want, objects, int64(x), changed, y)
		}
	}
	if met[true] < 2000 || met[false] < 2000 {
		t.Errorf("%v", met)
	}
}

// No list is too long, and no way too deep.
func TestAlikeOfManyObjects(t *testing.T) {
	t.Parallel()
	const many = 300000
	row := func(last string) []impl.ObjectState {
		out := []impl.ObjectState{}
		for k := range many {
			out = append(out, impl.ObjectState{Type: "@A", Values: []impl.Value{ref(int64(k)), ref(int64(k + 1))}})
		}
		out[0].Type = last
		return out
	}
	if !impl.Alike(row("@A"), many, row("@A"), many) || impl.Alike(row("@A"), many, row("@B"), many) || impl.Alike(row("@A"), many, row("@A"), many-1) {
		t.Error("rows of many objects")
	}
	wide := func(n int64) []impl.ObjectState {
		return []impl.ObjectState{{Values: append(make([]impl.Value, many), impl.Value{N: n})}}
	}
	if !impl.Alike(wide(1), 1, wide(1), 1) || impl.Alike(wide(1), 1, wide(2), 1) {
		t.Error("objects of many values")
	}
}
