package tests

import (
	"fmt"
	"slices"
	"testing"

	"loop.example/g00032/impl"
)

func reaches(t *testing.T, objects []impl.ObjectState, roots []int64, want ...int64) {
	t.Helper()
	if got := impl.Reached(objects, roots); !slices.Equal(got, want) {
		t.Errorf("from %.100q of %.200q %v are reached, not %v", fmt.Sprint(roots), fmt.Sprint(objects), got, want)
	}
	if told := reachedOracle(objects, roots); !slices.Equal(told, want) {
		t.Errorf("the oracle says of %.100q of %.200q %v, not %v", fmt.Sprint(roots), fmt.Sprint(objects), told, want)
	}
}

func TestReached(t *testing.T) {
	chain := heapOf("@A >2", "@A >3", "@A >0", "@A >2")
	reaches(t, chain, nil)
	reaches(t, chain, []int64{})
	reaches(t, chain, []int64{1}, 1, 2, 3)
	reaches(t, chain, []int64{2}, 2, 3)
	reaches(t, chain, []int64{3}, 3)
	reaches(t, chain, []int64{4}, 2, 3, 4)
	reaches(t, chain, []int64{4, 1}, 1, 2, 3, 4)
	reaches(t, chain, []int64{3, 3, 2, 3}, 2, 3)
	reaches(t, chain, []int64{2, 2}, 2, 3)
	// What is no number of an object counts nothing, whatever stands beside it.
	for _, none := range []int64{0, -1, -4, 5, 6, minLong, maxLong, 1<<32 + 1} {
		reaches(t, chain, []int64{none})
		reaches(t, chain, []int64{none, 3, none}, 3)
		reaches(t, nil, []int64{none})
		reaches(t, heapOf(fmt.Sprintf("@A >%d >2", none), "@A", "@A", "@A"), []int64{1}, 1, 2)
	}
	reaches(t, nil, nil)
	reaches(t, nil, []int64{1})
	// Cycles and shared ones.
	reaches(t, heapOf("@A >1"), []int64{1}, 1)
	reaches(t, heapOf("@A >2", "@A >1"), []int64{2}, 1, 2)
	reaches(t, heapOf("@A >3 >2", "@A >4", "@A >4", "@A >1", "@A >1"), []int64{3}, 1, 2, 3, 4)
	reaches(t, heapOf("@A", "@A >1 >1 >1", "@A >2 >1"), []int64{3}, 1, 2, 3)
	// Later numbers come first, and are told in order.
	reaches(t, heapOf("@A", "@A", "@A >1", "@A >2", "@A >4 >3"), []int64{5}, 1, 2, 3, 4, 5)
	// Values of other kinds lead nowhere.
	reaches(t, heapOf("@A i2 j2 d2", "@A"), []int64{1}, 1)
	for _, kind := range []int64{0, 1, 2, 3, 5, -4, minLong, maxLong} {
		reaches(t, []impl.ObjectState{{Values: []impl.Value{{Kind: kind, N: 2}}}, {}}, []int64{1}, 1)
	}
	// Of any list: what is no heap is gone through as well.
	reaches(t, heapOf("@String text", "[I >3", "@Nope >1"), []int64{2}, 1, 2, 3)
	reaches(t, []impl.ObjectState{{Type: "@String", Text: "x", Values: []impl.Value{ref(2)}}, {}}, []int64{1}, 1, 2)
	reaches(t, []impl.ObjectState{{Type: "\xff", Values: slices.Repeat([]impl.Value{ref(2)}, 5000)}, {}}, []int64{1}, 1, 2)
}

func TestMostReached(t *testing.T) {
	row := func(n int) []int64 {
		out := []int64{}
		for k := range n {
			out = append(out, int64(k+1))
		}
		return out
	}
	chain := func(n int) []impl.ObjectState {
		out := []impl.ObjectState{}
		for k := range n {
			out = append(out, impl.ObjectState{Type: "@A", Values: []impl.Value{ref(int64(k))}})
		}
		return out
	}
	most := impl.MaxObjects
	if got := impl.Reached(chain(most), []int64{int64(most)}); !slices.Equal(got, row(most)) {
		t.Errorf("%d of a chain are reached", len(got))
	}
	if got := impl.Reached(make([]impl.ObjectState, most), row(most)); !slices.Equal(got, row(most)) {
		t.Errorf("%d of many roots are reached", len(got))
	}
	if got := impl.Reached(chain(3), slices.Repeat([]int64{2}, most)); !slices.Equal(got, row(2)) {
		t.Errorf("the same root again and again reaches %v", got)
	}
	// One more of either: nothing.
	for _, n := range []int{most + 1, most * 10} {
		if got := impl.Reached(chain(n), []int64{1}); len(got) != 0 {
			t.Errorf("of %d objects %d are reached", n, len(got))
		}
		if got := impl.Reached(chain(3), slices.Repeat([]int64{2}, n)); len(got) != 0 {
			t.Errorf("from %d roots %d are reached", n, len(got))
		}
		if got := impl.Reached(nil, make([]int64, n)); len(got) != 0 {
			t.Errorf("from %d roots of nothing %d are reached", n, len(got))
		}
	}
}

// anyObjects are a list of no form: of few Types, with numbers that may lead nowhere.
func (b *builder) anyObjects(wild bool) []impl.ObjectState {
	out := make([]impl.ObjectState, b.below(9))
	for k := range out {
		out[k] = impl.ObjectState{Type: b.pick("@A", "@A", "@A", "@B")}
		for range b.below(4) {
			v := impl.Value{Kind: 4, N: int64(b.below(len(out) + 1))}
			switch {
			case b.below(6) == 0:
				v = impl.Value{Kind: int64(1 + b.below(3)), N: int64(b.below(3))}
			case wild && b.below(12) == 0:
				v.N = []int64{-1, int64(len(out)) + 1, minLong, maxLong}[b.below(4)]
			}
			out[k].Values = append(out[k].Values, v)
		}
	}
	return out
}

func TestAnyReached(t *testing.T) {
	t.Parallel()
	b := builder{numbers{state: 1203}}
	for range 3000 {
		objects := b.anyObjects(true)
		roots := []int64{}
		for range b.below(4) {
			roots = append(roots, int64(b.below(len(objects)+3)-1))
		}
		reaches(t, objects, roots, reachedOracle(objects, roots)...)
	}
}
