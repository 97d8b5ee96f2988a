package tests

import (
	"fmt"
	"regexp"
	"slices"
	"strconv"
	"strings"
	"testing"

	"loop.example/g00032/impl"
)

// Which programs of chapter 11 can be.

// litmus has threads by their acts: r0 reads, w0=5 writes, p0+5 passes on, l0 takes a lock, u0 gives it back.
func litmus(vars, volatile, locks int64, threads ...string) impl.Litmus {
	p := impl.Litmus{Vars: vars, Volatile: volatile, Locks: locks}
	for _, text := range threads {
		acts := []impl.Act{}
		for _, word := range strings.Fields(text) {
			acts = append(acts, actOf(word))
		}
		p.Threads = append(p.Threads, acts)
	}
	return p
}

func actOf(word string) impl.Act {
	parts := regexp.MustCompile(`\A([rwplu])(-?\d+)(?:[=+](-?\d+))?\z`).FindStringSubmatch(word)
	a := impl.Act{Kind: 1 + int64(strings.Index("rwplu", parts[1]))}
	a.Var, _ = strconv.ParseInt(parts[2], 10, 64)
	a.N, _ = strconv.ParseInt("0"+strings.TrimPrefix(parts[3], "-"), 10, 64)
	if strings.HasPrefix(parts[3], "-") {
		a.N = -a.N
	}
	return a
}

// can says that a program can be: each function has something to tell of it.
func can(t *testing.T, why string, p impl.Litmus) {
	t.Helper()
	if !impl.LitmusOk(p) || len(impl.Serial(p)) == 0 || len(impl.Buffered(p)) == 0 {
		t.Errorf("%s can't be: %v", why, p)
	}
}

// cant says that a program can't be, by each of the functions.
func cant(t *testing.T, why string, p impl.Litmus) {
	t.Helper()
	if impl.LitmusOk(p) {
		t.Errorf("%s can be: %v", why, p)
	}
	if s, b, r := impl.Serial(p), impl.Buffered(p), impl.Races(p); len(s)+len(b)+len(r) > 0 {
		t.Errorf("%s: %v, %v, %v", why, s, b, r)
	}
	for _, picks := range [][]int64{nil, {0}, {0, 1, 0, 1, 2, 2}} {
		same(t, why, impl.Order(p, picks), impl.Ordered{})
	}
}

func TestMemoryConstants(t *testing.T) {
	same(t, "limits", []int64{impl.MaxVars, impl.MaxPlayers, impl.MaxActs}, []int64{4, 3, 4})
	same(t, "kinds", []int64{impl.ActRead, impl.ActWrite, impl.ActPass, impl.ActLock, impl.ActUnlock}, []int64{1, 2, 3, 4, 5})
}

func TestLitmusNumbers(t *testing.T) {
	for vars := int64(0); vars <= 4; vars++ {
		for volatile := int64(0); volatile <= vars; volatile++ {
			for locks := int64(0); locks <= 2; locks++ {
				can(t, "numbers in their bounds", litmus(vars, volatile, locks, ""))
			}
		}
		for _, volatile := range append(extremes(), vars+1) {
			if volatile < 0 || volatile > vars {
				cant(t, "volatile ones", litmus(vars, volatile, 0, ""))
				cant(t, "volatile ones", litmus(vars, volatile, 2, "", ""))
			}
		}
	}
	for _, n := range append(extremes(), 3, 5) {
		if n < 0 || n > 4 {
			cant(t, "variables", litmus(n, 0, 0, ""))
			cant(t, "variables, all volatile", litmus(n, n, 0, ""))
		}
		if n < 0 || n > 2 {
			cant(t, "locks", litmus(0, 0, n, ""))
			cant(t, "locks", litmus(4, 4, n, "r0", "w1=1"))
		}
	}
}

func TestLitmusLists(t *testing.T) {
	for n := 1; n <= 3; n++ {
		for acts := 0; acts <= 4; acts++ {
			can(t, "lists in their bounds", litmus(1, 0, 0, slices.Repeat([]string{strings.Repeat("r0 ", acts)}, n)...))
		}
		for k := range n {
			threads := slices.Repeat([]string{"r0"}, n)
			threads[k] = "r0 r0 r0 r0 r0"
			cant(t, "acts", litmus(1, 0, 0, threads...))
		}
	}
	cant(t, "no thread", litmus(1, 0, 0))
	cant(t, "no thread", impl.Litmus{})
	cant(t, "threads", litmus(1, 0, 0, "", "", "", ""))
	cant(t, "threads", litmus(1, 0, 0, "r0", "r0", "r0", "r0"))
	can(t, "an empty list that is nil", impl.Litmus{Threads: [][]impl.Act{nil}})
	can(t, "an empty list that is none", impl.Litmus{Threads: [][]impl.Act{{}}})
}

func TestLitmusActs(t *testing.T) {
	for _, kind := range []string{"r%d", "w%d=1", "p%d+1"} {
		for vars := range int64(5) {
			for _, n := range []int64{-1, 0, 1, 2, 3, 4, 5, minLong, maxLong} {
				word := fmt.Sprintf(kind, n)
				check := cant
				if n >= 0 && n < vars {
					check = can
				}
				check(t, word, litmus(vars, vars/2, 2, word))
				check(t, word, litmus(vars, vars, 0, "", word))
			}
		}
	}
	for locks := range int64(3) {
		for _, n := range []int64{-1, 0, 1, 2, 3, minLong, maxLong} {
			words := fmt.Sprintf("l%d u%d", n, n)
			check := cant
			if n >= 0 && n < locks {
				check = can
			}
			check(t, words, litmus(4, 0, locks, words))
			check(t, words, litmus(0, 0, locks, "", words))
		}
	}
}

func TestLitmusWritten(t *testing.T) {
	for _, n := range append(extremes(), -101, -100, -99, 99, 100, 101) {
		check := cant
		if n >= -100 && n <= 100 {
			check = can
		}
		for _, kind := range []int64{impl.ActWrite, impl.ActPass} {
			act := impl.Act{Kind: kind, N: n}
			check(t, fmt.Sprint("to write ", n), impl.Litmus{Vars: 1, Threads: [][]impl.Act{{act}}})
			check(t, fmt.Sprint("to write ", n), impl.Litmus{Vars: 1, Volatile: 1, Threads: [][]impl.Act{{}, {act}}})
		}
		if n != 0 {
			cant(t, "a read with a number", impl.Litmus{Vars: 1, Threads: [][]impl.Act{{{Kind: impl.ActRead, N: n}}}})
			cant(t, "a lock taken with a number", impl.Litmus{Locks: 1, Threads: [][]impl.Act{{{Kind: impl.ActLock, N: n}, {Kind: impl.ActUnlock}}}})
			cant(t, "a lock given back with a number", impl.Litmus{Locks: 1, Threads: [][]impl.Act{{{Kind: impl.ActLock}, {Kind: impl.ActUnlock, N: n}}}})
		}
	}
}

func TestLitmusKinds(t *testing.T) {
	for _, kind := range append(extremes(), 0, 6, 7, 8, 1<<8+1, 1<<16+1) {
		if kind < 1 || kind > 5 {
			cant(t, fmt.Sprint("kind ", kind), impl.Litmus{Vars: 4, Locks: 2, Threads: [][]impl.Act{{{Kind: kind}}}})
			cant(t, fmt.Sprint("kind ", kind), impl.Litmus{Vars: 4, Locks: 2, Threads: [][]impl.Act{{}, {actOf("r0"), {Kind: kind, Var: 1}}}})
		}
	}
}

func TestLitmusLocks(t *testing.T) {
	for _, right := range []string{"l0 u0", "l1 u1", "l0 u0 l0 u0", "l0 l1 u0 u1", "l0 l1 u1 u0", "l1 l0 u1 u0", "l0 u0 l1 u1", "l1 r1 w0=1 u1", "r0 l1 u1"} {
		can(t, right, litmus(2, 1, 2, right))
		can(t, right, litmus(2, 1, 2, right, right, right))
	}
	for _, wrong := range []string{
		"l0", "u0", "l1", "u1", "l0 l0", "l0 l0 u0", "l0 l0 u0 u0", "u0 u0", "l0 u0 u0", "u0 l0", "u0 l0 u0", "l0 u0 l0", "l0 u1", "l1 u0", "l0 l1", "l0 l1 u0", "l0 l1 u1",
		"l0 r1 r1 r1", "r1 u0", "l0 u0 r0 u0", "l0 l1 l0 u0", "l0 l1 u1 u1", "l1 u1 l1 r1",
	} {
		cant(t, wrong, litmus(2, 1, 2, wrong))
		cant(t, wrong, litmus(2, 1, 2, "", "l0 u0", wrong))
		cant(t, wrong, litmus(2, 1, 2, wrong, "r0 w0=1"))
	}
	// A lock is a thread's own: another one can't give it back.
	cant(t, "taken by one, given back by another", litmus(0, 0, 1, "l0", "u0"))
	cant(t, "taken by one, given back by both", litmus(0, 0, 1, "l0 u0", "u0"))
	// Acts on variables are none on locks.
	can(t, "the same numbers", litmus(2, 0, 2, "l0 w0=1 r0 u0", "w1=1 l1 u1 p1+0"))
}

// canOracle has the rules as patterns of a text.
func canOracle(p impl.Litmus) bool {
	if p.Vars < 0 || p.Vars > 4 || p.Volatile < 0 || p.Volatile > p.Vars || p.Locks < 0 || p.Locks > 2 || len(p.Threads) < 1 || len(p.Threads) > 3 {
		return false
	}
	locks := regexp.MustCompile(`\A(lu)*\z`)
	for _, acts := range p.Threads {
		text, rows := "", [2]string{}
		for _, a := range acts {
			text += fmt.Sprintf("%d,%d,%d ", a.Kind, a.Var, a.N)
			if a.Kind == 4 || a.Kind == 5 {
				rows[a.Var&1] += " rwplu"[a.Kind : a.Kind+1]
			}
		}
		variable, lock := "", ""
		for n := range p.Vars {
			variable += fmt.Sprint(n)
		}
		for n := range p.Locks {
			lock += fmt.Sprint(n)
		}
		form := fmt.Sprintf(`\A(1,[%sx],0 |[23],[%sx],-?(100|[1-9]?[0-9]) |[45],[%sx],0 ){0,4}\z`, variable, variable, lock)
		if !regexp.MustCompile(form).MatchString(text) || !locks.MatchString(rows[0]) || !locks.MatchString(rows[1]) {
			return false
		}
	}
	return true
}

func TestAnyLitmus(t *testing.T) {
	b := builder{numbers{state: 1101}}
	counts := map[bool]int{}
	for range 20000 {
		p := b.litmus(b.below(3) > 0)
		if b.below(2) == 0 {
			p = b.disturbedLitmus(p)
		}
		want := canOracle(p)
		counts[want]++
		if impl.LitmusOk(p) != want {
			t.Fatalf("%v: not %v", p, want)
		}
		if !want {
			cant(t, "by the patterns", p)
		}
	}
	if counts[true] < 3000 || counts[false] < 3000 {
		t.Error("too few of one kind:", counts)
	}
}

// disturbedLitmus changes one thing; the program may be right again.
func (b *builder) disturbedLitmus(p impl.Litmus) impl.Litmus {
	n := []int64{-1, 0, 1, 2, 3, 4, 5, 6, -100, 100, -101, 101}[b.below(12)]
	k := b.below(len(p.Threads))
	switch b.below(8) {
	case 0:
		p.Vars = n
	case 1:
		p.Volatile = n
	case 2:
		p.Locks = n
	case 3:
		p.Threads = append(p.Threads, p.Threads[:b.below(k+1)]...)
	case 4:
		p.Threads[k] = append(p.Threads[k], b.act(4, 2))
	default:
		if len(p.Threads[k]) == 0 {
			return p
		}
		a := &p.Threads[k][b.below(len(p.Threads[k]))]
		*[]*int64{&a.Kind, &a.Var, &a.N}[b.below(3)] = n
	}
	return p
}
