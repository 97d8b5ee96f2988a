package tests

import (
	"fmt"
	"maps"
	"math"
	"slices"
	"strings"
	"sync"
	"testing"

	"loop.example/g00032/impl"
)

// Chapter 11 in a second way: runs go one by one through states that have lists of what waits in buffers and of who has which lock.

type pending struct{ variable, n int64 }

// theatre is where a run stands, with all that was done.
type theatre struct {
	p       impl.Litmus
	reads   [][]int64
	memory  []int64
	buffers [][]pending
	owner   map[int64]int
	at      []int
	done    []impl.Done
}

func newTheatre(p impl.Litmus) *theatre {
	n := len(p.Threads)
	return &theatre{p: p, reads: make([][]int64, n), memory: make([]int64, p.Vars), buffers: make([][]pending, n), owner: map[int64]int{}, at: make([]int, n)}
}

func (s *theatre) copied() *theatre {
	out := *s
	out.memory, out.at, out.done, out.owner = slices.Clone(s.memory), slices.Clone(s.at), slices.Clone(s.done), maps.Clone(s.owner)
	out.reads, out.buffers = slices.Clone(s.reads), slices.Clone(s.buffers)
	for k := range s.reads {
		out.reads[k], out.buffers[k] = slices.Clone(s.reads[k]), slices.Clone(s.buffers[k])
	}
	return &out
}

// whole tells all but what was done.
func (s *theatre) whole() string {
	return fmt.Sprint(s.reads, s.memory, s.buffers, s.owner, s.at)
}

func (s *theatre) volatile(a impl.Act) bool { return a.Kind <= 3 && a.Var < s.p.Volatile }

// look is what a thread sees of a variable: the last that its buffer has of it, else what memory has.
func (s *theatre) look(k int, variable int64) int64 {
	n := s.memory[variable]
	for _, w := range s.buffers[k] {
		if w.variable == variable {
			n = w.n
		}
	}
	return n
}

func (s *theatre) write(k int, a impl.Act, n int64, buffered bool) {
	if buffered && !s.volatile(a) {
		s.buffers[k] = append(s.buffers[k], pending{a.Var, n})
	} else {
		s.memory[a.Var] = n
	}
}

// play does a thread's next act; it says no where the thread can not go on.
func (s *theatre) play(k int, buffered bool) bool {
	if s.at[k] >= len(s.p.Threads[k]) {
		return false
	}
	a := s.p.Threads[k][s.at[k]]
	full := len(s.buffers[k]) > 0
	_, taken := s.owner[a.Var]
	switch a.Kind {
	case impl.ActRead:
		s.reads[k] = append(s.reads[k], s.look(k, a.Var))
	case impl.ActWrite, impl.ActPass:
		if full && s.volatile(a) {
			return false
		}
		n := a.N
		if last := len(s.reads[k]); a.Kind == impl.ActPass && last > 0 {
			n += s.reads[k][last-1]
		}
		s.write(k, a, n, buffered)
	case impl.ActLock:
		if full || taken {
			return false
		}
		s.owner[a.Var] = k
	case impl.ActUnlock:
		if full {
			return false
		}
		delete(s.owner, a.Var)
	}
	s.done = append(s.done, impl.Done{Thread: int64(k), Act: int64(s.at[k])})
	s.at[k]++
	return true
}

// flush lets the first write of a buffer go to memory.
func (s *theatre) flush(k int) bool {
	if len(s.buffers[k]) == 0 {
		return false
	}
	w := s.buffers[k][0]
	s.memory[w.variable] = w.n
	s.buffers[k] = s.buffers[k][1:]
	return true
}

// eachEnd goes through runs; where states are kept, one that was met is not gone through again.
func (s *theatre) eachEnd(buffered bool, met map[string]bool, end func(*theatre)) {
	if met != nil {
		key := s.whole()
		if met[key] {
			return
		}
		met[key] = true
	}
	over := true
	for k := range s.at {
		if next := s.copied(); next.play(k, buffered) {
			over = false
			next.eachEnd(buffered, met, end)
		}
		if next := s.copied(); next.flush(k) {
			over = false
			next.eachEnd(buffered, met, end)
		}
	}
	if over {
		end(s)
	}
}

func (s *theatre) sight() impl.Sight {
	out := impl.Sight{Reads: s.reads, Memory: s.memory}
	for k, acts := range s.p.Threads {
		out.Stuck = out.Stuck || s.at[k] != len(acts)
	}
	return out
}

// sightKey lays all of a sight in one row that is compared number by number: behind each list comes less than any number.
func sightKey(s impl.Sight) []int64 {
	key := []int64{0}
	if s.Stuck {
		key[0] = 1
	}
	for _, list := range append(slices.Clone(s.Reads), s.Memory) {
		key = append(append(key, list...), math.MinInt64)
	}
	return key
}

func sightsOracle(p impl.Litmus, buffered bool) []impl.Sight {
	found := map[string]impl.Sight{}
	newTheatre(p).eachEnd(buffered, map[string]bool{}, func(s *theatre) {
		found[fmt.Sprint(s.sight())] = s.sight()
	})
	return slices.SortedFunc(maps.Values(found), func(a, b impl.Sight) int { return slices.Compare(sightKey(a), sightKey(b)) })
}

func conflictOracle(p impl.Litmus, x, y impl.Done) (impl.Race, bool) {
	a, b := p.Threads[x.Thread][x.Act], p.Threads[y.Thread][y.Act]
	if x.Thread > y.Thread {
		x, y = y, x
	}
	race := impl.Race{Thread: x.Thread, Act: x.Act, Other: y.Thread, OtherAct: y.Act}
	kinds := map[[2]int64]bool{{1, 2}: true, {1, 3}: true, {2, 1}: true, {2, 2}: true, {2, 3}: true, {3, 1}: true, {3, 2}: true, {3, 3}: true}
	return race, x.Thread != y.Thread && kinds[[2]int64{a.Kind, b.Kind}] && a.Var == b.Var && a.Var >= p.Volatile
}

func sortedRaces(found map[impl.Race]bool) []impl.Race {
	return slices.SortedFunc(maps.Keys(found), func(a, b impl.Race) int {
		return slices.Compare([]int64{a.Thread, a.Act, a.Other, a.OtherAct}, []int64{b.Thread, b.Act, b.Other, b.OtherAct})
	})
}

// racesOracle looks at each two acts that follow each other in some run. Runs that come to the same acts by the same two are one from there on.
func racesOracle(p impl.Litmus) []impl.Race {
	found, met := map[impl.Race]bool{}, map[string]bool{}
	var from func(s *theatre)
	from = func(s *theatre) {
		if n := len(s.done); n > 1 {
			if race, ok := conflictOracle(p, s.done[n-2], s.done[n-1]); ok {
				found[race] = true
			}
		}
		key := fmt.Sprint(s.at)
		if n := len(s.done); n > 0 {
			key += fmt.Sprint(s.done[n-1])
		}
		if n := len(s.done); n > 1 {
			key += fmt.Sprint(s.done[n-2])
		}
		if met[key] {
			return
		}
		met[key] = true
		for k := range s.at {
			if next := s.copied(); next.play(k, false) {
				from(next)
			}
		}
	}
	from(newTheatre(p))
	return sortedRaces(found)
}

// aheadOracle tells by places of a run which act is ahead of which, through any number of others.
func aheadOracle(p impl.Litmus, acts []impl.Done) [][]bool {
	out := make([][]bool, len(acts))
	for i, x := range acts {
		out[i] = make([]bool, len(acts))
		for j, y := range acts {
			a, b := p.Threads[x.Thread][x.Act], p.Threads[y.Thread][y.Act]
			gives := a.Kind == 5 && b.Kind == 4 && a.Var == b.Var
			tells := (a.Kind == 2 || a.Kind == 3) && b.Kind == 1 && a.Var == b.Var && a.Var < p.Volatile
			out[i][j] = i < j && (x.Thread == y.Thread || gives || tells)
		}
	}
	for k := range acts {
		for i := range acts {
			for j := range acts {
				out[i][j] = out[i][j] || out[i][k] && out[k][j]
			}
		}
	}
	return out
}

func orderOracle(p impl.Litmus, picks []int64) impl.Ordered {
	s := newTheatre(p)
	for k, pick := range picks {
		if k < 4000 && pick >= 0 && pick < int64(len(p.Threads)) {
			s.play(int(pick), false)
		}
	}
	ahead, found := aheadOracle(p, s.done), map[impl.Race]bool{}
	for i, x := range s.done {
		for j, y := range s.done {
			if race, ok := conflictOracle(p, x, y); ok && !ahead[i][j] && !ahead[j][i] {
				found[race] = true
			}
		}
	}
	return impl.Ordered{Acts: s.done, Races: sortedRaces(found)}
}

func (b *builder) written() int64 {
	return []int64{0, 1, 1, 2, 3, -1, -2, 7, 100, -100}[b.below(10)]
}

func (b *builder) act(vars, locks int) impl.Act {
	a := impl.Act{Kind: int64(1 + b.below(5)), Var: int64(b.below(vars))}
	switch {
	case a.Kind > impl.ActPass:
		a.Var = int64(b.below(locks))
	case a.Kind > impl.ActRead:
		a.N = b.written()
	}
	return a
}

// litmus makes a program that can be. Where it is tame, a plain variable belongs to one thread, or to who has a lock, or is read alone.
func (b *builder) litmus(tame bool) impl.Litmus {
	p := impl.Litmus{Vars: int64(1 + b.below(4)), Locks: int64(b.below(3))}
	p.Volatile = int64(b.below(int(p.Vars) + 1))
	if b.below(2) == 0 {
		p.Volatile = 0
	}
	g := &guild{builder: b, p: p}
	for range p.Vars {
		role := "any"
		if tame {
			role = []string{"thread 0", "thread 1", "thread 2", "lock 0", "lock 0", "lock 1", "read"}[b.below(7)]
		}
		g.roles = append(g.roles, role)
	}
	for k := range min(1+b.below(3)+b.below(2), impl.MaxPlayers) {
		p.Threads = append(p.Threads, g.player(k, []int{0, 1, 2, 3, 3, 4, 4, 4}[b.below(8)]))
	}
	return p
}

// tangled makes a program of which two threads may be stuck, and the third with them.
func (b *builder) tangled() impl.Litmus {
	p := litmus(2, int64(b.below(3)), 2, b.pick("l0 l1 u0 u1", "l0 l1 u1 u0"), b.pick("l1 l0 u0 u1", "l1 l0 u1 u0"))
	words := []string{b.pick("r0", "w0=4", "w1=-3"), b.pick("l0", "l1"), b.pick("r0", "r1", "p0+1", "p1+-2"), ""}
	words[3] = "u" + words[1][1:]
	k := b.below(3)
	p.Threads = slices.Insert(p.Threads, k, litmus(2, 0, 2, strings.Join(words, " ")).Threads[0])
	return p
}

// short cuts threads off, so that there are not too many runs, at acts behind which they keep no lock.
func short(p impl.Litmus, most int) impl.Litmus {
	for k, acts := range p.Threads {
		for len(acts) > most || !canOracle(impl.Litmus{Vars: 4, Locks: 2, Threads: [][]impl.Act{acts}}) {
			acts = acts[:len(acts)-1]
		}
		p.Threads[k] = acts
	}
	return p
}

// guild knows to whom variables belong.
type guild struct {
	*builder
	p     impl.Litmus
	roles []string
}

func (g *guild) may(k int, held map[int64]bool, a impl.Act) bool {
	role := g.roles[a.Var]
	switch {
	case a.Var < g.p.Volatile || role == "any" || role == fmt.Sprint("thread ", k):
		return true
	case role == "read":
		return a.Kind == impl.ActRead
	}
	return role == "lock 0" && held[0] || role == "lock 1" && held[1]
}

// player makes the acts of a thread, about so many: there is always room to give back what it has.
func (g *guild) player(k, size int) []impl.Act {
	acts, held := []impl.Act{}, map[int64]bool{}
	for tries := 0; len(acts)+len(held) < size && tries < 30; tries++ {
		a := g.act(int(g.p.Vars), int(max(g.p.Locks, 1)))
		switch a.Kind {
		case impl.ActLock:
			if g.p.Locks == 0 || held[a.Var] || len(acts)+len(held)+2 > impl.MaxActs {
				continue
			}
			held[a.Var] = true
		case impl.ActUnlock:
			if !held[a.Var] {
				continue
			}
			delete(held, a.Var)
		default:
			if !g.may(k, held, a) || len(acts)+len(held)+1 > impl.MaxActs {
				continue
			}
		}
		acts = append(acts, a)
	}
	for _, lock := range []int64{1, 0} {
		if held[lock] {
			acts = append(acts, impl.Act{Kind: impl.ActUnlock, Var: lock})
		}
	}
	return acts
}

// counted is what came up among programs; it is filled from several tests at once.
type counted struct {
	sync.Mutex
	times map[string]int
}

func (c *counted) add(what string, so bool) {
	c.Lock()
	defer c.Unlock()
	if so {
		c.times[what]++
	}
}

func isStuck(s impl.Sight) bool { return s.Stuck }

// testSights holds the sights of a program against the second way, and against each other.
func testSights(t *testing.T, p impl.Litmus, c *counted) {
	t.Helper()
	serial, buffered, races := impl.Serial(p), impl.Buffered(p), impl.Races(p)
	if want := sightsOracle(p, false); !alike(serial, want) {
		t.Fatalf("%v: serial runs see %v\nnot %v", p, serial, want)
	}
	if want := sightsOracle(p, true); !alike(buffered, want) {
		t.Fatalf("%v: buffered runs see %v\nnot %v", p, buffered, want)
	}
	if want := racesOracle(p); !alike(races, want) {
		t.Fatalf("%v: races %v\nnot %v", p, races, want)
	}
	among := map[string]bool{}
	for _, s := range buffered {
		among[fmt.Sprint(s)] = true
	}
	for _, s := range serial {
		if !among[fmt.Sprint(s)] {
			t.Errorf("%v: no buffered run sees %v", p, s)
		}
	}
	more := len(buffered) > len(serial)
	if more && len(races) == 0 {
		t.Errorf("%v: without races %v are seen, not %v alone", p, buffered, serial)
	}
	c.add("more in buffers", more)
	c.add("races, but no more in buffers", !more && len(races) > 0)
	c.add("no races, but several sights", len(races) == 0 && len(serial) > 1)
	c.add("stuck always", isStuck(serial[0]))
	c.add("stuck at times", !isStuck(serial[0]) && isStuck(serial[len(serial)-1]))
	c.add("stuck in several ways", len(serial) > 1 && isStuck(serial[len(serial)-2]))
}

// testOrders follows picks; by all runs of a program its races come up, and no others.
func (b *builder) testOrders(t *testing.T, p impl.Litmus, c *counted) {
	t.Helper()
	found := map[impl.Race]bool{}
	newTheatre(p).eachEnd(false, nil, func(s *theatre) {
		picks := []int64{}
		for _, d := range s.done {
			picks = append(picks, d.Thread)
		}
		got := impl.Order(p, picks)
		if want := orderOracle(p, picks); !alike(got, want) {
			t.Fatalf("%v by %v: %v\nnot %v", p, picks, got, want)
		}
		for _, r := range got.Races {
			found[r] = true
		}
	})
	if races := impl.Races(p); !alike(races, sortedRaces(found)) {
		t.Fatalf("%v: races %v, but in orders %v", p, races, sortedRaces(found))
	}
	c.add("races in orders", len(found) > 0)
	c.add("no races in orders", len(found) == 0)
	for range 5 {
		picks := make([]int64, b.below(20))
		for k := range picks {
			picks[k] = []int64{0, 1, 2, 3, -1, 0, 1, 2, 0, 1, 2, math.MinInt64, math.MaxInt64, 1 << 32, 0, 1}[b.below(16)]
		}
		if got, want := impl.Order(p, picks), orderOracle(p, picks); !alike(got, want) {
			t.Fatalf("%v by %v: %v\nnot %v", p, picks, got, want)
		}
	}
}

func inGroups(t *testing.T, state uint64, test func(t *testing.T, b *builder)) {
	t.Run("groups", func(t *testing.T) {
		for group := range uint64(8) {
			t.Run(fmt.Sprint(group), func(t *testing.T) {
				t.Parallel()
				test(t, &builder{numbers{state: state + group}})
			})
		}
	})
}

func (c *counted) enough(t *testing.T, least int, all ...string) {
	t.Helper()
	for _, what := range all {
		if c.times[what] < least {
			t.Errorf("only %d times: %s (%v)", c.times[what], what, c.times)
		}
	}
}

func TestSightsOfAnyProgram(t *testing.T) {
	t.Parallel()
	c := &counted{times: map[string]int{}}
	inGroups(t, 1110, func(t *testing.T, b *builder) {
		for k := range 200 {
			testSights(t, b.litmus(k%2 == 0), c)
			if k%8 == 0 {
				testSights(t, b.tangled(), c)
			}
		}
	})
	c.enough(t, 20, "more in buffers", "races, but no more in buffers", "no races, but several sights", "stuck at times", "stuck in several ways")
}

func TestOrdersOfAnyProgram(t *testing.T) {
	t.Parallel()
	c := &counted{times: map[string]int{}}
	inGroups(t, 1120, func(t *testing.T, b *builder) {
		for k := range 120 {
			b.testOrders(t, short(b.litmus(k%2 == 0), 2+k%3/2), c)
			if k%16 == 0 {
				b.testOrders(t, b.tangled(), c)
			}
		}
	})
	c.enough(t, 100, "races in orders", "no races in orders")
}

// eachPlayer gives all lists of at most so many of these acts that can be.
func eachPlayer(p impl.Litmus, words []string, most int) [][]impl.Act {
	lists, out := [][]impl.Act{{}}, [][]impl.Act{}
	for n := 0; n <= most; n++ {
		longer := [][]impl.Act{}
		for _, list := range lists {
			p.Threads = [][]impl.Act{list}
			if canOracle(p) {
				out = append(out, list)
			}
			for _, w := range words {
				longer = append(longer, append(slices.Clone(list), actOf(w)))
			}
		}
		lists = longer
	}
	return out
}

// All programs of two threads with at most two of these acts, whichever thread comes first.
func TestSightsOfEachSmallProgram(t *testing.T) {
	t.Parallel()
	c := &counted{times: map[string]int{}}
	for volatile := range int64(3) {
		t.Run(fmt.Sprint(volatile), func(t *testing.T) {
			t.Parallel()
			p := impl.Litmus{Vars: 2, Volatile: volatile, Locks: 1}
			lists := eachPlayer(p, []string{"r0", "r1", "w0=1", "w1=2", "p0+3", "p1+0", "l0", "u0"}, 2)
			for k, one := range lists {
				for _, other := range lists[k:] {
					p.Threads = [][]impl.Act{one, other}
					testSights(t, p, c)
				}
			}
		})
	}
}
