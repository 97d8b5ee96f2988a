package tests

import (
	"fmt"
	"strings"
	"testing"

	"loop.example/g00032/impl"
)

// shown has eden from 1 on, the survivor spaces from 9 and 17, old from 25 to 44; what is copied the second time goes to old.
func shown() impl.GcConfig { return impl.GcConfig{Eden: 8, Survivor: 8, Old: 20, Age: 2, Card: 4} }

func TestMinorCycles(t *testing.T) {
	g := shown()
	ops := "new 0 2; new 1 2; new 1 2"
	gcTells(t, g, ops, "1 2 3:1")
	// It is made behind the cycle: what root 1 held before was live in it.
	gcStands(t, g, ops, "3@1+0p[0 0] 1@17+1p[0 0] 2@20+1p[0 0] | roots 0=1 1=3 | from 1", 4, 9, 23, 25)
	ops += "; minor"
	gcStands(t, g, ops, "3@9+1p[0 0] 1@25+2p[0 0] | roots 0=1 1=3", 1, 12, 17, 28)
	ops += "; set 0 1 0"
	gcStands(t, g, ops, "3@9+1p[0 0] 1@25+2p[3 0] | roots 0=1 1=3 | dirty 0", 1, 12, 17, 28)
	ops += "; drop 1; minor"
	gcStands(t, g, ops, "1@25+2p[3 0] 3@28+2p[0 0] | roots 0=1 | from 1", 1, 9, 17, 31)
	// Of old nothing goes in a minor cycle.
	ops += "; drop 0; minor"
	gcStands(t, g, ops, "1@25+2p[3 0] 3@28+2p[0 0]", 1, 9, 17, 31)
	gcStands(t, g, ops+"; major", "| from 1", 1, 9, 17, 25)
}

// Nothing there: spaces change places all the same.
func TestEmptyCycles(t *testing.T) {
	gcTells(t, wide(), "minor; minor; major; hard", "0:1 0:1 0:21 0:31")
	gcStands(t, wide(), "minor", "| from 1", 1, 65, 129, 193)
	gcStands(t, wide(), "minor; minor", "", 1, 65, 129, 193)
	gcStands(t, wide(), "major", "| from 1", 1, 65, 129, 193)
	gcStands(t, wide(), "minor; hard", "", 1, 65, 129, 193)
}

// Roots by number, the queue, old objects of dirty cards by address with their fields in order, then copies in the order in which they were made.
func TestCopiesInOrder(t *testing.T) {
	g := wide()
	gcStands(t, g, "new 7 0; new 3 1; new 0 2; minor", "3@129+1p[0 0] 2@132+1p[0] 1@134+1p[] | roots 0=3 3=2 7=1 | from 1", 1, 65, 135, 193)
	// Breadth first: the fields of the first copy, then those of the next one.
	tree := "new 0 2; new 1 1; set 0 1 1; new 2 1; set 0 2 0; new 3 0; set 1 3 0; new 3 0; set 2 3 0; drop 1; drop 2; drop 3"
	gcStands(t, g, tree+"; minor", "1@129+1p[3 2] 3@132+1p[5] 2@134+1p[4] 5@136+1p[] 4@137+1p[] | roots 0=1 | from 1", 1, 65, 138, 193)
	// The same object again is copied once.
	gcStands(t, g, "new 0 3; set 0 0 0; new 1 1; set 0 1 1; set 0 1 2; set 1 0 0; copy 2 1; minor", "1@129+1p[1 2 2] 2@133+1p[1] | roots 0=1 1=2 2=2 | from 1")
	// The queue, as it is behind what was queued now, comes ahead of what roots lead to.
	gcStands(t, g, "new 0 1; new 1 0; set 0 1 0; drop 1; new 1 0 final; drop 1; minor; drop 0; new 0 1; new 1 0; set 0 1 0; drop 1; new 1 0 final; drop 1; minor", "4@65+1p[5] 3@67+2p[] 6@68+1p[] 5@69+1p[] | roots 0=4 | queue 3 6")
	// An object of a dirty card comes behind roots and the queue, ahead of what these lead to.
	g.Age = 2
	old := "new 0 2; new 1 2; minor; minor"
	gcStands(t, g, old, "1@193+2p[0 0] 2@196+2p[0 0] | roots 0=1 1=2", 1, 65, 129, 199)
	young := "; new 2 0; set 1 2 1; new 2 0; set 0 2 1; new 2 0; set 1 2 0; new 2 1; new 3 0; set 2 3 0; drop 3; new 3 0 final; drop 3; minor"
	gcStands(t, g, old+young, "6@129+1p[7] 8@131+1p[] 4@132+1p[] 5@133+1p[] 3@134+1p[] 7@135+1p[] 1@193+2p[0 4] 2@196+2p[5 3] | roots 0=1 1=2 2=6 | queue 8 | from 1 | dirty 0")
}

// A copy that comes to lie in a dirty card is a copy, not an object of the card: its fields come in the order of copies.
func TestCopiesWithinDirtyCards(t *testing.T) {
	g := wide()
	g.Age, g.Card = 2, 64
	ops := "new 0 1; minor; minor; new 1 1; minor"
	// 1 is old; 2 has Age 1. Then 3 holds 4, and 2 holds 5; the roots hold 3 ahead of 2.
	ops += "; copy 7 1; new 1 1; new 2 0; set 1 2 0; new 2 0; set 7 2 0; new 2 0; set 0 2 0; drop 2; minor"
	gcStands(t, g, ops, "3@65+1p[4] 6@67+1p[] 4@68+1p[] 5@69+1p[] 1@193+2p[6] 2@195+2p[5] | roots 0=1 1=3 7=2 | dirty 0")
}

func TestWantOfRoom(t *testing.T) {
	g := impl.GcConfig{Eden: 20, Survivor: 8, Old: 30, Age: 5, Card: 4}
	// Each that does not fit goes to old, also when a later one fits.
	gcStands(t, g, "new 0 2; new 1 2; new 2 2; new 3 1; new 4 0; minor", "1@29+1p[0 0] 2@32+1p[0 0] 4@35+1p[0] 3@37+1p[0 0] 5@40+1p[] | roots 0=1 1=2 2=3 3=4 4=5 | from 1", 1, 21, 37, 41)
	// One that fits just so, and one that is a word too long.
	gcStands(t, g, "new 0 6; new 1 0; minor", "1@29+1p[0 0 0 0 0 0] 2@36+1p[] | roots 0=1 1=2 | from 1", 1, 21, 37, 37)
	gcStands(t, g, "new 0 6; new 1 1; minor", "1@29+1p[0 0 0 0 0 0] 2@37+1p[0] | roots 0=1 1=2 | from 1", 1, 21, 36, 39)
	// An object that went to old early holds a young one: its card is dirty from then on, and stays so as long as it is young.
	early := "new 0 6; new 1 3; new 2 0; set 1 2 2; minor"
	gcStands(t, g, early, "1@29+1p[0 0 0 0 0 0] 3@36+1p[] 2@37+1p[0 0 3] | roots 0=1 1=2 2=3 | from 1 | dirty 0", 1, 21, 37, 41)
	gcStands(t, g, early+"; drop 2; drop 0; minor; minor; minor", "3@21+4p[] 2@37+1p[0 0 3] | roots 1=2 | dirty 0")
	gcStands(t, g, early+"; drop 2; drop 0; minor; minor; minor; minor", "2@37+1p[0 0 3] 3@41+5p[] | roots 1=2 | from 1")
	// What is overwritten leaves its card dirty until the next cycle.
	gcStands(t, g, early+"; set 1 7 2", "1@29+1p[0 0 0 0 0 0] 3@36+1p[] 2@37+1p[0 0 0] | roots 0=1 1=2 2=3 | from 1 | dirty 0")
	gcStands(t, g, early+"; set 1 7 2; drop 2; minor", "1@21+2p[0 0 0 0 0 0] 2@37+1p[0 0 0] | roots 0=1 1=2")
}

func TestAges(t *testing.T) {
	for age := int64(1); age <= 15; age++ {
		g := wide()
		g.Age = age
		for n := range age + 2 {
			ops := gcOpsOf("new 0 0" + strings.Repeat("; minor", int(n)))
			_, h := testGc(t, g, ops)
			want := impl.GcObject{Id: 1, Age: min(n, age), At: 1}
			switch {
			case n >= age:
				want.At = 193
			case n > 0:
				want.At = []int64{65, 129}[n%2]
			}
			same(t, fmt.Sprint("Age ", age, ", ", n, " cycles"), h.Objects, []impl.GcObject{want})
		}
	}
	// By a major cycle all go to old, whatever their Age, which is one more.
	gcStands(t, wide(), "new 0 0; minor; minor; new 1 0; major", "1@193+3p[] 2@194+1p[] | roots 0=1 1=2 | from 1")
	// What is made in old has the Age 0, and keeps it.
	gcStands(t, tight(), "new 0 3; new 1 3; minor; new 2 3; new 3 3; drop 0; new 4 0; minor", "3@1+0p[0 0 0] 4@5+0p[0 0 0] 2@25+1p[0 0 0] 5@29+0p[] | roots 1=2 2=3 3=4 4=5 | from 1")
}

func TestMinorThatBecomesMajor(t *testing.T) {
	g := tight()
	full := "new 0 3; new 1 3; new 2 0"
	// Old has just as much free as young has occupied.
	gcTells(t, g, full, "1 2 3:1")
	gcStands(t, g, full, "3@1+0p[] 1@25+1p[0 0 0] 2@29+1p[0 0 0] | roots 0=1 1=2 2=3 | from 1", 2, 9, 17, 33)
	// Then nothing: a major one runs in its place, and none within it.
	gcTells(t, g, full+"; minor; major; hard", "1 2 3:1 1:2 1:2 1:3")
	gcStands(t, g, full+"; minor; major; hard", "3@1+0p[] 1@25+1p[0 0 0] 2@29+1p[0 0 0] | roots 0=1 1=2 2=3 | from 1", 2, 9, 17, 33)
	// It makes room for a minor one within it.
	gcTells(t, g, full+"; drop 0; minor", "1 2 3:1 0 0:21")
	gcStands(t, g, full+"; drop 0; minor", "2@25+1p[0 0 0] 3@29+1p[] | roots 1=2 2=3", 1, 9, 17, 30)
	// With nothing in young old may be full.
	gcTells(t, g, "new 0 3; new 1 3; minor; minor; major", "1 2 1:1 1:1 1:21")
	// One word more in young than old has free: what is occupied counts, whether it lives or not.
	gcTells(t, g, "new 0 3; minor; new 1 3; minor; drop 1; new 1 0; drop 1; minor", "1 1:1 2 1:1 0 3 0 1:21")
	gcTells(t, g, "new 0 3; minor; new 1 2; minor; drop 1; new 1 0; drop 1; minor", "1 1:1 2 1:1 0 3 0 1:1")
	gcTells(t, g, "new 0 3; minor; new 1 2; minor; new 2 1; drop 2; minor", "1 1:1 2 1:1 3 0 1:2")
	// It is not hard.
	gcStands(t, g, "new 0 1 soft; new 1 0; set 0 1 0; drop 1; new 1 3; minor; new 2 0; new 3 0; minor", "4@1+0p[] 5@2+0p[] 1@25+1s[2] 3@27+1p[0 0 0] 2@31+1p[] | roots 0=1 1=3 2=4 3=5 | from 1")
}

// What a major cycle takes from young leaves its words occupied, until a minor one empties them.
func TestMajorLeavesGaps(t *testing.T) {
	g := tight()
	gap := "new 0 3; new 1 3; minor; new 2 1; new 2 1; major"
	gcTells(t, g, gap, "1 2 1:1 3 4 1:2")
	gcStands(t, g, gap, "4@3+0p[0] 1@25+1p[0 0 0] 2@29+1p[0 0 0] | roots 0=1 1=2 2=4 | from 1", 5, 9, 17, 33)
	gcTells(t, g, gap+"; new 3 3; new 3 0", "1 2 1:1 3 4 1:2 5 full:223")
	gcStands(t, g, gap+"; new 3 3; new 3 0", "4@3+0p[0] 5@5+0p[0 0 0] 1@25+1p[0 0 0] 2@29+1p[0 0 0] | roots 0=1 1=2 2=4 3=5 | from 1", 9, 9, 17, 33)
	gcStands(t, g, gap+"; drop 0; minor", "2@25+1p[0 0 0] 4@29+1p[0] | roots 1=2 2=4", 1, 9, 17, 31)
	// Likewise in from.
	g.Age = 15
	from := "new 0 5; major; new 1 0; new 2 0; minor; drop 1; new 3 0; new 4 0; major"
	gcTells(t, g, from, "1 1:21 2 3 1:1 0 4 5 1:2")
	gcStands(t, g, from, "4@1+0p[] 5@2+0p[] 3@10+1p[] 1@25+1p[0 0 0 0 0] | roots 0=1 2=3 3=4 4=5", 3, 11, 17, 31)
}

func TestOldSlides(t *testing.T) {
	g := impl.GcConfig{Eden: 20, Survivor: 8, Old: 20, Age: 1, Card: 4}
	old := "new 0 0; new 1 2; new 2 1; new 3 3; new 4 0; minor"
	gcStands(t, g, old, "1@37+1p[] 2@38+1p[0 0] 3@41+1p[0] 4@43+1p[0 0 0] 5@47+1p[] | roots 0=1 1=2 2=3 3=4 4=5 | from 1", 1, 21, 29, 48)
	gcStands(t, g, old+"; drop 1; major", "1@37+1p[] 3@38+1p[0] 4@40+1p[0 0 0] 5@44+1p[] | roots 0=1 2=3 3=4 4=5", 1, 21, 29, 45)
	gcStands(t, g, old+"; drop 0; drop 3; major", "2@37+1p[0 0] 3@40+1p[0] 5@42+1p[] | roots 1=2 2=3 4=5", 1, 21, 29, 43)
	gcStands(t, g, old+"; drop 0; drop 1; drop 2; drop 3; hard", "5@37+1p[] | roots 4=5", 1, 21, 29, 38)
	// They stay in the order of their addresses, whoever holds them; young ones come behind, by the order of copies.
	gcStands(t, g, old+"; drop 0; new 0 1; new 5 0; set 0 5 0; drop 5; new 5 0; copy 6 1; drop 1; major", "2@37+1p[0 0] 3@40+1p[0] 4@42+1p[0 0 0] 5@46+1p[] 6@47+1p[7] 8@49+1p[] 7@50+1p[] | roots 0=6 2=3 3=4 4=5 5=8 6=2")
	// Rings go as a whole.
	gcStands(t, g, "new 0 1; new 1 1; set 0 1 0; set 1 0 0; minor; drop 0; drop 1; major", "")
	gcStands(t, g, "new 0 1; new 1 1; set 0 1 0; set 1 0 0; minor; drop 0; minor; major", "1@37+1p[2] 2@39+1p[1] | roots 1=2 | from 1")
}

// Cards move with what slides, and are dirty where a young one is held then.
func TestCardsOfMajor(t *testing.T) {
	g := impl.GcConfig{Eden: 16, Survivor: 8, Old: 8, Age: 1, Card: 4}
	ops := "new 0 3; new 1 3; minor; new 2 6; new 3 0; set 1 3 0"
	gcStands(t, g, ops, "3@1+0p[0 0 0 0 0 0] 4@8+0p[] 1@33+1p[0 0 0] 2@37+1p[4 0 0] | roots 0=1 1=2 2=3 3=4 | from 1 | dirty 1", 9, 17, 25, 41)
	gcStands(t, g, ops+"; drop 0; major", "3@1+0p[0 0 0 0 0 0] 4@8+0p[] 2@33+1p[4 0 0] | roots 1=2 2=3 3=4 | from 1 | dirty 0", 9, 17, 25, 37)
	gcStands(t, g, ops+"; major", "3@1+0p[0 0 0 0 0 0] 4@8+0p[] 1@33+1p[0 0 0] 2@37+1p[4 0 0] | roots 0=1 1=2 2=3 3=4 | from 1 | dirty 1")
	gcStands(t, g, ops+"; set 1 7 0; major", "3@1+0p[0 0 0 0 0 0] 4@8+0p[] 1@33+1p[0 0 0] 2@37+1p[0 0 0] | roots 0=1 1=2 2=3 3=4 | from 1")
	// Any field holds dirty, a weak one too.
	weak := "new 0 3; new 1 3 weak; minor; new 2 6; new 3 0; set 1 3 0"
	gcStands(t, g, weak+"; drop 0; major", "3@1+0p[0 0 0 0 0 0] 4@8+0p[] 2@33+1w[4 0 0] | roots 1=2 2=3 3=4 | from 1 | dirty 0")
	gcStands(t, g, weak+"; drop 0; drop 3; major", "3@1+0p[0 0 0 0 0 0] 2@33+1w[0 0 0] | roots 1=2 2=3 | queue 2 | from 1", 9, 17, 25, 37)
}

func TestCards(t *testing.T) {
	g := wide()
	g.Age = 1
	old := "new 0 2; new 1 2; new 2 2; new 3 2; minor; new 4 0"
	// Old objects are at 193, 196, 199 and 202: the first words of 0, 3, 6 and 9 behind its beginning.
	dirty := map[int64][]int64{1: {0, 3, 6, 9}, 2: {0, 1, 3, 4}, 3: {0, 1, 2, 3}, 4: {0, 0, 1, 2}, 7: {0, 0, 0, 1}, 9: {0, 0, 0, 1}, 10: {0, 0, 0, 0}, 63: {0, 0, 0, 0}, 64: {0, 0, 0, 0}}
	for card, want := range dirty {
		g.Card = card
		for k, n := range want {
			for field := range 2 {
				_, h := testGc(t, g, gcOpsOf(fmt.Sprintf("%s; set %d 4 %d", old, k, field)))
				same(t, fmt.Sprint("cards of ", card, ", object ", k), h.Dirty, []int64{n})
			}
		}
		_, h := testGc(t, g, gcOpsOf(old+"; set 3 4 0; set 0 4 0"))
		all := []int64{want[0], want[3]}
		if want[0] == want[3] {
			all = all[:1]
		}
		same(t, fmt.Sprint("two of cards of ", card), h.Dirty, all)
	}
	g.Card = 1
	// An old one or null that is stored makes nothing dirty, and nothing clean; neither does what a young one holds.
	for _, ops := range []string{"set 0 1 0", "set 0 0 0", "set 0 7 0", "set 4 0 0", "new 4 1; set 4 4 0", "get 5 0 0", "copy 5 4"} {
		_, h := testGc(t, g, gcOpsOf(old+"; "+ops))
		same(t, ops, h.Dirty, nil)
		_, h = testGc(t, g, gcOpsOf(old+"; set 0 4 0; "+ops))
		same(t, ops+" behind", h.Dirty, []int64{0})
	}
	// The last words of old.
	g = impl.GcConfig{Eden: 8, Survivor: 8, Old: 9, Age: 1, Card: 4}
	gcStands(t, g, "new 0 6; minor; new 1 1; minor; new 2 0; set 1 2 0", "3@1+0p[] 1@25+1p[0 0 0 0 0 0] 2@32+1p[3] | roots 0=1 1=2 2=3 | dirty 1")
	g.Card = 8
	gcStands(t, g, "new 0 6; minor; new 1 0; minor; new 2 0; minor; new 3 0", "4@1+0p[] 1@25+1p[0 0 0 0 0 0] 2@32+1p[] 3@33+1p[] | roots 0=1 1=2 2=3 3=4 | from 1", 2, 9, 17, 34)
}

// What nobody reaches holds young ones as long as it is old.
func TestOldOnesThatNobodyHolds(t *testing.T) {
	g := wide()
	g.Age = 1
	ops := "new 0 1; minor; new 1 0; set 0 1 0; drop 0; drop 1; minor"
	gcStands(t, g, ops, "1@193+1p[2] 2@195+1p[]", 1, 65, 129, 196)
	gcStands(t, g, ops+"; major", "| from 1", 1, 65, 129, 193)
	// A major cycle looks at them.
	gcStands(t, g, "new 0 1; minor; new 1 0; set 0 1 0; drop 0; drop 1; major", "")
}

func TestNewWithoutRoom(t *testing.T) {
	g := tight()
	full := "new 0 3; new 1 3; minor; new 2 3; new 3 3"
	gcStands(t, g, full, "3@1+0p[0 0 0] 4@5+0p[0 0 0] 1@25+1p[0 0 0] 2@29+1p[0 0 0] | roots 0=1 1=2 2=3 3=4 | from 1", 9, 9, 17, 33)
	// Nowhere: each cycle in turn, and nothing is done; the next Id is not used up.
	gcTells(t, g, full+"; new 4 0; new 0 0; drop 2; new 4 0", "1 2 1:1 3 4 full:223 full:223 0 full:223")
	gcStands(t, g, full+"; new 4 0; new 0 0", "3@1+0p[0 0 0] 4@5+0p[0 0 0] 1@25+1p[0 0 0] 2@29+1p[0 0 0] | roots 0=1 1=2 2=3 3=4 | from 1", 9, 9, 17, 33)
	// In old, where eden stays full: old's room is used to its last word.
	gcTells(t, g, full+"; drop 0; new 4 0; new 5 2; new 6 0; new 6 0", "1 2 1:1 3 4 0 5:223 6:223 full:223 full:223")
	gcStands(t, g, full+"; drop 0; new 4 0; new 5 2", "3@1+0p[0 0 0] 4@5+0p[0 0 0] 2@25+1p[0 0 0] 5@29+0p[] 6@30+0p[0 0] | roots 1=2 2=3 3=4 4=5 5=6 | from 1", 9, 9, 17, 33)
	gcTells(t, g, full+"; drop 0; new 4 4; new 4 3", "1 2 1:1 3 4 0 full:223 5:223")
	// A major one in the minor one's place makes room.
	gcTells(t, g, full+"; drop 0; drop 1; new 4 0", "1 2 1:1 3 4 0 0 5:21")
	gcStands(t, g, full+"; drop 0; drop 1; new 4 0", "5@1+0p[] 3@25+1p[0 0 0] 4@29+1p[0 0 0] | roots 2=3 3=4 4=5", 2, 9, 17, 33)
	// The hard one makes room in old.
	soft := "new 0 1 soft; new 1 5; set 0 1 0; drop 1; minor; new 2 3"
	gcStands(t, g, soft, "3@1+0p[0 0 0] 1@25+1s[2] 2@27+1p[0 0 0 0 0] | roots 0=1 2=3 | from 1", 5, 9, 17, 33)
	gcTells(t, g, soft+"; new 3 4", "1 2 1 0 1:1 3 4:2231")
	gcStands(t, g, soft+"; new 3 4", "4@1+0p[0 0 0 0] 1@25+1s[0] 3@27+1p[0 0 0] | roots 0=1 2=3 3=4 | queue 1", 6, 9, 17, 31)
	gcTells(t, g, soft+"; new 4 3; new 3 4", "1 2 1 0 1:1 3 4 5:223")
	gcStands(t, g, soft+"; new 4 3; new 3 4", "3@1+0p[0 0 0] 4@5+0p[0 0 0] 1@25+1s[0] 5@27+0p[0 0 0 0] | roots 0=1 2=3 3=5 4=4 | queue 1 | from 1")
	gcTells(t, g, soft+"; new 4 3; new 3 6", "1 2 1 0 1:1 3 4 full:223")
	// With a Code the cycles have been run all the same.
	gcStands(t, g, soft+"; new 4 3; new 3 6", "3@1+0p[0 0 0] 4@5+0p[0 0 0] 1@25+1s[0] | roots 0=1 2=3 4=4 | queue 1 | from 1")
	// No object is greater than a space: the greatest has 7 words.
	gcTells(t, g, "new 0 6; new 0 6; new 0 6; new 0 6", "1 2:1 3:21 4:21")
	gcTells(t, g, "new 0 6; new 1 6; new 2 6; new 3 0", "1 2:1 full:223 3")
	gcTells(t, g, "new 0 6; new 0 0; new 0 0", "1 2 3:1")
}
