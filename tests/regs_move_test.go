package tests

import "testing"

func TestMovesOfWays(t *testing.T) {
	regsAre(t, "one", unitTold("", "(I,I)I 2 / load I 0 / if eq a / load I 1 / store I 0 / a: / load I 0 / load I 1 / sub I / return I"), 0,
		"2 / 0 param I 0 > 0 / 1 param I 1 > 1 / 2 goto -> 3 / 3 if eq: 0 -> 8 4 / 4 move: 1 > 0 / 5 goto -> 6 / 6 sub I: 0 1 > 0 / 7 return: 0 / 8 goto -> 6")
	regsAre(t, "ahead of RegGoto, and behind all", unitTold("", "(I,I)I 2 / load I 0 / if lt a / load I 1 / store I 0 / load I 1 / if gt a / load I 1 / const I 2 / mul I / store I 0 / a: / load I 0 / return I"), 0,
		"2 / 0 param I 0 > 0 / 1 param I 1 > 1 / 2 goto -> 3 / 3 if lt: 0 -> 9 4 / 4 if gt: 1 -> 10 5 / 5 const I 2 > 0 / 6 mul I: 1 0 > 0 / 7 goto -> 8 / 8 return: 0 / 9 goto -> 8 / 10 move: 1 > 0 / 11 goto -> 8")
	regsAre(t, "two ways of one block to the same", unitTold("", "(I,I)I 2 / load I 0 / if lt a / load I 1 / store I 0 / load I 1 / if gt a / a: / load I 0 / return I"), 0,
		"2 / 0 param I 0 > 0 / 1 param I 1 > 1 / 2 goto -> 3 / 3 if lt: 0 -> 6 4 / 4 if gt: 1 -> 7 9 / 5 return: 0 / 6 goto -> 5 / 7 move: 1 > 0 / 8 goto -> 5 / 9 move: 1 > 0 / 10 goto -> 5")
	regsAre(t, "EndSwitch", unitTold("", "(I,I,I)I 3 / load I 0 / if lt a / load I 1 / store I 0 / load I 2 / switch 7 c a b a c / a: / load I 1 / const I 3 / mul I / store I 1 / b: / load I 0 / load I 1 / sub I / return I / c: / load I 1 / return I"), 0,
		"3 / 0 param I 0 > 0 / 1 param I 1 > 1 / 2 param I 2 > 2 / 3 goto -> 4 / 4 if lt: 0 -> 12 5 / 5 switch 7: 2 -> 11 13 15 17 11 / 6 const I 3 > 2 / 7 mul I: 1 2 > 1 / 8 goto -> 9 / 9 sub I: 0 1 > 0 / 10 return: 0 / 11 return: 1 / 12 goto -> 6 / 13 move: 1 > 0 / 14 goto -> 6 / 15 move: 1 > 0 / 16 goto -> 9 / 17 move: 1 > 0 / 18 goto -> 6")
	regsAre(t, "two phis with one argument", unitTold("", "(I,I,I)I 3 / load I 2 / if eq a / load I 0 / load I 1 / sub I / dup / store I 0 / store I 1 / a: / load I 0 / load I 1 / load I 2 / sub I / mul I / return I"), 0,
		"3 / 0 param I 0 > 0 / 1 param I 1 > 1 / 2 param I 2 > 2 / 3 goto -> 4 / 4 if eq: 2 -> 11 5 / 5 sub I: 0 1 > 0 / 6 move: 0 > 1 / 7 goto -> 8 / 8 sub I: 1 2 > 1 / 9 mul I: 0 1 > 0 / 10 return: 0 / 11 goto -> 8")
}

func TestMovesInChains(t *testing.T) {
	regsAre(t, "a chain", unitTold("", "(I,I,I,I)I 4 / a: / load I 3 / if le out / load I 1 / load I 2 / store I 1 / store I 0 / inc 3 -1 / goto a / out: / load I 0 / load I 1 / sub I / load I 2 / mul I / return I"), 0,
		"4 / 0 param I 0 > 0 / 1 param I 1 > 1 / 2 param I 2 > 2 / 3 param I 3 > 3 / 4 goto -> 5 / 5 if le: 3 -> 12 6 / 6 const I -1 > 0 / 7 add I: 3 0 > 0 / 8 move: 0 > 3 / 9 move: 1 > 0 / 10 move: 2 > 1 / 11 goto -> 5 / 12 sub I: 0 1 > 0 / 13 mul I: 0 2 > 0 / 14 return: 0")
	regsAre(t, "the other way", unitTold("", "(I,I,I,I)I 4 / a: / load I 3 / if le out / load I 0 / load I 1 / store I 2 / store I 1 / inc 3 -1 / goto a / out: / load I 0 / load I 1 / sub I / load I 2 / mul I / return I"), 0,
		"4 / 0 param I 0 > 0 / 1 param I 1 > 1 / 2 param I 2 > 2 / 3 param I 3 > 3 / 4 goto -> 5 / 5 if le: 3 -> 12 6 / 6 const I -1 > 2 / 7 add I: 3 2 > 2 / 8 move: 2 > 3 / 9 move: 1 > 2 / 10 move: 0 > 1 / 11 goto -> 5 / 12 sub I: 0 1 > 0 / 13 mul I: 0 2 > 0 / 14 return: 0")
	regsAre(t, "two from one", unitTold("", "(I,I,I,I)I 4 / a: / load I 3 / if le out / load I 0 / load I 0 / store I 2 / store I 1 / load I 3 / store I 0 / inc 3 -1 / goto a / out: / load I 0 / load I 1 / sub I / load I 2 / mul I / return I"), 0,
		"5 / 0 param I 0 > 0 / 1 param I 1 > 1 / 2 param I 2 > 2 / 3 param I 3 > 3 / 4 goto -> 5 / 5 if le: 3 -> 14 6 / 6 const I -1 > 1 / 7 add I: 3 1 > 1 / 8 move: 0 > 2 / 9 move: 3 > 4 / 10 move: 1 > 3 / 11 move: 0 > 1 / 12 move: 4 > 0 / 13 goto -> 5 / 14 sub I: 0 1 > 0 / 15 mul I: 0 2 > 0 / 16 return: 0")
}

func TestMovesInRings(t *testing.T) {
	regsAre(t, "two", unitTold("", "(I,I,I)I 4 / a: / load I 2 / if le out / load I 0 / store I 3 / load I 1 / store I 0 / load I 3 / store I 1 / inc 2 -1 / goto a / out: / load I 0 / load I 1 / sub I / return I"), 0,
		"5 / 0 param I 0 > 0 / 1 param I 1 > 1 / 2 param I 2 > 2 / 3 goto -> 4 / 4 if le: 2 -> 11 5 / 5 const I -1 > 3 / 6 add I: 2 3 > 2 / 7 move: 1 > 4 / 8 move: 0 > 1 / 9 move: 4 > 0 / 10 goto -> 4 / 11 sub I: 0 1 > 0 / 12 return: 0")
	regsAre(t, "two, behind all", unitTold("", "(I,I,I)I 3 / a: / load I 0 / load I 1 / store I 0 / store I 1 / inc 2 -1 / load I 2 / if gt a / load I 0 / load I 1 / sub I / return I"), 0,
		"5 / 0 param I 0 > 0 / 1 param I 1 > 1 / 2 param I 2 > 2 / 3 goto -> 4 / 4 const I -1 > 3 / 5 add I: 2 3 > 2 / 6 if gt: 2 -> 9 7 / 7 sub I: 1 0 > 0 / 8 return: 0 / 9 move: 1 > 4 / 10 move: 0 > 1 / 11 move: 4 > 0 / 12 goto -> 4")
	regsAre(t, "three", unitTold("", "(I,I,I,I)I 4 / a: / load I 3 / if le out / load I 0 / load I 1 / load I 2 / store I 1 / store I 0 / store I 2 / inc 3 -1 / goto a / out: / load I 0 / load I 1 / sub I / load I 2 / mul I / return I"), 0,
		"6 / 0 param I 0 > 0 / 1 param I 1 > 1 / 2 param I 2 > 2 / 3 param I 3 > 3 / 4 goto -> 5 / 5 if le: 3 -> 13 6 / 6 const I -1 > 4 / 7 add I: 3 4 > 3 / 8 move: 1 > 5 / 9 move: 2 > 1 / 10 move: 0 > 2 / 11 move: 5 > 0 / 12 goto -> 5 / 13 sub I: 0 1 > 0 / 14 mul I: 0 2 > 0 / 15 return: 0")
	regsAre(t, "three, the other way", unitTold("", "(I,I,I,I)I 4 / a: / load I 3 / if le out / load I 0 / load I 1 / load I 2 / store I 0 / store I 2 / store I 1 / inc 3 -1 / goto a / out: / load I 0 / load I 1 / sub I / load I 2 / mul I / return I"), 0,
		"6 / 0 param I 0 > 0 / 1 param I 1 > 1 / 2 param I 2 > 2 / 3 param I 3 > 3 / 4 goto -> 5 / 5 if le: 3 -> 13 6 / 6 const I -1 > 4 / 7 add I: 3 4 > 3 / 8 move: 2 > 5 / 9 move: 1 > 2 / 10 move: 0 > 1 / 11 move: 5 > 0 / 12 goto -> 5 / 13 sub I: 0 1 > 0 / 14 mul I: 0 2 > 0 / 15 return: 0")
	regsAre(t, "two rings", unitTold("", "(I,I,I,I,I)I 5 / a: / load I 0 / load I 1 / store I 0 / store I 1 / load I 2 / load I 3 / store I 2 / store I 3 / inc 4 -1 / load I 4 / if gt a / load I 0 / load I 1 / sub I / load I 2 / mul I / load I 3 / sub I / return I"), 0,
		"7 / 0 param I 0 > 0 / 1 param I 1 > 1 / 2 param I 2 > 2 / 3 param I 3 > 3 / 4 param I 4 > 4 / 5 goto -> 6 / 6 const I -1 > 5 / 7 add I: 4 5 > 4 / 8 if gt: 4 -> 13 9 / 9 sub I: 1 0 > 0 / 10 mul I: 0 3 > 0 / 11 sub I: 0 2 > 0 / 12 return: 0 / 13 move: 1 > 6 / 14 move: 0 > 1 / 15 move: 6 > 0 / 16 move: 3 > 6 / 17 move: 2 > 3 / 18 move: 6 > 2 / 19 goto -> 6")
	regsAre(t, "two rings, one in the other", unitTold("", "(I,I,I,I,I)I 5 / a: / load I 0 / load I 3 / store I 0 / store I 3 / load I 2 / load I 1 / store I 2 / store I 1 / inc 4 -1 / load I 4 / if gt a / load I 0 / load I 1 / sub I / load I 2 / mul I / load I 3 / sub I / return I"), 0,
		"7 / 0 param I 0 > 0 / 1 param I 1 > 1 / 2 param I 2 > 2 / 3 param I 3 > 3 / 4 param I 4 > 4 / 5 goto -> 6 / 6 const I -1 > 5 / 7 add I: 4 5 > 4 / 8 if gt: 4 -> 13 9 / 9 sub I: 3 2 > 2 / 10 mul I: 2 1 > 1 / 11 sub I: 1 0 > 0 / 12 return: 0 / 13 move: 3 > 6 / 14 move: 0 > 3 / 15 move: 6 > 0 / 16 move: 2 > 6 / 17 move: 1 > 2 / 18 move: 6 > 1 / 19 goto -> 6")
	regsAre(t, "a ring with a chain", unitTold("", "(I,I,I,I)I 4 / a: / load I 3 / if le out / load I 0 / load I 1 / load I 0 / store I 2 / store I 0 / store I 1 / inc 3 -1 / goto a / out: / load I 0 / load I 1 / sub I / load I 2 / mul I / return I"), 0,
		"5 / 0 param I 0 > 0 / 1 param I 1 > 1 / 2 param I 2 > 2 / 3 param I 3 > 3 / 4 goto -> 5 / 5 if le: 3 -> 14 6 / 6 const I -1 > 2 / 7 add I: 3 2 > 2 / 8 move: 2 > 3 / 9 move: 0 > 2 / 10 move: 1 > 4 / 11 move: 0 > 1 / 12 move: 4 > 0 / 13 goto -> 5 / 14 sub I: 0 1 > 0 / 15 mul I: 0 2 > 0 / 16 return: 0")
	regsAre(t, "a ring behind a chain", unitTold("", "(I,I,I,I)I 4 / a: / load I 3 / if le out / load I 1 / load I 2 / load I 1 / store I 0 / store I 1 / store I 2 / inc 3 -1 / goto a / out: / load I 0 / load I 1 / sub I / load I 2 / mul I / return I"), 0,
		"5 / 0 param I 0 > 0 / 1 param I 1 > 1 / 2 param I 2 > 2 / 3 param I 3 > 3 / 4 goto -> 5 / 5 if le: 3 -> 14 6 / 6 const I -1 > 0 / 7 add I: 3 0 > 0 / 8 move: 0 > 3 / 9 move: 1 > 0 / 10 move: 2 > 4 / 11 move: 1 > 2 / 12 move: 4 > 1 / 13 goto -> 5 / 14 sub I: 0 1 > 0 / 15 mul I: 0 2 > 0 / 16 return: 0")
	regsAre(t, "rings on two ways", unitTold("", "(I,I,I)I 3 / a: / load I 1 / load I 0 / store I 1 / store I 0 / b: / load I 1 / call -1 / inc 1 -1 / inc 2 -1 / load I 2 / load I 1 / ifint gt a / load I 2 / if gt b / load I 0 / return I"), 0,
		"5 / 0 param I 0 > 0 / 1 param I 1 > 1 / 2 param I 2 > 2 / 3 goto -> 4 / 4 goto -> 5 / 5 print: 0 / 6 const I -1 > 3 / 7 add I: 0 3 > 0 / 8 const I -1 > 3 / 9 add I: 2 3 > 2 / 10 if gt: 2 0 -> 13 11 / 11 if gt: 2 -> 17 12 / 12 return: 1 / 13 move: 1 > 4 / 14 move: 0 > 1 / 15 move: 4 > 0 / 16 goto -> 4 / 17 goto -> 5")
}
