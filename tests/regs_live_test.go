package tests

import "testing"

func TestWhatLives(t *testing.T) {
	regsAre(t, "in its own block alone", unitTold("", "(I)I 1 / load I 0 / const I 2 / mul I / load I 0 / const I 3 / mul I / xor I / return I"), 0,
		"3 / 0 param I 0 > 0 / 1 goto -> 2 / 2 const I 2 > 1 / 3 mul I: 0 1 > 1 / 4 const I 3 > 2 / 5 mul I: 0 2 > 0 / 6 xor I: 1 0 > 0 / 7 return: 0")
	regsAre(t, "in another block", unitTold("", "(I)I 3 / load I 0 / const I 2 / mul I / store I 1 / load I 0 / const I 3 / mul I / store I 2 / load I 2 / if eq a / const I 5 / return I / a: / load I 1 / return I"), 0,
		"3 / 0 param I 0 > 0 / 1 goto -> 2 / 2 const I 2 > 1 / 3 mul I: 0 1 > 1 / 4 const I 3 > 2 / 5 mul I: 0 2 > 0 / 6 if eq: 0 -> 9 7 / 7 const I 5 > 0 / 8 return: 0 / 9 return: 1")
	regsAre(t, "needed on one way of two", unitTold("I", "(I)I 2 / load I 0 / const I 2 / mul I / store I 1 / load I 0 / if eq a / const I 5 / put 0 / get 0 / return I / a: / get 0 / load I 1 / sub I / return I"), 0,
		"2 / 0 param I 0 > 0 / 1 goto -> 2 / 2 const I 2 > 1 / 3 mul I: 0 1 > 1 / 4 if eq: 0 -> 9 5 / 5 const I 5 > 0 / 6 put 0: 0 / 7 get I 0 > 0 / 8 return: 0 / 9 get I 0 > 0 / 10 sub I: 0 1 > 0 / 11 return: 0")
	regsAre(t, "around a loop", unitTold("I", "(I,I)I 3 / const I 6 / store I 2 / a: / get 0 / load I 2 / add I / put 0 / inc 0 -1 / load I 0 / if gt a / load I 1 / return I"), 0,
		"4 / 0 param I 0 > 0 / 1 param I 1 > 1 / 2 goto -> 3 / 3 const I 6 > 2 / 4 goto -> 5 / 5 get I 0 > 3 / 6 add I: 3 2 > 3 / 7 put 0: 3 / 8 const I -1 > 3 / 9 add I: 0 3 > 0 / 10 if gt: 0 -> 12 11 / 11 return: 1 / 12 goto -> 5")
	regsAre(t, "made in a loop", unitTold("I", "(I)I 2 / const I 6 / store I 1 / a: / load I 1 / call -1 / get 0 / load I 0 / add I / store I 1 / inc 0 -1 / load I 0 / if gt a / load I 0 / return I"), 0,
		"3 / 0 param I 0 > 0 / 1 goto -> 2 / 2 const I 6 > 1 / 3 goto -> 4 / 4 print: 1 / 5 get I 0 > 1 / 6 add I: 1 0 > 1 / 7 const I -1 > 2 / 8 add I: 0 2 > 0 / 9 if gt: 0 -> 11 10 / 10 return: 0 / 11 goto -> 4")
	regsAre(t, "at ends", unitTold("I", "(I,I)I 2 / load I 0 / load I 1 / const I 9 / put 0 / ifint lt a / load I 0 / load I 1 / const I 8 / put 0 / sub I / return I / a: / load I 1 / const I 7 / put 0 / return I"), 0,
		"3 / 0 param I 0 > 0 / 1 param I 1 > 1 / 2 goto -> 3 / 3 const I 9 > 2 / 4 put 0: 2 / 5 if lt: 0 1 -> 10 6 / 6 const I 8 > 2 / 7 put 0: 2 / 8 sub I: 0 1 > 0 / 9 return: 0 / 10 const I 7 > 0 / 11 put 0: 0 / 12 return: 1")
	regsAre(t, "at the end of EndSwitch", unitTold("I", "(I)V 1 / load I 0 / const I 5 / add I / const I 9 / put 0 / switch 0 a a / a: / return"), 0,
		"2 / 0 param I 0 > 0 / 1 goto -> 2 / 2 const I 5 > 1 / 3 add I: 0 1 > 0 / 4 const I 9 > 1 / 5 put 0: 1 / 6 switch 0: 0 -> 7 7 / 7 return")
	regsAre(t, "parameters never used", unitTold("", "(I,J,I,J,I)I 5 / load I 0 / load I 2 / sub I / return I"), 0,
		"3 / 0 param I 0 > 0 / 1 param J 1 > 1 / 2 param I 2 > 1 / 3 param J 3 > 2 / 4 param I 4 > 2 / 5 goto -> 6 / 6 sub I: 0 1 > 0 / 7 return: 0")
	regsAre(t, "parameters never used, the first one too", unitTold("", "(J,I,J,I,J)I 5 / load I 1 / load I 3 / sub I / return I"), 0,
		"3 / 0 param J 0 > 0 / 1 param I 1 > 0 / 2 param J 2 > 1 / 3 param I 3 > 1 / 4 param J 4 > 2 / 5 goto -> 6 / 6 sub I: 0 1 > 0 / 7 return: 0")
}

// is made all the same, where it is not swept, and may not take what is needed yet.
func TestWhatIsNeverUsed(t *testing.T) {
	u := unitTold("", "(I)I 1 / load I 0 / const I 2 / mul I / const I 7 / pop / load I 0 / neg I / pop / const I 5 / const I 3 / add I / pop / load I 0 / const I 4 / add I / add I / return I")
	regsAre(t, "nodes, level 0", u, 0,
		"4 / 0 param I 0 > 0 / 1 goto -> 2 / 2 const I 2 > 1 / 3 mul I: 0 1 > 1 / 4 const I 7 > 2 / 5 neg I: 0 > 2 / 6 const I 5 > 2 / 7 const I 3 > 3 / 8 add I: 2 3 > 2 / 9 const I 4 > 2 / 10 add I: 0 2 > 0 / 11 add I: 1 0 > 0 / 12 return: 0")
	regsAre(t, "nodes, level 1", u, 1,
		"3 / 0 param I 0 > 0 / 1 goto -> 2 / 2 const I 2 > 1 / 3 mul I: 0 1 > 1 / 4 const I 7 > 2 / 5 neg I: 0 > 2 / 6 const I 5 > 2 / 7 const I 3 > 2 / 8 const I 8 > 2 / 9 const I 4 > 2 / 10 add I: 0 2 > 0 / 11 add I: 1 0 > 0 / 12 return: 0")
	regsAre(t, "nodes, level 2", u, 2,
		"3 / 0 param I 0 > 0 / 1 goto -> 2 / 2 const I 2 > 1 / 3 mul I: 0 1 > 1 / 4 const I 7 > 2 / 5 neg I: 0 > 2 / 6 const I 5 > 2 / 7 const I 3 > 2 / 8 const I 8 > 2 / 9 const I 4 > 2 / 10 add I: 0 2 > 0 / 11 add I: 1 0 > 0 / 12 return: 0")
	regsAre(t, "nodes, level 3", u, 3,
		"3 / 0 param I 0 > 0 / 1 goto -> 2 / 2 const I 2 > 1 / 3 mul I: 0 1 > 1 / 4 const I 4 > 2 / 5 add I: 0 2 > 0 / 6 add I: 1 0 > 0 / 7 return: 0")
	u = unitTold("", "(I)I 1 / load I 0 / const I 2 / mul I / load I 0 / call 1 / pop / load I 0 / add I / return I", "(I)J 1 / const J 7 / return J")
	regsAre(t, "a call, level 0", u, 0,
		"3 / 0 param I 0 > 0 / 1 goto -> 2 / 2 const I 2 > 1 / 3 mul I: 0 1 > 1 / 4 call J 1: 0 > 2 / 5 add I: 1 0 > 0 / 6 return: 0")
	regsAre(t, "a call, level 3", u, 3,
		"3 / 0 param I 0 > 0 / 1 goto -> 2 / 2 const I 2 > 1 / 3 mul I: 0 1 > 1 / 4 call J 1: 0 > 2 / 5 add I: 1 0 > 0 / 6 return: 0")
	regsAre(t, "a call, level 4", u, 4,
		"2 / 0 param I 0 > 0 / 1 goto -> 2 / 2 const I 2 > 1 / 3 mul I: 0 1 > 1 / 4 add I: 1 0 > 0 / 5 return: 0")
	regsAre(t, "a division", unitTold("", "(I,I)I 2 / load I 0 / load I 1 / rem I / pop / load I 0 / load I 1 / sub I / return I"), 3,
		"3 / 0 param I 0 > 0 / 1 param I 1 > 1 / 2 goto -> 3 / 3 rem I: 0 1 > 2 / 4 sub I: 0 1 > 0 / 5 return: 0")
}

func TestPhisThatLive(t *testing.T) {
	regsAre(t, "what their block makes", unitTold("", "(I)I 1 / a: / load I 0 / const I 3 / sub I / dup / store I 0 / if gt a / const I 1 / return I"), 0,
		"2 / 0 param I 0 > 0 / 1 goto -> 2 / 2 const I 3 > 1 / 3 sub I: 0 1 > 0 / 4 if gt: 0 -> 7 5 / 5 const I 1 > 0 / 6 return: 0 / 7 goto -> 2")
	regsAre(t, "another one of their block", unitTold("", "(I,I,I)I 3 / a: / load I 1 / store I 0 / inc 1 -1 / load I 1 / if gt a / load I 0 / return I"), 0,
		"4 / 0 param I 0 > 0 / 1 param I 1 > 1 / 2 param I 2 > 2 / 3 goto -> 4 / 4 const I -1 > 0 / 5 add I: 1 0 > 0 / 6 if gt: 0 -> 8 7 / 7 return: 1 / 8 move: 1 > 3 / 9 move: 0 > 1 / 10 move: 3 > 0 / 11 goto -> 4")
	u := unitTold("", "(I,I)I 3 / load I 0 / store I 2 / load I 0 / if eq a / inc 0 1 / inc 2 2 / a: / load I 0 / return I")
	regsAre(t, "one of two is never used, level 0", u, 0,
		"4 / 0 param I 0 > 0 / 1 param I 1 > 1 / 2 goto -> 3 / 3 if eq: 0 -> 13 4 / 4 const I 1 > 1 / 5 add I: 0 1 > 1 / 6 const I 2 > 2 / 7 add I: 0 2 > 0 / 8 move: 1 > 3 / 9 move: 0 > 1 / 10 move: 3 > 0 / 11 goto -> 12 / 12 return: 0 / 13 move: 0 > 1 / 14 goto -> 12")
	regsAre(t, "one of two is never used, level 3", u, 3,
		"2 / 0 param I 0 > 0 / 1 param I 1 > 1 / 2 goto -> 3 / 3 if eq: 0 -> 8 4 / 4 const I 1 > 1 / 5 add I: 0 1 > 0 / 6 goto -> 7 / 7 return: 0 / 8 goto -> 7")
	regsAre(t, "one that is never used, and others live on", unitTold("", "(I,I)I 3 / load I 0 / store I 2 / load I 0 / if eq a / inc 2 2 / inc 0 1 / a: / const I 5 / load I 0 / sub I / load I 1 / sub I / return I"), 0,
		"4 / 0 param I 0 > 0 / 1 param I 1 > 1 / 2 goto -> 3 / 3 if eq: 0 -> 13 4 / 4 const I 2 > 2 / 5 add I: 0 2 > 2 / 6 const I 1 > 3 / 7 add I: 0 3 > 0 / 8 goto -> 9 / 9 const I 5 > 2 / 10 sub I: 2 0 > 0 / 11 sub I: 0 1 > 0 / 12 return: 0 / 13 move: 0 > 2 / 14 goto -> 9")
	regsAre(t, "an argument on one way of two", unitTold("", "(I,I)I 2 / load I 0 / if eq a / load I 1 / if eq b / const I 1 / const I 2 / sub I / return I / b: / inc 0 1 / a: / load I 0 / return I"), 0,
		"2 / 0 param I 0 > 0 / 1 param I 1 > 1 / 2 goto -> 3 / 3 if eq: 0 -> 13 4 / 4 if eq: 1 -> 9 5 / 5 const I 1 > 0 / 6 const I 2 > 1 / 7 sub I: 0 1 > 0 / 8 return: 0 / 9 const I 1 > 1 / 10 add I: 0 1 > 0 / 11 goto -> 12 / 12 return: 0 / 13 goto -> 12")
	u = unitTold("", "(I)I 2 / load I 0 / if eq a / const I 3 / goto b / a: / const J 5 / b: / pop / inc 0 -1 / load I 0 / return I")
	regsAre(t, "of both kinds, level 0", u, 0,
		"2 / 0 param I 0 > 0 / 1 goto -> 2 / 2 if eq: 0 -> 5 3 / 3 const I 3 > 1 / 4 goto -> 7 / 5 const J 5 > 1 / 6 goto -> 7 / 7 const I -1 > 1 / 8 add I: 0 1 > 0 / 9 return: 0")
	regsAre(t, "of both kinds, level 3", u, 3,
		"2 / 0 param I 0 > 0 / 1 goto -> 2 / 2 if eq: 0 -> 4 3 / 3 goto -> 5 / 4 goto -> 5 / 5 const I -1 > 1 / 6 add I: 0 1 > 0 / 7 return: 0")
	u = unitTold("", "(I)I 2 / const I 7 / load I 0 / switch 0 b a / a: / pop / const J 5 / b: / pop / load I 0 / return I")
	regsAre(t, "of both kinds, behind EndSwitch, level 0", u, 0,
		"2 / 0 param I 0 > 0 / 1 goto -> 2 / 2 const I 7 > 1 / 3 switch 0: 0 -> 7 4 / 4 const J 5 > 1 / 5 goto -> 6 / 6 return: 0 / 7 goto -> 6")
	regsAre(t, "of both kinds, behind EndSwitch, level 3", u, 3,
		"1 / 0 param I 0 > 0 / 1 goto -> 2 / 2 switch 0: 0 -> 4 3 / 3 goto -> 4 / 4 return: 0")
	regsAre(t, "of both kinds, from two registers", unitTold("I", "(I)I 2 / load I 0 / if eq a / load I 0 / neg I / store I 1 / const I 3 / load I 1 / put 0 / goto b / a: / const J 5 / b: / pop / inc 0 -1 / load I 0 / return I"), 0,
		"3 / 0 param I 0 > 0 / 1 goto -> 2 / 2 if eq: 0 -> 7 3 / 3 neg I: 0 > 1 / 4 const I 3 > 2 / 5 put 0: 1 / 6 goto -> 9 / 7 const J 5 > 1 / 8 goto -> 9 / 9 const I -1 > 1 / 10 add I: 0 1 > 0 / 11 return: 0")
	regsAre(t, "of both kinds, and one of these again", unitTold("", "(I)I 1 / load I 0 / if eq a / const I 3 / goto b / a: / const J 5 / b: / inc 0 -1 / load I 0 / if gt c / pop / const I 7 / c: / pop / load I 0 / return I"), 0,
		"2 / 0 param I 0 > 0 / 1 goto -> 2 / 2 if eq: 0 -> 5 3 / 3 const I 3 > 1 / 4 goto -> 7 / 5 const J 5 > 1 / 6 goto -> 7 / 7 const I -1 > 1 / 8 add I: 0 1 > 0 / 9 if gt: 0 -> 13 10 / 10 const I 7 > 1 / 11 goto -> 12 / 12 return: 0 / 13 goto -> 12")
	regsAre(t, "of both kinds, around a loop", unitTold("", "(I,I)I 2 / const I 3 / a: / inc 0 -1 / load I 0 / if le out / load I 1 / if eq a / pop / const J 4 / goto a / out: / pop / load I 0 / return I"), 0,
		"3 / 0 param I 0 > 0 / 1 param I 1 > 1 / 2 goto -> 3 / 3 const I 3 > 2 / 4 goto -> 5 / 5 const I -1 > 2 / 6 add I: 0 2 > 0 / 7 if le: 0 -> 11 8 / 8 if eq: 1 -> 12 9 / 9 const J 4 > 2 / 10 goto -> 5 / 11 return: 0 / 12 goto -> 5")
}
