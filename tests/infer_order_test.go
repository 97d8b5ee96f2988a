package tests

import (
	"fmt"
	"strings"
	"testing"

	"loop.example/g00032/impl"
)

// Of those that wait the one with the least number goes first: of several faults the order tells which one ends all.
func TestTheLeastGoesFirst(t *testing.T) {
	const m = "m (I)V static stack 2 locals 2 / "
	// Both ways of a branch are at fault: the one behind it stands ahead of the target, though the state comes to the target first.
	misses(t, m+"load I 0 / if eq 3 / pop / load J 0", impl.VerStack, 2)
	misses(t, m+"load I 0 / if eq 3 / load J 0 / pop", impl.VerShape, 2)
	misses(t, m+"load I 0 / if eq 4 / load I 0 / goto 1 / pop", impl.VerStack, 4)
	// Of the targets of a switch the order does not matter, their numbers do.
	for _, targets := range []string{"2 3 4", "4 3 2", "3 2 4", "3 4 2", "2 2 3 4 3"} {
		misses(t, m+"load I 0 / switch 0 "+targets+" / pop / load J 0 / add I", impl.VerStack, 2)
		misses(t, m+"load I 0 / switch 0 "+targets+" / return / load J 0 / add I", impl.VerShape, 3)
		misses(t, m+"load I 0 / switch 0 "+targets+" / return / return / add I", impl.VerStack, 4)
	}
	// What is reached late, but stands ahead, goes ahead of what waits longer.
	misses(t, m+"goto 4 / null / load J 1 / return / load I 0 / if eq 1 / pop", impl.VerShape, 2)
	misses(t, m+"goto 3 / load J 0 / return / load I 0 / switch 0 5 1 / pop", impl.VerShape, 1)
	misses(t, m+"load I 0 / switch 0 6 2 / goto 5 / return / load J 0 / goto 4 / pop", impl.VerShape, 4)
	// What is behind a far jump waits until all that stands ahead is done.
	misses(t, m+"load I 0 / switch 0 7 2 / null / store R 1 / null / pop / load D 1 / pop", impl.VerShape, 6)
	misses(t, m+"load I 0 / switch 0 7 2 / null / store R 1 / null / pop / goto 7 / pop", impl.VerStack, 7)
}

// One that waits again goes ahead of a later one that waits for the first time.
func TestTheLeastGoesFirstAgain(t *testing.T) {
	const m = "m (I)V static stack 2 locals 1 / "
	misses(t, m+"load I 0 / pop / null / store R 0 / const I 0 / if eq 0 / pop", impl.VerShape, 0)
	misses(t, m+"load I 0 / pop / null / pop / const I 0 / if eq 0 / pop", impl.VerStack, 6)
	// The round goes on from there, and the fault is where the changed state is at fault first.
	misses(t, m+"null / pop / load I 0 / pop / null / store R 0 / const I 0 / if eq 0 / pop", impl.VerShape, 2)
	misses(t, m+"null / pop / inc 0 1 / const J 0 / store J 0 / const I 0 / if eq 1 / return", impl.VerMerge, 6)
	misses(t, m+"null / pop / inc 0 1 / const J 0 / store J 0 / const I 0 / if eq 0 / return", impl.VerShape, 2)
	misses(t, m+"inc 0 1 / const J 0 / store J 0 / const I 0 / if eq 0 / load I 0", impl.VerShape, 0)
}

// Handlers come ahead of the instruction, in their order; each asks for a Throwable, then for room, and then a state comes.
func TestHandlersGoFirst(t *testing.T) {
	const m = "m (I)V static stack 2 locals 1 / "
	misses(t, m+"pop / return / handler 0 1 1 A", impl.VerFrame, 0)
	misses(t, m+"load J 0 / return / handler 0 1 1 A", impl.VerFrame, 0)
	misses(t, m+"pop / return / handler 0 1 0 *", impl.VerMerge, 0)
	misses(t, m+"load J 0 / return / handler 0 1 0 *", impl.VerMerge, 0)
	misses(t, m+"pop / return / handler 1 2 0 A", impl.VerStack, 0)
	misses(t, m+"pop / return / handler 0 1 1 *", impl.VerStack, 0)
	misses(t, m+"inc 0 1 / handler 0 1 0 *", impl.VerMerge, 0)
	misses(t, m+"inc 0 1 / handler 0 1 0 A", impl.VerFrame, 0)
	// One behind the other.
	misses(t, m+"return / return / handler 0 1 0 * / handler 0 1 1 A", impl.VerMerge, 0)
	misses(t, m+"return / return / handler 0 1 1 A / handler 0 1 0 *", impl.VerFrame, 0)
	misses(t, m+"return / return / handler 0 1 1 * / handler 0 1 1 A", impl.VerFrame, 0)
	misses(t, m+"return / return / handler 0 1 0 A", impl.VerFrame, 0)
	for _, order := range []string{"handler 0 1 1 Error / handler 0 1 1 X / handler 0 1 0 Object", "handler 0 1 1 * / handler 0 1 0 I / handler 0 1 0 *"} {
		misses(t, m+"return / return / "+order, impl.VerFrame, 0)
	}
	const none = "m (I)V static stack 0 locals 1 / return / return / "
	misses(t, none+"handler 0 1 1 * / handler 0 1 1 A", impl.VerStack, 0)
	misses(t, none+"handler 0 1 1 A / handler 0 1 1 *", impl.VerFrame, 0)
	misses(t, none+"handler 0 1 0 *", impl.VerStack, 0) // there is no state to come, so no height that is unlike
	// What is caught waits like all others: it goes by its number.
	misses(t, m+"null / pop / goto 5 / load J 0 / return / pop / handler 0 1 3 *", impl.VerShape, 3)
	misses(t, m+"null / pop / goto 3 / pop / load J 0 / return / handler 0 1 4 *", impl.VerStack, 3)
	misses(t, m+"goto 3 / add I / return / null / load J 0 / handler 3 4 1 *", impl.VerShape, 1)
}

// The instruction comes ahead of its targets, and these ahead of what is behind it.
func TestTargetsGoBehind(t *testing.T) {
	const m = "m (I)V static stack 3 locals 1 / "
	misses(t, m+"null / if eq 0 / return", impl.VerShape, 1)
	misses(t, m+"null / null / if eq 0 / return", impl.VerShape, 2)
	misses(t, m+"null / const I 0 / if eq 0 / return", impl.VerMerge, 2)
	misses(t, m+"null / const I 0 / if eq 0", impl.VerMerge, 2)
	misses(t, m+"null / const I 0 / if eq 1", impl.VerFall, 2)
	misses(t, m+"null / if eq 0", impl.VerShape, 1)
	misses(t, m+"if eq 0", impl.VerStack, 0)
	misses(t, m+"null / const I 0 / switch 0 1 0", impl.VerMerge, 2)
	misses(t, m+"null / const I 0 / switch 0 1 1 1 0 1", impl.VerMerge, 2)
	infers(t, m+"null / const I 0 / switch 0 1 1", "1 I | 0")
	// Ahead of both what a handler asks.
	misses(t, m+"null / const I 0 / if eq 0 / handler 2 3 1 *", impl.VerMerge, 2)
	misses(t, m+"null / const I 0 / if eq 0 / handler 2 3 1 A", impl.VerFrame, 2)
	misses(t, m+"null / const I 0 / if eq 1 / handler 2 3 2 *", impl.VerMerge, 2)
}

// The place of a fault is the number of the instruction from which it is met, not of the one to which a state would come.
func TestPlacesOfFaults(t *testing.T) {
	for n := range int64(12) {
		lead := strings.Repeat("inc 0 1 / ", int(n))
		const m = "m (I)V static stack 2 locals 1 / "
		misses(t, m+lead+"pop / return", impl.VerStack, n)
		misses(t, m+lead+"load J 0 / return", impl.VerShape, n)
		misses(t, m+lead+"null / goto 0", impl.VerMerge, n+1)
		misses(t, m+lead+fmt.Sprintf("null / goto %d", n), impl.VerMerge, n+1)
		misses(t, m+lead+"inc 0 1", impl.VerFall, n)
		misses(t, m+lead+fmt.Sprintf("return / return / handler %d %d %d A", n, n+1, n+1), impl.VerFrame, n)
		misses(t, m+lead+fmt.Sprintf("return / return / handler %d %d 0 *", n, n+1), impl.VerMerge, n)
		misses(t, strings.Replace(m, "stack 2", "stack 0", 1)+lead+fmt.Sprintf("return / return / handler %d %d %d *", n, n+1, n+1), impl.VerStack, n)
	}
}

// A handler that covers its own first instruction: the instruction is gone through from the state that it had, and then, as that has changed, again.
func TestHandlersThatComeToThemselves(t *testing.T) {
	const m = "m (I)V static stack 2 locals 2 / "
	infers(t, m+"null / pop / return / handler 1 2 1 X", "1 I - | @X")
	infers(t, m+"new A / pop / return / handler 1 2 1 X", "1 I - | -")
	// From the state that it had, 3 comes to 1, which goes first then; the state that it has next is at fault by itself.
	misses(t, m+"goto 2 / load J 0 / const I 0 / if eq 1 / return / handler 3 4 3 *", impl.VerShape, 1)
	misses(t, m+"goto 2 / return / const I 0 / if eq 1 / return / handler 3 4 3 *", impl.VerShape, 3)
}
