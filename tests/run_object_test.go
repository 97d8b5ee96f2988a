package tests

import (
	"fmt"
	"strings"
	"testing"

	"loop.example/g00032/impl"
)

// made is the code that makes an object of a class with a method new without parameters.
func made(class string) string { return "new " + class + " / dup / call special " + class + " new ()V" }

// makesSuper is a method new that does nothing but to call that of the Super.
func makesSuper(super string) string {
	return " / method new ()V stack 1 locals 1 / load R 0 / call special " + super + " new ()V / return"
}

func TestStaticFields(t *testing.T) {
	const f = "class F Object / field i I static / field j J static / field d D static / field r @F static / field a [I static / field v I static volatile"
	for _, row := range []string{"i I : I 0", "j J : J 0", "d D : D 0p0", "r @F : R 0", "a [I : R 0", "v I : I 0"} {
		field, want, _ := strings.Cut(row, " : ")
		typ := words(field)[1]
		does(t, typ, "getstatic F "+field+" / return "+kindLetter(typ), "ok "+want, f)
	}
	does(t, "J", "const J 7 / putstatic F j J / const I 3 / putstatic F i I / getstatic F j J / return J", "ok J 7", f)
	does(t, "D", "const D nan / putstatic F d D / getstatic F d D / return D", "ok D nan", f)
	does(t, "@F", "null / putstatic F r @F / getstatic F r @F / return R", "ok R 0", f)
	// One for each class and name: by a class below it is the same one, and a field of the same name there is another.
	const g, h = "class G F", "class H F / field i I static"
	does(t, "V", "const I 1 / putstatic F i I / const I 2 / putstatic G i I / const I 3 / putstatic H i I / getstatic F i I / "+printI+" / getstatic G i I / "+printI+" / getstatic H i I / "+printI+" / getstatic F v I / "+printI+" / return", "ok : 2 2 3 0", f, g, h)
	const i = "class I Object abstract interface / field c I static final / method start ()V static stack 1 locals 0 / const I 8 / putstatic I c I / return"
	does(t, "I", "getstatic K c I / return I", "ok I 8", i, "class K Object / implements I")
	// A private one is its own class's.
	does(t, "I", "getstatic M p I / const I 4 / add I / putstatic M p I / getstatic M p I / return I / field p I static private", "ok I 4")
	does(t, "I", "getstatic Q p I / return I", "thrown LinkError", "class Q Object / field p I static private")
}

func TestObjectFields(t *testing.T) {
	f := "class F Object / field i I / field j J / field d D / field r @F / field a [@F" + makesSuper("Object")
	g := "class G F / field i J / field k I" + makesSuper("F")
	for _, row := range []string{"i I : I 0", "j J : J 0", "d D : D 0p0", "r @F : R 0", "a [@F : R 0"} {
		field, want, _ := strings.Cut(row, " : ")
		typ := words(field)[1]
		does(t, typ, made("F")+" / get F "+field+" / return "+kindLetter(typ), "ok "+want, f)
		does(t, typ, "null / get F "+field+" / return "+kindLetter(typ), "thrown NullError", f)
	}
	const two = " / store R 1 / "
	does(t, "V", made("F")+" / store R 0 / "+made("F")+two+"load R 0 / const I 5 / put F i I / load R 1 / const I 6 / put F i I / load R 0 / get F i I / "+printI+" / load R 1 / get F i I / "+printI+" / load R 0 / get F j J / "+printJ+" / return", "ok : 5 6 0", f)
	// A class below has all fields, also two of one name.
	does(t, "V", made("G")+two+"load R 1 / const I 5 / put F i I / load R 1 / const J 6 / put G i J / load R 1 / const I 7 / put G k I / load R 1 / const D 1p0 / put G d D / load R 1 / get F i I / "+printI+" / load R 1 / get G i J / "+printJ+" / load R 1 / get G k I / "+printI+" / load R 1 / get F d D / "+printD+" / load R 1 / get G j J / "+printJ+" / return", "ok : 5 6 7 1p0 0", f, g)
	does(t, "@F", made("F")+" / dup / dup / put F r @F / get F r @F / get F r @F / return R", "ok R 1", f)
	does(t, "V", "null / const I 1 / put F i I / return", "thrown NullError", f)
	does(t, "V", "null / null / put F r @F / return", "thrown NullError", f)
	// What is thrown has a message of null, or that which it was made with.
	does(t, "V", "null / throw / caught: / get NullError message @String / "+printS+" / return / handler 0 2 caught NullError", "ok : null")
	does(t, "V", `new Error / dup / text "why" / call special Error new (@String)V / throw / caught: / get Error message @String / `+printS+" / return / handler 0 5 caught Error", "ok : why")
	does(t, "@String", "new StopError / dup / null / call special StopError new (@String)V / get Throwable message @String / return R", "ok R 0")
}

func TestNumbersOfObjects(t *testing.T) {
	does(t, "@Object", made("Object")+" / pop / "+made("Thread")+" / pop / "+made("Object")+" / return R", "ok R 3")
	// Arrays, texts, and what is thrown have numbers of the same row; a text has one from its first use on.
	does(t, "@Object", `text "a" / pop / const I 5 / newarray I / pop / text "a" / pop / call static M fails ()V / const I 0 / newarray @M / return R / method fails ()V static stack 1 locals 0 / null / throw / pop / return / handler 0 2 2 *`, "ok R 4")
	does(t, "I", "new Object / pop / new M / pop / new String / pop / "+made("Object")+" / call virtual Object hash ()I / return I", "ok I 4")
	does(t, "@Object", "null / throw / caught: / return R / handler 0 2 caught *", "ok R 1")
	// Of more than one that is thrown each has one.
	does(t, "I", made("Object")+" / pop / use: / getstatic S x I / return I / caught: / call virtual Object hash ()I / return I / handler use caught caught *", "ok I 3", "class S Object / field x I static / method start ()V static stack 1 locals 0 / null / throw")
}

func TestArrays(t *testing.T) {
	for _, row := range []string{"I : I 0", "J : J 0", "D : D 0p0", "@M : R 0", "[I : R 0", "[[[@Nope : R 0", "@Nope : R 0"} {
		typ, want, _ := strings.Cut(row, " : ")
		k := kindLetter(typ)
		array := "const I 3 / newarray " + typ
		does(t, typ, array+" / const I 2 / aload "+k+" / return "+k, "ok "+want)
		does(t, typ, array+" / const I 3 / aload "+k+" / return "+k, "thrown BoundsError")
		does(t, typ, array+" / const I -1 / aload "+k+" / return "+k, "thrown BoundsError")
		does(t, typ, array+" / const I -2147483648 / aload "+k+" / return "+k, "thrown BoundsError")
		does(t, "I", array+" / length / return I", "ok I 3")
	}
	for length, want := range map[int]string{0: "ok I 0", 1: "ok I 1", 999: "ok I 999", 1000: "ok I 1000", 1001: "thrown SizeError", -1: "thrown SizeError", 2147483647: "thrown SizeError", -2147483648: "thrown SizeError"} {
		for _, typ := range words("I D @M [J") {
			does(t, "I", fmt.Sprintf("const I %d / newarray %s / length / return I", length, typ), want)
		}
	}
	does(t, "I", "const I 0 / newarray I / const I 0 / aload I / return I", "thrown BoundsError")
	does(t, "I", "null / length / return I", "thrown NullError")
	const a = "const I 3 / newarray J / store R 0 / "
	does(t, "V", a+"load R 0 / const I 2 / const J 7 / astore J / load R 0 / const I 0 / const J -7 / astore J / load R 0 / const I 0 / aload J / "+printJ+" / load R 0 / const I 1 / aload J / "+printJ+" / load R 0 / const I 2 / aload J / "+printJ+" / return", "ok : -7 0 7")
	does(t, "V", a+"load R 0 / const I 3 / const J 7 / astore J / return", "thrown BoundsError")
	does(t, "V", a+"load R 0 / const I -1 / const J 7 / astore J / return", "thrown BoundsError")
	// Arrays of arrays share what they hold.
	does(t, "I", "const I 1 / newarray [I / store R 0 / const I 2 / newarray I / store R 1 / load R 0 / const I 0 / load R 1 / astore R / load R 1 / const I 1 / const I 9 / astore I / load R 0 / const I 0 / aload R / const I 1 / aload I / return I", "ok I 9")
	does(t, "I", "null / cast [I / const I 1 / aload I / return I", "thrown NullError")
	does(t, "V", "null / cast [I / const I 1 / const I 2 / astore I / return", "thrown NullError")
	// The last element of the greatest.
	does(t, "D", "const I 1000 / newarray D / store R 0 / load R 0 / const I 999 / const D inf / astore D / load R 0 / const I 999 / aload D / return D", "ok D inf")
}

// objectClasses stand to each other in all ways; what is made of them is asked for by cast, is and the elements of arrays.
func objectClasses() []string {
	return []string{"class A Object / implements I" + makesSuper("Object"), "class B A / implements J" + makesSuper("A"), "class E Object" + makesSuper("Object"), "class I Object abstract interface", "class J Object abstract interface / implements K", "class K Object abstract interface"}
}

// objectRows: what makes an object, and all types that it is of.
func objectRows() map[string]string {
	return map[string]string{
		made("A"): "@A @I @Object", made("B"): "@B @A @I @J @K @Object", made("E"): "@E @Object", made("Object"): "@Object", `text "x"`: "@String @Object",
		"const I 1 / newarray I": "[I @Object", "const I 1 / newarray @A": "[@A [@I [@Object @Object", "const I 1 / newarray @B": "[@B [@A [@I [@J [@K [@Object @Object", "const I 0 / newarray @I": "[@I [@Object @Object",
		"const I 1 / newarray [I": "[[I [@Object @Object", "const I 1 / newarray [@B": "[[@B [[@A [[@I [[@J [[@K [[@Object [@Object @Object", "const I 1 / newarray @Object": "[@Object @Object",
		"new StopError / dup / null / call special StopError new (@String)V": "@StopError @Error @Throwable @Object",
	}
}

func castTypes() []string {
	return words("@A @B @E @I @J @K @Object @String @StopError @Error @Throwable @NullError [I [J [@A [@B [@E [@I [@J [@K [@Object [[I [[@A [[@B [[@I [[@J [[@K [[@Object [[[I")
}

func TestCasts(t *testing.T) {
	t.Parallel()
	cs := objectClasses()
	for code, types := range objectRows() {
		for _, typ := range castTypes() {
			if strings.Contains(" "+types+" ", " "+typ+" ") {
				does(t, "I", code+" / is "+typ+" / return I", "ok I 1", cs...)
				does(t, "V", code+" / dup / cast "+typ+" / ifsame eq same / return / same: / const I 1 / "+printI+" / return", "ok : 1", cs...)
				continue
			}
			does(t, "I", code+" / is "+typ+" / return I", "ok I 0", cs...)
			does(t, "V", code+" / cast "+typ+" / pop / return", "thrown CastError", cs...)
		}
	}
	for _, typ := range castTypes() {
		does(t, "I", "null / is "+typ+" / return I", "ok I 0", cs...)
		does(t, "@Object", "null / cast "+typ+" / return R", "ok R 0", cs...)
	}
	for _, typ := range words("@Nope [@Nope [[[[@Nope") {
		for _, object := range []string{"null", made("A"), "const I 1 / newarray @Nope"} {
			does(t, "I", object+" / is "+typ+" / return I", "thrown LinkError", cs...)
			does(t, "V", object+" / cast "+typ+" / pop / return", "thrown LinkError", cs...)
		}
	}
}

func TestStores(t *testing.T) {
	t.Parallel()
	cs := objectClasses()
	for code, types := range objectRows() {
		for _, typ := range append(castTypes(), "@Nope", "[@Nope") {
			// What is put into an array no verifier looks at.
			store := "const I 2 / newarray " + typ + " / store R 0 / load R 0 / const I 1 / " + code + " / astore R / load R 0 / const I 1 / aload R / ifnull eq none / const I 1 / " + printI + " / none: / return"
			want := "thrown StoreError"
			if strings.Contains(" "+types+" ", " "+typ+" ") {
				want = "ok : 1"
			}
			does(t, "V", store, want, cs...)
		}
	}
	for _, typ := range append(castTypes(), "@Nope") {
		does(t, "V", "const I 2 / newarray "+typ+" / const I 1 / null / astore R / return", "ok", cs...)
	}
	// What an array of a class below takes, whatever it is held as.
	does(t, "V", "const I 1 / newarray @B / cast [@A / const I 0 / "+made("A")+" / astore R / return", "thrown StoreError", cs...)
	does(t, "V", "const I 1 / newarray @B / cast [@A / const I 0 / "+made("B")+" / astore R / return", "ok", cs...)
}

// Where more than one thing is wrong, the first counts.
func TestOrderOfErrors(t *testing.T) {
	loud := "class L Object / field x I static / field y I / field f I static final / field p I static private / method start ()V static stack 1 locals 0 / const I 1 / " + printI + " / return / method s ()V static stack 0 locals 0 / return / method v ()V stack 0 locals 1 / return / method n ()V static native / method w ()V native" + makesSuper("Object")
	for code, want := range map[string]string{
		// LinkError ahead of the use of a class.
		"getstatic L x J / pop": "thrown LinkError", "getstatic L y I / pop": "thrown LinkError", "getstatic L p I / pop": "thrown LinkError", "const I 1 / putstatic L f I": "thrown LinkError", "call static L v ()V": "thrown LinkError", "call static L none ()V": "thrown LinkError",
		// The use of a class ahead of all else.
		"getstatic L x I / pop": "ok : 1", "getstatic L f I / pop": "ok : 1", "const I 1 / putstatic L x I": "ok : 1", "call static L s ()V": "ok : 1", "call static L n ()V": "thrown LinkError : 1", "new L / pop": "ok : 1",
		// Fields and methods of objects use none.
		"null / get L y I / pop": "thrown NullError", "null / const I 1 / put L y I": "thrown NullError", "null / call virtual L v ()V": "thrown NullError", "null / call virtual L w ()V": "thrown NullError", "null / cast @L / pop": "ok", "null / is @L / pop": "ok", "const I 1 / newarray @L / pop": "ok",
		// LinkError ahead of NullError.
		"null / get L y J / pop": "thrown LinkError", "null / get L x I / pop": "thrown LinkError", "null / const I 1 / put L none I": "thrown LinkError", "null / call virtual L s ()V": "thrown LinkError", "null / call interface L v ()V": "thrown LinkError", "null / call virtual Nope v ()V": "thrown LinkError", "null / get Nope y I / pop": "thrown LinkError", "null / cast @Nope / pop": "thrown LinkError", "null / is [@Nope / pop": "thrown LinkError",
		// NullError ahead of the rest.
		"null / cast [I / const I -1 / aload I / pop": "thrown NullError", "null / cast [I / const I -1 / const I 0 / astore I": "thrown NullError", `null / cast [@L / const I -1 / text "x" / astore R`: "thrown NullError",
		// BoundsError ahead of StoreError.
		`const I 1 / newarray @L / const I 1 / text "x" / astore R`: "thrown BoundsError", `const I 1 / newarray @L / const I -1 / text "x" / astore R`: "thrown BoundsError", `const I 1 / newarray @L / const I 0 / text "x" / astore R`: "thrown StoreError",
		"new Nope / pop": "thrown LinkError", "new I / pop": "thrown LinkError", "new C / pop": "thrown LinkError", "null / throw": "thrown NullError",
		"null / enter": "thrown NullError", "null / exit": "thrown NullError",
		"const I 1 / const I 0 / div I / pop": "thrown ArithError", "const J 1 / const J 0 / rem J / pop": "thrown ArithError",
	} {
		does(t, "V", code+" / return", want, loud, "class I Object abstract interface", "class C Object abstract / method start ()V static stack 1 locals 0 / const I 2 / "+printI+" / return")
	}
}

// filling makes so many objects, in 2 steps and 6 for each of them.
func filling(n int) string {
	return fmt.Sprintf("const I 0 / store I 0 / loop: / new Object / pop / inc 0 1 / load I 0 / const I %d / ifint lt loop / ", n)
}

// A run that needs one object more than there may be ends, whatever the object is for; the step that finds no room is one.
func TestRoom(t *testing.T) {
	t.Parallel()
	const most = impl.MaxObjects
	for _, row := range []struct {
		last string
		step int64
		want string
	}{
		{"new Object / pop", 1, "ok"}, {"const I 0 / newarray I / pop", 2, "ok"}, {`text "a" / pop`, 1, "ok"}, {"const I 1 / const I 0 / div I / pop", 3, "thrown ArithError"}, {"null / throw", 2, "thrown NullError"},
		{"getstatic Nope x I / pop", 1, "thrown LinkError"}, {"const I -1 / newarray I / pop", 2, "thrown SizeError"}, {"null / enter", 2, "thrown NullError"}, {"call static M n ()V", 1, "thrown LinkError"},
	} {
		const more = " / return / method n ()V static native"
		does(t, "V", filling(most-1)+row.last+more, row.want)
		does(t, "V", filling(most)+row.last+more, "room")
		o := ran(t, told(mainOf("V", filling(most)+row.last+more)), "M main ()V")
		same(t, "steps to "+row.last, o.Steps, 2+6*most+row.step)
	}
	// Natives.
	const text = `text "ab" / store R 1 / `
	part, join := "load R 1 / const I 0 / const I 1 / call virtual String part (I,I)@String / "+printS+" / ", "load R 1 / load R 1 / call virtual String join (@String)@String / "+printS+" / "
	at, hash := "load R 1 / const I 1 / call virtual String at (I)I / "+printI+" / ", "load R 1 / call virtual Object hash ()I / "+printI+" / "
	does(t, "V", text+filling(most-3)+part+join+at+hash+text+"return", "ok : a abab 98 1")
	does(t, "V", text+filling(most-2)+part+at+hash+join+"return", "room : a 98 1")
	does(t, "V", text+filling(most-2)+join+text+part+"return", "room : abab")
	does(t, "V", text+filling(most-1)+text+at+hash+"const I 0 / "+printI+" / new Object / return", "room : 98 1 0")
	// What is thrown in the place of something thrown.
	const start = "class S Object / field x I static / method start ()V static stack 1 locals 0 / null / throw"
	const use = "use: / getstatic S x I / pop / return / caught: / pop / const I 1 / " + printI + " / return / handler use caught caught *"
	does(t, "V", filling(most-2)+use, "ok : 1", start)
	does(t, "V", filling(most-1)+use, "room", start)
	does(t, "V", filling(most)+use, "room", start)
	// The trace up to there stays.
	does(t, "V", "const I 7 / "+printI+" / loop: / new Object / pop / goto loop", "room : 7")
}
