package tests

import (
	"regexp"
	"slices"
	"strings"
	"testing"

	"loop.example/g00032/impl"
)

// Chapter 2's texts as patterns: the program is held against them at all short texts of a few letters, besides the cases that are written out.
const (
	namePattern  = `[A-Za-z][A-Za-z0-9_.$]{0,39}`
	typePattern  = `\[{0,4}(?:[IJD]|@` + namePattern + `)`
	sigPattern   = `\((?:` + typePattern + `(?:,` + typePattern + `){0,7})?\)(?:V|` + typePattern + `)`
	shapePattern = `(?:` + typePattern + `|0|-|!!|!(?:0|[1-9][0-9]?|[123][0-9][0-9]))`
)

func whole(pattern string) *regexp.Regexp { return regexp.MustCompile(`\A` + pattern + `\z`) }

// eachText goes through all texts of at most so many of the letters.
func eachText(letters string, most int, visit func(string)) {
	visit("")
	if most == 0 {
		return
	}
	for at := range len(letters) {
		eachText(letters, most-1, func(rest string) { visit(letters[at:at+1] + rest) })
	}
}

func testTexts(t *testing.T, what string, ok func(string) bool, right, wrong []string) {
	t.Helper()
	for _, s := range right {
		if !ok(s) {
			t.Errorf("%s(%.60q) is false", what, s)
		}
	}
	for _, s := range wrong {
		if ok(s) {
			t.Errorf("%s(%.60q) is true", what, s)
		}
	}
}

func longName(n int) string { return "N" + strings.Repeat("x", n-1) }

func TestNames(t *testing.T) {
	right := []string{"A", "z", "Point", "a.b.C", "Z$3", "new", "V", "I", "x_1", "a$", "a.", "a_", "a9", "A..$$__00", longName(impl.MaxName), strings.Repeat("Q", 40)}
	wrong := []string{"", "1", "1a", "_a", ".a", "$a", "_", ".", "$", " a", "a ", "a b", "a-b", "@A", "[I", "a,b", "a(b", "a)", "a:", "a;", "a/b", "a\"", "a\\", "a\n", "a\x00", "\x00", "a|", "a*", "a!",
		"é", "aé", "éa", "aß", "a\u2160", "a\u0660", "ａ", "a\U0001F600", "a\x80", "\xff", "a\xff", "a\xc3", "a\xed\xa0\x80", "a\ufffd", "a\xe9",
		longName(impl.MaxName + 1), strings.Repeat("é", 20), longName(39) + "é", longName(impl.MaxName-1) + "-", "-" + longName(impl.MaxName-1)}
	testTexts(t, "NameOk", impl.NameOk, right, wrong)
}

func TestNameBytes(t *testing.T) {
	pattern := whole(namePattern)
	for c := range 256 {
		b := string([]byte{byte(c)})
		for _, s := range []string{b, b + "a", "a" + b, "a" + b + "a", "a" + b + b, "é" + b, "a\xc3" + b, longName(39) + b, longName(40) + b} {
			want := pattern.MatchString(s)
			if impl.NameOk(s) != want {
				t.Errorf("NameOk(%q) is %v", s, !want)
			}
			if impl.TypeOk("@"+s) != want || impl.ShapeOk("[@"+s) != want || impl.SigOk("(@"+s+")V") != want {
				t.Errorf("of the name %q a type, shape or signature is not %v", s, want)
			}
		}
	}
}

func TestTypes(t *testing.T) {
	right := []string{"I", "J", "D", "@A", "@I", "@V", "@Point.$", "@" + longName(40), "[I", "[J", "[D", "[@A", "[[I", "[[[I", "[[[[I", "[[[[@A", "[[[[@" + longName(40)}
	wrong := []string{"", "V", "@", "@1", "@_a", "@@A", "@[I", "[", "[[", "[[[[", "[V", "[[V", "[0", "[@", "[@1", "I[", "II", "I ", " I", "IJ", "[I]", "@A,", "@A;", "I,", "A", "i", "R", "B", "[[[[[I", "[[[[[@A", "[[[[[[[[[[I", "@" + longName(41), "[@" + longName(41), "@é", "\xff", "I\x00", "0", "-", "!!", "!1", "()V"}
	testTexts(t, "TypeOk", impl.TypeOk, right, wrong)
}

func TestKinds(t *testing.T) {
	for s, want := range map[string]int64{
		"I": impl.KindInt, "J": impl.KindLong, "D": impl.KindFloat, "@A": impl.KindRef, "@I": impl.KindRef, "[I": impl.KindRef, "[J": impl.KindRef, "[D": impl.KindRef, "[@A": impl.KindRef, "[[[[D": impl.KindRef,
		"V": 0, "": 0, "@": 0, "[": 0, "[V": 0, "[[[[[D": 0, "II": 0, "R": 0, "0": 0, "-": 0, "!!": 0, "!0": 0, "()I": 0, "I ": 0, "@1": 0,
	} {
		if got := impl.KindOf(s); got != want {
			t.Errorf("KindOf(%q) is %d, not %d", s, got, want)
		}
	}
}

func manyParams(n int) string { return strings.TrimSuffix(strings.Repeat("I,", n), ",") }

func TestSignatures(t *testing.T) {
	long := "@" + longName(40)
	right := []string{"()V", "()I", "()[[[[@A", "(I)V", "(I,J)D", "(@A,[@B,D)@C", "(@V)V", "(" + manyParams(impl.MaxParams) + ")V", "(" + manyParams(impl.MaxParams) + ")[I",
		"(" + strings.TrimSuffix(strings.Repeat("[[[["+long+",", 8), ",") + ")[[[[" + long}
	wrong := []string{"", "V", "I", "(", ")", "()", "(I)", "(V)V", "(V)I", "(I,V)V", "(V,I)V", "()[V", "()VV", "()V ", " ()V", "()II", "()I,J", "(,)V", "(I,)V", "(,I)V", "(I,,J)V", "(IJ)V", "(I J)V", "(I;J)V", "(I, J)V",
		"I)V", "(IV", "((I)V", "(I))V", "()()V", "(()V)V", "(I)V)", ")I(V", "[I]V", "(I)W", "(I)@", "(@)V", "([)V", "([[[[[I)V", "()[[[[[I", "(" + manyParams(9) + ")V", "(@" + longName(41) + ")V", "()@" + longName(41), "(I)V\x00", "(\x00)V", "(é)V"}
	testTexts(t, "SigOk", impl.SigOk, right, wrong)
	for _, s := range wrong {
		if p := impl.Params(s); len(p) != 0 {
			t.Errorf("Params(%q) is %q", s, p)
		}
		if r := impl.Result(s); r != "" {
			t.Errorf("Result(%q) is %q", s, r)
		}
	}
}

func TestParamsAndResults(t *testing.T) {
	for _, c := range []struct {
		sig    string
		params []string
		result string
	}{
		{"()V", nil, "V"},
		{"()J", nil, "J"},
		{"(I)V", []string{"I"}, "V"},
		{"(D,J,I)@A", []string{"D", "J", "I"}, "@A"},
		{"(@B,[[@A,[I)[[[[D", []string{"@B", "[[@A", "[I"}, "[[[[D"},
		{"(I,J,D,@A,@B,[I,[@A,[[J)I", []string{"I", "J", "D", "@A", "@B", "[I", "[@A", "[[J"}, "I"},
		{"(I,I,I,I,I,I,I,I)V", []string{"I", "I", "I", "I", "I", "I", "I", "I"}, "V"},
	} {
		if p := impl.Params(c.sig); !slices.Equal(p, c.params) {
			t.Errorf("Params(%q) is %q", c.sig, p)
		}
		if r := impl.Result(c.sig); r != c.result {
			t.Errorf("Result(%q) is %q", c.sig, r)
		}
	}
}

func TestParamsAreNew(t *testing.T) {
	first := impl.Params("(I,J)V")
	first[0], first[1] = "x", "y"
	_ = append(first, "z")
	if again := impl.Params("(I,J)V"); !slices.Equal(again, []string{"I", "J"}) {
		t.Errorf("a second answer is %q", again)
	}
}

func TestShapes(t *testing.T) {
	right := []string{"I", "J", "D", "@A", "[I", "[[[[@A", "0", "-", "!!", "!0", "!1", "!9", "!10", "!99", "!100", "!398", "!399", "@" + longName(40)}
	wrong := []string{"", "V", "!", "!!!", "!!0", "!00", "!01", "!007", "!-1", "!+1", "!-0", "! 1", "!1 ", "!1!", "!400", "!401", "!999", "!1000", "!4294967296", "!18446744073709551616", "!0x1", "!1_0", "!1e1", "!1.", "!a", "!@A", "!I", "1", "00", "--", "-1", "-!", "0-", "@", "[0", "[-", "[!!", "[!0", "@0", "[[[[[I",
		"!" + strings.Repeat("1", 5000), "!" + strings.Repeat("0", 5000), "!1" + strings.Repeat("0", 5000), "!٣", "!\xff", "@" + longName(41)}
	testTexts(t, "ShapeOk", impl.ShapeOk, right, wrong)
}

func TestShapeNumbers(t *testing.T) {
	pattern := whole(shapePattern)
	eachText("0123456789-+ ", 4, func(digits string) {
		if s := "!" + digits; impl.ShapeOk(s) != pattern.MatchString(s) {
			t.Errorf("ShapeOk(%q) is %v", s, impl.ShapeOk(s))
		}
	})
}

func TestAllShortTexts(t *testing.T) {
	t.Parallel()
	name, typ, sig, shape := whole(namePattern), whole(typePattern), whole(sigPattern), whole(shapePattern)
	look := func(s string) {
		if impl.NameOk(s) != name.MatchString(s) {
			t.Errorf("NameOk(%q) is %v", s, impl.NameOk(s))
		}
		if impl.TypeOk(s) != typ.MatchString(s) || (impl.KindOf(s) != 0) != typ.MatchString(s) {
			t.Errorf("TypeOk(%q) is %v", s, impl.TypeOk(s))
		}
		if impl.SigOk(s) != sig.MatchString(s) || (impl.Result(s) != "") != sig.MatchString(s) {
			t.Errorf("SigOk(%q) is %v", s, impl.SigOk(s))
		}
		if impl.ShapeOk(s) != shape.MatchString(s) {
			t.Errorf("ShapeOk(%q) is %v", s, impl.ShapeOk(s))
		}
	}
	eachText("IV@[(,)", 6, look)
	eachText("aZ9_.$é", 5, look)
	eachText("I@[!0-1", 5, look)
	eachText("(I,)V[", 7, func(s string) { look("(I,I,I,I,I,I" + s) })
}

// What is put together of the parts of a signature is one, and comes apart again.
func TestSignaturesComeApart(t *testing.T) {
	types := []string{"I", "J", "D", "@A", "[I", "[[[[@" + longName(40)}
	draw := numbers{state: 7}
	for range 2000 {
		params := make([]string, int(draw.next()&0x7fffffff)%(impl.MaxParams+1))
		for k := range params {
			params[k] = types[int(draw.next()&0x7fffffff)%len(types)]
		}
		result := append(types, "V")[int(draw.next()&0x7fffffff)%(len(types)+1)]
		sig := "(" + strings.Join(params, ",") + ")" + result
		if !impl.SigOk(sig) || !slices.Equal(impl.Params(sig), params) || impl.Result(sig) != result {
			t.Errorf("%q: %v %q %q", sig, impl.SigOk(sig), impl.Params(sig), impl.Result(sig))
		}
	}
}
