package tests

import (
	"fmt"
	"math/big"
	"regexp"
	"slices"
	"strings"
	"testing"

	"loop.example/g00032/impl"
)

// What chapter 3 says of texts, worked out with patterns and with texts alone: the program is held against it at texts that were changed here and there.

var wordPattern = regexp.MustCompile(`"[^"]*(?:"|\z)|[^ "][^ ]*`)

// partedLine gives the words of a line.
func partedLine(line string) []string {
	out := []string{}
	for {
		line = strings.TrimLeft(line, " ")
		if line == "" || strings.HasPrefix(line, ";") {
			return out
		}
		word := wordPattern.FindString(line)
		out, line = append(out, word), line[len(word):]
	}
}

// linePattern makes a pattern of words as the chapter writes them; words are parted by a byte that no text here has.
func linePattern(form string) *regexp.Regexp {
	const number, word = `(?:0|-?[1-9][0-9]{0,14})`, `[^\x00]+`
	flags := `(?:\x00static)?(?:\x00final)?(?:\x00abstract)?(?:\x00private)?(?:\x00volatile)?(?:\x00sync)?(?:\x00native)?(?:\x00interface)?(?:\x00sealed)?`
	forms := map[string]string{
		"K": `[IJDR]`, "N": number, "T": `(?:` + number + `|` + namePattern + `)`, "C": word, "M": word, "Y": word, "X": `(?:eq|ne|lt|ge|gt|le)`, "Z": `[IJDBCS]`, "W": `(?:static|virtual|special|interface)`,
		"Q": `"(?:[ !#-\[\]-~]|\\(?:[01][0-9a-f]|22|5c|7f|[89a-f][0-9a-f]))*"`, "F": `(?:nan|-?inf|-?0p0|-?[1-9][0-9]*p(?:0|-?[1-9][0-9]*))`, "long": `(?:0|-?[1-9][0-9]{0,18})`,
		"flags": flags, "words": `(?:\x00` + word + `)+`, "targets": `(?:\x00(?:` + number + `|` + namePattern + `))+`, "shapes": `(?:\x00(?:[^\x00|]|[^\x00]{2,}))*`, "room": `(?:\x00stack\x00` + number + `\x00locals\x00` + number + `)?`,
		"label": namePattern + `:`,
	}
	out := ""
	for k, part := range strings.Split(form, " ") {
		if k > 0 && !slices.Contains([]string{"flags", "words", "targets", "shapes", "room"}, part) {
			out += `\x00`
		}
		if p, ok := forms[part]; ok {
			out += p
		} else {
			out += regexp.QuoteMeta(part)
		}
	}
	return whole(out)
}

var (
	classForm   = linePattern("class M C flags")
	memberForms = patterns("implements words", "permits words", "field M Y flags", "method M Y flags room", "end")
	bodyForms   = patterns("const I N", "const J long", "const D F", "text Q", "null", "pop", "dup", "swap", "under", "length", "throw", "enter", "exit", "load K N", "store K N", "inc N N",
		"add K", "sub K", "mul K", "div K", "rem K", "neg K", "shl K", "shr K", "ushr K", "and K", "or K", "xor K", "cmp J", "cmp D N", "conv K Z", "goto T", "if X T", "ifint X T", "ifnull X T", "ifsame X T", "switch N T targets",
		"get C M Y", "getstatic C M Y", "put C M Y", "putstatic C M Y", "call W C M Y", "new C", "newarray Y", "aload K", "astore K", "cast Y", "is Y", "return", "return K",
		"handler T T T C", "frame T shapes | shapes", "line T N", "label")
)

func patterns(forms ...string) []*regexp.Regexp {
	out := []*regexp.Regexp{}
	for _, form := range forms {
		out = append(out, linePattern(form))
	}
	return out
}

func matches(all []*regexp.Regexp, s string) bool {
	return slices.ContainsFunc(all, func(p *regexp.Regexp) bool { return p.MatchString(s) })
}

// rightConstant looks at the two numbers of which a pattern can't say all.
func rightConstant(words []string) bool {
	if len(words) != 3 || words[0] != "const" {
		return true
	}
	switch words[1] {
	case "J":
		n, ok := new(big.Int).SetString(words[2], 10)
		return ok && n.IsInt64()
	case "D":
		_, ok := readOracle(words[2])
		return ok
	}
	return true
}

// oracleMethod is a method as texts; its lines by kind, with the number of each line.
type oracleMethod struct {
	head    []string
	lines   map[string][][]string
	numbers map[string][]int64
	labels  map[string]int
}

// targetsOf are the places of targets among the words of a line.
func targetsOf(words []string) []int {
	switch words[0] {
	case "goto", "frame", "line":
		return []int{1}
	case "if", "ifint", "ifnull", "ifsame":
		return []int{2}
	case "handler":
		return []int{1, 2, 3}
	case "switch":
		out := []int{}
		for k := range words[2:] {
			out = append(out, k+2)
		}
		return out
	}
	return nil
}

// readText gives the code and the line of a text, and, when it has no fault but perhaps AsmClass, its one form.
func readText(s string) (int64, int64, string) {
	if len(s) > 60000 {
		return impl.AsmSize, 0, ""
	}
	var head []string
	parts := map[string][]string{}
	methods := []*oracleMethod{}
	ended := false
	for k, line := range strings.Split(s, "\n") {
		words, at := partedLine(line), int64(k+1)
		if len(words) == 0 {
			continue
		}
		joined := strings.Join(words, "\x00")
		switch {
		case ended, head == nil && !classForm.MatchString(joined):
			return impl.AsmLine, at, ""
		case head == nil:
			head = words
		case matches(memberForms, joined):
			switch words[0] {
			case "implements", "permits":
				parts[words[0]] = append(parts[words[0]], words[1:]...)
			case "field":
				parts["field"] = append(parts["field"], strings.Join(words, " "))
			case "method":
				methods = append(methods, &oracleMethod{head: words, lines: map[string][][]string{}, numbers: map[string][]int64{}, labels: map[string]int{}})
			case "end":
				ended = true
			}
		case !matches(bodyForms, joined), len(methods) == 0, !rightConstant(words):
			return impl.AsmLine, at, ""
		default:
			m := methods[len(methods)-1]
			kind := "code"
			if slices.Contains([]string{"handler", "frame", "line"}, words[0]) {
				kind = words[0]
			}
			if label, ok := strings.CutSuffix(words[0], ":"); ok {
				if _, met := m.labels[label]; met {
					return impl.AsmLabel, at, ""
				}
				m.labels[label] = len(m.lines["code"])
				continue
			}
			m.lines[kind], m.numbers[kind] = append(m.lines[kind], words), append(m.numbers[kind], at)
		}
	}
	missing := int64(0)
	for _, m := range methods {
		missing = leastOf(missing, m.resolve())
	}
	if missing > 0 {
		return impl.AsmLabel, missing, ""
	}
	if !ended {
		return impl.AsmEnd, 0, ""
	}
	return impl.AsmOk, 0, oneForm(head, parts, methods)
}

// leastOf takes 0 for nothing.
func leastOf(a, b int64) int64 {
	if a == 0 || b != 0 && b < a {
		return b
	}
	return a
}

// resolve lays numbers in the place of labels, and gives the first line with one that is missing.
func (m *oracleMethod) resolve() int64 {
	missing := int64(0)
	for kind, lines := range m.lines {
		for k, words := range lines {
			for _, place := range targetsOf(words) {
				n, met := m.labels[words[place]]
				if met {
					words[place] = fmt.Sprint(n)
				} else if words[place][0] >= 'A' {
					missing = leastOf(missing, m.numbers[kind][k])
				}
			}
		}
	}
	return missing
}

func oneForm(head []string, parts map[string][]string, methods []*oracleMethod) string {
	out := strings.Join(head, " ") + "\n"
	for _, word := range []string{"implements", "permits"} {
		if len(parts[word]) > 0 {
			out += word + " " + strings.Join(parts[word], " ") + "\n"
		}
	}
	for _, line := range parts["field"] {
		out += line + "\n"
	}
	for _, m := range methods {
		line, room := strings.Join(m.head, " "), regexp.MustCompile(` stack \S+ locals \S+$`)
		if len(m.lines["code"]) == 0 {
			line = room.ReplaceAllString(line, "")
		} else if !room.MatchString(line) {
			line += " stack 0 locals 0"
		}
		out += line + "\n"
		for _, kind := range []string{"code", "handler", "frame", "line"} {
			for _, words := range m.lines[kind] {
				out += strings.Join(words, " ") + "\n"
			}
		}
	}
	return out + "end\n"
}

func testText(t *testing.T, text string) int64 {
	t.Helper()
	got := impl.Assemble(text)
	code, line, form := readText(text)
	if code != impl.AsmOk {
		if got.Code != code || got.Line != line || !alike(got.Class, impl.Class{}) {
			t.Errorf("%q\n%d, line %d, not %d, line %d", text, got.Code, got.Line, code, line)
		}
		return code
	}
	switch {
	case got.Line != 0 || got.Code != impl.AsmOk && got.Code != impl.AsmClass:
		t.Errorf("%q\n%d, line %d, though no line is at fault", text, got.Code, got.Line)
	case got.Code == impl.AsmOk && impl.PrintClass(got.Class) != form:
		t.Errorf("%q\nis %q\nnot %q", text, impl.PrintClass(got.Class), form)
	case got.Code == impl.AsmClass && !alike(got.Class, impl.Class{}):
		t.Errorf("%q\na class beside AsmClass", text)
	}
	return got.Code
}

// changed is the text with one thing in it done otherwise.
func (b *builder) changed(text string) string {
	lines := strings.Split(text, "\n")
	at, other := b.below(len(lines)), b.below(len(lines))
	words := strings.Split(lines[at], " ")
	place := b.below(len(words))
	odd := b.pick("0", "1", "-1", "7", "01", "+1", "-0", "1000000000000000", "999999999999999", "l0", "l1", "l9", "l1:", "I", "J", "D", "R", "V", "eq", "le", "static", "final", "sealed", "stack", "locals", "|", "*", "-", "!!", "!3", "@A", "A", "()V", "\"\"", "\"a", "\"\\0a\"", "\"\\41\"", ";", ";x", "1p0", "nan", "end", "pop", "goto", "frame", "line", "handler", "method", "class", "field", "implements", "return", "\t", "é")
	switch b.below(11) {
	case 0:
		lines = slices.Delete(lines, at, at+1)
	case 1:
		lines = slices.Insert(lines, at, lines[other])
	case 2:
		lines[at], lines[other] = lines[other], lines[at]
	case 3:
		lines[at] = strings.Join(slices.Delete(words, place, place+1), " ")
	case 4:
		lines[at] = strings.Join(slices.Insert(words, place, odd), " ")
	case 5, 6:
		words[place] = odd
		lines[at] = strings.Join(words, " ")
	case 7:
		lines = slices.Insert(lines, at, b.pick(odd, "goto "+odd, "l1:", "l0:", "end", "", " ; ", "text "+odd, "const J "+odd, "const D "+odd, "switch "+odd+" 0 l1 1", "frame "+odd+" I |", "line l0 "+odd))
	case 8:
		cut := b.below(len(text) + 1)
		return text[:cut] + b.pick(" ", "\n", "\"", ";", "0", "-", "x", "") + text[cut:]
	case 9:
		cut := b.below(len(text) + 1)
		return text[:cut] + text[min(cut+1, len(text)):]
	case 10:
		lines[at] += " " + odd
	}
	return strings.Join(lines, "\n")
}

// labelled is the text with labels in front of some instructions, and their names in the place of some targets.
func (b *builder) labelled(text string) string {
	out := []string{}
	for _, line := range strings.Split(text, "\n") {
		words := strings.Split(line, " ")
		if words[0] == "goto" || words[0] == "if" || words[0] == "line" {
			words[targetsOf(words)[0]] = b.pick("l0", "l1", "0", "1")
		}
		if words[0] == "method" {
			line = strings.Join(words, " ") + "\nl0:\nl1:"
		} else {
			line = strings.Join(words, " ")
		}
		out = append(out, line)
	}
	return strings.Join(out, "\n")
}

func TestChangedTexts(t *testing.T) {
	t.Parallel()
	b := builder{numbers{state: 5}}
	met := map[int64]int{}
	for range 3000 {
		text := impl.PrintClass(b.class())
		if b.below(2) == 0 {
			text = b.labelled(text)
		}
		met[testText(t, text)]++
		for range 1 + b.below(12) {
			text = b.changed(text)
			met[testText(t, text)]++
			if t.Failed() {
				t.FailNow()
			}
		}
	}
	for _, code := range []int64{impl.AsmOk, impl.AsmLine, impl.AsmLabel, impl.AsmEnd, impl.AsmClass} {
		if met[code] < 100 {
			t.Errorf("code %d was met %d times", code, met[code])
		}
	}
}
