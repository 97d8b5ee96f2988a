package tests

import (
	"slices"
	"strings"
	"testing"

	"loop.example/g00032/impl"
)

// Chapter 6 worked out once more: what is above is a table of who reaches whom, and all else goes by that.

type world struct {
	classes map[string]impl.Class
	names   []string
	reach   map[[2]string]bool
}

func newWorld(cs []impl.Class) world {
	w := world{classes: map[string]impl.Class{}, reach: map[[2]string]bool{}}
	for _, c := range append(bootClasses(), cs...) {
		w.classes[c.Name] = c
		w.names = append(w.names, c.Name)
	}
	for _, a := range w.names {
		w.reach[[2]string{a, a}] = true
		for _, b := range w.parents(a) {
			w.reach[[2]string{a, b}] = true
		}
	}
	for _, k := range w.names {
		for _, a := range w.names {
			for _, b := range w.names {
				if w.reach[[2]string{a, k}] && w.reach[[2]string{k, b}] {
					w.reach[[2]string{a, b}] = true
				}
			}
		}
	}
	return w
}

func (w world) has(name string) bool { return slices.Contains(w.names, name) }

func (w world) isAbove(a, b string) bool { return w.reach[[2]string{a, b}] }

func (w world) is(name string, flag int64) bool { return w.classes[name].Flags&flag != 0 }

// parents are those that are classes.
func (w world) parents(name string) []string {
	c := w.classes[name]
	return slices.DeleteFunc(append([]string{c.Super}, c.Interfaces...), func(s string) bool { return !w.has(s) })
}

// above takes one step away from the class at a time; all that come up in a step stand behind those of the one ahead.
func (w world) above(name string) []string {
	if !w.has(name) {
		return nil
	}
	out, step := []string{name}, []string{name}
	for len(step) > 0 {
		next := []string{}
		for _, a := range step {
			for _, b := range w.parents(a) {
				if !slices.Contains(out, b) {
					out, next = append(out, b), append(next, b)
				}
			}
		}
		step = next
	}
	return out
}

func (w world) supers(name string) []string {
	out := []string{}
	for w.has(name) && !slices.Contains(out, name) {
		out = append(out, name)
		name = w.classes[name].Super
	}
	return out
}

// method gives the one of a class that has the name and signature, with some of the flags perhaps barred.
func (w world) method(class, name, sig string, barred int64) (impl.Method, bool) {
	for _, m := range w.classes[class].Methods {
		if m.Name == name && m.Sig == sig && m.Flags&barred == 0 {
			return m, true
		}
	}
	return impl.Method{}, false
}

func (w world) fault(c impl.Class) (int64, string) {
	up := append([]string{c.Super}, c.Interfaces...)
	for _, p := range up {
		if !w.has(p) {
			return 1, p
		}
	}
	for _, p := range up {
		if w.isAbove(p, c.Name) {
			return 2, p
		}
	}
	for k, p := range up {
		if k == 0 && (w.is(p, 128) || w.is(p, 2)) || k > 0 && !w.is(p, 128) {
			return 3, p
		}
	}
	for _, p := range up {
		if w.is(p, 256) && !slices.Contains(w.classes[p].Permits, c.Name) {
			return 4, p
		}
	}
	for _, m := range c.Methods {
		for _, p := range w.names {
			over, ok := w.method(p, m.Name, m.Sig, 8)
			if ok && p != c.Name && w.isAbove(c.Name, p) && over.Flags&2 != 0 && m.Flags&9 == 0 && m.Name != "new" {
				return 5, m.Name
			}
		}
	}
	for _, m := range c.Methods {
		for _, p := range w.names {
			over, ok := w.method(p, m.Name, m.Sig, 8)
			if ok && p != c.Name && w.isAbove(c.Name, p) && over.Flags&1 != m.Flags&1 && m.Flags&8 == 0 && m.Name != "new" && m.Name != "start" {
				return 6, m.Name
			}
		}
	}
	return 0, ""
}

func refType(t string) bool {
	return regexpType.MatchString(t) && strings.ContainsAny(t[:1], "@[") && len(strings.TrimLeft(t, "[@")) <= 40
}

var regexpType = whole(`\[{0,4}(I|J|D|@[A-Za-z][A-Za-z0-9_.$]*)`)

func (w world) isA(t, u string, loose bool) bool {
	switch {
	case !regexpType.MatchString(u) || t != "0" && !regexpType.MatchString(t):
		return false
	case t == u:
		return true
	case !refType(u) || t != "0" && !refType(t):
		return false
	case t == "0" || u == "@Object" || loose && u[0] == '@' && w.is(u[1:], 128):
		return true
	case t[0] == '@' && u[0] == '@':
		return w.isAbove(t[1:], u[1:])
	}
	return t[0] == '[' && u[0] == '[' && refType(t[1:]) && refType(u[1:]) && w.isA(t[1:], u[1:], loose)
}

func (w world) join(t, u string) string {
	switch {
	case t != "0" && !refType(t) || u != "0" && !refType(u):
		return ""
	case t == "0":
		return u
	case u == "0" || t == u:
		return t
	case t[0] == '[' && u[0] == '[' && refType(t[1:]) && refType(u[1:]):
		return "[" + w.join(t[1:], u[1:])
	case t[0] == '@' && u[0] == '@' && !w.is(t[1:], 128) && !w.is(u[1:], 128):
		for _, s := range w.supers(t[1:]) {
			if slices.Contains(w.supers(u[1:]), s) {
				return "@" + s
			}
		}
	}
	return "@Object"
}

// nearest gives the interfaces above that have the method, without those above another one of them; and which of them have a body.
func (w world) nearest(class, name, sig string) (near, bodied []string) {
	all := []string{}
	for _, s := range w.above(class) {
		if _, ok := w.method(s, name, sig, 9); ok && w.is(s, 128) && name != "new" {
			all = append(all, s)
		}
	}
	for _, s := range all {
		if slices.ContainsFunc(all, func(o string) bool { return o != s && w.isAbove(o, s) }) {
			continue
		}
		near = append(near, s)
		if _, ok := w.method(s, name, sig, 4); ok {
			bodied = append(bodied, s)
		}
	}
	return near, bodied
}

func (w world) methodOf(class, name, sig string) string {
	chain := w.supers(class)
	if name == "new" || name == "start" {
		chain = chain[:min(1, len(chain))]
	}
	for _, s := range chain {
		if _, ok := w.method(s, name, sig, 0); ok {
			return s
		}
	}
	near, bodied := w.nearest(class, name, sig)
	switch {
	case len(bodied) == 1:
		return bodied[0]
	case len(near) > 0:
		return near[0]
	}
	return ""
}

func (w world) selects(class, name, sig string) (string, int64) {
	near, bodied := w.nearest(class, name, sig)
	for _, s := range slices.Backward(w.supers(class)) {
		if m, ok := w.method(s, name, sig, 9); ok && name != "new" {
			near, bodied = []string{s}, nil
			if m.Flags&4 == 0 {
				bodied = near
			}
		}
	}
	switch {
	case len(bodied) == 1:
		return bodied[0], 0
	case len(bodied) > 1:
		return "", 3
	case len(near) > 0:
		return "", 2
	}
	return "", 1
}

func (w world) layout(class string) []impl.Slot {
	out := []impl.Slot{}
	for _, s := range w.supers(class) {
		if w.classes[s].Super == class {
			return nil
		}
		own := []impl.Slot{}
		for _, f := range w.classes[s].Fields {
			if f.Flags&1 == 0 {
				own = append(own, impl.Slot{Class: s, Name: f.Name, Type: f.Type})
			}
		}
		out = append(own, out...)
	}
	return out
}

// space makes one of few names: a tame one holds often, another seldom.
func (b *builder) space(tame bool) []impl.Class {
	cs := []impl.Class{}
	names := words("A B C D E F G H")[:1+b.below(8)]
	for k, name := range names {
		c := impl.Class{Name: name, Super: b.pick("Object", "Object", "Error", "Thread")}
		if k > 0 && b.below(4) > 0 {
			c.Super = names[b.below(k)]
		}
		for _, up := range words("G B E A H C F D") {
			if b.below(4) == 0 && (!tame || slices.Index(names, up) >= 0 && slices.Index(names, up) < k) {
				c.Interfaces = append(c.Interfaces, up)
			}
		}
		switch b.below(6) {
		case 0, 1:
			c.Flags, c.Super = impl.FlagInterface|impl.FlagAbstract, "Object"
		case 2:
			c.Flags = impl.FlagAbstract
		case 3:
			if !tame {
				c.Flags = impl.FlagFinal
			}
		}
		if c.Flags&impl.FlagInterface == 0 && !tame && b.below(3) == 0 {
			c.Super = b.pick("A", "B", "C", "D", "E", "F", "G", "H", "String", "Nope")
		}
		if c.Flags&impl.FlagFinal == 0 && b.below(6) == 0 {
			c.Flags |= impl.FlagSealed
			c.Permits = slices.Compact([]string{b.pick("A", "B", "C"), b.pick("C", "D", "E", "F"), b.pick("F", "G", "H")})
		}
		b.members(&c, tame)
		cs = append(cs, c)
	}
	if tame {
		cs = tamed(cs)
	}
	return cs
}

// tamed leaves out what would be a fault of LinkKind.
func tamed(cs []impl.Class) []impl.Class {
	isOf := func(name string) bool {
		k := slices.IndexFunc(cs, func(c impl.Class) bool { return c.Name == name })
		return k >= 0 && cs[k].Flags&impl.FlagInterface != 0
	}
	for k := range cs {
		if isOf(cs[k].Super) {
			cs[k].Super = "Object"
		}
		cs[k].Interfaces = slices.DeleteFunc(cs[k].Interfaces, func(s string) bool { return !isOf(s) })
	}
	return cs
}

func (b *builder) members(c *impl.Class, tame bool) {
	face := c.Flags&impl.FlagInterface != 0
	for _, name := range []string{"x", "y", "z"} {
		if f := (impl.Field{Name: name, Type: b.pick("I", "@A", "[J"), Flags: int64(b.below(2) * b.below(16))}); b.below(2) == 0 {
			f.Flags &= impl.FlagStatic | impl.FlagFinal | impl.FlagPrivate
			if face {
				f.Flags = impl.FlagStatic | impl.FlagFinal
			}
			c.Fields = append(c.Fields, f)
		}
	}
	for _, sort := range []string{"m ()V", "m (@A)I", "n ()V", "run ()V", "wait ()V", "p ()V"} {
		w := words(sort)
		m := bare(w[0], w[1], impl.FlagNative)
		pick := b.below(12)
		switch {
		case pick == 0:
			m.Flags |= impl.FlagPrivate
		case pick == 1 && !(tame && w[0] != "p"), w[0] == "p" && tame:
			m.Flags |= impl.FlagStatic
		case pick == 2 && !face && !tame:
			m.Flags |= impl.FlagFinal
		case pick < 6 && c.Flags&impl.FlagAbstract != 0:
			m.Flags = impl.FlagAbstract
		}
		if b.below(3) == 0 && (w[0] != "wait" || !tame) {
			c.Methods = append(c.Methods, m)
		}
	}
	if b.below(3) == 0 && !face {
		c.Methods = append(c.Methods, coded("new", "()V", 0))
	}
	if b.below(4) == 0 {
		c.Methods = append(c.Methods, coded("start", "()V", impl.FlagStatic))
	}
}

// testWorld holds all functions of the chapter against the second working out.
func testWorld(t *testing.T, cs []impl.Class) bool {
	t.Helper()
	testSpace(t, "any", cs, true)
	w := newWorld(cs)
	faults := []impl.Fault{}
	for _, c := range cs {
		if code, name := w.fault(c); code != 0 {
			faults = append(faults, impl.Fault{Class: c.Name, Code: code, Name: name})
		}
	}
	faultsOf(t, "any", cs, faults...)
	names := append([]string{"Nope", "Object", "Error", "StopError", "Thread"}, words("A B C D E F G H")...)
	for _, a := range names {
		same(t, "above "+a, impl.Above(cs, a), w.above(a))
		below := slices.DeleteFunc(slices.Clone(w.names), func(s string) bool { return !w.isAbove(s, a) })
		slices.Sort(below)
		same(t, "below "+a, impl.Below(cs, a), below)
		same(t, "layout "+a, impl.Layout(cs, a), w.layout(a))
		w.testMembers(t, cs, a)
	}
	types := words("0 I [I [[I @A @B @C @E [@A [@B [[@D [[@E [@Object @Object @Nope")
	for _, a := range types {
		for _, b := range types {
			same(t, "IsA "+a+" "+b, impl.IsA(cs, a, b), w.isA(a, b, false))
			same(t, "Fits "+a+" "+b, impl.Fits(cs, a, b), w.isA(a, b, true))
			same(t, "Join "+a+" "+b, impl.Join(cs, a, b), w.join(a, b))
		}
	}
	return len(faults) == 0
}

func (w world) testMembers(t *testing.T, cs []impl.Class, a string) {
	t.Helper()
	for _, name := range words("x y message q") {
		owner, field := "", impl.Field{}
		for _, s := range slices.Backward(w.above(a)) {
			for _, f := range w.classes[s].Fields {
				if f.Name == name {
					owner, field = s, f
				}
			}
		}
		fieldIs(t, cs, a, name, owner, field)
	}
	for _, m := range []string{"m ()V", "m (@A)I", "n ()V", "run ()V", "wait ()V", "p ()V", "new ()V", "start ()V", "m ()I"} {
		s := words(m)
		same(t, a+" "+m, impl.MethodOf(cs, a, s[0], s[1]), w.methodOf(a, s[0], s[1]))
		class, code := impl.Select(cs, a, s[0], s[1])
		wantClass, wantCode := w.selects(a, s[0], s[1])
		same(t, a+" "+m+", selected", class, wantClass)
		same(t, a+" "+m+", selected", code, wantCode)
	}
}

func TestAnySpace(t *testing.T) {
	t.Parallel()
	b := builder{numbers{state: 81}}
	hold := 0
	for k := range 150 {
		cs := b.space(k%3 > 0)
		if !testWorld(t, cs) {
			continue
		}
		hold++
		if hold%8 == 0 {
			testJoins(t, cs)
		}
		testLayouts(t, cs)
	}
	if hold < 40 {
		t.Errorf("%d spaces hold", hold)
	}
}

// testLayouts: an object has what its Super's objects have, at the same places, then its own; and each class of a space that holds is below Object (promise 4).
func testLayouts(t *testing.T, cs []impl.Class) {
	t.Helper()
	for _, c := range cs {
		up, own := impl.Layout(cs, c.Super), impl.Layout(cs, c.Name)
		if len(own) < len(up) || !alike(own[:len(up)], up) {
			t.Errorf("an object of %s has %v, one of its Super %v", c.Name, own, up)
			continue
		}
		for _, s := range own[len(up):] {
			if _, f := impl.FieldOf(cs, c.Name, s.Name); s.Class != c.Name || f.Type != s.Type {
				t.Errorf("an object of %s has %v", c.Name, s)
			}
		}
		if !impl.IsA(cs, "@"+c.Name, "@"+c.Super) || !slices.Contains(impl.Below(cs, "Object"), c.Name) {
			t.Errorf("%s is not below its Super, or not below Object", c.Name)
		}
	}
}
