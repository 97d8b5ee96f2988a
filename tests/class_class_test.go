package tests

import (
	"strconv"
	"testing"

	"loop.example/g00032/impl"
)

// plainClass is one with everything: interfaces, permits, fields and methods; it is abstract, so that a method may be so, too.
func plainClass() impl.Class {
	return impl.Class{
		Name: "B", Super: "A", Interfaces: []string{"J2", "J1"}, Flags: impl.FlagSealed | impl.FlagAbstract, Permits: []string{"C", "D"},
		Fields: []impl.Field{{Name: "x", Type: "I"}, {Name: "y", Type: "[@B", Flags: impl.FlagStatic | impl.FlagFinal | impl.FlagPrivate}},
		Methods: []impl.Method{
			coded("new", "()V", 0), coded("new", "(I)V", impl.FlagPrivate), coded("start", "()V", impl.FlagStatic),
			bare("make", "()I", impl.FlagAbstract), bare("make", "()J", impl.FlagNative), coded("give", "()V", impl.FlagFinal),
		},
	}
}

func plainInterface() impl.Class {
	return impl.Class{
		Name: "J1", Super: "Object", Interfaces: []string{"J2"}, Flags: impl.FlagInterface | impl.FlagAbstract,
		Fields: []impl.Field{{Name: "most", Type: "I", Flags: impl.FlagStatic | impl.FlagFinal}},
		Methods: []impl.Method{
			bare("make", "()I", impl.FlagAbstract), bare("far", "()V", impl.FlagNative), coded("give", "()V", 0), coded("help", "()V", impl.FlagPrivate), coded("start", "()V", impl.FlagStatic), coded("near", "()V", impl.FlagStatic|impl.FlagPrivate),
		},
	}
}

func plainObject() impl.Class {
	return impl.Class{Name: "Object", Methods: []impl.Method{coded("new", "()V", 0)}}
}

func manyNames(n int) []string {
	out := []string{}
	for k := range n {
		out = append(out, "N"+strconv.Itoa(100+k))
	}
	return out
}

type classChange struct {
	why    string
	change func(c *impl.Class)
}

func testClasses(t *testing.T, base func() impl.Class, want bool, changes []classChange) {
	t.Helper()
	for _, c := range changes {
		class := base()
		c.change(&class)
		if impl.ClassOk(class) != want {
			t.Errorf("%s: ClassOk is %v", c.why, !want)
		}
	}
}

func TestClassesThatAreRight(t *testing.T) {
	testClasses(t, plainClass, true, []classChange{
		{"as it is", func(c *impl.Class) {}},
		{"just a name and a super", func(c *impl.Class) { *c = impl.Class{Name: "B", Super: "Object"} }},
		{"names of MaxName", func(c *impl.Class) {
			*c = impl.Class{Name: longName(40), Super: longName(40), Interfaces: []string{longName(40)}, Flags: impl.FlagSealed, Permits: []string{longName(40)}}
		}},
		{"its own Super and interface", func(c *impl.Class) { *c = impl.Class{Name: "B", Super: "B", Interfaces: []string{"B"}} }},
		{"a name of Boot", func(c *impl.Class) { c.Name = "String" }},
		{"final", func(c *impl.Class) { *c = impl.Class{Name: "B", Super: "Object", Flags: impl.FlagFinal} }},
		{"sealed, not abstract", func(c *impl.Class) {
			*c = impl.Class{Name: "B", Super: "Object", Flags: impl.FlagSealed, Permits: []string{"A"}}
		}},
		{"abstract without an abstract method", func(c *impl.Class) { c.Methods = nil }},
		{"MaxMany interfaces", func(c *impl.Class) { c.Interfaces = manyNames(impl.MaxMany) }},
		{"MaxMany permits", func(c *impl.Class) { c.Permits = manyNames(impl.MaxMany) }},
		{"one permit", func(c *impl.Class) { c.Permits = c.Permits[:1] }},
		{"a permit that begins another", func(c *impl.Class) { c.Permits = []string{"A", "AA", "a", "a.", "aB"} }},
		{"no interfaces", func(c *impl.Class) { c.Interfaces = nil }},
		{"MaxMany fields", func(c *impl.Class) {
			c.Fields = nil
			for _, name := range manyNames(impl.MaxMany) {
				c.Fields = append(c.Fields, impl.Field{Name: name, Type: "D"})
			}
		}},
		{"MaxMany methods", func(c *impl.Class) {
			c.Methods = nil
			for _, name := range manyNames(impl.MaxMany) {
				c.Methods = append(c.Methods, coded(name, "()V", 0))
			}
		}},
		{"a field and a method of one name", func(c *impl.Class) { c.Fields[0].Name = "make" }},
		{"fields of one type", func(c *impl.Class) { c.Fields[0].Type = c.Fields[1].Type }},
		{"methods of one name that differ in the result alone", func(c *impl.Class) { c.Methods[5] = coded("make", "()D", 0) }},
		{"no methods", func(c *impl.Class) { c.Methods = nil }},
	})
}

func TestClassesThatBreakOneRule(t *testing.T) {
	changes := []classChange{
		{"no name", func(c *impl.Class) { c.Name = "" }},
		{"a name of one byte more", func(c *impl.Class) { c.Name = longName(41) }},
		{"a name that is none", func(c *impl.Class) { c.Name = "@B" }},
		{"no super", func(c *impl.Class) { c.Super = "" }},
		{"a super that is no name", func(c *impl.Class) { c.Super = "-" }},
		{"a super of one byte more", func(c *impl.Class) { c.Super = longName(41) }},
		{"Object with a Super", func(c *impl.Class) { c.Name = "Object" }},
		{"Object with itself", func(c *impl.Class) { c.Name, c.Super = "Object", "Object" }},
		{"an interface that is no name", func(c *impl.Class) { c.Interfaces[1] = "" }},
		{"an interface of one byte more", func(c *impl.Class) { c.Interfaces[0] = longName(41) }},
		{"two interfaces alike", func(c *impl.Class) { c.Interfaces = []string{"J1", "J2", "J1"} }},
		{"interfaces beyond MaxMany", func(c *impl.Class) { c.Interfaces = manyNames(impl.MaxMany + 1) }},
		{"sealed without permits", func(c *impl.Class) { c.Permits = nil }},
		{"sealed with an empty list", func(c *impl.Class) { c.Permits = []string{} }},
		{"permits without sealed", func(c *impl.Class) { c.Flags = impl.FlagAbstract }},
		{"a permit that is no name", func(c *impl.Class) { c.Permits[0] = "1" }},
		{"an empty permit", func(c *impl.Class) { c.Permits[0] = "" }},
		{"a permit of one byte more", func(c *impl.Class) { c.Permits[1] = "Z" + longName(40) }},
		{"two permits alike", func(c *impl.Class) { c.Permits[1] = c.Permits[0] }},
		{"permits that fall", func(c *impl.Class) { c.Permits[0], c.Permits[1] = c.Permits[1], c.Permits[0] }},
		{"permits that fall by case", func(c *impl.Class) { c.Permits = []string{"a", "B"} }},
		{"a permit behind one that it begins", func(c *impl.Class) { c.Permits = []string{"AA", "A"} }},
		{"the last permits fall", func(c *impl.Class) { c.Permits = []string{"A", "C", "B"} }},
		{"permits beyond MaxMany", func(c *impl.Class) { c.Permits = manyNames(impl.MaxMany + 1) }},
		{"a field without a name", func(c *impl.Class) { c.Fields[0].Name = "" }},
		{"a field of a name of one byte more", func(c *impl.Class) { c.Fields[0].Name = longName(41) }},
		{"a field without a type", func(c *impl.Class) { c.Fields[0].Type = "" }},
		{"a field of V", func(c *impl.Class) { c.Fields[0].Type = "V" }},
		{"a field of a signature", func(c *impl.Class) { c.Fields[1].Type = "()V" }},
		{"two fields of one name", func(c *impl.Class) { c.Fields[1].Name = "x" }},
		{"fields beyond MaxMany", func(c *impl.Class) {
			c.Fields = nil
			for _, name := range manyNames(impl.MaxMany + 1) {
				c.Fields = append(c.Fields, impl.Field{Name: name, Type: "D"})
			}
		}},
		{"two methods of one name and signature", func(c *impl.Class) { c.Methods[5] = coded("new", "(I)V", 0) }},
		{"methods beyond MaxMany", func(c *impl.Class) {
			c.Methods = nil
			for _, name := range manyNames(impl.MaxMany + 1) {
				c.Methods = append(c.Methods, coded(name, "()V", 0))
			}
		}},
		{"an abstract method in a class that is not", func(c *impl.Class) { c.Flags = impl.FlagSealed }},
		{"final and abstract", func(c *impl.Class) { c.Flags, c.Permits = impl.FlagFinal|impl.FlagAbstract, nil }},
		{"final and sealed", func(c *impl.Class) {
			*c = impl.Class{Name: "B", Super: "Object", Flags: impl.FlagFinal | impl.FlagSealed, Permits: []string{"A"}}
		}},
	}
	for _, f := range []int64{impl.FlagStatic, impl.FlagPrivate, impl.FlagVolatile, impl.FlagSync, impl.FlagNative, 512, 1 << 33, minLong} {
		changes = append(changes, classChange{"a flag that is none", func(c *impl.Class) { c.Flags |= f }})
	}
	for _, f := range []int64{impl.FlagAbstract, impl.FlagSync, impl.FlagNative, impl.FlagInterface, impl.FlagSealed, 512, minLong, -1, impl.FlagFinal | impl.FlagVolatile} {
		changes = append(changes, classChange{"a field of flags that it can't have", func(c *impl.Class) { c.Fields[0].Flags = f }})
	}
	testClasses(t, plainClass, false, changes)
}

func TestObjectAlone(t *testing.T) {
	testClasses(t, plainObject, true, []classChange{
		{"as it is", func(c *impl.Class) {}},
		{"with interfaces", func(c *impl.Class) { c.Interfaces = []string{"A"} }},
	})
	testClasses(t, plainObject, false, []classChange{
		{"with a Super", func(c *impl.Class) { c.Super = "A" }},
		{"an interface", func(c *impl.Class) { c.Methods, c.Flags = nil, impl.FlagInterface|impl.FlagAbstract }},
		{"an interface, with itself as Super", func(c *impl.Class) {
			c.Methods, c.Flags, c.Super = nil, impl.FlagInterface|impl.FlagAbstract, "Object"
		}},
		{"another name", func(c *impl.Class) { c.Name = "Objects" }},
		{"a small letter", func(c *impl.Class) { c.Name = "object" }},
	})
}

func TestInterfaces(t *testing.T) {
	testClasses(t, plainInterface, true, []classChange{
		{"as it is", func(c *impl.Class) {}},
		{"empty", func(c *impl.Class) { c.Fields, c.Methods, c.Interfaces = nil, nil, nil }},
		{"sealed", func(c *impl.Class) { c.Flags, c.Permits = c.Flags|impl.FlagSealed, []string{"A"} }},
	})
	testClasses(t, plainInterface, false, []classChange{
		{"another Super", func(c *impl.Class) { c.Super = "A" }},
		{"no Super", func(c *impl.Class) { c.Super = "" }},
		{"not abstract", func(c *impl.Class) { c.Flags, c.Methods = impl.FlagInterface, nil }},
		{"final", func(c *impl.Class) { c.Flags |= impl.FlagFinal }},
		{"a field without flags", func(c *impl.Class) { c.Fields[0].Flags = 0 }},
		{"a field that is static alone", func(c *impl.Class) { c.Fields[0].Flags = impl.FlagStatic }},
		{"a field that is final alone", func(c *impl.Class) { c.Fields[0].Flags = impl.FlagFinal }},
		{"a field that is static and volatile", func(c *impl.Class) { c.Fields[0].Flags = impl.FlagStatic | impl.FlagVolatile }},
		{"a field that is private besides", func(c *impl.Class) { c.Fields[0].Flags |= impl.FlagPrivate }},
		{"a method new", func(c *impl.Class) { c.Methods[2] = coded("new", "()V", 0) }},
		{"a private method new of a parameter", func(c *impl.Class) { c.Methods[2] = coded("new", "(I)V", impl.FlagPrivate) }},
		{"a final method", func(c *impl.Class) { c.Methods[2].Flags = impl.FlagFinal }},
		{"a final static method", func(c *impl.Class) { c.Methods[4].Flags |= impl.FlagFinal }},
		{"a final native method", func(c *impl.Class) { c.Methods[1].Flags |= impl.FlagFinal }},
		{"a sync method", func(c *impl.Class) { c.Methods[2].Flags = impl.FlagSync }},
		{"a static sync method", func(c *impl.Class) { c.Methods[5].Flags |= impl.FlagSync }},
	})
}

func TestAllFlagsOfFields(t *testing.T) {
	for flags := int64(-40); flags < 600; flags++ {
		f := impl.Field{Name: "x", Type: "I", Flags: flags}
		right := flags >= 0 && flags < 32 && flags&4 == 0 && flags&18 != 18
		if impl.ClassOk(impl.Class{Name: "A", Super: "B", Fields: []impl.Field{f}}) != right {
			t.Errorf("a field of the flags %d: ClassOk is %v", flags, !right)
		}
		constant := impl.Class{Name: "A", Super: "Object", Flags: impl.FlagInterface | impl.FlagAbstract, Fields: []impl.Field{f}}
		if impl.ClassOk(constant) != (flags == 3) {
			t.Errorf("an interface's field of the flags %d: ClassOk is %v", flags, flags != 3)
		}
	}
}

// classFlagsOk says what the chapter says of a class's flags, its Super, its permits, and one method.
func classFlagsOk(flags int64, super string, permits bool, method impl.Method) bool {
	has := func(f int64) bool { return flags&f != 0 }
	of := func(f int64) bool { return method.Flags&f != 0 }
	switch {
	case flags < 0 || flags&^(2+4+128+256) != 0:
		return false
	case has(2) && has(4) || has(2) && has(256):
		return false
	case has(256) != permits:
		return false
	case of(4) && !has(4):
		return false
	case !has(128):
		return true
	}
	return has(4) && super == "Object" && method.Name != "new" && !of(2) && !of(32)
}

func TestAllFlagsOfClasses(t *testing.T) {
	methods := []impl.Method{coded("m", "()V", 0), coded("m", "()V", impl.FlagFinal), coded("m", "()V", impl.FlagSync), coded("m", "()V", impl.FlagPrivate), coded("m", "()V", impl.FlagStatic), bare("m", "()V", impl.FlagAbstract), bare("m", "()V", impl.FlagNative), coded("new", "()V", 0), coded("start", "()V", impl.FlagStatic)}
	for flags := int64(-1); flags < 1030; flags++ {
		for _, super := range []string{"A", "Object"} {
			for _, permits := range [][]string{nil, {"C"}} {
				for _, m := range methods {
					c := impl.Class{Name: "B", Super: super, Flags: flags, Permits: permits, Methods: []impl.Method{m}}
					if want := classFlagsOk(flags, super, permits != nil, m); impl.ClassOk(c) != want {
						t.Errorf("flags %d, super %s, permits %q, method %s %d: ClassOk is %v", flags, super, permits, m.Name, m.Flags, !want)
					}
				}
			}
		}
	}
}
