package tests

import (
	"reflect"
	"testing"

	"loop.example/g00032/impl"
)

func returns() impl.Ins { return impl.Ins{Op: 44} }

func loads(place int64) impl.Ins { return impl.Ins{Op: 4, Kind: 4, A: place} }

func makes(class, sig string) impl.Ins {
	return impl.Ins{Op: 33, B: 3, Class: class, Name: "new", Type: sig}
}

func errorClass(name, super string) impl.Class {
	return impl.Class{Name: name, Super: super, Methods: []impl.Method{
		{Name: "new", Sig: "(@String)V", Stack: 2, Locals: 2, Code: []impl.Ins{loads(0), loads(1), makes(super, "(@String)V"), returns()}},
	}}
}

// bootClasses are Boot's, as the chapter lists them.
func bootClasses() []impl.Class {
	return []impl.Class{
		{Name: "Object", Methods: []impl.Method{
			{Name: "new", Sig: "()V", Locals: 1, Code: []impl.Ins{returns()}},
			bare("wait", "()V", 66), bare("notify", "()V", 66), bare("wake", "()V", 66), bare("hash", "()I", 66),
		}},
		{Name: "String", Super: "Object", Flags: 2, Methods: []impl.Method{
			bare("length", "()I", 64), bare("at", "(I)I", 64), bare("join", "(@String)@String", 64), bare("same", "(@Object)I", 64), bare("part", "(I,I)@String", 64),
		}},
		{Name: "Throwable", Super: "Object", Fields: []impl.Field{{Name: "message", Type: "@String"}}, Methods: []impl.Method{
			{Name: "new", Sig: "(@String)V", Stack: 2, Locals: 2, Code: []impl.Ins{
				loads(0), makes("Object", "()V"), loads(0), loads(1), {Op: 32, Class: "Throwable", Name: "message", Type: "@String"}, returns(),
			}},
		}},
		errorClass("Error", "Throwable"),
		errorClass("NullError", "Error"), errorClass("ArithError", "Error"), errorClass("BoundsError", "Error"), errorClass("CastError", "Error"), errorClass("StoreError", "Error"),
		errorClass("SizeError", "Error"), errorClass("StateError", "Error"), errorClass("LinkError", "Error"), errorClass("InitError", "Error"), errorClass("StopError", "Error"),
		{Name: "Thread", Super: "Object", Methods: []impl.Method{
			{Name: "new", Sig: "()V", Stack: 1, Locals: 1, Code: []impl.Ins{loads(0), makes("Object", "()V"), returns()}},
			{Name: "run", Sig: "()V", Locals: 1, Code: []impl.Ins{returns()}},
			bare("begin", "()V", 66), bare("join", "()V", 66), bare("stop", "()V", 66), bare("stopped", "()I", 66),
		}},
		{Name: "System", Super: "Object", Flags: 2, Methods: []impl.Method{
			bare("print", "(I)V", 65), bare("print", "(J)V", 65), bare("print", "(D)V", 65), bare("print", "(@String)V", 65),
		}},
	}
}

// bared has nil for each empty list, so that what is alike by the document is alike for DeepEqual.
func bared(v reflect.Value) {
	switch v.Kind() {
	case reflect.Struct:
		for k := range v.NumField() {
			bared(v.Field(k))
		}
	case reflect.Slice:
		for k := range v.Len() {
			bared(v.Index(k))
		}
		if v.Len() == 0 {
			v.SetZero()
		}
	}
}

// alike says whether two values are so, an empty list and nil being the same.
func alike[T any](a, b T) bool {
	bared(reflect.ValueOf(&a).Elem())
	bared(reflect.ValueOf(&b).Elem())
	return reflect.DeepEqual(a, b)
}

func TestBoot(t *testing.T) {
	got, want := impl.Boot(), bootClasses()
	if len(got) != len(want) {
		t.Fatalf("%d classes", len(got))
	}
	for k, c := range got {
		if !alike(c, want[k]) {
			t.Errorf("class %d is %+v", k, c)
		}
		if !impl.ClassOk(c) {
			t.Errorf("%s is not ClassOk", c.Name)
		}
		for _, m := range c.Methods {
			if !impl.MethodOk(m) {
				t.Errorf("%s.%s is not MethodOk", c.Name, m.Name)
			}
		}
	}
}

// spoil writes over all that can be reached, and into the spare room of each list.
func spoil(v reflect.Value) {
	switch v.Kind() {
	case reflect.Struct:
		for k := range v.NumField() {
			spoil(v.Field(k))
		}
	case reflect.Slice:
		whole := v.Slice(0, v.Cap())
		for k := range whole.Len() {
			spoil(whole.Index(k))
		}
	case reflect.String:
		v.SetString("spoilt")
	case reflect.Int64:
		v.SetInt(-77)
	}
}

func TestBootIsNew(t *testing.T) {
	first, other := impl.Boot(), impl.Boot()
	spoil(reflect.ValueOf(first))
	if !alike(other, bootClasses()) {
		t.Error("two calls share memory")
	}
	if !alike(impl.Boot(), bootClasses()) {
		t.Error("a call is to be seen in the next one")
	}
}

// No two lists of one answer share memory: to write into one class is not to be seen in another.
func TestBootSharesNothingWithin(t *testing.T) {
	for k := range bootClasses() {
		got, want := impl.Boot(), bootClasses()
		spoil(reflect.ValueOf(&got[k]).Elem())
		for j := range got {
			if j != k && !alike(got[j], want[j]) {
				t.Errorf("%s shares memory with %s", want[j].Name, want[k].Name)
			}
		}
	}
	for k, c := range bootClasses() {
		for m := range c.Methods {
			got := impl.Boot()
			spoil(reflect.ValueOf(&got[k].Methods[m]).Elem())
			for j := range got[k].Methods {
				if j != m && !alike(got[k].Methods[j], c.Methods[j]) {
					t.Errorf("%s: method %d shares memory with method %d", c.Name, j, m)
				}
			}
		}
	}
}
