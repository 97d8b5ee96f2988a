package tests

import (
	"fmt"
	"testing"

	"loop.example/g00032/impl"
)

func membersAre(t *testing.T, cs []impl.Class, class string, want ...string) {
	t.Helper()
	if got := impl.Members(cs, class); !alike(got, want) {
		t.Errorf("%s has %q, not %q", class, got, want)
	}
	if told := membersOracle(cs, class); !alike(told, want) {
		t.Errorf("the oracle says of %s %q, not %q", class, told, want)
	}
}

func objectMembers() []string {
	return []string{"method Object new ()V", "method Object wait ()V", "method Object notify ()V", "method Object wake ()V", "method Object hash ()I"}
}

// aboveObject gives the members of Object behind others.
func aboveObject(lines ...string) []string { return append(lines, objectMembers()...) }

func TestMembersOfBoot(t *testing.T) {
	for _, cs := range [][]impl.Class{nil, {}, told("class A Object / field x I")} {
		membersAre(t, cs, "Object", objectMembers()...)
		membersAre(t, cs, "String", aboveObject("method String length ()I", "method String at (I)I", "method String join (@String)@String", "method String same (@Object)I", "method String part (I,I)@String")...)
		membersAre(t, cs, "Throwable", aboveObject("field Throwable message @String", "method Throwable new (@String)V")...)
		membersAre(t, cs, "Error", aboveObject("method Error new (@String)V", "field Throwable message @String", "method Throwable new (@String)V")...)
		for _, name := range words("NullError ArithError BoundsError CastError StoreError SizeError StateError LinkError InitError StopError") {
			membersAre(t, cs, name, aboveObject("method "+name+" new (@String)V", "method Error new (@String)V", "field Throwable message @String", "method Throwable new (@String)V")...)
		}
		membersAre(t, cs, "Thread", aboveObject("method Thread new ()V", "method Thread run ()V", "method Thread begin ()V", "method Thread join ()V", "method Thread stop ()V", "method Thread stopped ()I")...)
		membersAre(t, cs, "System", aboveObject("method System print (I)V", "method System print (J)V", "method System print (D)V", "method System print (@String)V")...)
	}
}

func TestMembersOfClasses(t *testing.T) {
	cs := told(
		"class A Object abstract / implements I / method m (I,@A)[J native / field x I / field y [@A static private / method new ()V stack 0 locals 1 / return / method start ()V static / return / field z D volatile / method n ()V abstract",
		"class B A / implements J / field x @B final / method m (I,@A)[J private native / method m ()V sync native",
		"class C B",
		ifaceI+" / implements K / field i I static final / method i ()V abstract", ifaceJ+" / method j ()V static native", "class K Object abstract interface / field k J static final",
		"class E Object", "class F Object / field a I", "class G Object / method a ()I native",
	)
	faultsOf(t, "the space", cs)
	a := []string{"field A x I", "field A y [@A", "field A z D", "method A m (I,@A)[J", "method A new ()V", "method A start ()V", "method A n ()V"}
	b := []string{"field B x @B", "method B m (I,@A)[J", "method B m ()V"}
	i, j, k := []string{"field I i I", "method I i ()V"}, []string{"method J j ()V"}, []string{"field K k J"}
	join := func(lists ...[]string) []string {
		out := []string{}
		for _, list := range lists {
			out = append(out, list...)
		}
		return out
	}
	// By Above: the Super, then the interfaces, then what is above these.
	membersAre(t, cs, "A", join(a, objectMembers(), i, k)...)
	membersAre(t, cs, "B", join(b, a, j, objectMembers(), i, k)...)
	membersAre(t, cs, "C", join(b, a, j, objectMembers(), i, k)...)
	membersAre(t, cs, "I", join(i, objectMembers(), k)...)
	membersAre(t, cs, "J", join(j, objectMembers())...)
	membersAre(t, cs, "K", join(k, objectMembers())...)
	membersAre(t, cs, "E", objectMembers()...)
	membersAre(t, cs, "F", aboveObject("field F a I")...)
	membersAre(t, cs, "G", aboveObject("method G a ()I")...)
	for _, none := range []string{"", "D", "a", "@A", "[A", "A ", "I I", "Nope", "new", "object", "\xff"} {
		membersAre(t, cs, none)
	}
}

// Spaces that do not hold have members, too: what is missing above has none, and a ring ends where it began.
func TestMembersWhereNothingHolds(t *testing.T) {
	cs := told("class A B / field a I / method m ()V native", "class B A / implements A / field b I", "class T Nope / field t I", "class S S / field s I", "class X String / implements Nope S / method x ()V native")
	membersAre(t, cs, "A", "field A a I", "method A m ()V", "field B b I")
	membersAre(t, cs, "B", "field B b I", "field A a I", "method A m ()V")
	membersAre(t, cs, "T", "field T t I")
	membersAre(t, cs, "S", "field S s I")
	membersAre(t, cs, "X", append([]string{"method X x ()V", "method String length ()I", "method String at (I)I", "method String join (@String)@String", "method String same (@Object)I", "method String part (I,I)@String", "field S s I"}, objectMembers()...)...)
	for why, cs := range wrongSpaces() {
		if len(impl.Members(cs, "A")) != 0 {
			t.Errorf("%s: A has members", why)
		}
		membersAre(t, cs, "Object", objectMembers()...)
		membersAre(t, cs, "Throwable", aboveObject("field Throwable message @String", "method Throwable new (@String)V")...)
	}
}

func TestMembersOfTheMost(t *testing.T) {
	cs := manyClasses(impl.MaxClasses)
	want := []string{}
	for k := range cs {
		if k > 0 {
			cs[k].Super = cs[k-1].Name
		}
		own := []string{}
		for _, name := range manyNames(impl.MaxMany) {
			cs[k].Fields = append(cs[k].Fields, impl.Field{Name: name, Type: "I"})
			own = append(own, fmt.Sprintf("field %s %s I", cs[k].Name, name))
		}
		for _, name := range manyNames(impl.MaxMany) {
			cs[k].Methods = append(cs[k].Methods, bare(name, "()V", impl.FlagNative))
			own = append(own, fmt.Sprintf("method %s %s ()V", cs[k].Name, name))
		}
		want = append(own, want...)
	}
	membersAre(t, cs, cs[len(cs)-1].Name, append(want, objectMembers()...)...)
}

func TestMembersOfAnySpace(t *testing.T) {
	t.Parallel()
	b := builder{numbers{state: 1201}}
	for k := range 150 {
		cs := b.space(k%2 == 0)
		for _, name := range words("A B C D E F G H Object Error Thread Nope") {
			same(t, "members of "+name, impl.Members(cs, name), membersOracle(cs, name))
		}
	}
}
