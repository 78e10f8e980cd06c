package tests

import (
	"slices"
	"strings"
	"testing"

	"loop.example/g00045/impl"
)

// flagsOf reads flags with blanks between.
func flagsOf(text string) []string { return strings.Fields(text) }

// everyOrder does work for each order of at most five bindings; for each turn of the list, of more.
func everyOrder(list []impl.Binding, work func(list []impl.Binding)) {
	if len(list) <= 5 {
		orders(list, work)
		return
	}
	for i := range list {
		work(append(append([]impl.Binding(nil), list[i:]...), list[:i]...))
	}
}

// checkResolve: the Names of what is found, or the code's word, whatever the order of the bindings.
func checkResolve(t *testing.T, bindings, flags, want, told string) {
	t.Helper()
	w := wantOf(t, want)
	everyOrder(bindingsOf(t, bindings), func(list []impl.Binding) {
		found, code := impl.Resolve(list, flagsOf(flags), w)
		if got := toldOr(code, namesOf(list, found)); got != told {
			t.Errorf("%s: %s: %s, not %s", showBindings(list, flagsOf(flags)), want, got, told)
		}
		found, code = wantResolve(list, flagsOf(flags), w)
		if got := toldOr(code, namesOf(list, found)); got != told {
			t.Errorf("%s: %s: the second telling: %s, not %s", showBindings(list, flagsOf(flags)), want, got, told)
		}
	})
}

func TestResolveNone(t *testing.T) {
	for _, bindings := range []string{"", "a:j", "a:k.t", "a:k wraps", "a:k if=f", "a:k wraps | b:j | c:k.t | d:K | e:k if=f"} {
		checkResolve(t, bindings, "", "+k", "none")
		checkResolve(t, bindings, "", "~k", "none")
		checkResolve(t, bindings, "", "?k", "")
		checkResolve(t, bindings, "", "*nope", "")
		checkResolve(t, bindings, "", "*k.u", "")
	}
}

func TestResolveOfOne(t *testing.T) {
	for _, sign := range []string{"+", "?", "~"} {
		for _, c := range []struct{ bindings, flags, key, told string }{
			{"a:k", "", "k", "a"},
			{"a:k 1", "", "k", "a"},
			{"a:k 2 ^-7", "", "k", "a"},
			{"a:k.t", "", "k.t", "a"},
			{"a:k | b:k.t", "", "k", "a"},
			{"a:k | b:k.t ^9", "", "k", "a"},
			{"a:k | b:k.t ^9", "", "k.t", "b"},
			{"a:k.k | b:k", "", "k", "b"},
			{"a:k.k | b:k", "", "k.k", "a"},
			{"a:k ^1 | b:k ^2", "", "k", "b"},
			{"a:k ^2 | b:k ^1", "", "k", "a"},
			{"a:k ^-1 | b:k ^-2", "", "k", "a"},
			{"a:k | b:k ^-1 | c:k ^-1", "", "k", "a"},
			{"a:k ^1 | b:k ^1 | c:k ^2", "", "k", "c"},
			{"a:k ^1 | b:k ^1 | c:k ^2 | d:k ^1", "", "k", "c"},
			{"a:k ^1 | b:k ^1", "", "k", "twice"},
			{"a:k ^1 | b:k ^1 | c:k ^1", "", "k", "twice"},
			{"a:k | b:k | c:k ^-1", "", "k", "twice"},
			{"a:k.t | b:k.t | c:k", "", "k", "c"},
			{"a:k.t | b:k.t | c:k", "", "k.t", "twice"},
			{"a:k | b:k.t", "", "k", "a"},
			{"a:k ^2 wraps | b:k ^1", "", "k", "b"},
			{"a:k wraps | b:k", "", "k", "b"},
			{"a:k ^-9223372036854775808 | b:k ^9223372036854775807", "", "k", "b"},
			{"a:k ^-9223372036854775808 | b:k ^-9223372036854775807", "", "k", "b"},
			{"a:k ^-9223372036854775808 | b:k ^1", "", "k", "b"},
			{"a:k ^9223372036854775807 | b:k ^-2", "", "k", "a"},
			{"a:k ^-9223372036854775808 | b:k ^-9223372036854775808", "", "k", "twice"},
			{"a:k ^9223372036854775807 | b:k ^9223372036854775807 | c:k ^0", "", "k", "twice"},
			{"a:k ^4294967296 | b:k ^0", "", "k", "a"},
			{"a:k 3 ^1 | b:k 1 ^0 | c:k 2 ^-1", "", "k", "a"},
		} {
			checkResolve(t, c.bindings, c.flags, sign+c.key, c.told)
		}
	}
}

func TestResolveOfAll(t *testing.T) {
	for _, c := range []struct{ bindings, flags, want, told string }{
		{"a:k", "", "*k", "a"},
		{"a:k.t", "", "*k", "a"},
		{"a:k.t", "", "*k.t", "a"},
		{"a:k.t", "", "*k.u", ""},
		{"a:k", "", "*k.t", ""},
		{"b:k | a:k", "", "*k", "a b"},
		{"b:k ^1 | a:k", "", "*k", "b a"},
		{"a:k ^1 | b:k ^2 | c:k ^3", "", "*k", "c b a"},
		{"a:k ^1 | b:k.t ^2 | c:k ^3 | d:k.u ^2 | e:j ^9", "", "*k", "c b d a"},
		{"a:k ^1 | b:k.t ^2 | c:k ^3 | d:k.u ^2 | e:j ^9", "", "*k.t", "b"},
		{"a:k ^1 | b:k.t ^2 | c:k.t ^3 | d:k.t ^2 | e:j.t ^9", "", "*k.t", "c b d"},
		{"B:k | a:k | A:k | aa:k | é:k | _:k", "", "*k", "A B _ a aa é"},
		{"a:k ^-9223372036854775808 | b:k ^9223372036854775807 | c:k | d:k ^1 | e:k ^-1", "", "*k", "b d c e a"},
		{"a:k wraps | b:k | c:k wraps", "", "*k", "b"},
		{"a:k wraps | c:k.t wraps", "", "*k", ""},
		{"a:k if=f | b:k if=!f | c:k if=g", "", "*k", "b"},
		{"a:k if=f | b:k if=!f | c:k if=g", "f g", "*k", "a c"},
		{"a:k.k | b:k | c:K", "", "*k", "a b"},
		{"a:k.k | b:k | c:K", "", "*k.k", "a"},
		{"a:k 1 | b:k 2 | c:k 3", "", "*k", "a b c"},
	} {
		checkResolve(t, c.bindings, c.flags, c.want, c.told)
	}
	checkResolve(t, "a:k | b:k.t", "", "?k.nope", "")
}

// Which bindings are active, told by what provides a key.
func TestResolveOfActiveOnes(t *testing.T) {
	for _, c := range []struct{ bindings, flags, told string }{
		{"a:k if=f", "f", "a"},
		{"a:k if=f", "", ""},
		{"a:k if=f", "g", ""},
		{"a:k if=f", "F ff f1 _f", ""},
		{"a:k if=f", "g f h", "a"},
		{"a:k if=f", "f f f", "a"},
		{"a:k if=f", "!f", ""},
		{"a:k if=f", "!f f", "a"},
		{"a:k if=!f", "", "a"},
		{"a:k if=!f", "g", "a"},
		{"a:k if=!f", "f", ""},
		{"a:k if=!f", "f f", ""},
		{"a:k if=!f", "g f h", ""},
		{"a:k if=!f", "!f", "a"},
		{"a:k if=!f", "f !f", "a"},
		{"a:k if=!f", "!f f f", "a"},
		{"a:k if=!f", "!!f f", ""},
		{"a:k if=!f", "! f", ""},
		{"a:k if=!f", "!", "a"},
		{"a:k", "", "a"},
		{"a:k", "f !f ! a k", "a"},
		{"a:k if=a", "k", ""},
		{"a:k if=a", "a", "a"},
		{"a:k if=é", "é", "a"},
		{"a:k if=é", "e", ""},
		{"a:k if=f ^1 | b:k if=!f ^1", "", "b"},
		{"a:k if=f ^1 | b:k if=!f ^1", "f", "a"},
		{"a:k if=f ^1 | b:k if=!f ^1", "!f f", "a b"},
		{"a:k if=f ^1 | b:k if=!f ^1", "f f", "a"},
		{"a:k if=f | b:k if=g | c:k if=!f | d:k if=!g | e:k", "f", "a d e"},
	} {
		checkResolve(t, c.bindings, c.flags, "*k", c.told)
	}
	for _, c := range []struct{ bindings, flags, want, told string }{
		{"a:k if=f ^2 | b:k", "", "+k", "b"},
		{"a:k if=f ^2 | b:k", "f", "+k", "a"},
		{"a:k if=f | b:k", "f", "+k", "twice"},
		{"a:k if=f | b:k", "f", "?k", "twice"},
		{"a:k if=f | b:k", "g", "~k", "b"},
		{"a:k if=f ^2 | b:k | c:k", "g", "~k", "twice"},
		{"a:k if=f ^2 | b:k | c:k", "f", "~k", "a"},
	} {
		checkResolve(t, c.bindings, c.flags, c.want, c.told)
	}
	list := bindingsOf(t, "a:k if=!f | b:k if=f")
	for _, flags := range [][]string{nil, {}, {""}, {"", ""}, {"f "}, {"f\x00"}, {"f g"}, {"\xff"}} {
		found, code := impl.Resolve(list, flags, impl.Want{Key: "k", Mode: impl.WantOne})
		if got := toldOr(code, namesOf(list, found)); got != "a" {
			t.Errorf("%q: %s", flags, got)
		}
	}
}

// All bindings that a list may have, of one key.
func TestResolveOfManyBindings(t *testing.T) {
	list := manyBindings(60)
	found, code := impl.Resolve(list, nil, impl.Want{Key: "k", Mode: impl.WantAll})
	want, _ := wantResolve(list, nil, impl.Want{Key: "k", Mode: impl.WantAll})
	if code != impl.OK || namesOf(list, found) != namesOf(list, want) || len(found) != 60 {
		t.Errorf("%s, not %s", namesOf(list, found), namesOf(list, want))
	}
	for at := range list {
		list[at].Rank = 1
		checkOneFound(t, list, at)
		list[at].Rank = 0
		list[at].Tag = "t"
		found, code := impl.Resolve(list, nil, impl.Want{Key: "k", Tag: "t", Mode: impl.WantAll})
		if code != impl.OK || len(found) != 1 || found[0] != at {
			t.Errorf("%d: %v %d", at, found, code)
		}
		list[at].Tag = ""
	}
}

func checkOneFound(t *testing.T, list []impl.Binding, at int) {
	t.Helper()
	for _, mode := range []int{impl.WantOne, impl.WantMaybe, impl.WantLazy} {
		if found, code := impl.Resolve(list, nil, impl.Want{Key: "k", Mode: mode}); code != impl.OK || len(found) != 1 || found[0] != at {
			t.Errorf("mode %d: %v %d, not %d", mode, found, code, at)
		}
	}
}

// Many of few ranks: those of one rank stand by Name, however many there are.
func TestRanksOfManyBindings(t *testing.T) {
	s := newSource()
	for ranks := range 8 {
		list := manyBindings(60)
		for i := range list {
			list[i].Rank = s.IntN(ranks + 1)
			list[i].Wraps = i > 29
		}
		s.Shuffle(len(list), func(a, b int) { list[a], list[b] = list[b], list[a] })
		w := impl.Want{Key: "k", Mode: impl.WantAll}
		found, code := impl.Resolve(list, nil, w)
		want, _ := wantResolve(list, nil, w)
		if code != impl.OK || !slices.Equal(found, want) || len(found) != 30 {
			t.Errorf("Resolve of %d ranks: %s, not %s", ranks+1, namesOf(list, found), namesOf(list, want))
		}
		around, code := impl.Wrappers(list, nil, want[7])
		want, _ = wantWrappers(list, nil, want[7])
		if code != impl.OK || !slices.Equal(around, want) || len(around) != 30 {
			t.Errorf("Wrappers of %d ranks: %s, not %s", ranks+1, namesOf(list, around), namesOf(list, want))
		}
	}
}

// checkWrappers: the Names of the wrappers of the binding of that Name, or the code's word, whatever the order of the bindings.
func checkWrappers(t *testing.T, bindings, flags, name, told string) {
	t.Helper()
	everyOrder(bindingsOf(t, bindings), func(list []impl.Binding) {
		number := -1
		for i, b := range list {
			if b.Name == name {
				number = i
			}
		}
		found, code := impl.Wrappers(list, flagsOf(flags), number)
		if got := toldOr(code, namesOf(list, found)); got != told {
			t.Errorf("%s: %s: %s, not %s", showBindings(list, flagsOf(flags)), name, got, told)
		}
		found, code = wantWrappers(list, flagsOf(flags), number)
		if got := toldOr(code, namesOf(list, found)); got != told {
			t.Errorf("%s: %s: the second telling: %s, not %s", showBindings(list, flagsOf(flags)), name, got, told)
		}
	})
}

func TestWrappers(t *testing.T) {
	for _, c := range []struct{ bindings, flags, name, told string }{
		{"a:k", "", "a", ""},
		{"a:k | b:k", "", "a", ""},
		{"a:k | w:k wraps", "", "a", "w"},
		{"a:k | w:k wraps", "", "w", "none"},
		{"a:k | w:k wraps", "", "nope", "none"},
		{"a:k if=f | w:k wraps", "", "a", "none"},
		{"a:k if=f | w:k wraps", "f", "a", "w"},
		{"a:k if=!f | w:k wraps", "f", "a", "none"},
		{"a:k wraps if=f | b:k", "", "a", "none"},
		{"a:k | w:k wraps if=f", "", "a", ""},
		{"a:k | w:k wraps if=f", "f", "a", "w"},
		{"a:k | w:k wraps if=!f", "f f", "a", ""},
		{"a:k | w:k wraps | v:k wraps", "", "a", "v w"},
		{"a:k | w:k wraps ^1 | v:k wraps ^2", "", "a", "w v"},
		{"a:k | w:k wraps ^5 | v:k wraps ^5 | u:k wraps ^6 | b:k wraps ^-6", "", "a", "b v w u"},
		{"a:k | w:k wraps ^9223372036854775807 | v:k wraps ^-9223372036854775808 | u:k wraps ^1 | t:k wraps ^-1", "", "a", "v t u w"},
		{"a:k | B:k wraps | b:k wraps | A:k wraps | é:k wraps | bb:k wraps", "", "a", "A B b bb é"},
		{"a:k.t | w:k wraps", "", "a", ""},
		{"a:k.t | w:k.t wraps | v:k.u wraps | u:j.t wraps", "", "a", "w"},
		{"a:k | w:k.t wraps", "", "a", ""},
		{"a:k | b:k.t | w:k wraps | v:k.t wraps", "", "a", "w"},
		{"a:k | b:k.t | w:k wraps | v:k.t wraps", "", "b", "v"},
		{"a:k ^1 | b:k ^2 | c:k ^2 | w:k wraps", "", "a", "w"},
		{"a:k ^1 | b:k ^2 | c:k ^2 | w:k wraps", "", "c", "w"},
		{"a:k 1 | w:k 3 wraps | v:k 2 wraps | u:k 1 wraps", "", "a", "u v w"},
		{"a:k | w:K wraps | v:j wraps", "", "a", ""},
		{"a:k | w:k wraps +nope +k", "", "a", "w"},
		{"w:k wraps | v:k wraps", "", "v", "none"},
		{"", "", "a", "none"},
	} {
		checkWrappers(t, c.bindings, c.flags, c.name, c.told)
	}
}

// Numbers of any size.
func TestWrappersOfAnyNumber(t *testing.T) {
	list := bindingsOf(t, "a:k | w:k wraps | b:k if=f | c:k.t")
	for _, number := range append([]int{7, 8, -5, 256, -256, 1 << 31, 1<<31 + 3}, anyNumbers...) {
		found, code := impl.Wrappers(list, nil, number)
		want := map[int]string{0: "w", 3: ""}
		if told, has := want[number]; has && toldOr(code, namesOf(list, found)) != told || !has && (code != impl.ErrNone || len(found) > 0) {
			t.Errorf("%d: %v %d", number, found, code)
		}
		if found, code := impl.Wrappers(nil, nil, number); code != impl.ErrNone || len(found) > 0 {
			t.Errorf("%d of none: %v %d", number, found, code)
		}
	}
}
