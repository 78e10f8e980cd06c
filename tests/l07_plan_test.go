package tests

import (
	"slices"
	"strings"
	"testing"

	"loop.example/g00045/impl"
)

// checkPlan: the Names, or the code's word, whatever the order of the bindings.
func checkPlan(t *testing.T, bindings, flags, want, told string) {
	t.Helper()
	w := wantOf(t, want)
	everyOrder(bindingsOf(t, bindings), func(list []impl.Binding) {
		names, code := impl.Plan(list, flagsOf(flags), w)
		if got := toldOr(code, strings.Join(names, " ")); got != told {
			t.Errorf("%s: %s: %s, not %s", showBindings(list, flagsOf(flags)), want, got, told)
		}
		second, secondCode := wantPlan(list, flagsOf(flags), w)
		if code != secondCode || !slices.Equal(names, second) {
			t.Errorf("%s: %s: the second telling: %v %d", showBindings(list, flagsOf(flags)), want, second, secondCode)
		}
	})
}

func TestPlan(t *testing.T) {
	for _, sign := range []string{"+", "?", "*", "~"} {
		for _, c := range []struct{ bindings, flags, key, told string }{
			{"a:k", "", "k", "a"},
			{"a:k 1 | w:k wraps", "", "k", "a w"},
			{"a:k 2 | w:k wraps ^2 | v:k wraps ^1 | u:k wraps ^2", "", "k", "a v u w"},
			{"a:k +j | b:j +i | c:i", "", "k", "c b a"},
			{"a:k +j +i | b:j +i | c:i 1", "", "k", "c b a"},
			{"a:k +j +i | b:j +i | c:i 2", "", "k", "c b a"},
			{"a:k +j +i | b:j +i | c:i 3", "", "k", "c b c a"},
			{"a:k +j +j ?j *j | b:j 1 | w:j wraps", "", "k", "b w a"},
			{"a:k +j +j ?j *j | b:j 3 | w:j wraps", "", "k", "b w b w b w b w a"},
			{"a:k ~j | b:j", "", "k", "a"},
			{"a:k ~nope ~k", "", "k", "a"},
			{"a:k | w:k wraps +j | b:j 2 | v:j wraps +i | c:i", "", "k", "a b c v w"},
			{"a:k.t | b:k | w:k.t wraps", "", "k.t", "a w"},
			{"a:k if=f | b:k if=!f +j | c:j", "", "k", "c b"},
			{"a:k if=f | b:k if=!f +j | c:j", "f", "k", "a"},
			{"a:k *j | b:j ^1 | c:j.t ^2 | d:j", "", "k", "c b d a"},
			{"a:k ?j *j | b:i", "", "k", "a"},
			{"a:k 1 +j | b:j 2", "", "k", "b a"},
		} {
			checkPlan(t, c.bindings, c.flags, sign+c.key, c.told)
		}
	}
	checkPlan(t, "a:k ^1 | b:k 1 | w:k wraps | c:k.t", "", "*k", "a w b w c")
	checkPlan(t, "a:k ^1 | b:k 1 +i | c:k.t +i | d:i 1", "", "*k", "a d b c")
	checkPlan(t, "a:k | w:j wraps", "", "?nope", "")
	checkPlan(t, "a:k | w:j wraps", "", "*nope", "")
	checkPlan(t, "a:k | w:j wraps", "", "*j", "")
	checkPlan(t, "", "", "*k", "")
}

// Each code that an AcGet can answer in scope 0 of a new Live.
func TestPlanOfCodes(t *testing.T) {
	for _, c := range []struct{ bindings, flags, want, told string }{
		{"", "", "+k", "none"},
		{"a:k", "", "+nope", "none"},
		{"a:k", "", "~k.t", "none"},
		{"a:k wraps", "", "+k", "none"},
		{"a:k if=f", "", "+k", "none"},
		{"a:k | b:k", "", "+k", "twice"},
		{"a:k | b:k", "", "?k", "twice"},
		{"a:k +j +nope | b:j", "", "+k", "none"},
		{"a:k +j | b:j | c:j", "", "+k", "twice"},
		{"a:k +j +i | b:j | c:i +k", "", "+k", "loop"},
		{"a:k 1 | w:k wraps +k", "", "+k", "loop"},
		{"a:k 2 +j | b:j 1 +k", "", "*k", "loop"},
		{"a:k ^1 | b:k +nope", "", "*k", "none"},
		{"a:k ^1 | b:k +nope", "", "+k", "a"},
	} {
		checkPlan(t, c.bindings, c.flags, c.want, c.told)
	}
	for _, w := range []impl.Want{{}, {Key: "k"}, {Key: "k0", Mode: 5}, {Key: "k0", Mode: -1}, {Key: "", Mode: 1}, {Key: "k0", Tag: "when", Mode: 1}, {Key: tooLong, Mode: 1}, {Key: "k0", Tag: tooLong, Mode: 1}} {
		for _, list := range [][]impl.Binding{nil, tower(3), tower(60)} {
			if names, code := impl.Plan(list, nil, w); code != impl.ErrBad || len(names) > 0 {
				t.Errorf("%s: %v %d", showWant(w), names, code)
			}
		}
	}
	if names, code := impl.Plan(tower(5), nil, impl.Want{Key: "k0", Mode: impl.WantOne}); code != impl.ErrMany || len(names) > 0 {
		t.Errorf("too many: %d names, code %d", len(names), code)
	}
	if names, code := impl.Plan(tower(4), nil, impl.Want{Key: "k0", Mode: impl.WantOne}); code != impl.OK || len(names) != 585 || names[584] != "n0" {
		t.Errorf("%d names, code %d", len(names), code)
	}
}

// As many wrappers and needs as bindings can have.
func TestPlanOfManyBindings(t *testing.T) {
	list := manyBindings(60)
	for i := range list {
		list[i].Wraps = i > 0
		list[i].Rank = -i
	}
	names, code := impl.Plan(list, nil, impl.Want{Key: "k", Mode: impl.WantOne})
	if code != impl.OK || len(names) != 60 || names[0] != "n0" || names[1] != "n59" || names[59] != "n1" {
		t.Errorf("wrappers: %v %d", names, code)
	}
	for i := range list {
		list[i].Wraps, list[i].Key = false, "j"
	}
	list[0] = impl.Binding{Name: "n0", Key: "k", Scope: impl.ScSingle, Needs: repeated(8, impl.Want{Key: "j", Mode: impl.WantAll})}
	acts := []impl.Act{{Kind: impl.AcGet, Want: impl.Want{Key: "k", Mode: impl.WantOne}}}
	x := impl.Live(list, nil, acts)
	last := x.Events[len(x.Events)-1]
	if last.Name != "n0" || len(last.Needs) != 8*59 {
		t.Errorf("needs: %d", len(last.Needs))
	}
	checkSameLife(t, list, nil, acts, wantLive(list, nil, acts))
}
