package tests

import (
	"slices"
	"strconv"
	"strings"
	"testing"

	"loop.example/g00045/impl"
)

// checkAudit: what Audit tells and what Circle answers, whatever the order of the bindings.
func checkAudit(t *testing.T, bindings, flags, told, circle string) {
	t.Helper()
	everyOrder(bindingsOf(t, bindings), func(list []impl.Binding) {
		what := showBindings(list, flagsOf(flags))
		problems, code := impl.Audit(list, flagsOf(flags))
		if got := toldOr(code, toldProblems(problems)); got != told {
			t.Errorf("%s: Audit: %s, not %s", what, got, told)
		}
		problems, code = wantAudit(list, flagsOf(flags))
		if got := toldOr(code, toldProblems(problems)); got != told {
			t.Errorf("%s: Audit, the second telling: %s, not %s", what, got, told)
		}
		names, code := impl.Circle(list, flagsOf(flags))
		if got := toldOr(code, strings.Join(names, " ")); got != circle {
			t.Errorf("%s: Circle: %s, not %s", what, got, circle)
		}
		names, code, _ = wantCircle(list, flagsOf(flags))
		if got := toldOr(code, strings.Join(names, " ")); got != circle {
			t.Errorf("%s: Circle, the second telling: %s, not %s", what, got, circle)
		}
	})
}

func TestAuditOfNeeds(t *testing.T) {
	for _, c := range []struct{ bindings, flags, told string }{
		{"", "", ""},
		{"a:k", "", ""},
		{"a:k +j | b:j", "", ""},
		{"a:k +nope", "", "none a nope"},
		{"a:k +nope.t", "", "none a nope.t"},
		{"a:k ~nope", "", "none a nope"},
		{"a:k ?nope *nope *nope.t", "", ""},
		{"a:k +nope ~nope +nope.t +nope", "", "none a nope, none a nope, none a nope.t, none a nope"},
		{"a:k +j.t | b:j", "", "none a j.t"},
		{"a:k +j | b:j.t", "", "none a j"},
		{"a:k *j | b:j.t", "", ""},
		{"a:k +j | b:j | c:j", "", "twice a j"},
		{"a:k ?j ~j *j +j.t | b:j | c:j", "", "twice a j, twice a j, none a j.t"},
		{"a:k +j | b:j ^1 | c:j", "", ""},
		{"a:k +j | b:j ^1 | c:j | d:j", "", ""},
		{"a:k +j | b:j wraps", "", "none a j"},
		{"a:k wraps +nope", "", "none a nope"},
		{"b:k +y +x | a:k +z +w | B:k +v", "", "none B v, none a z, none a w, none b y, none b x"},
		{"a:k if=f +nope", "", ""},
		{"a:k if=f +nope", "f", "none a nope"},
		{"a:k +j | b:j if=f", "", "none a j"},
		{"a:k +j | b:j if=f", "f", ""},
		{"a:k +j | b:j if=f | c:j if=g", "g f", "twice a j"},
		{"a:k +j | b:j if=f | c:j if=!f", "f", ""},
		{"a:k ?j if=f | c:j +x if=!f", "f", ""},
	} {
		checkAudit(t, c.bindings, c.flags, c.told, "none")
	}
}

func TestAuditOfScopes(t *testing.T) {
	for _, c := range []struct{ bindings, flags, told string }{
		{"a:k 1 +j | b:j 2", "", "state a j"},
		{"a:k 1 ?j | b:j 2", "", "state a j"},
		{"a:k 1 *j | b:j 2", "", "state a j"},
		{"a:k 1 ~j | b:j 2", "", ""},
		{"a:k 2 +j | b:j 2", "", ""},
		{"a:k 3 +j | b:j 2", "", ""},
		{"a:k 1 +j | b:j 1", "", ""},
		{"a:k 1 +j | b:j 3", "", ""},
		{"a:k 1 wraps +j ?j *j | b:j 2", "", ""},
		{"a:k 1 wraps +j ~j *j | b:j 1", "", ""},
		{"a:k 1 +j.t | b:j.t 2 | c:j 1", "", "state a j.t"},
		{"a:k 1 +j | b:j.t 2 | c:j 1", "", ""},
		{"a:k 1 *j | b:j.t 2 | c:j 1", "", "state a j"},
		{"a:k 1 *j.t | b:j.t 1 | c:j 2", "", ""},
		{"a:k 1 *j | b:j 1 ^9 | c:j 3 | d:j.u 2 ^-9", "", "state a j"},
		{"a:k 1 *j | b:j 2 | c:j 2 | d:j 2", "", "state a j"},
		{"a:k 1 +j +j ?j *j ~j | b:j 2", "", "state a j, state a j, state a j, state a j"},
		{"a:k 1 +j | b:j 2 ^1 | c:j 1", "", "state a j"},
		{"a:k 1 +j | b:j 2 | c:j 1 ^1", "", ""},
		{"a:k 1 +j | b:j 1 | w:j 2 wraps", "", ""},
		{"a:k 1 +j | b:j 2 | w:j 1 wraps", "", "state a j"},
		{"a:k 1 +j | b:j 3 +i | c:i 2", "", ""},
		{"a:k 1 +j | b:j 2 if=f ^1 | c:j 1", "", ""},
		{"a:k 1 +j | b:j 2 if=f ^1 | c:j 1", "f", "state a j"},
		{"a:k 1 +j if=f | b:j 2", "", ""},
		{"a:k 1 +j if=f | b:j 2", "f", "state a j"},
		{"a:k 1 +j | b:j 2 | c:j 2", "", "twice a j"},
		{"a:k 1 +nope +j +x | b:j 2 | c:x | d:x", "", "none a nope, state a j, twice a x"},
		{"d:k 1 +j +nope | b:j 2 | c:i 1 +j | a:h 1 *j", "", "state a j, state c j, state d j, none d nope"},
	} {
		checkAudit(t, c.bindings, c.flags, c.told, "none")
	}
}

func TestAuditOfLoops(t *testing.T) {
	for _, c := range []struct{ bindings, flags, told, circle string }{
		{"a:k +k", "", "loop a", "a"},
		{"a:k ?k", "", "loop a", "a"},
		{"a:k *k", "", "loop a", "a"},
		{"a:k.t *k", "", "loop a", "a"},
		{"a:k *k.t", "", "", "none"},
		{"a:k.t +k", "", "none a k", "none"},
		{"a:k.t ?k", "", "", "none"},
		{"a:k ~k", "", "", "none"},
		{"a:k ~k ?k.t *k.t", "", "", "none"},
		{"a:k wraps +k", "", "none a k", "none"},
		{"a:k wraps *k", "", "", "none"},
		{"a:k if=f +k", "", "", "none"},
		{"a:k if=f +k", "f", "loop a", "a"},
		{"a:k +j | b:j +k", "", "loop a, loop b", "a b"},
		{"b:k +j | a:j +k", "", "loop a, loop b", "a b"},
		{"a:k +j | b:j ~k", "", "", "none"},
		{"a:k ~j | b:j +k", "", "", "none"},
		{"a:k ~j +j | b:j +k", "", "loop a, loop b", "a b"},
		{"a:k +j | b:j if=f +k", "", "none a j", "none"},
		{"a:k ?j | b:j if=f +k", "", "", "none"},
		{"a:k ?j | b:j if=f +k", "f", "loop a, loop b", "a b"},
		{"a:k +j if=f | b:j +k", "", "none b k", "none"},
		{"a:k +j | b:j +k | c:j", "", "twice a j", "none"},
		{"a:k +j | b:j +k | c:j ^1", "", "", "none"},
		{"a:k +j | b:j +k ^1 | c:j", "", "loop a, loop b", "a b"},
		{"a:k *j | b:j +k | c:j ^1", "", "loop a, loop b", "a b"},
		{"a:k *j | b:j +k | c:j +nope", "", "none c nope, loop a, loop b", "a b"},
		{"a:k +nope +j | b:j +k", "", "none a nope, loop a, loop b", "a b"},
		{"a:k *j | b:j.t +k | c:j", "", "loop a, loop b", "a b"},
		{"a:k *j.t | b:j.u +k | c:j.t", "", "", "none"},
		{"a:k +j | b:j +i | c:i +k", "", "loop a, loop b, loop c", "a b c"},
		{"c:k +j | b:j +i | a:i +k", "", "loop a, loop b, loop c", "a c b"},
		{"a:k +j | b:j +i | c:i +j", "", "loop b, loop c", "b c"},
		{"a:k +k +j | b:j +k", "", "loop a, loop b", "a"},
		{"b:k +k +j | a:j +k", "", "loop a, loop b", "b"},
		{"a:k +j | b:j +k | z:i +i", "", "loop a, loop b, loop z", "z"},
		{"z:i +i | y:h +h | a:k +j | b:j +k", "", "loop a, loop b, loop y, loop z", "y"},
		{"a:k 1 +j | b:j 2 +k", "", "state a j, loop a, loop b", "a b"},
		{"a:a +b +c | b:b +d | c:c +d | d:d +a", "", "loop a, loop b, loop c, loop d", "a b d"},
		{"a:a +c +b | b:b +e | c:c +d | d:d +a | e:e +a", "", "loop a, loop b, loop c, loop d, loop e", "a b e"},
		{"a:a +d | d:d +a | b:b +c | c:c +b", "", "loop a, loop b, loop c, loop d", "a d"},
		{"a:a +d | d:d +a +c | c:c +d | b:b +e | e:e +b", "", "loop a, loop b, loop c, loop d, loop e", "a d"},
		{"a:a +b | b:b +c | c:c +a +d | d:d +b", "", "loop a, loop b, loop c, loop d", "a b c"},
		{"B:a +b | b:b +a | A:c +d | a:d +c", "", "loop A, loop B, loop a, loop b", "A a"},
		{"é:a +b | z:b +a", "", "loop z, loop é", "z é"},
	} {
		checkAudit(t, c.bindings, c.flags, c.told, c.circle)
	}
}

// Rows through wrappers: what needs a binding needs those that wrap it, and a wrapper has needs of its own.
func TestAuditOfWrappers(t *testing.T) {
	for _, c := range []struct{ bindings, flags, told, circle string }{
		{"a:k | w:k wraps", "", "", "none"},
		{"a:k | w:k wraps +k", "", "loop w", "w"},
		{"a:k | w:k wraps *k", "", "loop w", "w"},
		{"a:k | w:k wraps ?k", "", "loop w", "w"},
		{"a:k | w:k wraps ~k", "", "", "none"},
		{"a:k | w:k.t wraps +k", "", "", "none"},
		{"a:k | b:k.t | w:k.t wraps *k", "", "loop w", "w"},
		{"a:k | w:k.t wraps *k", "", "", "none"},
		{"a:k | w:k wraps +j | b:j +k", "", "loop b, loop w", "b w"},
		{"a:k | w:k wraps ~j | b:j +k", "", "", "none"},
		{"a:k | w:k wraps +j | b:j ~k", "", "", "none"},
		{"a:k | w:k wraps +j if=f | b:j +k", "", "", "none"},
		{"a:k | w:k wraps +j if=f | b:j +k", "f", "loop b, loop w", "b w"},
		{"a:k +k | w:k wraps", "", "loop a", "a"},
		{"a:k +j | w:k wraps | b:j", "", "", "none"},
		{"a:k +j | w:k wraps | b:j +k", "", "loop a, loop b", "a b"},
		{"a:k | w:k wraps +j | b:j | v:j wraps +k", "", "loop v, loop w", "v w"},
		{"a:k | w:k wraps +j | b:j | v:j wraps +i | c:i +k", "", "loop c, loop v, loop w", "c w v"},
		{"a:k | v:k wraps +j | w:k wraps +j | b:j +k", "", "loop b, loop v, loop w", "b v"},
		{"a:k | v:k wraps | w:k wraps +k", "", "loop w", "w"},
		{"a:k | v:k wraps +k | w:k wraps +k", "", "loop v, loop w", "v"},
		{"a:k | b:k | w:k wraps +j | c:j +k", "", "twice c k", "none"},
		{"a:k | b:k | w:k wraps +j | c:j *k", "", "loop c, loop w", "c w"},
		{"a:k | b:k ^1 | w:k wraps +j | c:j +k", "", "loop c, loop w", "c w"},
		{"w:k wraps +j | c:j *k", "", "", "none"},
		{"w:k wraps +j | c:j ?k", "", "", "none"},
		{"a:k if=f | w:k wraps +j | c:j ?k", "", "", "none"},
		{"a:k if=f | w:k wraps +j | c:j ?k", "f", "loop c, loop w", "c w"},
		{"a:k 1 | w:k 1 wraps +j | b:j 2 | c:h 1 +k", "", "", "none"},
	} {
		checkAudit(t, c.bindings, c.flags, c.told, c.circle)
	}
}

// ring: so many bindings, each of which needs the next one, the last one the first; the first one's needs may be of another mode.
func ring(count, mode int) []impl.Binding {
	var out []impl.Binding
	for i := range count {
		next := "k" + strconv.Itoa((i+1)%count)
		out = append(out, impl.Binding{Name: "n" + strconv.Itoa(100+i), Key: "k" + strconv.Itoa(i), Scope: impl.ScFresh, Needs: []impl.Want{{Key: next, Mode: impl.WantOne}}})
	}
	out[0].Needs[0].Mode = mode
	return out
}

func TestCircleOfRings(t *testing.T) {
	for count := 1; count <= impl.MaxBindings; count++ {
		list := ring(count, impl.WantAll)
		slices.Reverse(list)
		names, code := impl.Circle(list, nil)
		if code != impl.OK || len(names) != count || !slices.IsSorted(names) {
			t.Errorf("a ring of %d: %v %d", count, names, code)
		}
		problems, code := impl.Audit(list, nil)
		if code != impl.OK || len(problems) != count || problems[count-1] != (impl.Problem{Code: impl.ErrLoop, Name: "n" + strconv.Itoa(99+count)}) {
			t.Errorf("a ring of %d: %s %d", count, toldProblems(problems), code)
		}
		list = ring(count, impl.WantLazy)
		if names, code := impl.Circle(list, nil); code != impl.ErrNone || len(names) > 0 {
			t.Errorf("a row of %d: %v %d", count, names, code)
		}
		if problems, code := impl.Audit(list, nil); code != impl.OK || len(problems) > 0 {
			t.Errorf("a row of %d: %s %d", count, toldProblems(problems), code)
		}
	}
}

// As many bindings, needs and flags as there may be: each needs all, some wrap.
func TestAuditOfManyNeeds(t *testing.T) {
	list := manyBindings(impl.MaxBindings)
	for i := range list {
		list[i].Needs = repeated(impl.MaxNeeds, impl.Want{Key: "k", Mode: impl.WantAll})
		list[i].Wraps = i%2 == 1
		list[i].When = "!f"
	}
	flags := repeated(impl.MaxList, "g")
	problems, code := impl.Audit(list, flags)
	want, _ := wantAudit(list, flags[:1])
	if code != impl.OK || !slices.Equal(problems, want) || len(problems) < impl.MaxBindings {
		t.Errorf("Audit %d of %d problems, not %d", code, len(problems), len(want))
	}
	names, code := impl.Circle(list, flags)
	if code != impl.OK || len(names) != 1 || names[0] != "n0" {
		t.Errorf("Circle %v %d", names, code)
	}
	for i := range list {
		list[i].Needs = repeated(impl.MaxNeeds, impl.Want{Key: "k", Tag: "t", Mode: impl.WantLazy})
	}
	problems, code = impl.Audit(list, flags)
	if code != impl.OK || len(problems) != impl.MaxBindings*impl.MaxNeeds || problems[0] != (impl.Problem{Code: impl.ErrNone, Name: "n0", Key: "k", Tag: "t"}) {
		t.Errorf("Audit %d of %d problems", code, len(problems))
	}
}
