package tests

import (
	"slices"
	"strconv"
	"strings"
	"testing"

	"loop.example/g00045/impl"
)

// checkWatch: what is told, and the other way round what was and what is exchanged.
func checkWatch(t *testing.T, old, late, paths, told string) {
	t.Helper()
	before, after, watched := layersOf(t, old), layersOf(t, late), strings.Fields(paths)
	changes, code := impl.Watch(before, after, watched)
	if got := toldOr(code, toldChanges(changes)); got != told {
		t.Errorf("%s and %s, %s: %s, not %s", showLayers(before), showLayers(after), paths, got, told)
	}
	if second, secondCode := wantWatch(before, after, watched); secondCode != code || !slices.Equal(second, changes) {
		t.Errorf("%s and %s, %s: the second telling: %s", showLayers(before), showLayers(after), paths, toldChanges(second))
	}
	for i := range changes {
		changes[i].Old, changes[i].New = changes[i].New, changes[i].Old
	}
	slices.Reverse(watched)
	if back, code := impl.Watch(after, before, watched); code != impl.OK || !slices.Equal(back, changes) {
		t.Errorf("%s and %s, %s: the other way round: %s", showLayers(before), showLayers(after), paths, toldChanges(back))
	}
}

func TestWatch(t *testing.T) {
	for _, c := range []struct{ old, late, paths, told string }{
		{"", "", "", ""},
		{"", "", "p", ""},
		{"", "a p=1", "", ""},
		{"", "a p=1", "p", "p=>1"},
		{"a p=1", "", "p", "p=1>"},
		{"a p=1", "a p=2", "p", "p=1>2"},
		{"a p=1", "b p=1", "p", ""},
		{"a p=1 | b p=2", "c p=2", "p", ""},
		{"a p=1", "a p=1 | b p=~", "p", "p=1>"},
		{"", "a p=", "p", ""},
		{"a p=", "", "p", ""},
		{"a p=", "a p=", "p", ""},
		{"a p=", "a p=1", "p", "p=>1"},
		{"a p=1", "a p=", "p", "p=1>"},
		{"", "a p=1 | b p=", "p", ""},
		{"", "a p=1", "q", ""},
		{"", "a p=1 q=2", "q", "q=>2"},
		{"", "a p.q=1 p.r=2 q=3", "p", "p.q=>1 p.r=>2"},
		{"", "a p.q=1 p.r=2 q=3", "p.q", "p.q=>1"},
		{"", "a p=1", "p.q", ""},
		{"", "a p=1 | b p.q=2", "p.q", "p.q=>2"},
		{"a p=1", "b p.q=2", "p", "p=1> p.q=>2"},
		{"a p=1", "b p.q=2", "p.q", "p.q=>2"},
		{"a p.q=1 p.r=2", "b p=3", "p", "p=>3 p.q=1> p.r=2>"},
		{"a p.q=1 p.r=2", "b p=3", "p.r", "p.r=2>"},
		{"", "a p.q=1 p.qr=2", "p.q", "p.q=>1"},
		{"", "a p=1 pp=2 P=3", "p", "p=>1"},
		{"", "a p.q.r.s.t=1", "p.q.r.s", "p.q.r.s.t=>1"},
		{"", "a p.q.r.s.t=1", "p.q.r.s.t", "p.q.r.s.t=>1"},
		{"", "a p.q=1 q=2", "p p", "p.q=>1"},
		{"", "a p.q=1 q=2", "p p.q p.q.r", "p.q=>1"},
		{"", "a p.q=1 q=2", "p.q p", "p.q=>1"},
		{"", "a p.q=1 q=2 r=3", "r q p", "p.q=>1 q=>2 r=>3"},
		{"", "a p1=1 p.q=2 p=3", "p p1", "p=>3 p1=>1"},
		{"a p1=1 p.q=2", "b p1=2 p.q=3", "p1 p", "p.q=2>3 p1=1>2"},
		{"a p=1 q=2 r=3", "a p=1 q=5 s=4", "p q r s t", "q=2>5 r=3> s=>4"},
		{"a p=~", "b p=~", "p", ""},
		{"a é.ж=1", "a é.ж=2", "é", "é.ж=1>2"},
		{"a^1 p=1 | b p=2", "a p=1 | b^1 p=2", "p", "p=1>2"},
	} {
		checkWatch(t, c.old, c.late, c.paths, c.told)
	}
}

func TestWatchOfWrongArguments(t *testing.T) {
	right, bad := layersOf(t, "a p=1"), layersOf(t, "a p..q=1")
	paths := []string{"p"}
	for _, c := range []struct {
		what      string
		old, late []impl.Layer
		paths     []string
		code      int
	}{
		{"bad old", bad, right, paths, impl.ErrBad}, {"bad late", right, bad, paths, impl.ErrBad}, {"both bad", bad, bad, paths, impl.ErrBad}, {"bad old, no paths", bad, nil, nil, impl.ErrBad}, {"bad late, no paths", nil, bad, nil, impl.ErrBad},
		{"no path", right, right, []string{""}, impl.ErrBad}, {"a point", right, nil, []string{"p", "."}, impl.ErrBad}, {"a wrong path of none", nil, nil, []string{"p.q.r.s.t.u"}, impl.ErrBad}, {"a long path", nil, nil, []string{tooLong}, impl.ErrBad}, {"a mark", nil, right, []string{"~"}, impl.ErrBad}, {"all bad", bad, bad, []string{"."}, impl.ErrBad},
		{"a wrong path behind many", right, right, append(repeated(4095, "p"), "p."), impl.ErrBad}, {"old too many", manyLayers(21), right, paths, impl.ErrBad}, {"late too many", right, manyLayers(21), paths, impl.ErrBad}, {"layers that have one name", layersOf(t, "a | a"), right, paths, impl.ErrBad},
		{"old too long", manyLayers(4097), right, paths, impl.ErrLong}, {"late too long", right, manyLayers(4097), paths, impl.ErrLong}, {"paths too long", right, right, repeated(4097, "p"), impl.ErrLong}, {"wrong paths too long", bad, bad, make([]string, 4097), impl.ErrLong}, {"old too long, bad late", manyLayers(4097), bad, []string{""}, impl.ErrLong}, {"late too long, bad old", bad, manyLayers(4097), []string{""}, impl.ErrLong},
	} {
		if list, code := impl.Watch(c.old, c.late, c.paths); code != c.code || len(list) > 0 {
			t.Errorf("%s: %s %d, not %d", c.what, toldChanges(list), code, c.code)
		}
	}
	if list, code := impl.Watch(nil, right, repeated(4096, "p")); code != impl.OK || toldChanges(list) != "p=>1" {
		t.Errorf("as many paths as can be: %s %d", toldChanges(list), code)
	}
}

// As many settings and paths as there can be.
func TestWatchOfMany(t *testing.T) {
	var old, late []impl.Layer
	var paths []string
	for i := range 20 {
		a, b := impl.Layer{Name: "n" + strconv.Itoa(i)}, impl.Layer{Name: "n" + strconv.Itoa(i)}
		for k := range 100 {
			number := i*100 + k
			a.Entries = append(a.Entries, impl.Entry{Path: "p.q" + strconv.Itoa(number), Text: "1"})
			b.Entries = append(b.Entries, impl.Entry{Path: "p.r" + strconv.Itoa(number), Text: "2"})
			paths = append(paths, "p.q"+strconv.Itoa(number), "p.r"+strconv.Itoa(number))
		}
		old, late = append(old, a), append(late, b)
	}
	for _, watched := range [][]string{{"p"}, paths} {
		if list, code := impl.Watch(old, late, watched); code != impl.OK || len(list) != 4000 || !slices.IsSortedFunc(list, func(a, b impl.Change) int { return strings.Compare(a.Path, b.Path) }) {
			t.Errorf("%d changes, code %d", len(list), code)
		}
	}
	if list, code := impl.Watch(old, late, paths[:1]); code != impl.OK || toldChanges(list) != "p.q0=1>" {
		t.Errorf("%s %d", toldChanges(list), code)
	}
}
