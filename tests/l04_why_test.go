package tests

import (
	"slices"
	"strings"
	"testing"

	"loop.example/g00045/impl"
)

func checkWhy(t *testing.T, store, wishes, name, want string) {
	t.Helper()
	list, needs := storeOf(t, store), needsOf(t, wishes)
	second, code, _ := wantWhy(list, needs, name)
	if got := told(second, code, nil); got != want {
		t.Fatalf("%s: %s: why %s: the second telling is %s, not %s", store, wishes, name, got, want)
	}
	s := newSource()
	for range 50 {
		s.Shuffle(len(list), func(i, k int) { list[i], list[k] = list[k], list[i] })
		s.Shuffle(len(needs), func(i, k int) { needs[i], needs[k] = needs[k], needs[i] })
		row, code := impl.Why(list, needs, name)
		if got := told(row, code, nil); got != want {
			t.Fatalf("%s: %s: why %s: %s, not %s", store, wishes, name, got, want)
		}
	}
}

func TestWhy(t *testing.T) {
	for _, test := range [][4]string{
		{"a1", "a", "a", "a1"},
		{"a1 b | b1 c | c1", "a", "a", "a1"},
		{"a1 b | b1 c | c1", "a", "b", "a1 b1"},
		{"a1 b | b1 c | c1", "a", "c", "a1 b1 c1"},
		{"a1 b | b1 c | c1", "a c", "c", "c1"},
		// a wish and a need reach one release; a wish reaches another one than the pick
		{"a1 c2 | c1 | c2", "a c2", "c", "c2"},
		{"a1 c2 | c1 | c2", "a c", "c", "a1 c2"},
		{"a1 b | b1 c2 | c1 | c2", "a b c", "c", "b1 c2"},
		// through releases that are reached and not picked
		{"a1 b | a2 | b7 | c1 a2", "a c", "b", "a1 b7"},
		{"a1 b | a2 | b7 | c1 a2", "a c", "a", "c1 a2"},
		{"a1 b2 | b2 a3 | a3 b4 | b4 a", "a", "b", "a1 b2 a3 b4"},
		{"a1 b2 | b2 a3 | a3 b4 | b4 a", "a", "a", "a1 b2 a3"},
		{"a1 c | a2 d | c1 e | d1 e | e1 | x1 a2", "a x", "e", "a1 c1 e1"},
		{"a1 b | b1 a2 | a2 b2 | b2", "a b", "b", "b1 a2 b2"},
		// several rows of one length: by Name, then by Version, release by release
		{"a1 c | b1 c | c1", "b a", "c", "a1 c1"},
		{"B1 c | a1 c | c1", "a B", "c", "B1 c1"},
		{"a1 x y | x1 z | y1 z | z1", "a", "z", "a1 x1 z1"},
		{"a1 y x | x1 z | y1 z | z1", "a", "z", "a1 x1 z1"},
		{"a1 y | b1 x | x1 z | y1 z | z1", "a b", "z", "a1 y1 z1"},
		{"a1 x2 | b1 x | x1 z | x2 z | z1", "a b", "z", "a1 x2 z1"},
		{"a2 z | a3 z | b1 a3 | c1 a2 | z1", "c b", "z", "b1 a3 z1"},
		{"a1 é y | é1 z | y1 z | z1", "a", "z", "a1 y1 z1"},
		{"a1 b1 | a2 b1 | b1 c | c1 | d1 a2 | e1 a", "d e", "b", "d1 a2 b1"},
		{"a1 x | b1 x2 | x1 z | x2 z | z1", "a b", "z", "a1 x1 z1"},
		// the shorter one ahead of the lesser one
		{"a1 b | b1 c | c1 | d1 c", "a d", "c", "d1 c1"},
		{"a1 b | b1 c | c1 z | z1", "a c", "z", "c1 z1"},
		// a circle is not gone round
		{"a1 b | b1 c | c1 a d | d1", "a", "d", "a1 b1 c1 d1"},
	} {
		checkWhy(t, test[0], test[1], test[2], test[3])
	}
}

func TestWhyOfNone(t *testing.T) {
	for _, test := range [][4]string{
		{"a1", "a", "b", "none"},
		{"a1", "a", "", "none"},
		{"", "", "", "none"},
		{"", "", "a", "none"},
		{"a1 | b1 a", "a", "b", "none"},
		{"a1", "a", "A", "none"},
		{"a1", "a", "a1", "none"},
		{"a1", "a", "package", "none"},
		{"a1", "a", "\xff", "none"},
		{"a1", "a", strings.Repeat("a", impl.MaxText), "none"},
		// Choose's code ahead of it
		{"a1 z", "a", "a", "none"},
		{"a1 z", "a", "b", "none"},
		{"a1 | a5", "a2-3", "a", "range"},
		{"a1 | a5", "a2-3", "b", "range"},
		{"a1 | a5", "a2-3", "", "range"},
		{"a1 | a1", "a", "a", "bad"},
		{"a1", "a a", "", "bad"},
		{"a1", "a", strings.Repeat("a", impl.MaxText+1), "long"},
		{"a1 | a1", "a", strings.Repeat("a", 1<<22), "long"},
	} {
		checkWhy(t, test[0], test[1], test[2], test[3])
	}
}

// checkReason: a row begins with what a wish reaches, each next one is what a need of the one ahead reaches, and it ends with the pick.
func checkReason(t *testing.T, store []impl.Release, wishes []impl.Import, row []impl.Pick, picks []impl.Pick, name string) {
	t.Helper()
	needs := wishes
	for _, p := range row {
		leads := func(need impl.Import) bool {
			at := reachOf(store, need)
			return at >= 0 && store[at].Name == p.Name && store[at].Version == p.Version
		}
		if !slices.ContainsFunc(needs, leads) {
			t.Fatalf("%s: %s: why %s: %s: nothing ahead leads to %s", showStore(store), showNeeds(wishes), name, showPicks(row), p.Name)
		}
		at := slices.IndexFunc(store, func(r impl.Release) bool { return r.Name == p.Name && r.Version == p.Version })
		needs = store[at].Needs
	}
	if len(row) == 0 || row[len(row)-1].Name != name || !slices.Contains(picks, row[len(row)-1]) {
		t.Fatalf("%s: %s: why %s: %s does not end with its pick", showStore(store), showNeeds(wishes), name, showPicks(row))
	}
}
