package tests

import (
	"slices"
	"strconv"
	"testing"

	"loop.example/g00045/impl"
)

// checkChoose: the answer, with the store's list in any order (all of few releases).
func checkChoose(t *testing.T, store, wishes, want string) {
	t.Helper()
	list := storeOf(t, store)
	if len(list) > 6 {
		list = list[:6]
	}
	rest := storeOf(t, store)[len(list):]
	needs := needsOf(t, wishes)
	orders(list, func(list []impl.Release) {
		if got := told(impl.Choose(slices.Concat(list, rest), needs)); got != want {
			t.Fatalf("%s: %s: %s, not %s", store, wishes, got, want)
		}
	})
	if second := told(wantChoose(storeOf(t, store), needs)); second != want {
		t.Fatalf("%s: %s: the second telling is %s, not %s", store, wishes, second, want)
	}
}

func TestChoose(t *testing.T) {
	for _, test := range [][3]string{
		{"", "", ""},
		{"a1 b | b2", "", ""},
		{"a1 nope", "", ""},
		{"a1", "a", "a1"},
		{"a1 | a2 | a3", "a", "a1"},
		{"a1 | a2 | a3", "a2", "a2"},
		{"a1 | a2 | a3", "a3-3", "a3"},
		{"a1 | a5", "a2", "a5"},
		{"a1 | a5", "a2-5", "a5"},
		{"a999999", "a", "a999999"},
		{"a1 | a999999", "a999999", "a999999"},
		{"b1 | a1 | aa1 | B1 | é1", "é a B b aa", "B1 a1 aa1 b1 é1"},
		{"a1 b | b1 c | c1 d | d1", "a", "a1 b1 c1 d1"},
		{"a1 b2 | b1 | b2 c | b3 d | c1 | d1", "a", "a1 b2 c1"},
		{"a1 c2 | b1 c4 | c1 | c2 | c3 | c4 | c5", "a b", "a1 b1 c4"},
		{"a1 c4 | b1 c2 | c1 | c2 | c3 | c4 | c5", "a b", "a1 b1 c4"},
		// what older releases need counts, though they are not picked
		{"a1 b | a2 | b7 | c1 a2", "a c", "a2 b7 c1"},
		{"a1 b | a2 | b7 c | c1 a2", "a", "a2 b7 c1"},
		{"a1 b3 | a2 b2 | b2 | b3 d | c1 a2 | d4", "a c", "a2 b3 c1 d4"},
		// releases that need one another
		{"a1 b | b1 a", "a", "a1 b1"},
		{"a1 b2 | b2 a3 | a3 b4 | b4 a", "a", "a3 b4"},
		{"a1 b | b1 c | c1 a2 | a2 b2 | b2", "a", "a2 b2 c1"},
		// releases that nothing reaches
		{"a1 | a2 nope | b1 a2", "a", "a1"},
		{"a1 b | a2 | b1 a1-1 | b2", "a", "a1 b1"},
	} {
		checkChoose(t, test[0], test[1], test[2])
	}
}

func TestChooseOfNone(t *testing.T) {
	for _, test := range [][3]string{
		{"", "a", `none "a"`},
		{"b1", "a", `none "a"`},
		{"a1 | a2", "a3", `none "a"`},
		{"a1 | a2", "a999999", `none "a"`},
		{"", "é b a B aa", `none "B" "a" "aa" "b" "é"`},
		{"a1 z | b1 z y", "a b z", `none "y" "z"`},
		{"a1 b2 | b1", "a", `none "b"`},
		{"a1 b2 | b1", "a b", `none "b"`},
		{"a1 b | b1 c | c1 d2 | d1", "a", `none "d"`},
		// of reached releases that are not picked, too
		{"a1 z | a2", "a1", `none "z"`},
		{"a1 z | a2 | c1 a2", "a c", `none "z"`},
		{"a1 y | a2 z | c1 a2 x", "a c w", `none "w" "x" "y" "z"`},
		// not of those that nothing reaches
		{"a1 | a2 z", "a", "a1"},
		{"a1 z | a2", "a2", "a2"},
		// ahead of ErrRange
		{"a1 | a2 z", "a2-2 b", `none "b" "z"`},
		{"a1 b1-1 z | b1 | b2", "a b2", `none "z"`},
		{"a5", "a1-2 b", `none "b"`},
		{"a1 b1-1 | b1 | b2 a z", "a b2", `none "z"`},
	} {
		checkChoose(t, test[0], test[1], test[2])
	}
}

func TestChooseOfRange(t *testing.T) {
	for _, test := range [][3]string{
		// the least version that is not below Min, though it is above Max
		{"a1 | a5", "a2-4", `range "" "a"`},
		{"a5", "a1-4", `range "" "a"`},
		{"a1 b2-3 | b1 | b5", "a", `range "a" "b"`},
		{"a1 b2-3 | b1 | b3 | b5", "a", "a1 b3"},
		// at the Max and one beyond it
		{"a1 b1-2 | b1 | b2", "a b2", "a1 b2"},
		{"a1 b1-2 | b1 | b3", "a b2", `range "a" "b"`},
		{"a1 b3 | b2 | b3", "a b1-2", `range "" "b"`},
		{"a1 b3 | b2 | b3", "a b1-3", "a1 b3"},
		{"a1 b999999 | b1 | b999999", "a b1-999998", `range "" "b"`},
		{"a1 b999999 | b1 | b999999", "a b1-999999", "a1 b999999"},
		// a wish ahead of a release, then by the first name, then by the second one
		{"a1 b1-1 c1-1 | b1 | b2 | c1 | c2", "a b2 c2", `range "a" "b"`},
		{"a1 c1-1 b1-1 | b1 | b2 | c1 | c2", "a b2 c2", `range "a" "b"`},
		{"a1 c1-1 | d1 b1-1 | b1 | b2 | c1 | c2", "d a b2 c2", `range "a" "c"`},
		{"a1 b1-1 e2 | b1 | b2 | e1 | e2", "a b2 e1-1", `range "" "e"`},
		{"a1 b2 c2 | b1 | b2 | c1 | c2", "c1-1 b1-1 a", `range "" "b"`},
		{"B1 c1-1 | a1 c1-1 | é1 c1-1 | c1 | c2", "é B a c2", `range "B" "c"`},
		{"a1 b1-1 B1-1 é1-1 | b1 | b2 | B1 | B2 | é1 | é2", "a b2 B2 é2", `range "a" "B"`},
		// a Max of a reached release that is not picked does not count
		{"a1 b1-1 | a2 b | b1 | b2 | c1 a2", "a c b2", "a2 b2 c1"},
		{"a1 b1-1 | a2 b1-1 | b1 | b2 | c1 a2", "a c b2", `range "a" "b"`},
		{"a1 b1-1 | a2 | b1 | b2 a2", "a b2", "a2 b2"},
		// a release that is above the Max of one that it needs in turn
		{"a1 b | b1 a2-2 | a2 b2 | b2 a1-1", "a", `range "b" "a"`},
		{"a1 b2 | b2 a3-3 | a3 b1-1 | a4", "a", `range "a" "b"`},
	} {
		checkChoose(t, test[0], test[1], test[2])
	}
}

// rowStore: names n0, n1, .. each of which needs the next one, the last one the first if it is a circle.
func rowStore(count int, isCircle bool) []impl.Release {
	store := manyReleases(count, false)
	for i := range store {
		if i < count-1 || isCircle {
			store[i].Needs = []impl.Import{{Name: "n" + strconv.Itoa((i+1)%count), Min: 1, Max: 1}}
		}
	}
	return store
}

// stairStore: two names of which each release needs the next one of the other, so that all are reached and two picked.
func stairStore(count int) []impl.Release {
	var store []impl.Release
	for i := range count {
		r := impl.Release{Name: []string{"a", "b"}[i%2], Version: i + 1}
		if i < count-1 {
			r.Needs = []impl.Import{{Name: []string{"b", "a"}[i%2], Min: i + 2, Max: i + 2}}
		}
		store = append(store, r)
	}
	return store
}

func TestChooseOfManyReleases(t *testing.T) {
	for _, isCircle := range []bool{false, true} {
		store := rowStore(200, isCircle)
		wishes := []impl.Import{{Name: "n0", Min: 1, Max: 1}}
		picks, code, names := impl.Choose(store, wishes)
		if code != impl.OK || len(names) > 0 || len(picks) != 200 || !slices.IsSortedFunc(picks, comparePicks) {
			t.Errorf("a row: %s", told(picks, code, names))
		}
		row, code := impl.Why(store, wishes, "n199")
		if code != impl.OK || len(row) != 200 || row[0].Name != "n0" || row[199].Name != "n199" {
			t.Errorf("Why of a row: %s", told(row, code, nil))
		}
	}
	store := stairStore(200)
	slices.Reverse(store)
	if got := told(impl.Choose(store, needsOf(t, "a"))); got != "a199 b200" {
		t.Errorf("a stair: %s", got)
	}
	row, code := impl.Why(store, needsOf(t, "a"), "b")
	if code != impl.OK || len(row) != 200 || row[199] != (impl.Pick{Name: "b", Version: 200}) {
		t.Errorf("Why of a stair: %s", told(row, code, nil))
	}
	// each release has as many needs as can be
	dense := manyReleases(200, false)
	for i := range dense {
		for k := range 20 {
			dense[i].Needs = append(dense[i].Needs, impl.Import{Name: "n" + strconv.Itoa((i+k*7+1)%200), Min: 1, Max: 1})
		}
	}
	for i := range 10 {
		if picks, code, names := impl.Choose(dense, []impl.Import{{Name: dense[i].Name, Min: 1, Max: 1}}); code != impl.OK || len(picks) != 200 {
			t.Fatalf("a dense store: %s", told(picks, code, names))
		}
	}
}
