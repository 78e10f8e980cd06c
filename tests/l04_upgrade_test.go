package tests

import (
	"slices"
	"strconv"
	"strings"
	"testing"

	"loop.example/g00045/impl"
)

// checkUpgrade reads what is asked for as a name and a version: c2.
func checkUpgrade(t *testing.T, store, wishes, asked, want string) {
	t.Helper()
	name, version := splitWord(t, asked)
	list, needs := storeOf(t, store), needsOf(t, wishes)
	if second := told(wantUpgrade(list, needs, name, version)); second != want {
		t.Fatalf("%s: %s: upgrade to %s: the second telling is %s, not %s", store, wishes, asked, second, want)
	}
	s := newSource()
	for range 30 {
		s.Shuffle(len(list), func(i, k int) { list[i], list[k] = list[k], list[i] })
		s.Shuffle(len(needs), func(i, k int) { needs[i], needs[k] = needs[k], needs[i] })
		if got := told(impl.Upgrade(list, needs, name, version)); got != want {
			t.Fatalf("%s: %s: upgrade to %s: %s, not %s", store, wishes, asked, got, want)
		}
	}
}

func TestUpgrade(t *testing.T) {
	for _, test := range [][4]string{
		{"a1 | a2 | a3", "a", "a1", "a1"},
		{"a1 | a2 | a3", "a", "a2", "a2"},
		{"a1 | a2 | a3", "a", "a3", "a3"},
		{"a1 | a2 | a3", "", "a2", "a2"},
		{"a1 | a2 b2 | b1 | b2 | b3", "a b", "a2", "a2 b2"},
		// below what is picked: it is reached beside it, with its needs
		{"a1 | a2 | a3", "a3", "a2", "a3"},
		{"a1 z | a2 | a3 | z4", "a3", "a1", "a3 z4"},
		{"a1 z | a2 | a3", "a3", "a1", `none "z"`},
		{"a1 z1-1 | a2 | a3 | z1 | z2", "a3 z2", "a1", "a3 z2"},
		// a name that was not picked ahead
		{"a1 | b1 a2 | a2 | b2", "a", "b1", "a2 b1"},
		{"a1 | b1 a2 | a2 | b2", "a", "b2", "a1 b2"},
		// what is upgraded away from still counts
		{"a1 b | a2 | b1", "a", "a2", "a2 b1"},
		// a wish has that name, too
		{"a1 | a2 | a3", "a1-1", "a2", `range "" "a"`},
		{"a1 | a2 | a3", "a1-2", "a2", "a2"},
		{"a1 | a2 | a3", "a1-2", "a3", `range "" "a"`},
		{"a1 | a2 | a3", "a2-2", "a1", "a2"},
		{"a1 | a2 b | a3 | b1", "b a1-1", "a1", "a1 b1"},
		// by a need of a picked release
		{"a1 b1-1 | b1 | b2", "a", "b2", `range "a" "b"`},
		{"a1 b1-2 | b1 | b2", "a", "b2", "a1 b2"},
		{"a1 | a2 b1-1 | b1 | b2", "a b2", "a2", `range "a" "b"`},
		{"a1 b1-1 | a2 | b1 | b2 a2", "a", "b2", "a2 b2"},
		{"a1 | a2 z", "a", "a2", `none "z"`},
		{"a1 | a2", "a y x", "a2", `none "x" "y"`},
		{"a1 | a999999", "a", "a999999", "a999999"},
	} {
		checkUpgrade(t, test[0], test[1], test[2], test[3])
	}
}

func TestUpgradeOfNone(t *testing.T) {
	for _, test := range [][4]string{
		{"a1 | a3", "a", "a2", `none "a"`},
		{"a1 | a3", "a", "a4", `none "a"`},
		{"a1 | a3", "a", "a0", `none "a"`},
		{"a1 | a3", "a", "b1", `none "b"`},
		{"", "", "a1", `none "a"`},
		// ahead of what Choose would tell
		{"a1 | a3", "x z", "a2", `none "a"`},
		{"a1 | a3", "a2-2", "a2", `none "a"`},
		{"a1 z", "a", "b1", `none "b"`},
		// behind ErrBad
		{"a1 | a1", "a", "a2", "bad"},
		{"a1", "a a", "a2", "bad"},
		{"a1 a", "a", "a2", "bad"},
	} {
		checkUpgrade(t, test[0], test[1], test[2], test[3])
	}
}

// Any name, any integer.
func TestUpgradeOfAnyNameAndVersion(t *testing.T) {
	store, wishes := storeOf(t, "a1 | a2 | a999999"), needsOf(t, "a")
	names := append([]string{"a", "", "b", "A", "a1", "\xff", "package", strings.Repeat("a", impl.MaxName), strings.Repeat("a", impl.MaxText)}, notNames()[:12]...)
	for _, name := range names {
		for _, version := range append(slices.Concat(wrongVersions, rightVersions), -2, 3, 1<<32+1, 1<<62) {
			picks, code, told := impl.Upgrade(store, wishes, name, version)
			if name == "a" && (version == 1 || version == 2 || version == 999999) {
				if code != impl.OK || len(picks) != 1 || picks[0].Version != version || len(told) > 0 {
					t.Errorf("%d: %v, code %d", version, picks, code)
				}
				continue
			}
			if code != impl.ErrNone || len(picks) > 0 || !slices.Equal(told, []string{name}) {
				t.Errorf("%.20q %d: %v, code %d, %.50q", name, version, picks, code, told)
			}
		}
	}
	for _, length := range []int{impl.MaxText + 1, 1 << 22} {
		if picks, code, names := impl.Upgrade(store, wishes, strings.Repeat("a", length), 1); code != impl.ErrLong || len(picks) > 0 || len(names) > 0 {
			t.Errorf("a name of %d bytes: %v, code %d, %d names", length, picks, code, len(names))
		}
	}
}

// The need stands beside MaxImports wishes, and beside one of its own name.
func TestUpgradeBesideAllWishes(t *testing.T) {
	store := manyReleases(21, false)
	store = append(store, impl.Release{Name: "n3", Version: 2}, impl.Release{Name: "n20", Version: 2})
	wishes := manyNeeds(20)
	for _, asked := range []impl.Pick{{Name: "n3", Version: 2}, {Name: "n20", Version: 2}, {Name: "n20", Version: 1}, {Name: "n3", Version: 1}} {
		picks, code, names := impl.Upgrade(store, wishes, asked.Name, asked.Version)
		if want, wantCode, _ := wantUpgrade(store, wishes, asked.Name, asked.Version); code != wantCode || code != impl.OK || !slices.Equal(picks, want) || len(names) > 0 || !slices.Contains(picks, asked) {
			t.Errorf("%v: %s, not %s", asked, told(picks, code, names), showPicks(want))
		}
	}
	for _, count := range []int{21, 4096} {
		if got := told(impl.Upgrade(store, manyNeeds(count), "n3", 2)); got != "bad" {
			t.Errorf("%d wishes: %s", count, got)
		}
	}
}

func checkNewest(t *testing.T, store, wishes, want string) {
	t.Helper()
	list, needs := storeOf(t, store), needsOf(t, wishes)
	second, code := wantNewest(list, needs)
	if got := told(second, code, nil); got != want {
		t.Fatalf("%s: %s: the second telling is %s, not %s", store, wishes, got, want)
	}
	s := newSource()
	for range 30 {
		s.Shuffle(len(list), func(i, k int) { list[i], list[k] = list[k], list[i] })
		s.Shuffle(len(needs), func(i, k int) { needs[i], needs[k] = needs[k], needs[i] })
		picks, code := impl.Newest(list, needs)
		if got := told(picks, code, nil); got != want {
			t.Fatalf("%s: %s: %s, not %s", store, wishes, got, want)
		}
	}
}

func TestNewest(t *testing.T) {
	for _, test := range [][3]string{
		{"", "", ""},
		{"a1 | a2", "", ""},
		{"a1", "a", "a1"},
		{"a1 | a2 | a3", "a", "a3"},
		{"a1 | a2 | a3", "a2", "a3"},
		{"a1 | a2 | a3", "a3", "a3"},
		{"a1 | a2 | a3", "a1-1", "a1"},
		{"a1 | a2 | a3", "a1-2", "a2"},
		{"a1 | a3 | a5", "a1-4", "a3"},
		{"a1 | a3 | a999999", "a1-999998", "a3"},
		{"a1 | a3 | a999999", "a", "a999999"},
		// maxima of wishes and of picked releases' needs together
		{"a1 b1-4 | b1 | b2 | b3 | b4 | b5", "a1-1 b1-3", "a1 b3"},
		{"a1 b1-3 | b1 | b2 | b3 | b4 | b5", "a1-1 b1-4", "a1 b3"},
		{"a1 b1-4 | c1 b1-2 | b1 | b2 | b3 | b4 | b5", "a c", "a1 b2 c1"},
		{"a1 b1-4 | c1 b1-4 | b1 | b2 | b3 | b4 | b5", "a c", "a1 b4 c1"},
		{"a1 b1-4 | b1 | b2 | b3 | b4 | b5", "a", "a1 b4"},
		// a Max of the newest release, or of one that is reached and not picked, does not count
		{"a1 | a2 b1-1 | b1 | b2", "a b", "a2 b2"},
		{"a1 b1-1 | a2 b | b1 | b2 | c1 a2", "a c", "a2 b2 c1"},
		{"a1 b1-1 | a2 | b1 | b2 | b7 | c1 a2", "a c", "a2 b7 c1"},
		{"a1 b1-1 | a2 b1-2 | b1 | b2 | b3 | c1 a2", "a c", "a2 b2 c1"},
		// names that the newest releases need and the picked ones do not are not told
		{"a1 | a2 z | z1", "a", "a2"},
		{"a1 | a2 nope", "a", "a2"},
		{"a1 z | a2 | z1 | z2", "a", "a2 z2"},
		// versions of the store below the picked one
		{"a1 | a2 | a3 | b1 a2-2", "a b", "a2 b1"},
		{"a1 | a2 | a3", "a2-2", "a2"},
		{"B1 | a1 | aa1 | b1 | é1 | a2 | é3", "é a B b aa", "B1 a2 aa1 b1 é3"},
		// Choose's codes
		{"a1 | a2", "b", "none"},
		{"a1 z | a2", "a", "none"},
		{"a1 | a5", "a2-4", "range"},
		{"a1 b1-1 | b1 | b2", "a b2", "range"},
		{"a1 | a1", "a", "bad"},
		{"a1", "a a", "bad"},
	} {
		checkNewest(t, test[0], test[1], test[2])
	}
}

// All of MaxReleases releases of one name.
func TestNewestOfManyVersions(t *testing.T) {
	store := manyReleases(200, true)
	slices.Reverse(store)
	for limit := 1; limit <= 201; limit++ {
		if got := told(impl.Choose(store, []impl.Import{{Name: "n", Min: 1, Max: limit}})); got != "n1" {
			t.Errorf("Choose: %s", got)
		}
		picks, code := impl.Newest(store, []impl.Import{{Name: "n", Min: 1, Max: limit}})
		if got := told(picks, code, nil); got != "n"+strconv.Itoa(min(limit, 200)) {
			t.Errorf("up to %d: %s", limit, got)
		}
		least := []impl.Import{{Name: "n", Min: limit, Max: impl.MaxVersion}}
		picks, code, _ = impl.Choose(store, least)
		if limit <= 200 && (code != impl.OK || picks[0].Version != limit) || limit > 200 && code != impl.ErrNone {
			t.Errorf("from %d: %v, code %d", limit, picks, code)
		}
	}
}
