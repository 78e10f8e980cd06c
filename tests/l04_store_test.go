package tests

import (
	"slices"
	"strconv"
	"strings"
	"testing"

	"loop.example/g00045/impl"
)

func TestLimitsOfChapter5(t *testing.T) {
	if impl.MaxReleases != 200 || impl.MaxImports != 20 || impl.MaxVersion != 999999 {
		t.Errorf("limits %d, %d, %d", impl.MaxReleases, impl.MaxImports, impl.MaxVersion)
	}
}

// checkCode: each call of chapter 5 that has a code answers that one alone.
func checkCode(t *testing.T, what string, store []impl.Release, wishes []impl.Import, want int) {
	t.Helper()
	if picks, code, names := impl.Choose(store, wishes); code != want || len(picks) > 0 || len(names) > 0 {
		t.Errorf("%s: Choose %s, not %d", what, told(picks, code, names), want)
	}
	for _, name := range []string{"", "a", "nope", "\xff", strings.Repeat("n", impl.MaxText)} {
		if picks, code := impl.Why(store, wishes, name); code != want || len(picks) > 0 {
			t.Errorf("%s: Why of %.10q %s, not %d", what, name, told(picks, code, nil), want)
		}
		for _, version := range []int{-1 << 63, -1, 0, 1, impl.MaxVersion, impl.MaxVersion + 1, 1<<63 - 1} {
			if picks, code, names := impl.Upgrade(store, wishes, name, version); code != want || len(picks) > 0 || len(names) > 0 {
				t.Errorf("%s: Upgrade of %.10q to %d %s, not %d", what, name, version, told(picks, code, names), want)
			}
		}
	}
	if picks, code := impl.Newest(store, wishes); code != want || len(picks) > 0 {
		t.Errorf("%s: Newest %s, not %d", what, told(picks, code, nil), want)
	}
	long := strings.Repeat("n", impl.MaxText+1)
	if picks, code := impl.Why(store, wishes, long); code != impl.ErrLong || len(picks) > 0 {
		t.Errorf("%s: Why of a name too long: %s", what, told(picks, code, nil))
	}
	if picks, code, names := impl.Upgrade(store, wishes, long, 1); code != impl.ErrLong || len(picks) > 0 || len(names) > 0 {
		t.Errorf("%s: Upgrade of a name too long: %s", what, told(picks, code, names))
	}
}

// checkStore: what StoreOK answers, and the codes that hang on it, with right wishes, with such as reach nothing and with wrong ones.
func checkStore(t *testing.T, what string, store []impl.Release, right bool) {
	t.Helper()
	if impl.StoreOK(store) != right || isOneStore(store) != right {
		t.Errorf("%s: StoreOK is not %t", what, right)
	}
	if right {
		if picks, code, names := impl.Choose(store, nil); code != impl.OK || len(picks) > 0 || len(names) > 0 {
			t.Errorf("%s: Choose %s", what, told(picks, code, names))
		}
		return
	}
	code := impl.ErrBad
	if len(store) > impl.MaxList {
		code = impl.ErrLong
	}
	for _, wishes := range []string{"", "a", "nope", "a nope", "a a"} {
		checkCode(t, what, store, needsOf(t, wishes), code)
	}
}

// manyReleases: each with a name of its own, or each with one name and a version of its own.
func manyReleases(count int, oneName bool) []impl.Release {
	var out []impl.Release
	for i := range count {
		r := impl.Release{Name: "n" + strconv.Itoa(i), Version: 1}
		if oneName {
			r = impl.Release{Name: "n", Version: i + 1}
		}
		out = append(out, r)
	}
	return out
}

func manyNeeds(count int) []impl.Import {
	var out []impl.Import
	for i := range count {
		out = append(out, impl.Import{Name: "n" + strconv.Itoa(i), Min: 1, Max: impl.MaxVersion})
	}
	return out
}

func TestStoreOKHowMany(t *testing.T) {
	checkStore(t, "nil", nil, true)
	checkStore(t, "empty", []impl.Release{}, true)
	for _, count := range []int{1, 2, 199, 200, 201, 202, 4096, 4097, 10000} {
		for _, oneName := range []bool{false, true} {
			checkStore(t, strconv.Itoa(count)+" releases", manyReleases(count, oneName), count <= 200)
		}
	}
	for _, count := range []int{0, 1, 19, 20, 21, 22, 4096, 4097, 1 << 20} {
		store := []impl.Release{{Name: "a", Version: 1, Needs: manyNeeds(count)}}
		checkStore(t, strconv.Itoa(count)+" needs", store, count <= 20)
	}
}

// rightNames and notNames: of releases, needs and wishes.
var rightNames = []string{"a", "Z", "_", "a1", "é", "жук", "Ω9", "strings", strings.Repeat("n", 40), strings.Repeat("é", 20)}

func notNames() []string {
	return append([]string{"", "1", "1a", "a b", "a.b", "a-b", " a", "a\n", "\xff", "a\xd0", "€", "a\u00d7", strings.Repeat("n", 41), strings.Repeat("é", 20) + "a", strings.Repeat("n", 1<<22)}, reservedWords...)
}

var rightVersions = []int{1, 2, 77, 999998, 999999}

var wrongVersions = []int{-1 << 63, -999999, -1, 0, 1000000, 1<<63 - 1}

// someReleases puts a release at each place among others.
func someReleases(r impl.Release) [][]impl.Release {
	others := []impl.Release{{Name: "x", Version: 1}, {Name: "y", Version: 2, Needs: []impl.Import{{Name: "x", Min: 1, Max: 1}}}}
	return [][]impl.Release{{r}, {r, others[0], others[1]}, {others[0], r, others[1]}, {others[0], others[1], r}}
}

func TestStoreOKOfReleases(t *testing.T) {
	check := func(r impl.Release, right bool) {
		t.Helper()
		for _, store := range someReleases(r) {
			checkStore(t, strconv.Quote(clipped(r.Name))+" "+strconv.Itoa(r.Version), store, right)
		}
	}
	for _, name := range rightNames {
		check(impl.Release{Name: name, Version: 3}, true)
	}
	for _, name := range notNames() {
		check(impl.Release{Name: name, Version: 3}, false)
	}
	for _, version := range rightVersions {
		check(impl.Release{Name: "a", Version: version}, true)
	}
	for _, version := range wrongVersions {
		check(impl.Release{Name: "a", Version: version}, false)
	}
}

// anyBounds: pairs of a Min and a Max, right and wrong ones.
func anyBounds(work func(least, most int, right bool)) {
	for _, least := range rightVersions {
		for _, most := range rightVersions {
			work(least, most, least <= most)
		}
		for _, other := range wrongVersions {
			work(least, other, false)
			work(other, least, false)
			work(other, other, false)
		}
	}
}

func TestStoreOKOfNeeds(t *testing.T) {
	check := func(need impl.Import, right bool) {
		t.Helper()
		other := impl.Import{Name: "x", Min: 1, Max: 1}
		for _, needs := range [][]impl.Import{{need}, {need, other}, {other, need}} {
			for _, store := range someReleases(impl.Release{Name: "a", Version: 3, Needs: needs}) {
				checkStore(t, "a need of "+strconv.Quote(clipped(need.Name))+" "+strconv.Itoa(need.Min)+" "+strconv.Itoa(need.Max), store, right)
			}
		}
	}
	for _, name := range rightNames {
		check(impl.Import{Name: name, Min: 1, Max: 2}, name != "a")
	}
	for _, name := range notNames() {
		check(impl.Import{Name: name, Min: 1, Max: 2}, false)
	}
	anyBounds(func(least, most int, right bool) { check(impl.Import{Name: "b", Min: least, Max: most}, right) })
}

func TestStoreOKOfTwo(t *testing.T) {
	for _, test := range []struct {
		store string
		right bool
	}{
		{"a1 | a2 | a3", true},
		{"a1 | b1 | aa1 | A1", true},
		{"a1 | a1", false},
		{"a1 | a2 | a1", false},
		{"a1 b | a1 c", false},
		{"b1 | a7 | c1 | a7 c", false},
		{"a1 a", false},
		{"a1 a2", false},
		{"a1 b a2-2 | a2", false},
		{"b1 | a1 b c a", false},
		{"a1 A aa", true},
		{"a1 b b", false},
		{"a1 b1-2 b3-4", false},
		{"a1 b c b", false},
		{"a1 b c d | a2 b c d | b1 c d a", true},
	} {
		checkStore(t, test.store, storeOf(t, test.store), test.right)
	}
}

// Wishes are bounded as a release's needs are; a wish may have any right name.
func TestWishes(t *testing.T) {
	check := func(what string, wishes []impl.Import, right bool) {
		t.Helper()
		for _, text := range []string{"", "b1", "b1 nope"} {
			store := storeOf(t, text)
			want := impl.ErrBad
			if len(wishes) > impl.MaxList {
				want = impl.ErrLong
			}
			if !right {
				checkCode(t, what, store, wishes, want)
				continue
			}
			if _, code, _ := impl.Choose(store, wishes); code == impl.ErrBad || code == impl.ErrLong {
				t.Errorf("%s: code %d", what, code)
			}
		}
	}
	for _, count := range []int{0, 1, 19, 20, 21, 22, 4096, 4097, 1 << 20} {
		check(strconv.Itoa(count)+" wishes", manyNeeds(count), count <= 20)
	}
	for _, name := range rightNames {
		check(name, []impl.Import{{Name: name, Min: 1, Max: 2}}, true)
	}
	for _, name := range notNames() {
		check("wrong name", []impl.Import{{Name: name, Min: 1, Max: 2}}, false)
		check("wrong name", []impl.Import{{Name: "b", Min: 1, Max: 2}, {Name: name, Min: 1, Max: 2}}, false)
	}
	anyBounds(func(least, most int, right bool) {
		check(strconv.Itoa(least)+" "+strconv.Itoa(most), []impl.Import{{Name: "b", Min: least, Max: most}}, right)
		check(strconv.Itoa(least)+" "+strconv.Itoa(most), []impl.Import{{Name: "nope", Min: 1, Max: 1}, {Name: "b", Min: least, Max: most}}, right)
	})
	for _, text := range []string{"a a", "a1-2 a3-4", "a b a", "b nope b"} {
		check(text, needsOf(t, text), false)
	}
}

// ErrLong ahead of all, ErrBad ahead of what is told of right ones.
func TestVersionsWhichCodeCounts(t *testing.T) {
	bad := []impl.Release{{Name: "1", Version: 0}}
	long, longWishes := manyReleases(4097, false), manyNeeds(4097)
	checkCode(t, "both long", long, longWishes, impl.ErrLong)
	checkCode(t, "a long store, bad wishes", long, needsOf(t, "a a"), impl.ErrLong)
	checkCode(t, "a long store that is bad", slices.Concat(bad, long), nil, impl.ErrLong)
	checkCode(t, "a bad store, long wishes", bad, longWishes, impl.ErrLong)
	checkCode(t, "long wishes that are bad", nil, repeated(4097, impl.Import{}), impl.ErrLong)
	checkCode(t, "a bad store, wishes that reach nothing", bad, needsOf(t, "nope"), impl.ErrBad)
	checkCode(t, "a right store, bad wishes", storeOf(t, "a1 nope"), needsOf(t, "a nope nope"), impl.ErrBad)
	checkCode(t, "a bad store, bad wishes", bad, needsOf(t, "a a"), impl.ErrBad)
	checkCode(t, "a bad store of 4096, 4096 wishes", repeated(4096, bad[0]), manyNeeds(4096), impl.ErrBad)
	if impl.StoreOK(long) {
		t.Error("StoreOK of a list too long")
	}
}

// turnStore turns one thing of a store, or of its wishes.
func turnStore(s source, store *[]impl.Release, wishes *[]impl.Import) {
	*store = turnedList(s, *store, []impl.Release{{}, {Name: "a", Version: 1}, {Name: "b", Version: 2}})
	if s.IntN(2) == 0 {
		*wishes = turnedList(s, *wishes, []impl.Import{{}, {Name: "a", Min: 1, Max: 1}})
	}
	if len(*wishes) > 0 && s.IntN(3) == 0 {
		turnImport(s, &(*wishes)[s.IntN(len(*wishes))])
	}
	if len(*store) == 0 || s.IntN(2) == 0 {
		return
	}
	r := &(*store)[s.IntN(len(*store))]
	r.Needs = slices.Clone(r.Needs)
	switch s.IntN(4) {
	case 0:
		r.Name = pick(s, wrongNames)
	case 1:
		r.Version = turnedNumber(s, r.Version)
	case 2:
		r.Needs = turnedList(s, r.Needs, []impl.Import{{Name: r.Name, Min: 1, Max: 1}, {Name: "c", Min: 1, Max: 2}})
	case 3:
		if len(r.Needs) > 0 {
			turnImport(s, &r.Needs[s.IntN(len(r.Needs))])
		}
	}
}

// Stores and wishes of any make, right or not.
func TestTurnedStores(t *testing.T) {
	s := newSource()
	right, badStores, badWishes := 0, 0, 0
	for range 6000 {
		store, wishes := anyStore(s, 6, 10, 3)
		for range 1 + s.IntN(2) {
			turnStore(s, &store, &wishes)
		}
		if impl.StoreOK(store) != isOneStore(store) {
			t.Fatalf("%s: StoreOK", showStore(store))
		}
		asked := askedReleases(store)
		checkChosen(t, store, wishes, asked, tidyChosen(wantChosen(store, wishes, asked)))
		switch {
		case !isOneStore(store):
			badStores++
		case !areSomeNeeds(wishes):
			badWishes++
		default:
			right++
		}
	}
	if right < 500 || badStores < 500 || badWishes < 300 {
		t.Errorf("%d, %d, %d", right, badStores, badWishes)
	}
}
