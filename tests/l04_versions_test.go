package tests

import (
	"reflect"
	"runtime"
	"slices"
	"testing"

	"loop.example/g00045/impl"
)

// chosen: what one call of chapter 5 answers.
type chosen struct {
	picks []impl.Pick
	code  int
	names []string
}

// askedReleases: the name and version of each release, and others.
func askedReleases(store []impl.Release) []impl.Pick {
	out := []impl.Pick{{Name: "", Version: 1}, {Name: "nope", Version: 1}, {Name: "a", Version: 0}, {Name: "a", Version: -1 << 63}, {Name: "b", Version: 1000000}, {Name: "a", Version: 6}}
	for _, r := range store {
		out = append(out, impl.Pick{Name: r.Name, Version: r.Version})
	}
	return out
}

// rawChosen asks all calls, in this order: Choose, Newest, then of each release that is asked for Why and Upgrade.
func rawChosen(store []impl.Release, wishes []impl.Import, asked []impl.Pick) []chosen {
	var choose, newest chosen
	choose.picks, choose.code, choose.names = impl.Choose(store, wishes)
	newest.picks, newest.code = impl.Newest(store, wishes)
	out := []chosen{choose, newest}
	for _, p := range asked {
		var why, up chosen
		why.picks, why.code = impl.Why(store, wishes, p.Name)
		up.picks, up.code, up.names = impl.Upgrade(store, wishes, p.Name, p.Version)
		out = append(out, why, up)
	}
	return out
}

func wantChosen(store []impl.Release, wishes []impl.Import, asked []impl.Pick) []chosen {
	var choose, newest chosen
	choose.picks, choose.code, choose.names = wantChoose(store, wishes)
	newest.picks, newest.code = wantNewest(store, wishes)
	out := []chosen{choose, newest}
	for _, p := range asked {
		var why, up chosen
		why.picks, why.code, _ = wantWhy(store, wishes, p.Name)
		up.picks, up.code, up.names = wantUpgrade(store, wishes, p.Name, p.Version)
		out = append(out, why, up)
	}
	return out
}

func tidyChosen(list []chosen) []chosen {
	out := slices.Clone(list)
	for i := range out {
		out[i].picks, out[i].names = tidyList(out[i].picks), tidyList(out[i].names)
	}
	return out
}

func checkChosen(t *testing.T, store []impl.Release, wishes []impl.Import, asked []impl.Pick, want []chosen) {
	t.Helper()
	got := tidyChosen(rawChosen(store, wishes, asked))
	for i := range got {
		if !reflect.DeepEqual(got[i], want[i]) {
			t.Fatalf("%s: %s: %v, answer %d: %s, not %s", showStore(store), showNeeds(wishes), asked, i, told(got[i].picks, got[i].code, got[i].names), told(want[i].picks, want[i].code, want[i].names))
		}
	}
}

func versionsOf(picks []impl.Pick) map[string]int {
	out := map[string]int{}
	for _, p := range picks {
		out[p.Name] = p.Version
	}
	return out
}

// checkMet: picks meet wishes and the needs of picked releases, from Min to Max, are by Name, and are of the store.
func checkMet(t *testing.T, store []impl.Release, wishes []impl.Import, picks []impl.Pick) {
	t.Helper()
	versions := versionsOf(picks)
	met := func(needs []impl.Import) {
		for _, need := range needs {
			if version := versions[need.Name]; version < need.Min || version > need.Max {
				t.Fatalf("%s: %s: %s does not meet %v", showStore(store), showNeeds(wishes), showPicks(picks), need)
			}
		}
	}
	met(wishes)
	found := 0
	for _, r := range store {
		if versions[r.Name] == r.Version {
			met(r.Needs)
			found++
		}
	}
	if found != len(picks) || len(versions) != len(picks) || !slices.IsSortedFunc(picks, comparePicks) {
		t.Fatalf("%s: %s: %s is not in order, or not of the store", showStore(store), showNeeds(wishes), showPicks(picks))
	}
}

// checkP5: the promise, by what the calls themselves answer.
func checkP5(t *testing.T, store []impl.Release, wishes []impl.Import, asked []impl.Pick, got []chosen) {
	t.Helper()
	if got[0].code != impl.OK {
		return
	}
	ahead := versionsOf(got[0].picks)
	checkMet(t, store, wishes, got[0].picks)
	newest := versionsOf(got[1].picks)
	for i, p := range asked {
		why, up := got[2+2*i], got[3+2*i]
		if why.code == impl.OK {
			checkReason(t, store, wishes, why.picks, got[0].picks, p.Name)
		}
		if (why.code == impl.OK) != (ahead[p.Name] > 0) || newest[p.Name] < ahead[p.Name] {
			t.Fatalf("%s: %s: Why of %s %d, newest %s", showStore(store), showNeeds(wishes), p.Name, why.code, showPicks(got[1].picks))
		}
		if up.code != impl.OK {
			continue
		}
		checkMet(t, store, wishes, up.picks)
		raised := versionsOf(up.picks)
		for name, version := range ahead {
			if raised[name] < version {
				t.Fatalf("%s: %s: %s, up to %v %s", showStore(store), showNeeds(wishes), showPicks(got[0].picks), p, showPicks(up.picks))
			}
		}
		if raised[p.Name] < p.Version {
			t.Fatalf("%s: %s: up to %v %s", showStore(store), showNeeds(wishes), p, showPicks(up.picks))
		}
	}
}

// storeCounts: how often what a test must meet was met.
type storeCounts struct {
	right, none, byWish, byRelease, manyNone      int
	rows, ties, newer, raised, upRange, belowPick int
	throughOld, unpickedMax                       int
}

func (c *storeCounts) count(store []impl.Release, wishes []impl.Import, asked []impl.Pick, got []chosen) {
	switch first := got[0]; {
	case first.code == impl.ErrNone:
		c.none++
		c.manyNone += min(1, len(first.names)/2)
		return
	case first.code == impl.ErrRange && first.names[0] == "":
		c.byWish++
		return
	case first.code == impl.ErrRange:
		c.byRelease++
		return
	}
	c.right++
	picks := got[0].picks
	if !slices.Equal(picks, got[1].picks) {
		c.newer++
	}
	isReached := reachedOf(store, wishes)
	for i, r := range store {
		if isReached[i] && !slices.Contains(picks, impl.Pick{Name: r.Name, Version: r.Version}) {
			versions := versionsOf(picks)
			for _, need := range r.Needs {
				c.unpickedMax += min(1, max(0, versions[need.Name]-need.Max))
			}
		}
	}
	for i, p := range asked {
		why, up := got[2+2*i], got[3+2*i]
		if len(why.picks) > 2 {
			c.rows++
		}
		if _, _, count := wantWhy(store, wishes, p.Name); count > 1 {
			c.ties++
		}
		if slices.ContainsFunc(why.picks, func(q impl.Pick) bool { return !slices.Contains(picks, q) }) {
			c.throughOld++
		}
		switch {
		case up.code == impl.ErrRange:
			c.upRange++
		case up.code == impl.OK && p.Version < versionsOf(picks)[p.Name]:
			c.belowPick++
		case up.code == impl.OK && !slices.Equal(up.picks, picks):
			c.raised++
		}
	}
}

// Stores of any make: each answer is the second telling's, and P5 holds.
func TestStoresOfAnyMake(t *testing.T) {
	s := newSource()
	var c storeCounts
	for i := range 24000 {
		store, wishes := anyStore(s, 4+i%9, []int{1000, 1000, 12}[i%3], 2+i%6)
		asked := askedReleases(store)
		want := tidyChosen(wantChosen(store, wishes, asked))
		checkChosen(t, store, wishes, asked, want)
		checkP5(t, store, wishes, asked, want)
		c.count(store, wishes, asked, want)
		if !impl.StoreOK(store) {
			t.Fatalf("%s: StoreOK", showStore(store))
		}
	}
	for name, count := range map[string]int{"right": c.right, "none": c.none, "by wish": c.byWish, "by release": c.byRelease, "many none": c.manyNone, "rows": c.rows, "ties": c.ties, "newer": c.newer,
		"raised": c.raised, "range of an upgrade": c.upRange, "below the pick": c.belowPick, "through older ones": c.throughOld, "maxima that do not count": c.unpickedMax} {
		if count < 50 {
			t.Errorf("%s: %d, of %+v", name, count, c)
		}
	}
}

// P5: stores in every order of their list, with wishes and needs in any order.
func TestStoresInEveryOrder(t *testing.T) {
	s := newSource()
	for i := range 60 {
		store, wishes := anyStore(s, 6, 1000, 2+i%4)
		if i%3 == 0 {
			store = storeOf(t, []string{"a1 b | a2 | b7 a2 | c1 a2", "a1 c2 | b1 c3-3 | c1 | c2 | c3 | c4", "a1 y x | x1 z | y1 z | z1 nope | z2", "a1 c1-1 | b1 c1-1 d | c1 | c2 | d1 c2", "a1 b2 | b2 a3 | a3 b4 | b4 a | b1"}[i/3%5])
			wishes = needsOf(t, []string{"a", "a b", "a b c", "b a c d"}[i%4])
		}
		asked := askedReleases(store)
		want := tidyChosen(wantChosen(store, wishes, asked))
		orders(store, func(list []impl.Release) {
			list = slices.Clone(list)
			for k := range list {
				list[k].Needs = slices.Clone(list[k].Needs)
				s.Shuffle(len(list[k].Needs), func(a, b int) {
					list[k].Needs[a], list[k].Needs[b] = list[k].Needs[b], list[k].Needs[a]
				})
			}
			needs := slices.Clone(wishes)
			s.Shuffle(len(needs), func(a, b int) { needs[a], needs[b] = needs[b], needs[a] })
			checkChosen(t, list, needs, asked, want)
		})
	}
}

func roomyStore(store []impl.Release) []impl.Release {
	out := roomy(store, impl.Release{Name: "sign", Version: 77})
	for i := range out {
		out[i].Needs = roomy(out[i].Needs, impl.Import{Name: "sign"})
	}
	return out
}

// keptStore: what stands in a store's memory, behind its lists' ends too.
func keptStore(store []impl.Release) []impl.Release {
	out := whole(store)
	for i := range out {
		out[i].Needs = whole(out[i].Needs)
	}
	return out
}

// P1: what is handed in stays as it was, answers do not hang on what was called ahead.
func TestStoresAreNotChanged(t *testing.T) {
	s := newSource()
	type given struct {
		store  []impl.Release
		wishes []impl.Import
	}
	var all, before []given
	var first [][]chosen
	ask := func(g given) []chosen {
		impl.StoreOK(g.store)
		return tidyChosen(rawChosen(g.store, g.wishes, askedReleases(g.store)))
	}
	for i := range 400 {
		store, wishes := anyStore(s, 10, 20, 2+i%5)
		g := given{roomyStore(store), roomy(wishes, impl.Import{Name: "sign"})}
		all, before = append(all, g), append(before, given{keptStore(g.store), whole(g.wishes)})
		first = append(first, ask(g))
	}
	for i := len(all) - 1; i >= 0; i-- {
		if again := ask(all[i]); !reflect.DeepEqual(again, first[i]) {
			t.Fatalf("%s: %v, then %v", showStore(all[i].store), first[i], again)
		}
	}
	for i, g := range all {
		if !reflect.DeepEqual(keptStore(g.store), before[i].store) || !reflect.DeepEqual(whole(g.wishes), before[i].wishes) {
			t.Fatalf("%s: %s: was changed", showStore(g.store), showNeeds(g.wishes))
		}
	}
}

// P1: an answer shares no memory with what was handed in, and its lists none with one another.
func TestChosenAnswersAreNew(t *testing.T) {
	s := newSource()
	for i := range 400 {
		store, wishes := anyStore(s, 10, 20, 2+i%5)
		lists := []stretch{stretchOf(store), stretchOf(wishes)}
		var given []string
		for _, r := range store {
			lists, given = append(lists, stretchOf(r.Needs)), append(given, r.Name)
			for _, need := range r.Needs {
				given = append(given, need.Name)
			}
		}
		for _, need := range wishes {
			given = append(given, need.Name)
		}
		asked := askedReleases(store)
		for _, p := range asked {
			given = append(given, p.Name)
		}
		answers := [][]chosen{rawChosen(store, wishes, asked), rawChosen(store, wishes, asked)}
		for _, list := range answers {
			for _, a := range list {
				lists = append(lists, stretchOf(a.picks), stretchOf(a.names))
				texts := slices.Clone(a.names)
				for _, p := range a.picks {
					texts = append(texts, p.Name)
				}
				checkNewTexts(t, texts, given)
			}
		}
		checkApart(t, lists)
		runtime.KeepAlive(answers)
	}
}
