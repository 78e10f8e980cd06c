package tests

import (
	"slices"
	"strconv"
	"strings"
	"testing"

	"loop.example/g00045/impl"
)

func TestKindsOfChapter10(t *testing.T) {
	if impl.PlLoad != 1 || impl.PlBegin != 2 || impl.PlEnd != 3 || impl.PlSwap != 4 || impl.PlBack != 5 || impl.PlDrop != 6 {
		t.Error("kinds of acts")
	}
}

// toldAgreed writes what Negotiate answers: the picks, a bar, the names of those that have none; or the code's word.
func toldAgreed(picks []impl.Pick, lost []string, code int) string {
	return toldOr(code, strings.TrimSpace(showPicks(picks)+" | "+strings.Join(lost, " ")))
}

// checkNegotiate: what Negotiate answers, whatever the order of the offers and of the asks.
func checkNegotiate(t *testing.T, offers, asks, want string) {
	t.Helper()
	list, needs := offersOf(t, offers), needsOf(t, asks)
	check := func(list []impl.Offer, needs []impl.Import) {
		picks, lost, code := impl.Negotiate(list, needs)
		if got := toldAgreed(picks, lost, code); got != want || got != toldAgreed(wantNegotiate(list, needs)) {
			t.Errorf("%s: asks %s: %s, not %s", showOffers(list), showNeeds(needs), got, want)
		}
	}
	orders(list, func(turned []impl.Offer) { check(turned, needs) })
	orders(needs, func(turned []impl.Import) { check(list, turned) })
}

func TestNegotiate(t *testing.T) {
	checkNegotiate(t, "", "", "|")
	checkNegotiate(t, "io1:10", "", "|")
	checkNegotiate(t, "", "io", "| io")
	checkNegotiate(t, "io1:0", "io", "io1 |")
	checkNegotiate(t, "io1:10 io3:5 net1:0", "net2-9 io1-9", "io3 | net")
	checkNegotiate(t, "io2:1 io5:1 io10:1", "io", "io10 |")
	checkNegotiate(t, "io2:1 io5:1 io10:1", "io1-9", "io5 |")
	checkNegotiate(t, "io2:1 io5:1 io10:1", "io1-5", "io5 |")
	checkNegotiate(t, "io2:1 io5:1 io10:1", "io5-5", "io5 |")
	checkNegotiate(t, "io2:1 io5:1 io10:1", "io1-4", "io2 |")
	checkNegotiate(t, "io2:1 io5:1 io10:1", "io2-2", "io2 |")
	checkNegotiate(t, "io2:1 io5:1 io10:1", "io1-1", "| io")
	checkNegotiate(t, "io2:1 io5:1 io10:1", "io6-9", "| io")
	checkNegotiate(t, "io2:1 io5:1 io10:1", "io11", "| io")
	checkNegotiate(t, "io2:1 io5:1 io10:1", "io10", "io10 |")
	checkNegotiate(t, "io999999:0 io1:0", "io", "io999999 |")
	checkNegotiate(t, "io999999:0 io1:0", "io1-999998", "io1 |")
	checkNegotiate(t, "io999999:0", "io999999-999999", "io999999 |")
	checkNegotiate(t, "a1:0 aa1:9 A1:3 B2:2", "aa B a A", "A1 B2 a1 aa1 |")
	checkNegotiate(t, "a1:1", "b aa B é _", "| B _ aa b é")
	checkNegotiate(t, "b1:1 a1:1", "c a d b", "a1 b1 | c d")
	checkNegotiate(t, "io1:9223372036854775807 io2:0", "io1-1", "io1 |")
}

// checkOffers: whether offers are right, by what Negotiate and RunPlugins answer of them.
func checkOffers(t *testing.T, what string, offers []impl.Offer, right bool) {
	t.Helper()
	want := impl.OK
	if !right {
		want = impl.ErrBad
	}
	if len(offers) > 4096 {
		want = impl.ErrLong
	}
	if areSomeOffers(offers) != right {
		t.Errorf("%s: the second telling is not %t", what, right)
	}
	for _, asks := range []string{"", "io", "io nope"} {
		picks, lost, code := impl.Negotiate(offers, needsOf(t, asks))
		if code != want || code != impl.OK && len(picks)+len(lost) > 0 {
			t.Errorf("%s: Negotiate of %s: %s, not %d", what, asks, toldAgreed(picks, lost, code), want)
		}
	}
	for _, acts := range []string{"", "kind 9", "load p1; load q1 io; drop p", "begin p io 1; end 1"} {
		list := plugActsOf(t, acts)
		if x := impl.RunPlugins(offers, list); x.Code != want || x.Code == impl.OK && len(x.Replies) != len(list) || x.Code != impl.OK && len(x.Replies)+len(x.Plugs)+len(x.Used) > 0 {
			t.Errorf("%s: RunPlugins of %s: %s, not %d", what, acts, toldPlugLog(x), want)
		}
	}
}

// manyOffers: each of a right of its own, or all of one.
func manyOffers(count int, oneRight bool) []impl.Offer {
	var out []impl.Offer
	for i := range count {
		o := impl.Offer{Right: "n" + strconv.Itoa(i), Version: 1, Limit: 5}
		if oneRight {
			o = impl.Offer{Right: "n", Version: i + 1, Limit: 5}
		}
		out = append(out, o)
	}
	return out
}

func TestOffersHowMany(t *testing.T) {
	for _, count := range []int{0, 1, 39, 40, 41, 42, 4095, 4096, 4097, 100000} {
		for _, oneRight := range []bool{false, true} {
			checkOffers(t, strconv.Itoa(count)+" offers", manyOffers(count, oneRight), count <= 40)
		}
		if count > 40 {
			checkOffers(t, strconv.Itoa(count)+" wrong offers", make([]impl.Offer, count), false)
		}
	}
}

// someOffers puts an offer at each place among others.
func someOffers(o impl.Offer) [][]impl.Offer {
	others := []impl.Offer{{Right: "x", Version: 1}, {Right: "y", Version: 2, Limit: 7}}
	return [][]impl.Offer{{o}, {o, others[0], others[1]}, {others[0], o, others[1]}, {others[0], others[1], o}}
}

func TestOffersThatAreRightOrNot(t *testing.T) {
	check := func(o impl.Offer, right bool) {
		t.Helper()
		for _, offers := range someOffers(o) {
			checkOffers(t, showOffers(offers), offers, right)
		}
	}
	for _, name := range rightNames {
		check(impl.Offer{Right: name, Version: 3, Limit: 1}, true)
	}
	for _, name := range append(notNames(), longText, tooLong) {
		check(impl.Offer{Right: name, Version: 3, Limit: 1}, false)
	}
	for _, version := range rightVersions {
		check(impl.Offer{Right: "io", Version: version, Limit: 1}, true)
	}
	for _, version := range wrongVersions {
		check(impl.Offer{Right: "io", Version: version, Limit: 1}, false)
	}
	for _, limit := range []int{0, 1, 2, 1000000, 1 << 40, 1<<63 - 2, 1<<63 - 1} {
		check(impl.Offer{Right: "io", Version: 1, Limit: limit}, true)
	}
	for _, limit := range []int{-1, -2, -1000000, -1 << 40, -1<<63 + 1, -1 << 63} {
		check(impl.Offer{Right: "io", Version: 1, Limit: limit}, false)
	}
}

func TestOffersTwice(t *testing.T) {
	for offers, right := range map[string]bool{
		"io1:1 io2:1":              true,
		"io2:5 io1:5":              true,
		"io1:1 net1:1":             true,
		"io1:1 IO1:1":              true,
		"io1:1 i1:1 o1:1 ioo1:1":   true,
		"io1:1 io1:1":              false,
		"io1:1 io1:2":              false,
		"io1:1 net1:1 io1:0":       false,
		"a1:0 io1:1 io2:1 io2:1":   false,
		"io2:1 io1:1 io2:1 net7:7": false,
	} {
		orders(offersOf(t, offers), func(list []impl.Offer) { checkOffers(t, offers, list, right) })
	}
}

// wrongAsks: lists that are no wishes.
func wrongAsks() map[string][]impl.Import {
	out := map[string][]impl.Import{
		"21 asks":         manyNeeds(21),
		"4096 asks":       manyNeeds(4096),
		"twice":           {{Name: "io", Min: 1, Max: 1}, {Name: "io", Min: 1, Max: 1}},
		"one name twice":  {{Name: "io", Min: 1, Max: 1}, {Name: "net", Min: 1, Max: 2}, {Name: "io", Min: 2, Max: 5}},
		"of nothing":      {{}},
		"a wrong one too": {{Name: "io", Min: 1, Max: 9}, {Name: "net", Min: 2, Max: 1}},
		"ahead of others": {{Name: "net", Min: 2, Max: 1}, {Name: "io", Min: 1, Max: 9}},
	}
	for _, name := range append(notNames(), longText, tooLong) {
		out["name "+strconv.Quote(clipped(name))+strconv.Itoa(len(name))] = []impl.Import{{Name: name, Min: 1, Max: 9}}
	}
	for _, bounds := range [][2]int{{0, 1}, {-1, 1}, {2, 1}, {1, 0}, {1, 1000000}, {999999, 1000000}, {1000000, 1000000}, {0, 0}, {-1 << 63, 1<<63 - 1}, {1, 1<<63 - 1}, {1<<63 - 1, 1<<63 - 1}, {1<<63 - 1, -1 << 63}, {1, -1 << 63}} {
		out["bounds "+strconv.Itoa(bounds[0])+" "+strconv.Itoa(bounds[1])] = []impl.Import{{Name: "io", Min: bounds[0], Max: bounds[1]}}
	}
	return out
}

func TestNegotiateOfWrongAsks(t *testing.T) {
	offers := offersOf(t, "io1:1 net1:1 n0:0")
	for what, asks := range wrongAsks() {
		for _, list := range [][]impl.Offer{nil, offers[:2], {{}}, manyOffers(41, false)} {
			if picks, lost, code := impl.Negotiate(list, asks); code != impl.ErrBad || len(picks)+len(lost) > 0 {
				t.Errorf("%s: %d offers: %s", what, len(list), toldAgreed(picks, lost, code))
			}
		}
	}
	for _, count := range []int{0, 1, 19, 20} {
		picks, lost, code := impl.Negotiate(manyOffers(40, false), manyNeeds(count))
		if code != impl.OK || len(picks) != count || len(lost) > 0 {
			t.Errorf("%d asks: %s", count, toldAgreed(picks, lost, code))
		}
		picks, lost, code = impl.Negotiate(nil, manyNeeds(count))
		if code != impl.OK || len(picks) > 0 || len(lost) != count || !slices.IsSorted(lost) {
			t.Errorf("%d asks of no offers: %s", count, toldAgreed(picks, lost, code))
		}
	}
	for _, name := range rightNames {
		picks, lost, code := impl.Negotiate([]impl.Offer{{Right: name, Version: 2}}, []impl.Import{{Name: name, Min: 1, Max: impl.MaxVersion}})
		if code != impl.OK || !slices.Equal(picks, []impl.Pick{{Name: name, Version: 2}}) || len(lost) > 0 {
			t.Errorf("%s: %s", name, toldAgreed(picks, lost, code))
		}
	}
}

// Rule 8: a list too long comes ahead of the fault of either one.
func TestNegotiateOfLongLists(t *testing.T) {
	right, long := offersOf(t, "io1:1"), manyOffers(4097, false)
	needs, longNeeds := needsOf(t, "io"), manyNeeds(4097)
	for _, c := range []struct {
		offers []impl.Offer
		asks   []impl.Import
		want   int
	}{
		{long, nil, impl.ErrLong}, {long, needs, impl.ErrLong}, {long, []impl.Import{{}}, impl.ErrLong}, {long, longNeeds, impl.ErrLong},
		{make([]impl.Offer, 4097), needs, impl.ErrLong}, {make([]impl.Offer, 1000000), nil, impl.ErrLong},
		{nil, longNeeds, impl.ErrLong}, {right, longNeeds, impl.ErrLong}, {[]impl.Offer{{}}, longNeeds, impl.ErrLong}, {long[:41], longNeeds, impl.ErrLong},
		{right, make([]impl.Import, 4097), impl.ErrLong}, {right, make([]impl.Import, 1000000), impl.ErrLong},
		{long[:4096], longNeeds[:4096], impl.ErrBad}, {right, longNeeds[:4096], impl.ErrBad}, {long[:4096], needs, impl.ErrBad}, {[]impl.Offer{{}}, []impl.Import{{}}, impl.ErrBad},
	} {
		if picks, lost, code := impl.Negotiate(c.offers, c.asks); code != c.want || len(picks)+len(lost) > 0 {
			t.Errorf("%d offers, %d asks: %s, not %d", len(c.offers), len(c.asks), toldAgreed(picks, lost, code), c.want)
		}
	}
}

// Offers and asks of any make: each answer is the second telling's, and what is picked meets its ask.
func TestNegotiateOfAnyMake(t *testing.T) {
	s := newSource()
	var some, lostSome, many int
	for range 20000 {
		offers := anyOffers(s, 14)
		asks := anyAsks(s, offers, 8, 4)
		picks, lost, code := impl.Negotiate(offers, asks)
		if got, want := toldAgreed(picks, lost, code), toldAgreed(wantNegotiate(offers, asks)); got != want || code != impl.OK {
			t.Fatalf("%s: asks %s: %s, not %s", showOffers(offers), showNeeds(asks), got, want)
		}
		if len(picks)+len(lost) != len(asks) {
			t.Fatalf("%s: asks %s: %s", showOffers(offers), showNeeds(asks), toldAgreed(picks, lost, code))
		}
		for _, p := range picks {
			ask := asks[slices.IndexFunc(asks, func(ask impl.Import) bool { return ask.Name == p.Name })]
			fits := 0
			for _, o := range offers {
				if o.Right == p.Name && o.Version >= ask.Min && o.Version <= ask.Max {
					fits++
				}
			}
			many += min(1, fits/2)
		}
		some, lostSome = some+min(1, len(picks)/2), lostSome+min(1, len(lost)/2)
	}
	if min(some, lostSome, many) < 500 {
		t.Errorf("picks %d, lost %d, with a choice %d", some, lostSome, many)
	}
}
