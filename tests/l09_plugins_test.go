package tests

import (
	"math/big"
	"reflect"
	"runtime"
	"slices"
	"strconv"
	"sync"
	"testing"

	"loop.example/g00045/impl"
)

// plugLook follows acts by what was answered of them: what the one at work asked for, and the one ahead of it; what was begun of each offer; which calls have ended.
type plugLook struct {
	offers     []impl.Offer
	asks, back map[string][]impl.Import
	costs      map[impl.Pick]*big.Int
	begun      int
	ended      map[int]bool
	backs      int
}

func newPlugLook(offers []impl.Offer) *plugLook {
	l := &plugLook{offers: offers, asks: map[string][]impl.Import{}, back: map[string][]impl.Import{}, costs: map[impl.Pick]*big.Int{}, ended: map[int]bool{}}
	for _, o := range offers {
		l.costs[impl.Pick{Name: o.Right, Version: o.Version}] = new(big.Int)
	}
	return l
}

func (l *plugLook) begin(act impl.PlugAct, r impl.Reply) string {
	l.begun++
	if len(r.Insts) != 1 || r.Insts[0] != l.begun {
		return "is not the next number"
	}
	picks, _, _ := impl.Negotiate(l.offers, l.asks[act.Name])
	at := slices.IndexFunc(picks, func(p impl.Pick) bool { return p.Name == act.Right })
	if at < 0 || act.Cost < 0 {
		return "began without a right, or for less than nothing"
	}
	l.costs[picks[at]].Add(l.costs[picks[at]], big.NewInt(int64(act.Cost)))
	return ""
}

func (l *plugLook) see(act impl.PlugAct, r impl.Reply) string {
	if (r.Code != impl.OK || act.Kind != impl.PlBegin) && len(r.Insts) > 0 {
		return "has a number"
	}
	if r.Code != impl.OK {
		return ""
	}
	switch act.Kind {
	case impl.PlLoad:
		l.asks[act.Name] = act.Asks
	case impl.PlSwap:
		l.back[act.Name], l.asks[act.Name] = l.asks[act.Name], act.Asks
	case impl.PlBack:
		l.asks[act.Name] = l.back[act.Name]
		l.backs++
	case impl.PlBegin:
		return l.begin(act, r)
	case impl.PlEnd:
		if act.Call < 1 || act.Call > l.begun || l.ended[act.Call] {
			return "ended what is not open"
		}
		l.ended[act.Call] = true
	}
	return ""
}

// usedFault: whether each offer is used as its calls cost, and not above its Limit.
func (l *plugLook) usedFault(used []impl.Value) string {
	count := 0
	for _, o := range l.offers {
		cost := l.costs[impl.Pick{Name: o.Right, Version: o.Version}]
		if cost.Cmp(big.NewInt(int64(o.Limit))) > 0 {
			return showOffers([]impl.Offer{o}) + " is used above its limit"
		}
		told := impl.Value{Name: o.Right + "@" + strconv.Itoa(o.Version), Num: int(cost.Int64())}
		if slices.Contains(used, told) != (told.Num > 0) {
			return told.Name + " is used " + cost.String()
		}
		count += min(1, told.Num)
	}
	if count != len(used) {
		return "too many are used"
	}
	return ""
}

func (l *plugLook) plugFault(plugs []impl.PlugState) string {
	begun, ended := 0, 0
	for i, p := range plugs {
		begun, ended = begun+p.Calls, ended+p.Ended
		if l.backs == 0 && p.Ended > p.Calls || p.State < p.Ended {
			return p.Name + " has ended too many"
		}
		if i > 0 && (plugs[i-1].Name > p.Name || plugs[i-1].Name == p.Name && (!plugs[i-1].Draining || p.Draining)) {
			return p.Name + " stands behind another one"
		}
		if p.Draining && (i == len(plugs)-1 || plugs[i+1].Name != p.Name) {
			return p.Name + " drains and none is at work"
		}
	}
	if begun > l.begun || ended > len(l.ended) {
		return "more calls than there are"
	}
	return ""
}

// checkOpen: all calls are ended, twice: those that had not ended do, once, and no plug is left draining, each of the others can be dropped.
func (l *plugLook) checkOpen(t *testing.T, acts []impl.PlugAct, x impl.PlugLog) {
	t.Helper()
	all := slices.Clone(acts)
	for range 2 {
		for number := range l.begun + 2 {
			all = append(all, impl.PlugAct{Kind: impl.PlEnd, Call: number})
		}
	}
	for _, p := range x.Plugs {
		if !p.Draining {
			all = append(all, impl.PlugAct{Kind: impl.PlDrop, Name: p.Name})
		}
	}
	if len(all) > impl.MaxActs {
		return
	}
	y := impl.RunPlugins(l.offers, all)
	for i, r := range y.Replies[len(acts):] {
		act := all[len(acts)+i]
		want := impl.OK
		if act.Kind == impl.PlEnd && (i >= l.begun+2 || act.Call < 1 || act.Call > l.begun || l.ended[act.Call]) {
			want = impl.ErrNone
		}
		if r.Code != want {
			t.Fatalf("%s\n%s: %d, not %d", showPlugs(l.offers, all), showPlugAct(act), r.Code, want)
		}
	}
	if len(y.Plugs) > 0 || !slices.Equal(y.Used, x.Used) {
		t.Fatalf("%s\n%s: behind all ends", showPlugs(l.offers, all), toldPlugLog(y))
	}
}

// checkP10: the promise, by the answers alone.
func checkP10(t *testing.T, offers []impl.Offer, acts []impl.PlugAct, x impl.PlugLog) {
	t.Helper()
	l := newPlugLook(offers)
	for i, act := range acts {
		if fault := l.see(act, x.Replies[i]); fault != "" {
			t.Fatalf("%s\n%s: act %d: %s %s", showPlugs(offers, acts), toldPlugLog(x), i, showPlugAct(act), fault)
		}
	}
	for _, fault := range []string{l.usedFault(x.Used), l.plugFault(x.Plugs)} {
		if fault != "" {
			t.Fatalf("%s\n%s: %s", showPlugs(offers, acts), toldPlugLog(x), fault)
		}
	}
	l.checkOpen(t, acts, x)
}

// plugCounts: how often what a test must meet was met.
type plugCounts struct {
	codes                    [7][20]int
	draining, used, takeOver int
	grown                    int
}

func (c *plugCounts) count(acts []impl.PlugAct, x impl.PlugLog) {
	for i, act := range acts {
		kind := act.Kind
		if kind < 1 || kind > 6 {
			kind = 0
		}
		c.codes[kind][x.Replies[i].Code]++
	}
	for _, p := range x.Plugs {
		if p.Draining {
			c.draining++
		}
		if p.Ended > p.Calls {
			c.takeOver++
		}
		if p.State > p.Ended {
			c.grown++
		}
	}
	c.used += min(1, len(x.Used)/2)
}

func (c *plugCounts) check(t *testing.T, least int) {
	t.Helper()
	for kind, codes := range [][]int{
		{impl.ErrKind}, {impl.OK, impl.ErrBad, impl.ErrTwice, impl.ErrRight}, {impl.OK, impl.ErrNone, impl.ErrRight, impl.ErrBad, impl.ErrQuota}, {impl.OK, impl.ErrNone},
		{impl.OK, impl.ErrBad, impl.ErrNone, impl.ErrState, impl.ErrRight}, {impl.OK, impl.ErrNone}, {impl.OK, impl.ErrNone, impl.ErrState},
	} {
		for code, count := range c.codes[kind] {
			if isMet := slices.Contains(codes, code); isMet && count < least || !isMet && count > 0 {
				t.Errorf("acts of kind %d with code %d: %d", kind, code, count)
			}
		}
	}
	if min(c.draining, c.used, c.takeOver, c.grown) < least {
		t.Errorf("draining %d, used %d, taken over %d, with the state of others %d", c.draining, c.used, c.takeOver, c.grown)
	}
}

// checkFewer: the replies of fewer acts are the beginning of those of all, and an act with a code changes nothing.
func checkFewer(t *testing.T, offers []impl.Offer, acts []impl.PlugAct, x impl.PlugLog) {
	t.Helper()
	ahead := impl.RunPlugins(offers, nil)
	for i := range acts {
		part := impl.RunPlugins(offers, acts[:i+1])
		if !reflect.DeepEqual(part.Replies, x.Replies[:i+1]) {
			t.Fatalf("%s: the first %d acts: %s", showPlugs(offers, acts), i+1, toldPlugLog(part))
		}
		if part.Replies[i].Code != impl.OK && (!slices.Equal(part.Plugs, ahead.Plugs) || !slices.Equal(part.Used, ahead.Used)) {
			t.Fatalf("%s: act %d has a code: %s, then %s", showPlugs(offers, acts), i, toldPlugLog(ahead), toldPlugLog(part))
		}
		ahead = part
	}
}

// Acts of any make over offers of any make: each answer is the second telling's, and P10 holds.
func TestPluginsOfAnyMake(t *testing.T) {
	s := newSource()
	var c plugCounts
	for i := range 4000 {
		offers := anyOffers(s, 10)
		acts, want := anyPlugActs(s, offers, 90)
		checkSamePlugs(t, offers, acts, want)
		checkP10(t, offers, acts, want)
		c.count(acts, want)
		if i%10 == 0 {
			checkFewer(t, offers, acts, want)
		}
	}
	c.check(t, 40)
}

// As many acts and offers as there may be.
func TestManyPluginsOfAnyMake(t *testing.T) {
	s := newSource()
	for range 60 {
		offers := anyOffers(s, 120)
		offers = offers[:min(len(offers), 40)]
		acts, want := anyPlugActs(s, offers, impl.MaxActs)
		checkSamePlugs(t, offers, acts, want)
		checkP10(t, offers, acts, want)
	}
}

// The answers do not hang on the order of the offers, nor on that of the asks.
func TestPluginsInEveryOrder(t *testing.T) {
	s := newSource()
	for range 100 {
		offers := anyOffers(s, 5)
		acts, want := anyPlugActs(s, offers, 60)
		orders(offers, func(turned []impl.Offer) {
			mixed := slices.Clone(acts)
			for i := range mixed {
				asks := slices.Clone(mixed[i].Asks)
				s.Shuffle(len(asks), func(a, b int) { asks[a], asks[b] = asks[b], asks[a] })
				mixed[i].Asks = asks
			}
			checkSamePlugs(t, turned, mixed, want)
		})
	}
}

// replacement is a run of one plugin with wide limits. Calls are counted by when they began: ahead of the swap, behind it, behind the back or where that would be.
type replacement struct {
	source
	acts []impl.PlugAct
	from []int
	open []int
	over int
}

func (r *replacement) begin(count, phase int) {
	for range count {
		r.acts = append(r.acts, impl.PlugAct{Kind: impl.PlBegin, Name: "p", Right: pick(r.source, []string{"io", "net"}), Cost: r.IntN(5)})
		r.from = append(r.from, phase)
		r.open = append(r.open, len(r.from))
	}
}

// end ends so many open calls, taken at random, but none that has to stay; it answers how many of each beginning.
func (r *replacement) end(count int, stays func(number int) bool) [3]int {
	var out [3]int
	r.Shuffle(len(r.open), func(i, k int) { r.open[i], r.open[k] = r.open[k], r.open[i] })
	for _, number := range slices.Clone(r.open) {
		if count == 0 {
			break
		}
		if !stays(number) {
			count--
			r.acts = append(r.acts, impl.PlugAct{Kind: impl.PlEnd, Call: number})
			r.open = slices.DeleteFunc(r.open, func(other int) bool { return other == number })
			out[r.from[number-1]]++
		}
	}
	return out
}

// run answers the plug that has to be there at the end.
func (r *replacement) run(isBack bool) impl.PlugState {
	asks := []impl.Import{{Name: "net", Min: 1, Max: impl.MaxVersion}, {Name: "io", Min: 1, Max: impl.MaxVersion}}
	none := func(int) bool { return false }
	r.acts = append(r.acts, impl.PlugAct{Kind: impl.PlLoad, Name: "p", Version: 1, Asks: asks})
	first, second, third := 1+r.IntN(30), r.IntN(30), r.IntN(10)
	r.begin(first, 0)
	stay := 1 + r.IntN(first)
	ahead := r.end(r.IntN(first), func(number int) bool { return number == stay })
	r.acts = append(r.acts, impl.PlugAct{Kind: impl.PlSwap, Name: "p", Version: 2, Asks: asks})
	r.begin(second, 1)
	between := r.end(r.IntN(first+second), func(number int) bool { return isBack && number == stay })
	if isBack {
		r.acts = append(r.acts, impl.PlugAct{Kind: impl.PlBack, Name: "p"})
	}
	r.begin(third, 2)
	r.end(len(r.open), none)
	r.over = between[1]
	if isBack {
		all := first + second + third
		return impl.PlugState{Name: "p", Version: 1, Calls: first + third, Ended: all - between[1], State: all}
	}
	return impl.PlugState{Name: "p", Version: 2, Calls: second + third, Ended: second + third, State: ahead[0] + second + third}
}

// P10 of replacements: no call is lost, none counts twice.
func TestReplacements(t *testing.T) {
	s := newSource()
	offers := offersOf(t, "io1:1000000 net5:9223372036854775807 net2:0")
	over := 0
	for i := range 4000 {
		r := &replacement{source: s}
		want := r.run(i%2 == 0)
		x := impl.RunPlugins(offers, r.acts)
		begun := 0
		for k, reply := range x.Replies {
			if reply.Code != impl.OK {
				t.Fatalf("%s\nact %d: %d", showPlugs(offers, r.acts), k, reply.Code)
			}
			if r.acts[k].Kind == impl.PlBegin {
				begun++
				if !slices.Equal(reply.Insts, []int{begun}) {
					t.Fatalf("%s\nact %d: %v, not %d", showPlugs(offers, r.acts), k, reply.Insts, begun)
				}
			}
		}
		if !slices.Equal(x.Plugs, []impl.PlugState{want}) || len(x.Replies) != len(r.acts) {
			t.Fatalf("%s\n%s, not %s", showPlugs(offers, r.acts), toldPlugs(x.Plugs), toldPlugs([]impl.PlugState{want}))
		}
		checkP10(t, offers, r.acts, x)
		checkSamePlugs(t, offers, r.acts, wantPlugLog(offers, r.acts))
		over += min(1, r.over)
	}
	if over < 500 {
		t.Errorf("a replacement ended calls in %d", over)
	}
}

func turnOffers(s source, offers []impl.Offer) []impl.Offer {
	offers = turnedList(s, offers, []impl.Offer{{}, {Right: "io", Version: 1, Limit: 9}, {Right: "net", Version: 2}})
	if len(offers) == 0 {
		return offers
	}
	o := &offers[s.IntN(len(offers))]
	switch s.IntN(8) {
	case 0:
		o.Right = pick(s, wrongNames)
	case 1:
		o.Version = turnedNumber(s, o.Version)
	case 2:
		o.Limit = turnedNumber(s, o.Limit)
	}
	return offers
}

func turnPlugAct(s source, acts []impl.PlugAct) []impl.PlugAct {
	acts = turnedList(s, acts, []impl.PlugAct{{}, {Kind: 7}, {Kind: impl.PlLoad}, {Kind: impl.PlLoad, Name: "p", Version: 1}, {Kind: impl.PlSwap, Name: "p", Version: 2}, {Kind: impl.PlBack, Name: "p"}, {Kind: impl.PlEnd, Call: 1}})
	if len(acts) == 0 {
		return acts
	}
	a := &acts[s.IntN(len(acts))]
	switch s.IntN(8) {
	case 0:
		a.Kind = turnedNumber(s, a.Kind)
	case 1:
		a.Name = pick(s, append(slices.Clone(plugNames), wrongNames...))
	case 2:
		a.Version = turnedNumber(s, a.Version)
	case 3:
		a.Right = pick(s, append(slices.Clone(rightsNames), wrongNames...))
	case 4:
		a.Cost = turnedNumber(s, a.Cost)
	case 5:
		a.Call = turnedNumber(s, a.Call)
	case 6, 7:
		a.Asks = turnedList(s, a.Asks, []impl.Import{{}, {Name: "io", Min: 1, Max: 2}, {Name: "net", Min: 2, Max: 1}, {Name: "1", Min: 1, Max: 1}, {Name: "é", Max: 5}, {Name: "a", Min: 1, Max: 1000000}})
	}
	return acts
}

// Offers, asks and acts of any make, right or not.
func TestTurnedPlugins(t *testing.T) {
	s := newSource()
	right, bad, badAsks := 0, 0, 0
	for i := range 5000 {
		offers := anyOffers(s, 8)
		acts, _ := anyPlugActs(s, offers, 50)
		if i%3 == 0 {
			offers = turnOffers(s, offers)
		}
		for range s.IntN(6) {
			acts = turnPlugAct(s, acts)
		}
		want := wantPlugLog(offers, acts)
		checkSamePlugs(t, offers, acts, want)
		if want.Code == impl.OK {
			right++
			checkP10(t, offers, acts, want)
		} else {
			bad++
		}
		for _, act := range acts {
			picks, lost, code := impl.Negotiate(offers, act.Asks)
			if got, want := toldAgreed(picks, lost, code), toldAgreed(wantNegotiate(offers, act.Asks)); got != want {
				t.Fatalf("%s: asks %s: %s, not %s", showOffers(offers), showNeeds(act.Asks), got, want)
			}
			if code == impl.ErrBad && want.Code == impl.OK {
				badAsks++
			}
		}
	}
	if right < 1000 || bad < 300 || badAsks < 300 {
		t.Errorf("%d, %d, %d", right, bad, badAsks)
	}
}

// plugGiven: what one drawing hands to the calls of chapter 10.
type plugGiven struct {
	offers []impl.Offer
	asks   []impl.Import
	acts   []impl.PlugAct
}

type plugAnswers struct {
	picks []impl.Pick
	lost  []string
	code  int
	log   impl.PlugLog
}

func (g plugGiven) ask() plugAnswers {
	var a plugAnswers
	a.picks, a.lost, a.code = impl.Negotiate(g.offers, g.asks)
	a.log = impl.RunPlugins(g.offers, g.acts)
	return a
}

func (a plugAnswers) tidy() plugAnswers {
	return plugAnswers{tidyList(a.picks), tidyList(a.lost), a.code, tidyPlugLog(a.log)}
}

func (a plugAnswers) show() string {
	return toldAgreed(a.picks, a.lost, a.code) + "\n" + toldPlugLog(a.log)
}

// anyPlugGiven: with room behind the ends of its lists, where signs are left.
func anyPlugGiven(s source, most int) plugGiven {
	offers := anyOffers(s, 8)
	acts, _ := anyPlugActs(s, offers, most)
	sign := impl.Import{Name: "sign", Min: 1, Max: 1}
	g := plugGiven{roomy(offers, impl.Offer{Right: "sign", Version: 1}), roomy(anyAsks(s, offers, 6, 4), sign), roomy(acts, impl.PlugAct{Kind: impl.PlLoad, Name: "sign", Version: 1})}
	for i := range g.acts {
		g.acts[i].Asks = roomy(g.acts[i].Asks, sign)
	}
	return g
}

// kept: what stands in the memory of what is given, behind its lists' ends too.
func (g plugGiven) kept() plugGiven {
	out := plugGiven{whole(g.offers), whole(g.asks), whole(g.acts)}
	for i := range out.acts {
		out.acts[i].Asks = whole(out.acts[i].Asks)
	}
	return out
}

// P1: what is handed in stays as it was, answers do not hang on what was called ahead.
func TestPluginsDoNotChangeWhatIsGiven(t *testing.T) {
	s := newSource()
	var all, before []plugGiven
	var first []plugAnswers
	for i := range 400 {
		g := anyPlugGiven(s, 60)
		if i%7 == 0 {
			g.offers = roomy(turnOffers(s, g.offers), impl.Offer{Right: "sign", Version: 1})
		}
		all, before = append(all, g), append(before, g.kept())
		first = append(first, g.ask())
	}
	for i := len(all) - 1; i >= 0; i-- {
		if again := all[i].ask(); !reflect.DeepEqual(again.tidy(), first[i].tidy()) {
			t.Fatalf("%s\n%s, then\n%s", showPlugs(all[i].offers, all[i].acts), first[i].show(), again.show())
		}
	}
	for i, g := range all {
		if !reflect.DeepEqual(g.kept(), before[i]) {
			t.Fatalf("%s: was changed", showPlugs(g.offers, g.acts))
		}
	}
}

// P1: calls at the same time answer as calls one behind the other.
func TestPluginsAtTheSameTime(t *testing.T) {
	s := newSource()
	g := anyPlugGiven(s, 200)
	for want := wantPlugLog(g.offers, g.acts); len(want.Plugs) < 4 || len(want.Used) < 3; want = wantPlugLog(g.offers, g.acts) {
		g = anyPlugGiven(s, 200)
	}
	want := g.ask().tidy()
	var workers sync.WaitGroup
	for range 16 {
		workers.Go(func() {
			for range 20 {
				if got := g.ask(); !reflect.DeepEqual(got.tidy(), want) {
					t.Errorf("%s\n%s", showPlugs(g.offers, g.acts), got.show())
				}
			}
		})
	}
	workers.Wait()
}

func (a *rawAnswer) plugs(x plugAnswers) {
	a.kept = append(a.kept, x)
	a.names(x.lost)
	a.lists = append(a.lists, stretchOf(x.picks), stretchOf(x.log.Replies), stretchOf(x.log.Plugs), stretchOf(x.log.Used))
	for _, p := range x.picks {
		a.texts = append(a.texts, p.Name)
	}
	for _, r := range x.log.Replies {
		a.lists = append(a.lists, stretchOf(r.Insts))
	}
	for _, p := range x.log.Plugs {
		a.texts = append(a.texts, p.Name)
	}
	for _, v := range x.log.Used {
		a.texts = append(a.texts, v.Name)
	}
}

// memory: the lists and the texts of what is given.
func (g plugGiven) memory() ([]stretch, []string) {
	lists := []stretch{stretchOf(g.offers), stretchOf(g.asks), stretchOf(g.acts)}
	var texts []string
	asks := slices.Clone(g.asks)
	for _, o := range g.offers {
		texts = append(texts, o.Right)
	}
	for _, act := range g.acts {
		lists, texts, asks = append(lists, stretchOf(act.Asks)), append(texts, act.Name, act.Right), append(asks, act.Asks...)
	}
	for _, ask := range asks {
		texts = append(texts, ask.Name)
	}
	return lists, texts
}

// P1: an answer shares no memory with what was handed in, and its lists none with one another.
func TestPluginAnswersAreNew(t *testing.T) {
	s := newSource()
	texts := 0
	for range 300 {
		g := anyPlugGiven(s, 60)
		lists, given := g.memory()
		var answers [2]rawAnswer
		for k := range answers {
			answers[k].plugs(g.ask())
			lists = append(lists, answers[k].lists...)
			texts += checkNewTexts(t, answers[k].texts, given)
		}
		checkApart(t, lists)
		runtime.KeepAlive(answers)
		runtime.KeepAlive(g)
	}
	if texts < 1000 {
		t.Errorf("%d texts", texts)
	}
}
