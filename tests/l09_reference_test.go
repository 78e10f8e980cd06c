package tests

import (
	"math/big"
	"slices"
	"strconv"
	"strings"

	"loop.example/g00045/impl"
)

// The second telling of chapter 10: all plugs and all calls that ever were, each asked one by one for who began, has and ended it; a state is a set of ended calls; what is used is the sum of what was begun, without bounds.

func areSomeOffers(offers []impl.Offer) bool {
	for i, o := range offers {
		if i == 40 || !isOneNeed(impl.Import{Name: o.Right, Min: o.Version, Max: o.Version}) || o.Limit < 0 {
			return false
		}
		for _, other := range offers[:i] {
			if other.Right == o.Right && other.Version == o.Version {
				return false
			}
		}
	}
	return true
}

// wantOffer: the last one of those that meet an ask, by Version.
func wantOffer(offers []impl.Offer, ask impl.Import) (impl.Offer, bool) {
	var fit []impl.Offer
	for _, o := range offers {
		if o.Right == ask.Name && o.Version >= ask.Min && o.Version <= ask.Max {
			fit = append(fit, o)
		}
	}
	if len(fit) == 0 {
		return impl.Offer{}, false
	}
	return slices.MaxFunc(fit, func(a, b impl.Offer) int { return a.Version - b.Version }), true
}

func wantNegotiate(offers []impl.Offer, asks []impl.Import) ([]impl.Pick, []string, int) {
	if len(offers) > 4096 || len(asks) > 4096 {
		return nil, nil, impl.ErrLong
	}
	if !areSomeOffers(offers) || !areSomeNeeds(asks) {
		return nil, nil, impl.ErrBad
	}
	sorted := slices.SortedFunc(slices.Values(asks), func(a, b impl.Import) int { return strings.Compare(a.Name, b.Name) })
	var picks []impl.Pick
	var lost []string
	for _, ask := range sorted {
		if o, has := wantOffer(offers, ask); has {
			picks = append(picks, impl.Pick{Name: o.Right, Version: o.Version})
		} else {
			lost = append(lost, ask.Name)
		}
	}
	return picks, lost, impl.OK
}

// onePlug: its state is how many calls it has counted.
type onePlug struct {
	name           string
	version        int
	rights         []impl.Offer
	isGone, drains bool
	counted        map[int]bool
}

// oneCall: begun is the number of the plug that began it, had that of the one that has it or had it when it ended.
type oneCall struct {
	begun, had int
	ended      bool
	offer      impl.Offer
	cost       int
}

type oneHost struct {
	offers []impl.Offer
	plugs  []*onePlug
	calls  []*oneCall
}

// find: the number of the plug of a name that is there and drains or not, -1 if there is none.
func (h *oneHost) find(name string, drains bool) int {
	return slices.IndexFunc(h.plugs, func(p *onePlug) bool { return p.name == name && !p.isGone && p.drains == drains })
}

func (h *oneHost) atWork(name string) int { return h.find(name, false) }

// openCalls: the numbers of calls that have not ended, of these plugs or, without any, of all.
func (h *oneHost) openCalls(plugs ...int) []int {
	var out []int
	for i, c := range h.calls {
		if !c.ended && (len(plugs) == 0 || slices.Contains(plugs, c.had)) {
			out = append(out, i+1)
		}
	}
	return out
}

func (h *oneHost) used(o impl.Offer) *big.Int {
	sum := new(big.Int)
	for _, c := range h.calls {
		if c.offer == o {
			sum.Add(sum, big.NewInt(int64(c.cost)))
		}
	}
	return sum
}

func (h *oneHost) left(o impl.Offer) int {
	return int(new(big.Int).Sub(big.NewInt(int64(o.Limit)), h.used(o)).Int64())
}

func isSomePlug(act impl.PlugAct) bool {
	return isOneNeed(impl.Import{Name: act.Name, Min: act.Version, Max: act.Version}) && areSomeNeeds(act.Asks)
}

// put: a new plug that counts what another one has counted.
func (h *oneHost) put(act impl.PlugAct, counted map[int]bool) int {
	p := &onePlug{name: act.Name, version: act.Version, counted: map[int]bool{}}
	for _, ask := range act.Asks {
		o, has := wantOffer(h.offers, ask)
		if !has {
			return impl.ErrRight
		}
		p.rights = append(p.rights, o)
	}
	for number := range counted {
		p.counted[number] = true
	}
	h.plugs = append(h.plugs, p)
	return impl.OK
}

func (h *oneHost) load(act impl.PlugAct) int {
	if !isSomePlug(act) {
		return impl.ErrBad
	}
	if h.atWork(act.Name) >= 0 {
		return impl.ErrTwice
	}
	return h.put(act, nil)
}

func (h *oneHost) begin(act impl.PlugAct) impl.Reply {
	at := h.atWork(act.Name)
	if at < 0 {
		return impl.Reply{Code: impl.ErrNone}
	}
	for _, o := range h.plugs[at].rights {
		if o.Right != act.Right {
			continue
		}
		if act.Cost < 0 {
			return impl.Reply{Code: impl.ErrBad}
		}
		sum := h.used(o)
		if sum.Add(sum, big.NewInt(int64(act.Cost))).Cmp(big.NewInt(int64(o.Limit))) > 0 {
			return impl.Reply{Code: impl.ErrQuota}
		}
		h.calls = append(h.calls, &oneCall{begun: at, had: at, offer: o, cost: act.Cost})
		return impl.Reply{Insts: []int{len(h.calls)}}
	}
	return impl.Reply{Code: impl.ErrRight}
}

func (h *oneHost) end(number int) int {
	if !slices.Contains(h.openCalls(), number) {
		return impl.ErrNone
	}
	c := h.calls[number-1]
	c.ended = true
	p := h.plugs[c.had]
	p.counted[number] = true
	p.isGone = p.drains && len(h.openCalls(c.had)) == 0
	return impl.OK
}

func (h *oneHost) swap(act impl.PlugAct) int {
	if !isSomePlug(act) {
		return impl.ErrBad
	}
	at := h.atWork(act.Name)
	if at < 0 {
		return impl.ErrNone
	}
	if h.find(act.Name, true) >= 0 {
		return impl.ErrState
	}
	code := h.put(act, h.plugs[at].counted)
	if code == impl.OK {
		h.plugs[at].drains, h.plugs[at].isGone = true, len(h.openCalls(at)) == 0
	}
	return code
}

// back: the one at work again counts what either of the two has counted.
func (h *oneHost) back(name string) int {
	at, old := h.atWork(name), h.find(name, true)
	if at < 0 || old < 0 {
		return impl.ErrNone
	}
	for number := range h.plugs[at].counted {
		h.plugs[old].counted[number] = true
	}
	for _, number := range h.openCalls(at) {
		h.calls[number-1].had = old
	}
	h.plugs[at].isGone, h.plugs[old].drains = true, false
	return impl.OK
}

func (h *oneHost) drop(name string) int {
	at := h.atWork(name)
	if at < 0 {
		return impl.ErrNone
	}
	if len(h.openCalls(at)) > 0 || h.find(name, true) >= 0 {
		return impl.ErrState
	}
	h.plugs[at].isGone = true
	return impl.OK
}

func (h *oneHost) do(act impl.PlugAct) impl.Reply {
	switch act.Kind {
	case 1:
		return impl.Reply{Code: h.load(act)}
	case 2:
		return h.begin(act)
	case 3:
		return impl.Reply{Code: h.end(act.Call)}
	case 4:
		return impl.Reply{Code: h.swap(act)}
	case 5:
		return impl.Reply{Code: h.back(act.Name)}
	case 6:
		return impl.Reply{Code: h.drop(act.Name)}
	}
	return impl.Reply{Code: impl.ErrKind}
}

func (h *oneHost) state(at int) impl.PlugState {
	p := h.plugs[at]
	out := impl.PlugState{Name: p.name, Version: p.version, State: len(p.counted), Draining: p.drains}
	for _, c := range h.calls {
		if c.begun == at {
			out.Calls++
		}
		if c.had == at && c.ended {
			out.Ended++
		}
	}
	return out
}

func (h *oneHost) log(replies []impl.Reply) impl.PlugLog {
	out := impl.PlugLog{Replies: replies}
	for at, p := range h.plugs {
		if !p.isGone {
			out.Plugs = append(out.Plugs, h.state(at))
		}
	}
	slices.SortFunc(out.Plugs, func(a, b impl.PlugState) int {
		if a.Name != b.Name || a.Draining == b.Draining {
			return strings.Compare(a.Name, b.Name)
		}
		if a.Draining {
			return -1
		}
		return 1
	})
	var numbers []int
	for i := range h.offers {
		numbers = append(numbers, i)
	}
	for _, i := range inPlaces(numbers, func(a, b int) bool {
		x, y := h.offers[a], h.offers[b]
		return x.Right < y.Right || x.Right == y.Right && x.Version < y.Version
	}) {
		o := h.offers[i]
		if used := h.used(o); used.Sign() > 0 {
			out.Used = append(out.Used, impl.Value{Name: o.Right + "@" + strconv.Itoa(o.Version), Num: int(used.Int64())})
		}
	}
	return out
}

func wantPlugLog(offers []impl.Offer, acts []impl.PlugAct) impl.PlugLog {
	switch {
	case len(offers) > 4096 || len(acts) > 4096:
		return impl.PlugLog{Code: impl.ErrLong}
	case !areSomeOffers(offers):
		return impl.PlugLog{Code: impl.ErrBad}
	case len(acts) > 300:
		return impl.PlugLog{Code: impl.ErrMany}
	}
	h := &oneHost{offers: offers}
	var replies []impl.Reply
	for _, act := range acts {
		replies = append(replies, h.do(act))
	}
	return h.log(replies)
}
