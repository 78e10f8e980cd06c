package tests

import (
	"slices"
	"strconv"
	"strings"
	"testing"

	"loop.example/g00045/impl"
)

// offersOf reads offers: io3:5 is version 3 of io, with a limit of 5.
func offersOf(t *testing.T, text string) []impl.Offer {
	t.Helper()
	var out []impl.Offer
	for _, word := range strings.Fields(text) {
		head, limit, isLimited := strings.Cut(word, ":")
		if !isLimited {
			t.Fatalf("%s is no offer", word)
		}
		right, version := splitWord(t, head)
		out = append(out, impl.Offer{Right: right, Version: version, Limit: numberOf(t, limit)})
	}
	return out
}

// plugWords: the words of acts by their kinds.
var plugWords = []string{"", "load", "begin", "end", "swap", "back", "drop"}

// plugActsOf reads acts with semicolons between them: load p1 io net2-4; begin p io 5; end 1; swap p2 io; back p; drop p; kind 9.
func plugActsOf(t *testing.T, text string) []impl.PlugAct {
	t.Helper()
	var out []impl.PlugAct
	for _, part := range strings.Split(text, ";") {
		if words := strings.Fields(part); len(words) > 0 {
			out = append(out, plugActOf(t, words))
		}
	}
	return out
}

func plugActOf(t *testing.T, words []string) impl.PlugAct {
	t.Helper()
	if words[0] == "kind" {
		return impl.PlugAct{Kind: numberOf(t, words[1])}
	}
	act := impl.PlugAct{Kind: slices.Index(plugWords, words[0])}
	switch act.Kind {
	case impl.PlLoad, impl.PlSwap:
		act.Name, act.Version = splitWord(t, words[1])
		act.Asks = needsOf(t, strings.Join(words[2:], " "))
	case impl.PlBegin:
		act.Name, act.Right, act.Cost = words[1], words[2], numberOf(t, words[3])
	case impl.PlEnd:
		act.Call = numberOf(t, words[1])
	case impl.PlBack, impl.PlDrop:
		act.Name = words[1]
	default:
		t.Fatalf("%s is no act", words[0])
	}
	return act
}

func showOffers(offers []impl.Offer) string {
	var words []string
	for _, o := range offers[:min(len(offers), 50)] {
		words = append(words, clipped(o.Right)+strconv.Itoa(o.Version)+":"+strconv.Itoa(o.Limit))
	}
	return "offers " + strings.Join(words, " ")
}

func showPlugAct(a impl.PlugAct) string {
	switch a.Kind {
	case impl.PlLoad, impl.PlSwap:
		return plugWords[a.Kind] + " " + clipped(a.Name) + strconv.Itoa(a.Version) + " " + showNeeds(a.Asks[:min(len(a.Asks), 30)])
	case impl.PlBegin:
		return "begin " + clipped(a.Name) + " " + clipped(a.Right) + " " + strconv.Itoa(a.Cost)
	case impl.PlEnd:
		return "end " + strconv.Itoa(a.Call)
	case impl.PlBack, impl.PlDrop:
		return plugWords[a.Kind] + " " + clipped(a.Name)
	}
	return "kind " + strconv.Itoa(a.Kind)
}

func showPlugs(offers []impl.Offer, acts []impl.PlugAct) string {
	var parts []string
	for _, a := range acts[:min(len(acts), 150)] {
		parts = append(parts, showPlugAct(a))
	}
	return showOffers(offers) + "\n" + strings.Join(parts, "; ")
}

// toldPlugs: p2:5/3=4 is version 2 of p, with 5 calls begun, 3 ended and state 4; ~ behind it tells that it drains.
func toldPlugs(plugs []impl.PlugState) string {
	var words []string
	for _, p := range plugs {
		word := p.Name + strconv.Itoa(p.Version) + ":" + strconv.Itoa(p.Calls) + "/" + strconv.Itoa(p.Ended) + "=" + strconv.Itoa(p.State)
		if p.Draining {
			word += "~"
		}
		words = append(words, word)
	}
	return strings.Join(words, " ")
}

func toldUsed(used []impl.Value) string {
	var words []string
	for _, v := range used {
		words = append(words, v.Name+"="+strconv.Itoa(v.Num))
	}
	return strings.Join(words, " ")
}

func toldPlugLog(x impl.PlugLog) string {
	return impl.CodeWord(x.Code) + " " + showReplies(x.Replies) + "; " + toldPlugs(x.Plugs) + "; " + toldUsed(x.Used)
}

var (
	rightsNames  = []string{"io", "net", "IO", "é", "a", "a1"}
	offerNumbers = []int{1, 2, 3, 5, 10, 999998, 999999}
	tightLimits  = []int{0, 1, 2, 7, 20, 100}
	wideLimits   = []int{1000000, 1 << 62, 1<<63 - 2, 1<<63 - 1}
	plugNames    = []string{"p", "B", "жук", "p1"}
)

// anyOffers: at most so many right offers.
func anyOffers(s source, most int) []impl.Offer {
	limits := append(slices.Clone(tightLimits), wideLimits...)
	if s.IntN(3) == 0 {
		limits = wideLimits
	}
	var out []impl.Offer
	for range s.IntN(most + 1) {
		o := impl.Offer{Right: pick(s, rightsNames), Version: pick(s, offerNumbers), Limit: pick(s, limits)}
		if !slices.ContainsFunc(out, func(other impl.Offer) bool { return other.Right == o.Right && other.Version == o.Version }) {
			out = append(out, o)
		}
	}
	return out
}

// anyAsks: right asks, most of which an offer meets.
func anyAsks(s source, offers []impl.Offer, most, wild int) []impl.Import {
	var out []impl.Import
	for range s.IntN(most + 1) {
		ask := impl.Import{Name: pick(s, rightsNames), Min: pick(s, offerNumbers), Max: impl.MaxVersion}
		if len(offers) > 0 && s.IntN(wild) > 0 {
			goal := pick(s, offers)
			ask = impl.Import{Name: goal.Right, Min: 1 + s.IntN(goal.Version), Max: goal.Version + s.IntN(impl.MaxVersion-goal.Version+1)}
		}
		switch s.IntN(6) {
		case 0:
			ask.Max = ask.Min
		case 1:
			ask.Min, ask.Max = 1, impl.MaxVersion
		}
		if !slices.ContainsFunc(out, func(other impl.Import) bool { return other.Name == ask.Name }) {
			out = append(out, ask)
		}
	}
	return out
}

// plugMaker makes acts of plugs of some names that mostly can be done: it does them by the second telling, and looks at what is there.
type plugMaker struct {
	source
	names []string
	host  *oneHost
}

func (m *plugMaker) name() string {
	if m.IntN(40) == 0 {
		return pick(m.source, wrongNames)
	}
	return pick(m.source, m.names)
}

// cost: what just meets the limit, or does not, among others.
func (m *plugMaker) cost(offer impl.Offer) int {
	left := m.host.left(offer)
	switch m.IntN(12) {
	case 0:
		return left
	case 1:
		return left - m.IntN(2)
	case 2:
		if left < 1<<63-1 {
			return left + 1
		}
	case 3:
		return pick(m.source, anyNumbers)
	}
	return min(m.IntN(4), left)
}

func (m *plugMaker) begin() impl.PlugAct {
	act := impl.PlugAct{Kind: impl.PlBegin, Name: m.name(), Right: pick(m.source, rightsNames), Cost: m.IntN(3)}
	at := m.host.atWork(act.Name)
	if at < 0 || len(m.host.plugs[at].rights) == 0 || m.IntN(20) == 0 {
		return act
	}
	offer := pick(m.source, m.host.plugs[at].rights)
	act.Right, act.Cost = offer.Right, m.cost(offer)
	return act
}

// end: mostly of a call that is open.
func (m *plugMaker) end() impl.PlugAct {
	open := m.host.openCalls()
	if len(open) == 0 || m.IntN(8) == 0 {
		return impl.PlugAct{Kind: impl.PlEnd, Call: pick(m.source, append([]int{len(m.host.calls) + 1, len(m.host.calls), m.IntN(len(m.host.calls) + 2)}, anyNumbers...))}
	}
	return impl.PlugAct{Kind: impl.PlEnd, Call: pick(m.source, open)}
}

// put: mostly a load of what is not at work, a swap of what is.
func (m *plugMaker) put() impl.PlugAct {
	act := impl.PlugAct{Kind: impl.PlLoad, Name: m.name(), Version: 1 + m.IntN(5), Asks: anyAsks(m.source, m.host.offers, 4, 12)}
	if (m.host.atWork(act.Name) >= 0) != (m.IntN(10) == 0) {
		act.Kind = impl.PlSwap
	}
	switch m.IntN(40) {
	case 0:
		act.Version = pick(m.source, anyNumbers)
	case 1:
		act.Asks = append(act.Asks, impl.Import{Name: pick(m.source, rightsNames), Min: 2, Max: 1})
	case 2:
		act.Version = pick(m.source, []int{impl.MaxVersion, impl.MaxVersion + 1})
	}
	return act
}

func (m *plugMaker) act() impl.PlugAct {
	switch m.IntN(20) {
	case 0, 1, 2:
		return m.put()
	case 3, 4:
		return impl.PlugAct{Kind: impl.PlBack, Name: m.name()}
	case 5:
		return impl.PlugAct{Kind: impl.PlDrop, Name: m.name()}
	case 6, 7, 8, 9, 10:
		return m.end()
	case 11:
		if m.IntN(4) == 0 {
			return impl.PlugAct{Kind: pick(m.source, append([]int{7, 8}, anyNumbers...)), Name: m.name(), Version: 1, Right: "io", Call: 1}
		}
	}
	return m.begin()
}

// anyPlugActs: at most so many acts, and what the second telling makes of them.
func anyPlugActs(s source, offers []impl.Offer, most int) ([]impl.PlugAct, impl.PlugLog) {
	m := &plugMaker{s, plugNames[s.IntN(len(plugNames)):], &oneHost{offers: offers}}
	var acts []impl.PlugAct
	var replies []impl.Reply
	for range s.IntN(most + 1) {
		act := m.act()
		acts = append(acts, act)
		replies = append(replies, m.host.do(act))
	}
	return acts, m.host.log(replies)
}
