package tests

import (
	"slices"
	"strconv"
	"strings"
	"testing"

	"loop.example/g00045/impl"
)

// busWords: the words of acts by their kinds.
var busWords = []string{"", "listen", "leave", "send", "break", "mend", "pump"}

// busActsOf reads acts with semicolons between them: listen b a.* 0 2 (rank, tries); leave b; send a.x 7 4 keep (num, rank); break b; mend b; pump 3; kind 9.
func busActsOf(t *testing.T, text string) []impl.BusAct {
	t.Helper()
	var out []impl.BusAct
	for _, part := range strings.Split(text, ";") {
		if words := strings.Fields(part); len(words) > 0 {
			out = append(out, busActOf(t, words))
		}
	}
	return out
}

func busActOf(t *testing.T, words []string) impl.BusAct {
	t.Helper()
	if words[0] == "kind" {
		return impl.BusAct{Kind: numberOf(t, words[1])}
	}
	act := impl.BusAct{Kind: slices.Index(busWords, words[0])}
	switch act.Kind {
	case impl.BsListen:
		act.Name, act.Topic, act.Rank, act.Tries = words[1], words[2], numberOf(t, words[3]), numberOf(t, words[4])
	case impl.BsSend:
		act.Topic, act.Num, act.Rank, act.Keep = words[1], numberOf(t, words[2]), numberOf(t, words[3]), len(words) == 5
	case impl.BsLeave, impl.BsBreak, impl.BsMend:
		act.Name = words[1]
	case impl.BsPump:
		act.Num = numberOf(t, words[1])
	default:
		t.Fatalf("%s is no act", words[0])
	}
	return act
}

func showBusAct(a impl.BusAct) string {
	switch a.Kind {
	case impl.BsListen:
		return "listen " + clipped(a.Name) + " " + clipped(a.Topic) + " " + strconv.Itoa(a.Rank) + " " + strconv.Itoa(a.Tries)
	case impl.BsSend:
		text := "send " + clipped(a.Topic) + " " + strconv.Itoa(a.Num) + " " + strconv.Itoa(a.Rank)
		if a.Keep {
			text += " keep"
		}
		return text
	case impl.BsLeave, impl.BsBreak, impl.BsMend:
		return busWords[a.Kind] + " " + clipped(a.Name)
	case impl.BsPump:
		return "pump " + strconv.Itoa(a.Num)
	}
	return "kind " + strconv.Itoa(a.Kind)
}

func showBus(acts []impl.BusAct) string {
	var parts []string
	for _, a := range acts[:min(len(acts), 150)] {
		parts = append(parts, showBusAct(a))
	}
	return strings.Join(parts, "; ")
}

func toldCodes(codes []int) string {
	var words []string
	for _, code := range codes {
		words = append(words, impl.CodeWord(code))
	}
	return strings.Join(words, " ")
}

// toldDeliveries: b:a.x=7/2 is the second try of the event 7 of a.x for b; ! behind it tells that it failed.
func toldDeliveries(list []impl.Delivery) string {
	var words []string
	for _, d := range list {
		word := d.Name + ":" + d.Topic + "=" + strconv.Itoa(d.Num) + "/" + strconv.Itoa(d.Try)
		switch d.Code {
		case impl.OK:
		case impl.ErrFail:
			word += "!"
		default:
			word += "(" + strconv.Itoa(d.Code) + ")"
		}
		words = append(words, word)
	}
	return strings.Join(words, " ")
}

func toldBus(x impl.BusLog) string {
	return impl.CodeWord(x.Code) + " " + toldCodes(x.Replies) + "; " + toldDeliveries(x.Deliveries) + "; dead " + toldDeliveries(x.Dead) + "; left " + strconv.Itoa(x.Left)
}

var (
	topicNames    = []string{"a", "b", "a1", "é"}
	listenerNames = []string{"n", "B", "жук", "n1", "_", "Z", "aa", "a"}
	busRanks      = []int{0, 0, 0, 0, 1, 1, 2, -1, -1, 7, -1 << 63, -1<<63 + 1, 1<<63 - 1, 1<<63 - 2}
	wrongTopics   = []string{"", ".", "a.", ".a", "a..b", "a.1", "when", "a.when", "**", "a.**", "#.a", "a.#.b", "##", "*a", "a*", "a#", "a.b.c.d.e.f", "*.*.*.*.*.*", "*.*.*.*.*.#", "#.#", "a b", "a.\xff", strings.Repeat("n", 41), "*", "#", "a.*", "a.b.#"}
)

func anyTopic(s source) string {
	parts := []string{pick(s, topicNames)}
	for len(parts) < 5 && s.IntN(2) == 0 {
		parts = append(parts, pick(s, topicNames))
	}
	return strings.Join(parts, ".")
}

// anyPattern: made of a topic.
func anyPattern(s source, topic string) string {
	parts := strings.Split(topic, ".")
	for i := range parts {
		if s.IntN(3) == 0 {
			parts[i] = "*"
		}
	}
	switch s.IntN(4) {
	case 0:
		parts = append(parts[:s.IntN(len(parts)+1)], "#")
	case 1:
		parts = append(parts, "*")
	}
	return strings.Join(parts[:min(len(parts), 5)], ".")
}

// busMaker makes acts that mostly can be done: it does them by the second telling, and looks at what is there. Where it is plain, no two events have one Num.
type busMaker struct {
	source
	names  []string
	topics []string
	plain  bool
	sent   int
	bus    *oneBus
}

// name: mostly of a listener that is there, or is not.
func (m *busMaker) name(isThere bool) string {
	if m.IntN(40) == 0 {
		return pick(m.source, wrongNames)
	}
	for range 8 {
		if name := pick(m.source, m.names); (m.bus.find(name) != nil) == isThere {
			return name
		}
	}
	return pick(m.source, m.names)
}

func (m *busMaker) listen() impl.BusAct {
	act := impl.BusAct{Kind: impl.BsListen, Name: m.name(m.IntN(8) == 0), Topic: anyPattern(m.source, pick(m.source, m.topics)), Rank: pick(m.source, busRanks), Tries: 1 + m.IntN(5)}
	switch m.IntN(40) {
	case 0:
		act.Tries = pick(m.source, append([]int{6}, anyNumbers...))
	case 1:
		act.Topic = pick(m.source, wrongTopics)
	}
	return act
}

func (m *busMaker) send() impl.BusAct {
	m.sent++
	act := impl.BusAct{Kind: impl.BsSend, Topic: pick(m.source, m.topics), Num: m.sent, Rank: pick(m.source, busRanks), Keep: m.IntN(3) == 0}
	if !m.plain {
		act.Num = pick(m.source, anyNumbers)
	}
	if m.IntN(40) == 0 {
		act.Topic = pick(m.source, wrongTopics)
	}
	return act
}

func (m *busMaker) act() impl.BusAct {
	switch m.IntN(20) {
	case 0, 1, 2, 3:
		return m.listen()
	case 4:
		return impl.BusAct{Kind: impl.BsLeave, Name: m.name(m.IntN(6) > 0)}
	case 5, 6:
		return impl.BusAct{Kind: impl.BsBreak, Name: m.name(m.IntN(6) > 0)}
	case 7:
		return impl.BusAct{Kind: impl.BsMend, Name: m.name(m.IntN(6) > 0)}
	case 8, 9, 10, 11:
		return impl.BusAct{Kind: impl.BsPump, Num: m.IntN(6)}
	case 12:
		switch m.IntN(5) {
		case 0:
			m.sent++
			return impl.BusAct{Kind: pick(m.source, append([]int{7, 8}, anyNumbers...)), Name: m.name(true), Topic: "a", Num: m.sent, Tries: 1}
		case 1:
			return impl.BusAct{Kind: impl.BsPump, Num: pick(m.source, anyNumbers)}
		}
	}
	return m.send()
}

// anyBus: at most so many acts, and what the second telling makes of them.
func anyBus(s source, most int, plain bool) ([]impl.BusAct, impl.BusLog) {
	m := &busMaker{source: s, names: listenerNames[s.IntN(len(listenerNames)):], plain: plain, bus: &oneBus{}}
	if s.IntN(6) == 0 {
		for i := range 50 {
			m.names = append(slices.Clip(m.names), "n"+strconv.Itoa(i))
		}
	}
	for range 1 + s.IntN(8) {
		m.topics = append(m.topics, anyTopic(s))
	}
	var acts []impl.BusAct
	for range s.IntN(most + 1) {
		act := m.act()
		acts = append(acts, act)
		m.bus.do(act)
	}
	return acts, m.bus.log
}
