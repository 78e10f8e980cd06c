package tests

import (
	"math"
	"reflect"
	"runtime"
	"slices"
	"strconv"
	"sync"
	"testing"

	"loop.example/g00045/impl"
)

// heard is a listener that listens, with the messages that wait for it: of what was sent, and tried how often.
type heard struct {
	impl.BusAct
	isBroken bool
	waiting  []oneMessage
}

// busLook follows acts by what was answered of them.
type busLook struct {
	there   map[string]*heard
	kept    map[string]impl.BusAct
	left    []impl.Delivery
	dead    []impl.Delivery
	deaf    int
	retried int
}

func (l *busLook) offer(h *heard, sent impl.BusAct) {
	if wantMatch(h.Topic, sent.Topic) {
		h.waiting = append(h.waiting, oneMessage{sent: sent})
	}
}

func (l *busLook) waiting() (count, rank int) {
	rank = math.MinInt
	for _, h := range l.there {
		for _, m := range h.waiting {
			count, rank = count+1, max(rank, m.sent.Rank)
		}
	}
	return count, rank
}

// deliver takes the next delivery that was told: it has to be of a listener that listens, of a message that waits for it, of the greatest Rank of all, tried once less.
func (l *busLook) deliver(rank int) string {
	if len(l.left) == 0 {
		return "tells too few deliveries"
	}
	d := l.left[0]
	l.left = l.left[1:]
	what := toldDeliveries([]impl.Delivery{d})
	h := l.there[d.Name]
	if h == nil || !wantMatch(h.Topic, d.Topic) {
		return what + " goes to one that does not listen, or not to that topic"
	}
	if d.Try < 1 || d.Try > h.Tries || (d.Code == impl.OK) == h.isBroken || d.Code != impl.OK && d.Code != impl.ErrFail {
		return what + " is tried too often, or has a wrong code"
	}
	at := slices.IndexFunc(h.waiting, func(m oneMessage) bool {
		return m.sent.Topic == d.Topic && m.sent.Num == d.Num && m.sent.Rank == rank && m.try == d.Try-1
	})
	if at < 0 {
		return what + " is none that waits and is next"
	}
	m := h.waiting[at]
	h.waiting = slices.Delete(h.waiting, at, at+1)
	if m.try++; h.isBroken && m.try < h.Tries {
		h.waiting = append(h.waiting, m)
		l.retried++
	} else if h.isBroken {
		l.dead = append(l.dead, d)
	}
	return ""
}

func (l *busLook) pump(most int) string {
	for ; most > 0; most-- {
		count, rank := l.waiting()
		if count == 0 {
			return ""
		}
		if fault := l.deliver(rank); fault != "" {
			return fault
		}
	}
	return ""
}

func (l *busLook) see(act impl.BusAct, code int) string {
	if code != impl.OK {
		return ""
	}
	switch act.Kind {
	case impl.BsListen:
		h := &heard{BusAct: act}
		l.there[act.Name] = h
		for _, sent := range l.kept {
			l.offer(h, sent)
		}
	case impl.BsLeave:
		l.deaf += len(l.there[act.Name].waiting)
		delete(l.there, act.Name)
	case impl.BsSend:
		if act.Keep {
			l.kept[act.Topic] = act
		}
		for _, h := range l.there {
			l.offer(h, act)
		}
	case impl.BsBreak, impl.BsMend:
		l.there[act.Name].isBroken = act.Kind == impl.BsBreak
	case impl.BsPump:
		return l.pump(act.Num)
	}
	return ""
}

// checkP11: the promise, by the answers alone; each message is delivered, dead, left, or gone with its listener.
func checkP11(t *testing.T, acts []impl.BusAct, x impl.BusLog) *busLook {
	t.Helper()
	l := &busLook{there: map[string]*heard{}, kept: map[string]impl.BusAct{}, left: x.Deliveries}
	for i, act := range acts {
		if fault := l.see(act, x.Replies[i]); fault != "" {
			t.Fatalf("%s\n%s: act %d: %s: %s", showBus(acts), toldBus(x), i, showBusAct(act), fault)
		}
	}
	if count, _ := l.waiting(); count != x.Left || len(l.left) > 0 || !slices.Equal(l.dead, x.Dead) {
		t.Fatalf("%s\n%s: %d wait, %d deliveries too many, dead %s", showBus(acts), toldBus(x), count, len(l.left), toldDeliveries(l.dead))
	}
	return l
}

// checkFewerActs: what is told of fewer acts is the beginning of what is told of all; only a pump delivers, at most as often as it says; an act with a code changes nothing.
func checkFewerActs(t *testing.T, acts []impl.BusAct, x impl.BusLog) {
	t.Helper()
	var ahead impl.BusLog
	for i, act := range acts {
		part := impl.RunBus(acts[:i+1])
		if !slices.Equal(part.Replies, x.Replies[:i+1]) || !slices.Equal(part.Deliveries, x.Deliveries[:len(part.Deliveries)]) || !slices.Equal(part.Dead, x.Dead[:len(part.Dead)]) {
			t.Fatalf("%s: the first %d acts: %s", showBus(acts), i+1, toldBus(part))
		}
		count := len(part.Deliveries) - len(ahead.Deliveries)
		if act.Kind != impl.BsPump && count != 0 || act.Kind == impl.BsPump && count > max(0, act.Num) {
			t.Fatalf("%s: act %d: %d deliveries", showBus(acts), i, count)
		}
		if part.Replies[i] != impl.OK && (count != 0 || len(part.Dead) != len(ahead.Dead) || part.Left != ahead.Left) {
			t.Fatalf("%s: act %d has a code: %s, then %s", showBus(acts), i, toldBus(ahead), toldBus(part))
		}
		ahead = part
	}
}

// checkTries: where no two events have one Num, the tries of a message rise from 1 one by one, all but the last one fail, and a dead one was tried as often as it may be.
func checkTries(t *testing.T, acts []impl.BusAct, x impl.BusLog) {
	t.Helper()
	type key struct {
		name string
		num  int
	}
	tries, most := map[key]int{}, map[string]int{}
	for i, act := range acts {
		if act.Kind == impl.BsListen && x.Replies[i] == impl.OK {
			most[act.Name] = act.Tries
		}
		if act.Kind == impl.BsLeave && x.Replies[i] == impl.OK {
			return // another one of that Name may have the same event
		}
	}
	for _, d := range x.Deliveries {
		k := key{d.Name, d.Num}
		if tries[k] < 0 || d.Try != tries[k]+1 || d.Try > most[d.Name] {
			t.Fatalf("%s\n%s: %s", showBus(acts), toldBus(x), toldDeliveries([]impl.Delivery{d}))
		}
		if tries[k] = d.Try; d.Code == impl.OK {
			tries[k] = -1
		}
	}
	for _, d := range x.Dead {
		if d.Try != most[d.Name] || tries[key{d.Name, d.Num}] != d.Try {
			t.Fatalf("%s\n%s: dead %s", showBus(acts), toldBus(x), toldDeliveries([]impl.Delivery{d}))
		}
	}
}

// busCounts: how often what a test must meet was met.
type busCounts struct {
	codes                              [7][20]int
	delivered, dead, left, deaf, again int
	mended                             int
}

func (c *busCounts) count(acts []impl.BusAct, x impl.BusLog, l *busLook) {
	for i, act := range acts {
		kind := act.Kind
		if kind < 1 || kind > 6 {
			kind = 0
		}
		c.codes[kind][x.Replies[i]]++
	}
	for _, d := range x.Deliveries {
		if d.Code == impl.OK && d.Try > 1 {
			c.mended++
		}
	}
	c.delivered, c.dead, c.left = c.delivered+len(x.Deliveries), c.dead+len(x.Dead), c.left+min(1, x.Left)
	c.deaf, c.again = c.deaf+l.deaf, c.again+l.retried
}

func (c *busCounts) check(t *testing.T, least int) {
	t.Helper()
	for kind, codes := range [][]int{
		{impl.ErrKind}, {impl.OK, impl.ErrBad, impl.ErrTwice, impl.ErrMany}, {impl.OK, impl.ErrNone}, {impl.OK, impl.ErrBad}, {impl.OK, impl.ErrNone}, {impl.OK, impl.ErrNone}, {impl.OK, impl.ErrBad},
	} {
		for code, count := range c.codes[kind] {
			if isMet := slices.Contains(codes, code); isMet && count < least && code != impl.ErrMany || !isMet && count > 0 {
				t.Errorf("acts of kind %d with code %d: %d", kind, code, count)
			}
		}
	}
	if min(c.delivered, c.dead, c.left, c.deaf, c.again, c.mended) < least {
		t.Errorf("delivered %d, dead %d, left %d, gone with their listeners %d, tried again %d, mended %d", c.delivered, c.dead, c.left, c.deaf, c.again, c.mended)
	}
}

// Acts of any make: each answer is the second telling's, and P11 holds.
func TestBusOfAnyMake(t *testing.T) {
	s := newSource()
	var c busCounts
	for i := range 6000 {
		isPlain := i%2 == 0
		acts, want := anyBus(s, 90, isPlain)
		checkSameBus(t, acts, want)
		c.count(acts, want, checkP11(t, acts, want))
		if isPlain {
			checkTries(t, acts, want)
		}
		if i%20 < 2 {
			checkFewerActs(t, acts, want)
		}
	}
	c.check(t, 100)
}

// As many acts as there may be.
func TestLongBusOfAnyMake(t *testing.T) {
	s := newSource()
	most, many := 0, 0
	for i := range 300 {
		acts, want := anyBus(s, impl.MaxActs, i%2 == 0)
		checkSameBus(t, acts, want)
		checkP11(t, acts, want)
		for k, act := range acts {
			if act.Kind == impl.BsListen && want.Replies[k] == impl.ErrMany {
				many++
			}
		}
		most = max(most, len(want.Deliveries))
	}
	if most < 150 || many == 0 {
		t.Errorf("at most %d deliveries, too many listeners %d times", most, many)
	}
}

// No listener leaves, and each message is tried to its end: P11 by counts.
func TestBusCountsOfTries(t *testing.T) {
	s := newSource()
	for range 2000 {
		var acts []impl.BusAct
		type told struct {
			topic    string
			tries    int
			isBroken bool
		}
		listeners := map[string]told{}
		for i := range 1 + s.IntN(12) {
			name, l := "n"+strconv.Itoa(i), told{anyPattern(s, anyTopic(s)), 1 + s.IntN(5), s.IntN(2) == 0}
			listeners[name] = l
			acts = append(acts, impl.BusAct{Kind: impl.BsListen, Name: name, Topic: l.topic, Rank: pick(s, busRanks), Tries: l.tries})
			if l.isBroken {
				acts = append(acts, impl.BusAct{Kind: impl.BsBreak, Name: name})
			}
		}
		tries, dead := 0, 0
		for i := range s.IntN(20) {
			topic := anyTopic(s)
			acts = append(acts, impl.BusAct{Kind: impl.BsSend, Topic: topic, Num: i, Rank: pick(s, busRanks), Keep: s.IntN(2) == 0}, impl.BusAct{Kind: impl.BsPump, Num: s.IntN(4)})
			for _, l := range listeners {
				switch {
				case !wantMatch(l.topic, topic):
				case l.isBroken:
					tries, dead = tries+l.tries, dead+1
				default:
					tries++
				}
			}
		}
		acts = append(acts, impl.BusAct{Kind: impl.BsPump, Num: math.MaxInt})
		x := impl.RunBus(acts)
		if len(x.Deliveries) != tries || len(x.Dead) != dead || x.Left != 0 || len(x.Replies) != len(acts) {
			t.Fatalf("%s\n%s: not %d tries, %d dead", showBus(acts), toldBus(x), tries, dead)
		}
		checkTries(t, acts, x)
	}
}

// Listeners that come in any order, with no event between, come to the same.
func TestBusListenersInEveryOrder(t *testing.T) {
	s := newSource()
	for range 150 {
		var listens []impl.BusAct
		for i := range 2 + s.IntN(4) {
			listens = append(listens, impl.BusAct{Kind: impl.BsListen, Name: listenerNames[i], Topic: anyPattern(s, anyTopic(s)), Rank: pick(s, busRanks), Tries: 1 + s.IntN(5)})
		}
		acts, _ := anyBus(s, 40, false)
		first := impl.RunBus(slices.Concat(listens, acts))
		orders(listens, func(turned []impl.BusAct) { checkSameBus(t, slices.Concat(turned, acts), first) })
	}
}

// What is pumped at once is what is pumped one by one.
func TestBusPumpsInPieces(t *testing.T) {
	s := newSource()
	for range 400 {
		acts, _ := anyBus(s, 60, false)
		num := s.IntN(30)
		whole := impl.RunBus(append(slices.Clone(acts), impl.BusAct{Kind: impl.BsPump, Num: num}))
		parts := impl.RunBus(append(slices.Clone(acts), repeated(num, impl.BusAct{Kind: impl.BsPump, Num: 1})...))
		if !slices.Equal(whole.Deliveries, parts.Deliveries) || !slices.Equal(whole.Dead, parts.Dead) || whole.Left != parts.Left {
			t.Fatalf("%s; pump %d\n%s, one by one\n%s", showBus(acts), num, toldBus(whole), toldBus(parts))
		}
	}
}

func turnBusAct(s source, acts []impl.BusAct) []impl.BusAct {
	acts = turnedList(s, acts, []impl.BusAct{{}, {Kind: 7}, {Kind: impl.BsListen}, {Kind: impl.BsListen, Name: "n", Topic: "#", Tries: 5}, {Kind: impl.BsSend, Topic: "a", Keep: true}, {Kind: impl.BsPump, Num: math.MaxInt}, {Kind: impl.BsBreak, Name: "n"}, {Kind: impl.BsLeave, Name: "a"}})
	if len(acts) == 0 {
		return acts
	}
	a := &acts[s.IntN(len(acts))]
	switch s.IntN(8) {
	case 0:
		a.Kind = turnedNumber(s, a.Kind)
	case 1:
		a.Name = pick(s, append(slices.Clone(listenerNames), wrongNames...))
	case 2:
		a.Topic = pick(s, append(slices.Clone(fiveTopics), wrongTopics...))
	case 3:
		a.Rank = turnedNumber(s, a.Rank)
	case 4:
		a.Num = turnedNumber(s, a.Num)
	case 5:
		a.Tries = turnedNumber(s, a.Tries)
	case 6:
		a.Keep = !a.Keep
	}
	return acts
}

// Acts of any make, right or not.
func TestTurnedBus(t *testing.T) {
	s := newSource()
	for range 4000 {
		acts, _ := anyBus(s, 60, false)
		for range s.IntN(8) {
			acts = turnBusAct(s, acts)
		}
		want := wantBus(acts)
		checkSameBus(t, acts, want)
		checkP11(t, acts, want)
	}
}

// P1: the acts stay as they were, behind their end too; answers do not hang on what was called ahead.
func TestBusDoesNotChangeWhatIsGiven(t *testing.T) {
	s := newSource()
	var all, before [][]impl.BusAct
	var first []impl.BusLog
	for range 400 {
		acts, _ := anyBus(s, 80, false)
		acts = roomy(acts, impl.BusAct{Kind: impl.BsListen, Name: "sign", Topic: "#", Tries: 1})
		all, before = append(all, acts), append(before, whole(acts))
		first = append(first, impl.RunBus(acts))
	}
	for i := len(all) - 1; i >= 0; i-- {
		checkSameBus(t, all[i], first[i])
	}
	for i, acts := range all {
		if !reflect.DeepEqual(whole(acts), before[i]) {
			t.Fatalf("%s: was changed", showBus(acts))
		}
	}
}

// P1: calls at the same time answer as calls one behind the other.
func TestBusAtTheSameTime(t *testing.T) {
	s := newSource()
	acts, want := anyBus(s, 200, false)
	for len(want.Deliveries) < 40 || len(want.Dead) < 5 || want.Left < 5 {
		acts, want = anyBus(s, 200, false)
	}
	var workers sync.WaitGroup
	for range 16 {
		workers.Go(func() {
			for range 20 {
				if got := impl.RunBus(acts); !reflect.DeepEqual(tidyBus(got), tidyBus(want)) {
					t.Errorf("%s\n%s", showBus(acts), toldBus(got))
				}
			}
		})
	}
	workers.Wait()
}

// P1: an answer shares no memory with the acts, and its lists none with one another.
func TestBusAnswersAreNew(t *testing.T) {
	s := newSource()
	texts := 0
	for range 300 {
		acts, _ := anyBus(s, 120, false)
		lists := []stretch{stretchOf(acts)}
		var given []string
		for _, act := range acts {
			given = append(given, act.Name, act.Topic)
		}
		var answers [2]impl.BusLog
		for k := range answers {
			x := impl.RunBus(acts)
			answers[k] = x
			lists = append(lists, stretchOf(x.Replies), stretchOf(x.Deliveries), stretchOf(x.Dead))
			for i, list := range [][]impl.Delivery{x.Deliveries, x.Dead} {
				for _, d := range list {
					texts += checkNewTexts(t, []string{d.Name, d.Topic}, given)
					if i == 1 {
						checkNewTexts(t, []string{d.Name, d.Topic}, deliveryTexts(x.Deliveries))
					}
				}
			}
		}
		checkApart(t, lists)
		runtime.KeepAlive(answers)
	}
	if texts < 1000 {
		t.Errorf("%d texts", texts)
	}
}

func deliveryTexts(list []impl.Delivery) []string {
	var out []string
	for _, d := range list {
		out = append(out, d.Name, d.Topic)
	}
	return out
}
