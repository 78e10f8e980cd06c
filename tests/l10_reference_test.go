package tests

import (
	"slices"
	"strings"

	"loop.example/g00045/impl"
)

// The second telling of chapter 11: one row of all messages that wait, as they came, gone through from its beginning for each delivery; all that was ever kept, of which the last one of a topic counts; a # tried with each number of parts.

func isOnePattern(text string) bool {
	parts := strings.Split(text, ".")
	for i, part := range parts {
		isLast := i == len(parts)-1
		if i == 5 || part != "*" && !(part == "#" && isLast) && !impl.NameOK(part) {
			return false
		}
	}
	return true
}

func wantMatch(pattern, topic string) bool {
	if len(pattern) > 65536 || len(topic) > 65536 || !isOnePattern(pattern) || !isOnePath(topic) {
		return false
	}
	return likeParts(strings.Split(pattern, "."), strings.Split(topic, "."))
}

func likeParts(wanted, parts []string) bool {
	if len(wanted) == 0 {
		return len(parts) == 0
	}
	if wanted[0] == "#" {
		for i := range len(parts) + 1 {
			if likeParts(wanted[1:], parts[i:]) {
				return true
			}
		}
		return false
	}
	return len(parts) > 0 && (wanted[0] == "*" || wanted[0] == parts[0]) && likeParts(wanted[1:], parts[1:])
}

// oneMessage: of the act that sent it, to the listener of the act to.
type oneMessage struct {
	sent impl.BusAct
	to   *impl.BusAct
	try  int
}

type oneBus struct {
	listeners []*impl.BusAct
	broken    []*impl.BusAct
	kept      []impl.BusAct
	row       []oneMessage
	log       impl.BusLog
}

func (b *oneBus) find(name string) *impl.BusAct {
	for _, l := range b.listeners {
		if l.Name == name {
			return l
		}
	}
	return nil
}

func (b *oneBus) isBroken(l *impl.BusAct) bool { return slices.Contains(b.broken, l) }

// keptOnes: the last one of each topic, in the order of topics.
func (b *oneBus) keptOnes() []impl.BusAct {
	var numbers []int
	for i, e := range b.kept {
		if !slices.ContainsFunc(b.kept[i+1:], func(late impl.BusAct) bool { return late.Topic == e.Topic }) {
			numbers = append(numbers, i)
		}
	}
	var out []impl.BusAct
	for _, i := range inPlaces(numbers, func(a, b2 int) bool { return b.kept[a].Topic < b.kept[b2].Topic }) {
		out = append(out, b.kept[i])
	}
	return out
}

func (b *oneBus) listen(act impl.BusAct) int {
	if !impl.NameOK(act.Name) || !isOnePattern(act.Topic) || act.Tries < 1 || act.Tries > 5 {
		return impl.ErrBad
	}
	if b.find(act.Name) != nil {
		return impl.ErrTwice
	}
	if len(b.listeners) >= 40 {
		return impl.ErrMany
	}
	l := &act
	b.listeners = append(b.listeners, l)
	for _, e := range b.keptOnes() {
		if wantMatch(l.Topic, e.Topic) {
			b.row = append(b.row, oneMessage{sent: e, to: l})
		}
	}
	return impl.OK
}

func (b *oneBus) leave(name string) int {
	l := b.find(name)
	if l == nil {
		return impl.ErrNone
	}
	b.listeners = slices.DeleteFunc(b.listeners, func(other *impl.BusAct) bool { return other == l })
	b.row = slices.DeleteFunc(b.row, func(m oneMessage) bool { return m.to == l })
	return impl.OK
}

func (b *oneBus) send(act impl.BusAct) int {
	if !isOnePath(act.Topic) {
		return impl.ErrBad
	}
	if act.Keep {
		b.kept = append(b.kept, act)
	}
	var numbers []int
	for i, l := range b.listeners {
		if wantMatch(l.Topic, act.Topic) {
			numbers = append(numbers, i)
		}
	}
	for _, i := range inPlaces(numbers, func(a, c int) bool {
		x, y := b.listeners[a], b.listeners[c]
		return x.Rank > y.Rank || x.Rank == y.Rank && x.Name < y.Name
	}) {
		b.row = append(b.row, oneMessage{sent: act, to: b.listeners[i]})
	}
	return impl.OK
}

func (b *oneBus) mark(name string, breaks bool) int {
	l := b.find(name)
	if l == nil {
		return impl.ErrNone
	}
	b.broken = slices.DeleteFunc(b.broken, func(other *impl.BusAct) bool { return other == l })
	if breaks {
		b.broken = append(b.broken, l)
	}
	return impl.OK
}

func (b *oneBus) pump(most int) int {
	if most < 0 {
		return impl.ErrBad
	}
	for ; most > 0 && len(b.row) > 0; most-- {
		b.deliver()
	}
	return impl.OK
}

func (b *oneBus) deliver() {
	at := 0
	for i, m := range b.row {
		if m.sent.Rank > b.row[at].sent.Rank {
			at = i
		}
	}
	m := b.row[at]
	b.row = slices.Delete(b.row, at, at+1)
	m.try++
	d := impl.Delivery{Name: m.to.Name, Topic: m.sent.Topic, Num: m.sent.Num, Try: m.try}
	if b.isBroken(m.to) {
		d.Code = impl.ErrFail
	}
	b.log.Deliveries = append(b.log.Deliveries, d)
	if d.Code == impl.OK {
		return
	}
	if m.try == m.to.Tries {
		b.log.Dead = append(b.log.Dead, d)
	} else {
		b.row = append(b.row, m)
	}
}

func (b *oneBus) code(act impl.BusAct) int {
	switch act.Kind {
	case 1:
		return b.listen(act)
	case 2:
		return b.leave(act.Name)
	case 3:
		return b.send(act)
	case 4:
		return b.mark(act.Name, true)
	case 5:
		return b.mark(act.Name, false)
	case 6:
		return b.pump(act.Num)
	}
	return impl.ErrKind
}

func (b *oneBus) do(act impl.BusAct) {
	b.log.Replies = append(b.log.Replies, b.code(act))
	b.log.Left = len(b.row)
}

func wantBus(acts []impl.BusAct) impl.BusLog {
	switch {
	case len(acts) > 4096:
		return impl.BusLog{Code: impl.ErrLong}
	case len(acts) > 300:
		return impl.BusLog{Code: impl.ErrMany}
	}
	b := &oneBus{}
	for _, act := range acts {
		b.do(act)
	}
	return b.log
}
