package tests

import (
	"cmp"
	"math"
	"slices"
	"strconv"
	"strings"
	"testing"

	"loop.example/g00045/impl"
)

var historyKinds = []int{1, 2, 3, 4, 5, 6, 7}

// callsOf reads what toldCalls tells; no number of it but arguments and answers is below 0. Times that are left out are 0.
func callsOf(t *testing.T, text string) []impl.Call {
	t.Helper()
	var out []impl.Call
	for _, word := range strings.Fields(text) {
		what, times, isTimed := strings.Cut(word, "@")
		if !isTimed {
			times = "0-0"
		}
		what, ret, isEnded := strings.Cut(what, "=")
		thread, what, _ := strings.Cut(what, ":")
		op, arg, _ := strings.Cut(what, "(")
		from, to, hasTo := strings.Cut(times, "-")
		c := impl.Call{Thread: numberOf(t, thread), Op: numberOf(t, op), Arg: numberOf(t, strings.TrimSuffix(arg, ")")), From: numberOf(t, from), To: -1}
		if isEnded {
			c.Ret = numberOf(t, ret)
		}
		if hasTo {
			c.To = numberOf(t, to)
		}
		out = append(out, c)
	}
	return out
}

func (g historyGiven) show() string {
	if len(g.calls) > 20 {
		return "kind " + strconv.Itoa(g.kind) + ", " + strconv.Itoa(len(g.calls)) + " calls"
	}
	return "kind " + strconv.Itoa(g.kind) + ", " + toldCalls(g.calls)
}

func (r oneRow) show() string {
	if r.code != impl.OK {
		return strings.TrimSpace(impl.CodeWord(r.code) + " " + toldInts(r.row))
	}
	return "[" + toldInts(r.row) + "]"
}

func (a historyAnswer) show() string {
	return strconv.FormatBool(a.isOK) + "; Serial " + strconv.Itoa(a.serial) + " " + impl.CodeWord(a.serialCode) +
		"; Linear " + a.linear.show() + "; ByThreads " + a.byThreads.show() + "; Quiet " + a.isQuiet.show()
}

// shape is how a history is drawn.
type shape struct {
	calls, threads int
	args           []int
	// a call begins at most pause behind the end of the one ahead of it of its thread, and lasts at most lasts
	pause, lasts int
}

var callArgs = [][]int{{1}, {0, 1}, {1, 2, 3}, {-1, 0, 1, 2}, {5, 6, 7, 8, 9}, {math.MaxInt, 1, math.MinInt, -1}}

func anyShape(s source, most int) shape {
	return shape{calls: s.IntN(most + 1), threads: 1 + s.IntN(4), args: pick(s, callArgs), pause: s.IntN(4), lasts: s.IntN(7)}
}

// rightHistory draws calls that took effect one behind the other, each at a moment between its From and its To: those that are open perhaps, the others each.
func rightHistory(s source, kind int, f shape) []impl.Call {
	h := make([]impl.Call, f.calls)
	effects := make([]float64, f.calls)
	var ends [4]int
	last := map[int]int{}
	for i := range h {
		thread := s.IntN(f.threads)
		from := ends[thread] + s.IntN(f.pause+1)
		to := from + s.IntN(f.lasts+1)
		h[i] = impl.Call{Thread: thread, Op: 1 + s.IntN(lastOps[kind]), Arg: pick(s, f.args), From: from, To: to}
		effects[i] = float64(from) + s.Float64()*float64(to-from)
		ends[thread], last[thread] = to, i
	}
	order := effectOrder(effects)
	for _, at := range last {
		if s.IntN(3) == 0 {
			h[at].To = -1
			if s.IntN(2) == 0 {
				order = slices.DeleteFunc(order, func(i int) bool { return i == at })
			}
		}
	}
	for place, at := range order {
		if h[at].To != -1 {
			h[at].Ret = wantRet(kind, callsAt(h, order[:place]), h[at])
		}
	}
	return h
}

func effectOrder(effects []float64) []int {
	order := make([]int, len(effects))
	for i := range order {
		order[i] = i
	}
	slices.SortStableFunc(order, func(a, b int) int { return cmp.Compare(effects[a], effects[b]) })
	return order
}

// damaged turns one thing of a history.
func damaged(s source, h []impl.Call) []impl.Call {
	h = slices.Clone(h)
	if len(h) == 0 {
		return h
	}
	c := &h[s.IntN(len(h))]
	other := h[s.IntN(len(h))]
	switch s.IntN(9) {
	case 0, 1, 2:
		c.Ret = pick(s, []int{-1, 0, 1, 2, other.Ret, other.Arg})
	case 3:
		c.Arg = pick(s, []int{0, 1, 2, other.Arg})
	case 4:
		c.Op = 1 + s.IntN(3)
	case 5:
		c.From = pick(s, []int{0, other.From, other.To, c.To})
	case 6:
		c.To = pick(s, []int{-1, c.From, other.From, other.To, math.MaxInt})
	case 7:
		c.Thread = s.IntN(4)
	case 8:
		c.To, c.Ret = -1, 0
	}
	return h
}

// moved puts all calls of one thread at other times.
func moved(s source, h []impl.Call) []impl.Call {
	h = slices.Clone(h)
	thread, by := s.IntN(4), 1+s.IntN(12)
	for i, c := range h {
		if c.Thread == thread {
			h[i].From += by
		}
		if c.Thread == thread && c.To != -1 {
			h[i].To += by
		}
	}
	return h
}

// wildCalls are calls of any numbers.
func wildCalls(s source) []impl.Call {
	h := make([]impl.Call, s.IntN(13))
	for i := range h {
		h[i] = impl.Call{Thread: pick(s, anyNumbers), Op: pick(s, anyNumbers), Arg: pick(s, anyNumbers), Ret: pick(s, anyNumbers), From: pick(s, anyNumbers), To: pick(s, anyNumbers)}
	}
	return h
}

// anyHistory draws histories of at most so many calls: right ones, ones that are right but for a few things, and wild ones.
func anyHistory(s source, most int) historyGiven {
	g := historyGiven{kind: pick(s, historyKinds)}
	g.calls = rightHistory(s, g.kind, anyShape(s, most))
	switch s.IntN(12) {
	case 0:
		g.kind = pick(s, anyNumbers)
	case 1:
		g.calls = wildCalls(s)
	case 2, 3:
		g.kind = pick(s, historyKinds)
	case 4, 5:
		g.calls = damaged(s, g.calls)
	case 6, 7:
		g.calls = moved(s, g.calls)
	case 8:
		g.calls = damaged(s, damaged(s, g.calls))
	}
	return g
}

// atOneMoment are calls that all begin and end together: no rule but that by threads puts one of them ahead of another one.
func atOneMoment(h []impl.Call) []impl.Call {
	h = slices.Clone(h)
	for i := range h {
		h[i].Thread, h[i].From, h[i].To = i%4, 5, 5
	}
	return h
}

// inRow are calls that one thread does one behind the other.
func inRow(h []impl.Call) []impl.Call {
	h = slices.Clone(h)
	for i := range h {
		h[i].Thread, h[i].From, h[i].To = 0, i, i
	}
	return h
}
