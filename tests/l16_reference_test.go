package tests

import (
	"slices"

	"loop.example/g00045/impl"
)

// The second telling of chapter 17: there are no objects in it. What a call must answer is told by the calls ahead of it alone; all rows of calls that answer so are written down, those that keep a rule are left, each pair of calls asked, and the least of them is told.

// lastOps: the operations of the kinds, from 1 on.
var lastOps = map[int]int{1: 2, 2: 2, 3: 2, 4: 2, 5: 2, 6: 3, 7: 1}

// wantRet: what comes out of a call of a kind that has these ahead of it.
func wantRet(kind int, ahead []impl.Call, c impl.Call) int {
	switch kind {
	case impl.HkRegister:
		return wantWritten(ahead, c)
	case impl.HkCounter:
		sum := 0
		for _, a := range ahead {
			if a.Op == 1 {
				sum += a.Arg
			}
		}
		return sum
	case impl.HkStack:
		return wantPopped(ahead, c)
	case impl.HkQueue:
		return wantTaken(ahead, c)
	case impl.HkLock:
		isTaken := len(ahead) > 0 && ahead[len(ahead)-1].Op == 1
		return map[bool]int{true: 1}[isTaken == (c.Op == 2)]
	case impl.HkSet:
		return wantMember(ahead, c)
	}
	return append(slices.Clone(ahead), c)[0].Arg
}

func wantWritten(ahead []impl.Call, c impl.Call) int {
	if c.Op == 1 {
		return 0
	}
	for _, a := range slices.Backward(ahead) {
		if a.Op == 1 {
			return a.Arg
		}
	}
	return 0
}

// wantPopped: a push is there until a pop has found it as the last one that was there.
func wantPopped(ahead []impl.Call, c impl.Call) int {
	if c.Op == 1 {
		return 0
	}
	isGone := make([]bool, len(ahead))
	found := -1
	for at, a := range append(slices.Clone(ahead), c) {
		if a.Op == 1 {
			continue
		}
		found = at - 1
		for found >= 0 && (ahead[found].Op != 1 || isGone[found]) {
			found--
		}
		if found >= 0 {
			isGone[found] = true
		}
	}
	if found < 0 {
		return -1
	}
	return ahead[found].Arg
}

// wantTaken: of the takes that found something the first one has the first put, and so on.
func wantTaken(ahead []impl.Call, c impl.Call) int {
	if c.Op == 1 {
		return 0
	}
	var puts []int
	takes := 0
	for _, a := range ahead {
		if a.Op == 1 {
			puts = append(puts, a.Arg)
		} else if takes < len(puts) {
			takes++
		}
	}
	if takes == len(puts) {
		return -1
	}
	return puts[takes]
}

func wantMember(ahead []impl.Call, c impl.Call) int {
	isThere := false
	for _, a := range ahead {
		if a.Arg == c.Arg && a.Op != 3 {
			isThere = a.Op == 1
		}
	}
	if isThere == (c.Op != 1) {
		return 1
	}
	return 0
}

func wantHistoryOK(h []impl.Call) bool {
	if len(h) > 10 {
		return false
	}
	for at, c := range h {
		isRight := slices.Contains([]int{0, 1, 2, 3}, c.Thread) && c.From > -1
		if c.To == -1 {
			isRight = isRight && c.Ret == 0
		} else {
			isRight = isRight && c.From <= c.To
		}
		for _, ahead := range h[:at] {
			if ahead.Thread == c.Thread && (ahead.To == -1 || ahead.To > c.From) {
				isRight = false
			}
		}
		if !isRight {
			return false
		}
	}
	return true
}

func wantHistoryCode(kind int, h []impl.Call) int {
	if len(h) > 4096 {
		return impl.ErrLong
	}
	if !wantHistoryOK(h) {
		return impl.ErrBad
	}
	last, isKind := lastOps[kind]
	for _, c := range h {
		if c.Op < 1 || c.Op > last {
			return impl.ErrKind
		}
	}
	if !isKind {
		return impl.ErrKind
	}
	return impl.OK
}

func wantSerial(kind int, h []impl.Call) (int, int) {
	if code := wantHistoryCode(kind, h); code != impl.OK {
		return 0, code
	}
	count := 0
	for count < len(h) && (h[count].To == -1 || h[count].Ret == wantRet(kind, h[:count], h[count])) {
		count++
	}
	return count, impl.OK
}

// aheadOf tells of two calls of a history, by their numbers, whether the one stands ahead of the other one.
type aheadOf func(h []impl.Call, a, b int) bool

func isAheadLinear(h []impl.Call, a, b int) bool {
	return h[a].To != -1 && h[a].To < h[b].From || isAheadByThreads(h, a, b)
}

func isAheadByThreads(h []impl.Call, a, b int) bool { return h[a].Thread == h[b].Thread && a < b }

func isAheadQuiet(h []impl.Call, a, b int) bool {
	for _, m := range moments(h) {
		if h[a].To != -1 && h[a].To <= m && h[b].From > m && !slices.ContainsFunc(h, func(c impl.Call) bool {
			return c.From <= m && (c.To == -1 || c.To > m)
		}) {
			return true
		}
	}
	return false
}

// moments: each number at which anything is other than at the one ahead of it, and the one ahead of it.
func moments(h []impl.Call) []int {
	var out []int
	for _, c := range h {
		out = append(out, c.From-1, c.From)
		if c.To > 0 {
			out = append(out, c.To-1, c.To)
		}
	}
	return out
}

// allRows: the rows of calls, done as they answer, with all that are not open, the shorter ones ahead of those that go on behind them.
func allRows(kind int, h []impl.Call) [][]int {
	list := [][]int{nil}
	var out [][]int
	for at := 0; at < len(list); at++ {
		if hasAll(h, list[at]) {
			out = append(out, list[at])
		}
		for i, c := range h {
			if !slices.Contains(list[at], i) && (c.To == -1 || c.Ret == wantRet(kind, callsAt(h, list[at]), c)) {
				list = append(list, append(slices.Clip(list[at]), i))
			}
		}
	}
	return out
}

func hasAll(h []impl.Call, row []int) bool {
	for i, c := range h {
		if c.To != -1 && !slices.Contains(row, i) {
			return false
		}
	}
	return true
}

func callsAt(h []impl.Call, row []int) []impl.Call {
	var out []impl.Call
	for _, at := range row {
		out = append(out, h[at])
	}
	return out
}

func keeps(h []impl.Call, row []int, isAhead aheadOf) bool {
	for a := range h {
		for b := range h {
			atA, atB := slices.Index(row, a), slices.Index(row, b)
			if isAhead(h, a, b) && atB >= 0 && (atA > atB || atA < 0 && h[a].To != -1) {
				return false
			}
		}
	}
	return true
}

// wantLeast: of rows that explain a history the least one that keeps a rule.
func wantLeast(h []impl.Call, rows [][]int, isAhead aheadOf) ([]int, int) {
	var least []int
	code := impl.ErrNone
	for _, row := range rows {
		if (code != impl.OK || slices.Compare(row, least) < 0) && keeps(h, row, isAhead) {
			least, code = row, impl.OK
		}
	}
	return least, code
}

// oneRow: what a call of the chapter answers that explains.
type oneRow struct {
	row  []int
	code int
}

// historyAnswer: what the calls of the chapter answer.
type historyAnswer struct {
	isOK                       bool
	serial, serialCode         int
	linear, byThreads, isQuiet oneRow
}

func (a historyAnswer) rows() []oneRow { return []oneRow{a.linear, a.byThreads, a.isQuiet} }

type historyGiven struct {
	kind  int
	calls []impl.Call
}

func rowAnswer(row []int, code int) oneRow { return oneRow{tidyList(row), code} }

func (g historyGiven) answer() historyAnswer {
	var a historyAnswer
	a.isOK = impl.HistoryOK(g.calls)
	a.serial, a.serialCode = impl.Serial(g.kind, g.calls)
	a.linear = rowAnswer(impl.Linear(g.kind, g.calls))
	a.byThreads = rowAnswer(impl.ByThreads(g.kind, g.calls))
	a.isQuiet = rowAnswer(impl.Quiet(g.kind, g.calls))
	return a
}

func (g historyGiven) want() historyAnswer {
	var a historyAnswer
	a.isOK = wantHistoryOK(g.calls)
	a.serial, a.serialCode = wantSerial(g.kind, g.calls)
	if code := wantHistoryCode(g.kind, g.calls); code != impl.OK {
		none := oneRow{nil, code}
		a.linear, a.byThreads, a.isQuiet = none, none, none
		return a
	}
	rows := allRows(g.kind, g.calls)
	a.linear = rowAnswer(wantLeast(g.calls, rows, isAheadLinear))
	a.byThreads = rowAnswer(wantLeast(g.calls, rows, isAheadByThreads))
	a.isQuiet = rowAnswer(wantLeast(g.calls, rows, isAheadQuiet))
	return a
}
