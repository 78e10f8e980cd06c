package tests

import (
	"reflect"
	"runtime"
	"slices"
	"strconv"
	"sync"
	"testing"

	"loop.example/g00045/impl"
)

// asDone are the calls of a row in its order, done by one thread, each open one with what comes out of it.
func asDone(kind int, h []impl.Call, row []int) []impl.Call {
	var done []impl.Call
	for _, c := range callsAt(h, row) {
		if c.To == -1 {
			c.Ret = wantRet(kind, done, c)
		}
		done = append(done, c)
	}
	return inRow(done)
}

// explainFault: what is wrong with an explanation that is told, asked of the row and of Serial alone.
func explainFault(kind int, h []impl.Call, row []int, isAhead aheadOf) string {
	seen := make([]int, len(h))
	for _, at := range row {
		if at < 0 || at >= len(h) {
			return "no call's number"
		}
		seen[at]++
	}
	for i, c := range h {
		if seen[i] > 1 || seen[i] == 0 && c.To != -1 {
			return "call " + strconv.Itoa(i) + " " + strconv.Itoa(seen[i]) + " times"
		}
	}
	if count, code := impl.Serial(kind, asDone(kind, h, row)); count != len(row) || code != impl.OK {
		return "Serial takes " + strconv.Itoa(count)
	}
	if !keeps(h, row, isAhead) {
		return "the rule is not kept"
	}
	return ""
}

// endedAheadFault: a call that ended ahead of another one's beginning stands ahead of it in a linear row.
func endedAheadFault(h []impl.Call, row []int) string {
	for place, b := range row {
		for _, a := range row[place+1:] {
			if h[a].To != -1 && h[a].To < h[b].From {
				return strconv.Itoa(a) + " behind " + strconv.Itoa(b)
			}
		}
	}
	return ""
}

var aheadRules = []aheadOf{isAheadLinear, isAheadByThreads, isAheadQuiet}

// P17, of right histories of up to ten calls.
func TestExplanationsExplain(t *testing.T) {
	s := newSource()
	for _, kind := range historyKinds {
		open, whole := 0, 0
		for range 1200 {
			g := historyGiven{kind, rightHistory(s, kind, anyShape(s, 10))}
			a := g.answer()
			for i, r := range a.rows() {
				if r.code != impl.OK {
					t.Fatalf("%s: %s", g.show(), a.show())
				}
				if fault := explainFault(kind, g.calls, r.row, aheadRules[i]); fault != "" {
					t.Fatalf("%s: %s: %s", g.show(), a.show(), fault)
				}
				if fault := explainFault(kind, g.calls, a.linear.row, aheadRules[i]); fault != "" {
					t.Fatalf("%s: the linear row by another rule: %s", g.show(), fault)
				}
				if slices.Compare(r.row, a.linear.row) > 0 {
					t.Fatalf("%s: %s is not the least one: the linear one is less", g.show(), r.show())
				}
			}
			if fault := endedAheadFault(g.calls, a.linear.row); fault != "" {
				t.Fatalf("%s: %s: %s", g.show(), a.linear.show(), fault)
			}
			if len(a.linear.row) < len(g.calls) {
				open++
			} else if len(g.calls) > 7 {
				whole++
			}
		}
		if min(open, whole) < 50 {
			t.Errorf("kind %d: %d with open calls left out, %d of many calls", kind, open, whole)
		}
	}
}

// P17: what is told is the least row, and where there is none no order of any choice of the open calls explains, all rows tried.
func TestNoOtherRowIsLess(t *testing.T) {
	s := newSource()
	nones := 0
	for range 3000 {
		g := historyGiven{kind: pick(s, historyKinds)}
		g.calls = rightHistory(s, g.kind, anyShape(s, 5))
		if s.IntN(3) > 0 {
			g.calls = damaged(s, g.calls)
		}
		a := g.answer()
		if a.serialCode != impl.OK {
			continue
		}
		for _, row := range choices(len(g.calls)) {
			for i, r := range a.rows() {
				isLess := r.code != impl.OK || slices.Compare(row, r.row) < 0
				if isLess && explainFault(g.kind, g.calls, row, aheadRules[i]) == "" {
					t.Fatalf("%s: %s, but row %v explains", g.show(), a.show(), row)
				}
			}
		}
		if a.linear.code == impl.ErrNone {
			nones++
		}
	}
	if nones < 50 {
		t.Errorf("%d with none", nones)
	}
}

// choices: all rows of numbers below count, each of them at most once in a row.
func choices(count int) [][]int {
	rows := [][]int{nil}
	for at := 0; at < len(rows); at++ {
		for i := range count {
			if !slices.Contains(rows[at], i) {
				rows = append(rows, append(slices.Clip(rows[at]), i))
			}
		}
	}
	return rows
}

// Times are held against each other alone: where they stand as they stood the rows are the same.
func TestRowsHangOnTheOrderOfTimesAlone(t *testing.T) {
	s := newSource()
	for range 1500 {
		g := anyHistory(s, 8)
		if impl.HistoryOK(g.calls) {
			wide := historyGiven{g.kind, slices.Clone(g.calls)}
			for i, c := range wide.calls {
				wide.calls[i].From = min(c.From, 1<<20)<<40 + 3
				if c.To != -1 {
					wide.calls[i].To = min(c.To, 1<<20)<<40 + 3
				}
			}
			if a, b := g.answer(), wide.answer(); a.show() != b.show() {
				t.Fatalf("%s: %s\nthen\n%s", g.show(), a.show(), b.show())
			}
		}
	}
}

// stackRunFault: what is wrong with the calls of a run of the kit's stack, as those of a stack.
func stackRunFault(t *testing.T, h []impl.Call) string {
	t.Helper()
	row, code := impl.Linear(impl.HkStack, h)
	if code != impl.OK {
		return impl.CodeWord(code)
	}
	return explainFault(impl.HkStack, h, row, isAheadLinear)
}

// P17: each run to the end of the kit's right stack has calls that Linear explains as those of a stack. Broken ones have runs that have not.
func TestRunsOfTheStackAreLinear(t *testing.T) {
	for broken := range 3 {
		p := kitForm{impl.KtStack, 2, broken}.prog(t)
		runs, ends := rowsOneByOne(p, 400000)
		if !ends {
			t.Fatal("the stack's runs do not end")
		}
		wrong := 0
		for _, turns := range runs {
			if broken > 0 && wrong > 0 {
				break
			}
			state, code, _ := impl.Play(p, turns)
			if code != impl.OK || len(state.Calls) != 4 {
				t.Fatalf("%s: %s, %s", toldTurns(turns), impl.CodeWord(code), toldCalls(state.Calls))
			}
			if fault := stackRunFault(t, state.Calls); fault != "" {
				wrong++
				if broken == 0 {
					t.Fatalf("%s: %s: %s", toldTurns(turns), toldCalls(state.Calls), fault)
				}
			}
		}
		if broken > 0 && wrong == 0 {
			t.Errorf("all runs of the broken form %d are linear", broken)
		}
	}
}

func (g historyGiven) roomy() historyGiven {
	return historyGiven{g.kind, roomy(g.calls, impl.Call{Thread: 77, Op: 77})}
}

func (g historyGiven) whole() historyGiven { return historyGiven{g.kind, whole(g.calls)} }

// P1: the calls that are given stay as they were, behind their end too; answers do not hang on what was called ahead.
func TestHistoriesDoNotChangeWhatIsGiven(t *testing.T) {
	s := newSource()
	var all, before []historyGiven
	var first []historyAnswer
	for range 2000 {
		g := anyHistory(s, 10).roomy()
		all, before, first = append(all, g), append(before, g.whole()), append(first, g.answer())
	}
	for i := len(all) - 1; i >= 0; i-- {
		if again := all[i].answer(); !reflect.DeepEqual(again, first[i]) {
			t.Fatalf("%s: %s\nthen\n%s", all[i].show(), first[i].show(), again.show())
		}
		if !reflect.DeepEqual(all[i].whole(), before[i]) {
			t.Fatalf("%s: was changed", all[i].show())
		}
	}
}

// P1: calls at the same time answer as calls one behind the other.
func TestHistoriesAtTheSameTime(t *testing.T) {
	s := newSource()
	var given []historyGiven
	var want []historyAnswer
	for range 200 {
		g := anyHistory(s, 9)
		given, want = append(given, g), append(want, g.answer())
	}
	var workers sync.WaitGroup
	for worker := range 16 {
		workers.Go(func() {
			for i := range given {
				at := (worker*7 + i) % len(given)
				if got := given[at].answer(); !reflect.DeepEqual(got, want[at]) {
					t.Errorf("%s: %s", given[at].show(), got.show())
				}
			}
		})
	}
	workers.Wait()
}

// P1: each row that is answered is a list of its own.
func TestHistoriesAnswersAreNew(t *testing.T) {
	s := newSource()
	for range 300 {
		kind := pick(s, historyKinds)
		h := rightHistory(s, kind, anyShape(s, 10))
		var rows [][]int
		for range 2 {
			for _, explain := range []func(int, []impl.Call) ([]int, int){impl.Linear, impl.ByThreads, impl.Quiet} {
				row, _ := explain(kind, h)
				rows = append(rows, row)
			}
		}
		var lists []stretch
		for _, row := range rows {
			lists = append(lists, stretchOf(row))
		}
		checkApart(t, append(lists, stretchOf(h)))
		before := slices.Clone(rows[3])
		for _, row := range rows[:3] {
			row = row[:cap(row)]
			for i := range row {
				row[i] = 77
			}
		}
		if again, _ := impl.Linear(kind, h); !slices.Equal(rows[3], before) || !slices.Equal(again, before) {
			t.Fatalf("%s: %v and %v, not %v", toldCalls(h), rows[3], again, before)
		}
		runtime.KeepAlive(rows)
	}
}

// P1: whatever is handed in, also wild numbers.
func TestHistoriesOfWildCalls(t *testing.T) {
	s := newSource()
	for range 20000 {
		g := historyGiven{pick(s, anyNumbers), wildCalls(s)}
		if got, want := g.answer(), wantHistoryCode(g.kind, g.calls); got.serialCode != want || got.isOK != (want == impl.OK || want == impl.ErrKind) {
			t.Fatalf("%s: %s, not %s", g.show(), got.show(), impl.CodeWord(want))
		}
	}
}

// P1: an empty list and nil are the same.
func TestHistoriesOfEmptyLists(t *testing.T) {
	for _, kind := range anyNumbers {
		first := historyGiven{kind, nil}.answer()
		for _, empty := range [][]impl.Call{{}, make([]impl.Call, 0, 4)} {
			if again := (historyGiven{kind, empty}).answer(); !reflect.DeepEqual(again, first) {
				t.Errorf("kind %d: %s, then %s", kind, first.show(), again.show())
			}
		}
	}
}
