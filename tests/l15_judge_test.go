package tests

import (
	"math"
	"reflect"
	"slices"
	"testing"

	"loop.example/g00045/impl"
)

func showVerdict(v impl.Verdict, code int) string {
	word := "broken"
	if v.Good {
		word = "good"
	}
	return impl.CodeWord(code) + " " + word + " " + toldInts([]int{v.States}) + " " + toldTurns(v.Turns)
}

func isSameVerdict(a, b impl.Verdict) bool {
	return a.Good == b.Good && a.States == b.States && slices.Equal(a.Turns, b.Turns)
}

func checkJudge(t *testing.T, f kitForm, most int, want impl.Verdict, wantCode int) {
	t.Helper()
	v, code := impl.Judge(f.kind, f.threads, f.broken, most)
	if code != wantCode || !isSameVerdict(v, want) {
		t.Errorf("%+v, most %d: %s\nnot %s", f, most, showVerdict(v, code), showVerdict(want, wantCode))
	}
}

// All that Judge tells is told by Explore, Find and FindEnd: the second telling of those, and the program's own.
func TestJudgeEachForm(t *testing.T) {
	counts := map[int]int{}
	for _, f := range allForms() {
		want, code := wantJudge(f.kind, f.threads, f.broken, impl.MaxStates)
		checkJudge(t, f, impl.MaxStates, want, code)
		counts[code]++
		if code != impl.OK {
			continue
		}
		p := f.prog(t)
		r, code := impl.Explore(p, impl.MaxStates)
		if code != impl.OK || r.States != want.States {
			t.Errorf("%+v: Explore %s %d, not %d", f, impl.CodeWord(code), r.States, want.States)
		}
		if turns, code := ownWrong(f, p, r); !slices.Equal(turns, want.Turns) || want.Good != (code == impl.ErrNone) {
			t.Errorf("%+v: found %s %s, not %s", f, impl.CodeWord(code), toldTurns(turns), toldTurns(want.Turns))
		}
	}
	if counts[impl.OK] != 62 || counts[impl.ErrFuel] != 2 {
		t.Errorf("%v", counts)
	}
}

// ownWrong: the first of bad, stuck, hung that there is, else the first end that is not right, by the other calls' answers.
func ownWrong(f kitForm, p impl.Prog, r impl.Report) ([]impl.Turn, int) {
	for i, count := range []int{r.Bad, r.Stuck, r.Hung} {
		if count > 0 {
			return impl.Find(p, impl.MaxStates, i+1)
		}
	}
	for _, e := range r.Ends {
		if !f.isRight(e) {
			return impl.FindEnd(p, impl.MaxStates, e)
		}
	}
	return nil, impl.ErrNone
}

// By hand: one of each way to be broken.
func TestJudgeByHand(t *testing.T) {
	for _, c := range []struct {
		f      kitForm
		states int
		turns  string
	}{
		// An end that is not right: the second thread has the lock, and reads what was there ahead of the first one.
		{kitForm{impl.KtSpin, 2, 1}, 44, "0 0 0 0 0 1 1 1:1 1 1"},
		{kitForm{impl.KtSpin, 2, 2}, 44, "0 0 0 0 0 1 1 1:1 1 1"},
		{kitForm{impl.KtTicket, 2, 1}, 35, "0 0 0 0 0 1 1 1:1 1 1"},
		// Stuck: the lock is kept.
		{kitForm{impl.KtSpin, 2, 3}, 22, "0 0 0 0 1 1"},
		{kitForm{impl.KtSpin, 3, 3}, 89, "0 0 0 0 1 1 2 2"},
		// Bad: it is known that it is ready, and not what.
		{kitForm{impl.KtOnce, 2, 1}, 74, "0 0 0 0 0 1 1:1"},
		{kitForm{impl.KtRing, 2, 1}, 27, "0 0 0 1 1:1"},
		{kitForm{impl.KtRing, 2, 2}, 27, "0 0 0 1 1:1"},
		{kitForm{impl.KtShared, 2, 3}, 28, "0 1 1 1 1"},
		{kitForm{impl.KtSpin, 1, 0}, 6, ""},
		{kitForm{impl.KtRing, 2, 0}, 13, ""},
	} {
		checkJudge(t, c.f, impl.MaxStates, impl.Verdict{Good: c.turns == "", States: c.states, Turns: turnsOf(t, c.turns)}, impl.OK)
	}
}

// Just as many states as there are will do, one fewer will not; and so it is with most out of its bounds.
func TestJudgeCodes(t *testing.T) {
	wrong := slices.Concat([]int{0, -1, 3001, 3002, 4096, 65536, math.MaxInt, math.MinInt, 1<<32 + 3000, 1<<32 + 1}, []int{-3000, -1 << 32})
	for _, f := range allForms() {
		v, code := impl.Judge(f.kind, f.threads, f.broken, impl.MaxStates)
		for _, most := range wrong {
			checkJudge(t, f, most, impl.Verdict{}, impl.ErrBad)
		}
		checkJudge(t, f, 1, impl.Verdict{}, impl.ErrFuel)
		if code != impl.OK {
			checkJudge(t, f, impl.MaxStates, impl.Verdict{}, impl.ErrFuel)
			continue
		}
		for _, most := range []int{v.States, v.States + 1, min(2*v.States, impl.MaxStates), impl.MaxStates} {
			checkJudge(t, f, most, v, impl.OK)
		}
		for _, most := range []int{v.States - 1, v.States / 2, 2} {
			checkJudge(t, f, most, impl.Verdict{}, impl.ErrFuel)
		}
	}
}

// P16, by the answers alone: each right form is good, and no state of it is wrong.
func TestRightFormsAreGood(t *testing.T) {
	s := newSource()
	for _, f := range rightKinds() {
		v, code := impl.Judge(f.kind, f.threads, 0, impl.MaxStates)
		if code != impl.OK || !v.Good || len(v.Turns) > 0 {
			t.Errorf("%+v: %s", f, showVerdict(v, code))
			continue
		}
		p := f.prog(t)
		r, _ := impl.Explore(p, impl.MaxStates)
		if r.Bad+r.Stuck+r.Hung > 0 || len(r.Ends) == 0 {
			t.Errorf("%+v: %s", f, showReport(r))
		}
		for _, e := range r.Ends {
			if !f.isRight(e) {
				t.Errorf("%+v: an end that is not right: %s", f, toldEnd(e))
			}
		}
		for range 60 {
			turns, _ := anyTurns(s, p, impl.MaxTurns)
			if fault := wrongRow(f, p, turns); fault != "" {
				t.Fatalf("%+v: %s behind %s", f, fault, toldTurns(turns))
			}
		}
	}
}

// wrongRow: what is wrong with the state to which turns lead; empty if nothing is.
func wrongRow(f kitForm, p impl.Prog, turns []impl.Turn) string {
	state, code, _ := impl.Play(p, turns)
	ready, _ := impl.Ready(p, turns)
	switch {
	case code != impl.OK:
		return impl.CodeWord(code)
	case isFound(p, state, ready, impl.FdBad):
		return "bad"
	case isFound(p, state, ready, impl.FdStuck):
		return "stuck"
	case isFound(p, state, ready, impl.FdHung):
		return "hung"
	case len(ready) == 0 && !f.isRight(endIn(p, state)):
		return "an end that is not right"
	}
	return ""
}

// P16, by the answers alone: each broken form with two threads or more is not good, and its turns show it.
func TestBrokenFormsAreNotGood(t *testing.T) {
	faults := map[string]int{}
	fuel := 0
	for _, f := range allForms() {
		if f.broken == 0 || f.threads == 1 {
			continue
		}
		v, code := impl.Judge(f.kind, f.threads, f.broken, impl.MaxStates)
		if code == impl.ErrFuel && isNoVerdict(v) {
			fuel++
			continue
		}
		fault := wrongRow(f, f.prog(t), v.Turns)
		if code != impl.OK || v.Good || fault == "" || len(v.Turns) == 0 {
			t.Errorf("%+v: %s: %s", f, showVerdict(v, code), fault)
		}
		faults[fault]++
		// No shorter beginning of them shows it.
		for end := range v.Turns {
			if fault := wrongRow(f, f.prog(t), v.Turns[:end]); fault != "" {
				t.Errorf("%+v: %s behind %d turns of %s", f, fault, end, toldTurns(v.Turns))
			}
		}
	}
	if fuel != 2 || faults["bad"] < 15 || faults["stuck"] != 2 || faults["an end that is not right"] < 10 || len(faults) != 3 {
		t.Errorf("%v, %d with too many states", faults, fuel)
	}
}

// A thread that is alone shares nothing: none of its broken forms shows.
func TestBrokenFormsOfOneThread(t *testing.T) {
	count := 0
	for _, f := range allForms() {
		if f.threads > 1 || f.broken == 0 {
			continue
		}
		count++
		v, code := impl.Judge(f.kind, 1, f.broken, impl.MaxStates)
		r, _ := impl.Explore(f.prog(t), impl.MaxStates)
		if code != impl.OK || !v.Good || v.States != r.States || len(v.Turns) > 0 || len(r.Ends) != 1 {
			t.Errorf("%+v: %s, %s", f, showVerdict(v, code), showReport(r))
		}
	}
	if count != 8 {
		t.Errorf("%d forms", count)
	}
}

// Forms that come to no end within MaxStates have as many states as they have: the second telling says so, too.
func TestJudgeOfTooManyStates(t *testing.T) {
	for _, f := range []kitForm{{impl.KtOnce, 3, 3}, {impl.KtBarrier, 3, 1}} {
		w := worldOf(f.prog(t), impl.MaxStates, sightNames)
		v, code := impl.Judge(f.kind, f.threads, f.broken, impl.MaxStates)
		if w != nil || code != impl.ErrFuel || !reflect.DeepEqual(v, impl.Verdict{}) {
			t.Errorf("%+v: %d states, %s", f, len(w), showVerdict(v, code))
		}
	}
}
