package tests

import (
	"math"
	"reflect"
	"slices"
	"strconv"
	"strings"
	"testing"

	"loop.example/g00045/impl"
)

func tidySaga(x impl.SagaLog) impl.SagaLog {
	x.Replies, x.Commands, x.Done = tidyList(x.Replies), tidyList(x.Commands), tidyList(x.Done)
	return x
}

func checkSameSaga(t *testing.T, saga []impl.SagaStep, msgs []impl.SagaMsg, want impl.SagaLog) {
	t.Helper()
	if got := impl.RunSaga(saga, msgs); !reflect.DeepEqual(tidySaga(got), tidySaga(want)) {
		t.Fatalf("%s\n%s\n%s, not\n%s", showSaga(saga), showMsgs(msgs), toldSaga(got), toldSaga(want))
	}
}

// checkSaga: the replies, the commands, the state and the steps that are done at the end.
func checkSaga(t *testing.T, saga, msgs, replies, commands, state, done string) {
	t.Helper()
	steps, list := sagaOf(t, saga), msgsOf(t, msgs)
	x := impl.RunSaga(steps, list)
	if want := "ok " + replies + "; " + commands + "; " + state + "; done " + done; toldSaga(x) != want {
		t.Errorf("%s\n%s\n%s, not\n%s", saga, msgs, toldSaga(x), want)
	}
	checkSameSaga(t, steps, list, wantSaga(steps, list))
	if len(x.Replies) == len(list) {
		checkP12(t, steps, list)
	}
}

// checkSagaCode: RunSaga answers that code and nothing else.
func checkSagaCode(t *testing.T, what string, saga []impl.SagaStep, msgs []impl.SagaMsg, want int) {
	t.Helper()
	x := impl.RunSaga(saga, msgs)
	if x.Code != want || x.State != 0 || len(x.Replies)+len(x.Commands)+len(x.Done) > 0 {
		t.Errorf("%s: code %d, state %d, %d replies, %d commands, %d done, not code %d", what, x.Code, x.State, len(x.Replies), len(x.Commands), len(x.Done), want)
	}
}

// wrongSagas: each is none, and none is too long.
func wrongSagas() [][]impl.SagaStep {
	return [][]impl.SagaStep{nil, {}, {{}}, {{Name: "a", Tries: 6}}, {{Name: "a", Tries: 1, Needs: []string{"a"}}}, manySteps(21), manySteps(4096)}
}

func TestRunSagaHowManyMessages(t *testing.T) {
	saga := sagaOf(t, "a! 1; b 1 a")
	msgs := append(msgsOf(t, "done a; done b"), repeated(millions, impl.SagaMsg{Step: "a", Kind: impl.MgDone})...)
	for _, count := range []int{0, 1, 2, 3, 299, 300} {
		x := impl.RunSaga(saga, msgs[:count])
		if x.Code != impl.OK || len(x.Replies) != count || len(x.Done) != min(2, count) || len(x.Commands) != min(2, count+1) {
			t.Errorf("%d messages: %s", count, toldSaga(x))
		}
		for i, code := range x.Replies {
			if i < 2 && code != impl.OK || i >= 2 && code != impl.ErrState {
				t.Errorf("%d messages: reply %d: %d", count, i, code)
			}
		}
		for _, wrong := range wrongSagas() {
			checkSagaCode(t, strconv.Itoa(count)+" messages, no saga", wrong, msgs[:count], impl.ErrBad)
		}
		checkSagaCode(t, strconv.Itoa(count)+" messages, 4097 steps", manySteps(4097), msgs[:count], impl.ErrLong)
	}
	for _, count := range []int{301, 302, 4095, 4096} {
		what := strconv.Itoa(count) + " messages"
		checkSagaCode(t, what, saga, msgs[:count], impl.ErrMany)
		checkSagaCode(t, what+" of nothing", saga, make([]impl.SagaMsg, count), impl.ErrMany)
		for _, wrong := range wrongSagas() {
			checkSagaCode(t, what+", no saga", wrong, msgs[:count], impl.ErrBad)
		}
		checkSagaCode(t, what+", 4097 steps", manySteps(4097), msgs[:count], impl.ErrLong)
	}
	for _, count := range []int{4097, 4098, millions} {
		what := strconv.Itoa(count) + " messages"
		checkSagaCode(t, what, saga, msgs[:count], impl.ErrLong)
		for _, wrong := range append(wrongSagas(), manySteps(4097), manySteps(millions)) {
			checkSagaCode(t, what+", no saga", wrong, msgs[:count], impl.ErrLong)
		}
	}
}

func TestRunSagaBegins(t *testing.T) {
	checkSaga(t, "a 1", "", "", "a/1", "forward", "")
	checkSaga(t, "a 1; b 1; c 1", "", "", "a/1 b/1 c/1", "forward", "")
	checkSaga(t, "c 1; b 1; a 1", "", "", "c/1 b/1 a/1", "forward", "")
	checkSaga(t, "a 5; b! 3 a; c 1; d 2 c; e 1", "", "", "a/1 c/1 e/1", "forward", "")
	checkSaga(t, "a 1; b 1 a; c 1 b; d 1 a", "", "", "a/1", "forward", "")
	saga := manySteps(20)
	if x := impl.RunSaga(saga, nil); toldSaga(x) != "ok ; n0/1; forward; done " {
		t.Error(toldSaga(x))
	}
	for i := range saga {
		saga[i].Needs = nil
	}
	var want []string
	for i := range 20 {
		want = append(want, "n"+strconv.Itoa(i)+"/1")
	}
	if x := impl.RunSaga(saga, []impl.SagaMsg{}); toldSaga(x) != "ok ; "+strings.Join(want, " ")+"; forward; done " {
		t.Error(toldSaga(x))
	}
}

func TestRunSagaForward(t *testing.T) {
	checkSaga(t, "a 1", "done a", "ok", "a/1", "done", "a")
	checkSaga(t, "a 1; b 1 a; c 1 b", "done a; done b; done c", "ok ok ok", "a/1 b/1 c/1", "done", "a b c")
	checkSaga(t, "a 1; b 1; c 1; d 1 c a", "done c", "ok", "a/1 b/1 c/1", "forward", "c")
	checkSaga(t, "a 1; b 1; c 1; d 1 c a", "done c; done a", "ok ok", "a/1 b/1 c/1 d/1", "forward", "c a")
	checkSaga(t, "a 1; b 1; c 1; d 1 c a", "done c; done a; done d; done b", "ok ok ok ok", "a/1 b/1 c/1 d/1", "done", "c a d b")
	// Those that are asked by one message are asked in the order of the list.
	checkSaga(t, "a 1; z 1 a; m 1; b 1 a; c 1 a m; d 1 a", "done m; done a", "ok ok", "a/1 m/1 z/1 b/1 c/1 d/1", "forward", "m a")
	// All Needs have to be done, asked ones are not.
	checkSaga(t, "a 1; b 1 a; c 1 a b; d 1 b", "done a; done b", "ok ok", "a/1 b/1 c/1 d/1", "forward", "a b")
	// Nothing is asked twice.
	checkSaga(t, "a 1; b 1; c 1 a; d 1 b", "done a; done b; done d", "ok ok ok", "a/1 b/1 c/1 d/1", "forward", "a b d")
	// What is done without Undo counts as well.
	checkSaga(t, "a! 1; b 1 a; c! 1 b", "done a; done b; done c", "ok ok ok", "a/1 b/1 c/1", "done", "a b c")
}

// The order in which they were done, whatever the order of the list.
func TestRunSagaDoneInOrder(t *testing.T) {
	saga := sagaOf(t, "a 1; b! 2; c 1; d! 1")
	orders([]string{"a", "b", "c", "d"}, func(names []string) {
		var msgs []impl.SagaMsg
		for i, name := range names {
			msgs = append(msgs, impl.SagaMsg{Step: name, Kind: impl.MgDone})
			x := impl.RunSaga(saga, msgs)
			if !slices.Equal(x.Done, names[:i+1]) || (x.State == impl.SgDone) != (i == 3) || x.State != impl.SgDone && x.State != impl.SgForward {
				t.Fatalf("%s: %s", showMsgs(msgs), toldSaga(x))
			}
		}
	})
}

func TestRunSagaTries(t *testing.T) {
	checkSaga(t, "a 1", "fail a", "ok", "a/1", "undone", "")
	checkSaga(t, "a 2", "fail a", "ok", "a/1 a/2", "forward", "")
	checkSaga(t, "a 2", "fail a; done a", "ok ok", "a/1 a/2", "done", "a")
	checkSaga(t, "a 2", "fail a; fail a", "ok ok", "a/1 a/2", "undone", "")
	checkSaga(t, "a 5", "fail a; fail a; fail a; fail a", "ok ok ok ok", "a/1 a/2 a/3 a/4 a/5", "forward", "")
	checkSaga(t, "a 5", "fail a; fail a; fail a; fail a; done a", "ok ok ok ok ok", "a/1 a/2 a/3 a/4 a/5", "done", "a")
	checkSaga(t, "a 5", "fail a; fail a; fail a; fail a; fail a; fail a", "ok ok ok ok ok state", "a/1 a/2 a/3 a/4 a/5", "undone", "")
	// Tries are a step's own.
	checkSaga(t, "a 2; b 2; c 3 a", "fail a; fail b; done a; fail c; fail c; done b", "ok ok ok ok ok ok", "a/1 b/1 a/2 b/2 c/1 c/2 c/3", "forward", "a b")
	checkSaga(t, "a 1; b 2; c 3", "fail c; fail b; fail c", "ok ok ok", "a/1 b/1 c/1 c/2 b/2 c/3", "forward", "")
	// Tries of doing are none of undoing.
	checkSaga(t, "a! 3; b 1 a", "fail a; fail a; done a; fail b; stuck a; stuck a", "ok ok ok ok ok ok", "a/1 a/2 a/3 b/1 -a/1 -a/2 -a/3", "back", "")
}

// sagaStates: messages that lead each step into a state of its own, by the saga's states that can have it.
var sagaStates = []struct {
	saga, msgs, state string
	idle, asked, done string
	undoing, undone   string
}{
	{"a 2; b 2 a", "", "forward", "b", "a", "", "", ""},
	{"a 2; b 2 a", "fail a", "forward", "b", "a", "", "", ""},
	{"a! 2; b 2 a; c 1 b; d 2", "done a", "forward", "c", "b d", "a", "", ""},
	{"a 1; b! 2; c 1 a; d 2 b; e! 1", "fail a; done b", "back", "a c d", "e", "b", "", ""},
	{"a! 2; b! 2; n 1; f 1; g 1 f", "done a; done b; done n; fail f", "back", "f g", "", "a", "b", "n"},
	{"a! 2; b! 2; n 1; f 1; g 1 f", "done a; done n; done b; fail f; stuck b", "back", "f g", "", "a n", "b", ""},
	{"a! 2; b! 2; n 1; f 1; g 1 f", "done a; done b; done n; fail f; undone b", "back", "f g", "", "", "a", "b n"},
	{"a! 2; b 1 a", "done a; done b", "done", "", "", "a b", "", ""},
	{"a! 2; n 1; f 1; g 1 f", "done a; done n; fail f; undone a", "undone", "f g", "", "", "", "a n"},
	{"a 1; b 2", "fail a; fail b", "undone", "a b", "", "", "", ""},
	{"a! 2; b! 1; c! 1; n 1; f 2; g 1 f", "done a; done b; done c; done n; fail f; fail f; undone c; stuck b", "broken", "f g", "", "a", "b", "c n"},
}

// Each kind of message with each state of its step and of the saga: it is taken just where it fits, and nothing is changed where it does not.
func TestRunSagaWhatFits(t *testing.T) {
	for _, c := range sagaStates {
		saga, ahead := sagaOf(t, c.saga), msgsOf(t, c.msgs)
		before := impl.RunSaga(saga, ahead)
		if toldState(before.State) != c.state || slices.ContainsFunc(before.Replies, func(code int) bool { return code != impl.OK }) {
			t.Fatalf("%s\n%s\n%s, not %s", c.saga, c.msgs, toldSaga(before), c.state)
		}
		isOpen, count := c.state == "forward" || c.state == "back", 0
		for i, names := range []string{c.idle, c.asked, c.done, c.undoing, c.undone} {
			for _, name := range strings.Fields(names) {
				count++
				for kind := impl.MgDone; kind <= impl.MgStuck; kind++ {
					fits := isOpen && (i == 1 && kind <= impl.MgFail || i == 3 && kind >= impl.MgUndone)
					checkFits(t, saga, ahead, impl.SagaMsg{Step: name, Kind: kind}, fits)
				}
				for _, kind := range append([]int{0, 5, 6, -1, -2, -4, math.MinInt, math.MaxInt}, anyNumbers...) {
					if kind < impl.MgDone || kind > impl.MgStuck {
						checkNotTaken(t, saga, ahead, impl.SagaMsg{Step: name, Kind: kind}, impl.ErrKind)
					}
				}
			}
		}
		if count != len(saga) {
			t.Errorf("%s\n%s: %d steps have a state", c.saga, c.msgs, count)
		}
		for _, name := range append([]string{"gone", "A", "aa", longText, tooLong}, notNames()...) {
			for _, kind := range append([]int{7, -7}, anyNumbers...) {
				checkNotTaken(t, saga, ahead, impl.SagaMsg{Step: name, Kind: kind}, impl.ErrNone)
			}
		}
	}
}

func checkFits(t *testing.T, saga []impl.SagaStep, ahead []impl.SagaMsg, m impl.SagaMsg, fits bool) {
	t.Helper()
	if !fits {
		checkNotTaken(t, saga, ahead, m, impl.ErrState)
		return
	}
	msgs := append(slices.Clone(ahead), m)
	if x := impl.RunSaga(saga, msgs); x.Replies[len(ahead)] != impl.OK {
		t.Errorf("%s\n%s: %s", showSaga(saga), showMsgs(msgs), toldSaga(x))
	}
	checkSameSaga(t, saga, msgs, wantSaga(saga, msgs))
}

// checkNotTaken: the message has that code, and all is as it was without it, behind it too.
func checkNotTaken(t *testing.T, saga []impl.SagaStep, ahead []impl.SagaMsg, m impl.SagaMsg, want int) {
	t.Helper()
	behind := []impl.SagaMsg{}
	for _, step := range saga {
		for kind := impl.MgDone; kind <= impl.MgStuck; kind++ {
			behind = append(behind, impl.SagaMsg{Step: step.Name, Kind: kind})
		}
	}
	for _, rest := range [][]impl.SagaMsg{nil, behind} {
		msgs := slices.Concat(ahead, []impl.SagaMsg{m}, rest)
		x := impl.RunSaga(saga, msgs)
		wanted := impl.RunSaga(saga, slices.Concat(ahead, rest))
		wanted.Replies = slices.Insert(slices.Clone(wanted.Replies), len(ahead), want)
		if !reflect.DeepEqual(tidySaga(x), tidySaga(wanted)) {
			t.Errorf("%s\n%s\n%s, not\n%s", showSaga(saga), showMsgs(msgs), toldSaga(x), toldSaga(wanted))
		}
	}
}

func TestRunSagaCodes(t *testing.T) {
	checkSaga(t, "a 1; b 1 a", "done gone; kind 0 gone; kind 5 b; kind -1 a; done b; fail b; undone a; stuck a; kind 9 b", "none none kind kind state state state state kind", "a/1", "forward", "")
	checkSaga(t, "a 1; b 1 a", "done a; done a; fail a; undone a; done b; done b; kind 5 a; done gone", "ok state state state ok state kind none", "a/1 b/1", "done", "a b")
	checkSaga(t, "a! 1", "fail a; done a; undone a; kind 0 a; done q", "ok state state kind none", "a/1", "undone", "")
	checkSaga(t, "a! 1; b 1 a", "done a; fail b; stuck a; stuck a; undone a; done b; kind 5 a; undone gone", "ok ok ok state state state kind none", "a/1 b/1 -a/1", "broken", "")
}

// Messages that come when the saga already goes back.
func TestRunSagaLateMessages(t *testing.T) {
	// Nothing goes back as long as a step is asked.
	checkSaga(t, "a! 1; b! 1; c! 1; d 1", "done a; fail d", "ok ok", "a/1 b/1 c/1 d/1", "back", "a")
	checkSaga(t, "a! 1; b! 1; c! 1; d 1", "done a; fail d; done c", "ok ok ok", "a/1 b/1 c/1 d/1", "back", "a c")
	checkSaga(t, "a! 1; b! 1; c! 1; d 1", "done a; fail d; done c; done b", "ok ok ok ok", "a/1 b/1 c/1 d/1 -b/1", "back", "a c")
	checkSaga(t, "a! 1; b! 1; c! 1; d 1", "done a; fail d; done c; done b; undone b; undone c; undone a", "ok ok ok ok ok ok ok", "a/1 b/1 c/1 d/1 -b/1 -c/1 -a/1", "undone", "")
	checkSaga(t, "a! 1; b! 1; c! 1; d 1", "done a; fail d; done c; undone c; undone a; stuck a; done b", "ok ok ok state state state ok", "a/1 b/1 c/1 d/1 -b/1", "back", "a c")
	// A step that fails then has no further try.
	checkSaga(t, "a! 1; b! 5; d 1", "done a; fail d; fail b", "ok ok ok", "a/1 b/1 d/1 -a/1", "back", "")
	checkSaga(t, "a! 1; b! 5; d 1", "done a; fail b; fail b; fail d; fail b; undone a", "ok ok ok ok ok ok", "a/1 b/1 d/1 b/2 b/3 -a/1", "undone", "")
	checkSaga(t, "a! 5; d 1", "fail d; fail a", "ok ok", "a/1 d/1", "undone", "")
	checkSaga(t, "a! 5; d 1; e 3", "fail d; fail a; fail e; done a; done e", "ok ok ok state state", "a/1 d/1 e/1", "undone", "")
	checkSaga(t, "a! 5; d 1; e 3", "fail d; fail a; done e", "ok ok ok", "a/1 d/1 e/1", "undone", "")
	checkSaga(t, "a! 1; d 2; e 2", "done a; fail d; fail e; fail d; done e", "ok ok ok ok ok", "a/1 d/1 e/1 d/2 e/2 -a/1", "back", "")
	// What is done then lets nothing new be asked.
	checkSaga(t, "a! 1; b 1 a; d 1", "fail d; done a", "ok ok", "a/1 d/1 -a/1", "back", "")
	checkSaga(t, "a 1; b 1 a; d 1", "fail d; done a", "ok ok", "a/1 d/1", "undone", "")
	checkSaga(t, "a! 1; b! 1; c 1 a; e 1 b; d 1", "done a; fail d; done b; fail c", "ok ok ok ok", "a/1 b/1 d/1 c/1 -b/1", "back", "a")
	// All but one are done, the last one fails; or all that are asked are done when it goes back: it is not SgDone.
	checkSaga(t, "a 1; b 1; c 1", "done a; done b; fail c", "ok ok ok", "a/1 b/1 c/1", "undone", "")
	checkSaga(t, "a! 1; b! 1; c 1", "fail c; done a; done b", "ok ok ok", "a/1 b/1 c/1 -b/1", "back", "a")
}

// What was done last goes back first, whatever the order of the list; steps without Undo go at once.
func TestRunSagaGoesBack(t *testing.T) {
	checkSaga(t, "a! 1; b! 1; c! 1; f 1 a b c", "done b; done c; done a; fail f; undone a; undone c; undone b", "ok ok ok ok ok ok ok", "a/1 b/1 c/1 f/1 -a/1 -c/1 -b/1", "undone", "")
	checkSaga(t, "a! 1; b! 1; c! 1; f 1 a b c", "done b; done c; done a; fail f; undone a", "ok ok ok ok ok", "a/1 b/1 c/1 f/1 -a/1 -c/1", "back", "b")
	checkSaga(t, "a! 1; n 1; b! 1; m 1; f 1", "done n; done a; done m; done b; fail f", "ok ok ok ok ok", "a/1 n/1 b/1 m/1 f/1 -b/1", "back", "n a m")
	checkSaga(t, "a! 1; n 1; b! 1; m 1; f 1", "done n; done a; done m; done b; fail f; undone b", "ok ok ok ok ok ok", "a/1 n/1 b/1 m/1 f/1 -b/1 -a/1", "back", "n")
	checkSaga(t, "a! 1; n 1; b! 1; m 1; f 1", "done n; done a; done m; done b; fail f; undone b; undone a", "ok ok ok ok ok ok ok", "a/1 n/1 b/1 m/1 f/1 -b/1 -a/1", "undone", "")
	checkSaga(t, "a! 1; n 1; m 1; k 1; f 1", "done a; done n; done m; done k; fail f", "ok ok ok ok ok", "a/1 n/1 m/1 k/1 f/1 -a/1", "back", "")
	checkSaga(t, "n 1; m 1; k 1; f 1", "done n; done m; done k; fail f", "ok ok ok ok", "n/1 m/1 k/1 f/1", "undone", "")
	checkSaga(t, "n 1; a! 1; f 1", "done a; done n; fail f; undone n; undone a; undone a", "ok ok ok state ok state", "n/1 a/1 f/1 -a/1", "undone", "")
}

func TestRunSagaStuck(t *testing.T) {
	checkSaga(t, "a! 1; f 1", "done a; fail f; stuck a", "ok ok ok", "a/1 f/1 -a/1", "broken", "")
	checkSaga(t, "a! 2; f 1", "done a; fail f; stuck a", "ok ok ok", "a/1 f/1 -a/1 -a/2", "back", "")
	checkSaga(t, "a! 2; f 1", "done a; fail f; stuck a; undone a", "ok ok ok ok", "a/1 f/1 -a/1 -a/2", "undone", "")
	checkSaga(t, "a! 2; f 1", "done a; fail f; stuck a; stuck a; undone a; stuck a", "ok ok ok ok state state", "a/1 f/1 -a/1 -a/2", "broken", "")
	checkSaga(t, "a! 5; f 1", "done a; fail f; stuck a; stuck a; stuck a; stuck a; undone a", "ok ok ok ok ok ok ok", "a/1 f/1 -a/1 -a/2 -a/3 -a/4 -a/5", "undone", "")
	// Done then: what was done ahead of it, in the order in which it was done; it is not, nor is what was undone.
	checkSaga(t, "a! 1; n 1; b! 1; c! 1; m 1; f 1", "done n; done c; done a; done m; done b; fail f; undone b; stuck a", "ok ok ok ok ok ok ok ok", "a/1 n/1 b/1 c/1 m/1 f/1 -b/1 -a/1", "broken", "n c")
	checkSaga(t, "a! 1; n 1; b! 1; f 1", "done n; done a; done b; fail f; stuck b; undone a; done f; fail a", "ok ok ok ok ok state state state", "a/1 n/1 b/1 f/1 -b/1", "broken", "n a")
	// Tries of undoing are a step's own, and begin with 1.
	checkSaga(t, "a! 2; b! 3; f 1", "fail a; fail b; fail b; done a; done b; fail f; stuck b; stuck b; undone b; stuck a; undone a", "ok ok ok ok ok ok ok ok ok ok ok", "a/1 b/1 f/1 a/2 b/2 b/3 -b/1 -b/2 -b/3 -a/1 -a/2", "undone", "")
}

// Twenty steps in a row, as often tried as they may be, there and back.
func TestRunSagaOfManySteps(t *testing.T) {
	saga := manySteps(20)
	var msgs []impl.SagaMsg
	add := func(name string, count, kind, last int) {
		msgs = append(msgs, repeated(count, impl.SagaMsg{Step: name, Kind: kind})...)
		msgs = append(msgs, impl.SagaMsg{Step: name, Kind: last})
	}
	commands := 0
	for i, step := range saga {
		saga[i].Undo = true
		commands += 2 * step.Tries
		if i < 19 {
			add(step.Name, step.Tries-1, impl.MgFail, impl.MgDone)
		}
	}
	add(saga[19].Name, saga[19].Tries-1, impl.MgFail, impl.MgFail)
	for i := 18; i >= 0; i-- {
		add(saga[i].Name, saga[i].Tries-1, impl.MgStuck, impl.MgUndone)
	}
	x := impl.RunSaga(saga, msgs)
	if x.State != impl.SgUndone || len(x.Commands) != commands-saga[19].Tries || slices.Max(x.Replies) != impl.OK || len(x.Done) > 0 {
		t.Errorf("%s", toldSaga(x))
	}
	checkSameSaga(t, saga, msgs, wantSaga(saga, msgs))
	checkP12(t, saga, msgs)
}
