package tests

import (
	"math"
	"slices"
	"strconv"
	"strings"
	"testing"

	"loop.example/g00045/impl"
)

func TestSagaConstants(t *testing.T) {
	if impl.MaxSteps != 20 || impl.CmDo != 1 || impl.CmUndo != 2 {
		t.Errorf("MaxSteps %d, commands %d, %d", impl.MaxSteps, impl.CmDo, impl.CmUndo)
	}
	if impl.MgDone != 1 || impl.MgFail != 2 || impl.MgUndone != 3 || impl.MgStuck != 4 {
		t.Errorf("messages %d, %d, %d, %d", impl.MgDone, impl.MgFail, impl.MgUndone, impl.MgStuck)
	}
	if impl.SgForward != 1 || impl.SgBack != 2 || impl.SgDone != 3 || impl.SgUndone != 4 || impl.SgBroken != 5 {
		t.Errorf("states %d, %d, %d, %d, %d", impl.SgForward, impl.SgBack, impl.SgDone, impl.SgUndone, impl.SgBroken)
	}
}

// checkIsSaga: SagaOK and the codes of the other two, which are ErrBad just where it is no saga.
func checkIsSaga(t *testing.T, what string, saga []impl.SagaStep, want bool) {
	t.Helper()
	code := impl.OK
	switch {
	case len(saga) > impl.MaxList:
		code = impl.ErrLong
	case !want:
		code = impl.ErrBad
	}
	if got := impl.SagaOK(saga); got != want || isOneSaga(saga) != want {
		t.Errorf("%s: %s: SagaOK %t, not %t", what, clipped(showSaga(saga)), got, want)
	}
	if x := impl.RunSaga(saga, nil); x.Code != code || code != impl.OK && (x.State != 0 || len(x.Replies)+len(x.Commands)+len(x.Done) > 0) {
		t.Errorf("%s: %s: RunSaga %s, not code %d", what, clipped(showSaga(saga)), toldSaga(x), code)
	}
	if state, done, got := impl.SagaEnds(saga, nil, nil); got != code || code != impl.OK && (state != 0 || len(done) > 0) {
		t.Errorf("%s: %s: SagaEnds %d %v %d, not code %d", what, clipped(showSaga(saga)), state, done, got, code)
	}
}

// manySteps: a row of that many, each of which needs the one ahead of it.
func manySteps(count int) []impl.SagaStep {
	out := make([]impl.SagaStep, count)
	for i := range out {
		out[i] = impl.SagaStep{Name: "n" + strconv.Itoa(i), Undo: i%2 == 0, Tries: 1 + i%5}
		if i > 0 {
			out[i].Needs = []string{out[i-1].Name}
		}
	}
	return out
}

func TestSagaOKHowManySteps(t *testing.T) {
	checkIsSaga(t, "nil", nil, false)
	checkIsSaga(t, "empty", []impl.SagaStep{}, false)
	steps := manySteps(millions)
	for _, count := range []int{0, 1, 2, 19, 20, 21, 22, 300, 301, 4095, 4096, 4097, 4098, millions} {
		checkIsSaga(t, strconv.Itoa(count)+" steps", steps[:count], 1 <= count && count <= 20)
		checkIsSaga(t, strconv.Itoa(count)+" steps of nothing", make([]impl.SagaStep, count), false)
	}
}

// someSagas puts a step at each place among others.
func someSagas(step impl.SagaStep) [][]impl.SagaStep {
	x, y := impl.SagaStep{Name: "x", Tries: 1}, impl.SagaStep{Name: "y", Needs: []string{"x"}, Undo: true, Tries: 5}
	return [][]impl.SagaStep{{step}, {step, x, y}, {x, step, y}, {x, y, step}}
}

func TestSagaOKNames(t *testing.T) {
	for _, name := range rightNames {
		for _, saga := range someSagas(impl.SagaStep{Name: name, Tries: 1}) {
			checkIsSaga(t, "name", saga, true)
		}
	}
	for _, name := range append(notNames(), longText, tooLong) {
		for _, saga := range someSagas(impl.SagaStep{Name: name, Tries: 1}) {
			checkIsSaga(t, "no name", saga, false)
		}
	}
}

func TestSagaOKNamesTwice(t *testing.T) {
	for text, want := range map[string]bool{
		"a 1; a 1":             false,
		"a 1; b 1; a! 2 b":     false,
		"a 1; b 1; b 1 a":      false,
		"a 1; A 1; aa 1; a1 1": true,
		"e 1; é 1; E 1":        true,
		"a 1; b 1; c 1; b 1":   false,
	} {
		checkIsSaga(t, "twice", sagaOf(t, text), want)
	}
	for i := range 20 {
		for k := range i {
			saga := manySteps(20)
			saga[i].Name = saga[k].Name
			checkIsSaga(t, "step "+strconv.Itoa(i)+" named as step "+strconv.Itoa(k), saga, false)
		}
	}
}

func TestSagaOKNeeds(t *testing.T) {
	for text, want := range map[string]bool{
		"a 1 a":                       false,
		"a 1; b 1 b":                  false,
		"a 1 b; b 1":                  false,
		"a 1 b; b 1 a":                false,
		"a 1; b 1 c; c 1":             false,
		"a 1; b 1 gone":               false,
		"a 1; b 1 A":                  false,
		"a 1; b 1 a":                  true,
		"a 1; b 1 a a":                false,
		"a 1; b 1; c 1 a b":           true,
		"a 1; b 1; c 1 b a":           true,
		"a 1; b 1; c 1 a b a":         false,
		"a 1; b 1; c 1; d 1 a b b":    false,
		"a 1; b 1; c 1; d 1 a b d":    false,
		"a 1; b 1; c 1; d 1 a b gone": false,
		"a 1; b 1 a; c 1 a b; d 1 c":  true,
	} {
		checkIsSaga(t, "needs", sagaOf(t, text), want)
	}
	for _, needs := range [][]string{{""}, {"a", ""}, {"", "a"}, {"", ""}, {longText}, {tooLong}, {"a", tooLong}, {"\xff"}, {"when"}, repeated(millions, "a"), repeated(millions, "b"), repeated(millions, "")} {
		saga := []impl.SagaStep{{Name: "a", Tries: 1}, {Name: "b", Tries: 1}, {Name: "c", Tries: 1, Needs: needs}, {Name: "d", Tries: 1}}
		checkIsSaga(t, "needs", saga, false)
		checkIsSaga(t, "needs of the first one", saga[2:], false)
	}
	for i := range 20 {
		saga := manySteps(20)
		for k := range i {
			saga[i].Needs = append(saga[i].Needs, saga[k].Name)
		}
		saga[i].Needs = saga[i].Needs[min(1, i):]
		checkIsSaga(t, "all that are ahead", saga, true)
		for k := i; k < 20; k++ {
			late := slices.Clone(saga)
			late[i].Needs = append(slices.Clone(saga[i].Needs), saga[k].Name)
			checkIsSaga(t, "one that is not ahead", late, false)
		}
	}
}

func TestSagaOKTries(t *testing.T) {
	for _, tries := range append([]int{0, 1, 2, 3, 4, 5, 6, 7, -5, math.MinInt, math.MaxInt}, anyNumbers...) {
		for _, saga := range someSagas(impl.SagaStep{Name: "a", Tries: tries}) {
			checkIsSaga(t, strconv.Itoa(tries)+" tries", saga, 1 <= tries && tries <= 5)
		}
	}
}

func turnSaga(s source, saga []impl.SagaStep) []impl.SagaStep {
	saga = turnedList(s, saga, []impl.SagaStep{{}, {Name: "a", Tries: 1}, {Name: "q", Tries: 5, Undo: true}, {Name: "q", Needs: []string{"a"}, Tries: 2}, {Name: "q", Tries: 6}})
	if len(saga) == 0 {
		return saga
	}
	step := &saga[s.IntN(len(saga))]
	switch s.IntN(8) {
	case 0:
		step.Name = pick(s, append(slices.Clone(stepNames), wrongNames...))
	case 1:
		step.Needs = turnedList(s, step.Needs, append([]string{"", "when", step.Name}, stepNames...))
	case 2:
		step.Tries = turnedNumber(s, step.Tries)
	case 3:
		step.Undo = !step.Undo
	}
	return saga
}

// Sagas of any make, right or not.
func TestTurnedSagas(t *testing.T) {
	s := newSource()
	var counts [2]int
	for range 8000 {
		saga := anySaga(s, 8, false)
		for range s.IntN(3) {
			saga = turnSaga(s, saga)
		}
		want := isOneSaga(saga)
		checkIsSaga(t, "turned", saga, want)
		if want {
			counts[1]++
		} else {
			counts[0]++
		}
		msgs, _ := anyMsgs(s, anySaga(s, 4, true), 6)
		checkSameSaga(t, saga, msgs, wantSaga(saga, msgs))
		fails, stuck := []string{pick(s, stepNames)}, []string{pick(s, append(slices.Clone(stepNames), wrongNames...))}
		checkSameEnding(t, saga, fails, stuck)
		if len(saga) > 0 {
			checkSameEnding(t, saga, []string{saga[s.IntN(len(saga))].Name}, someNames(s, saga, 3))
		}
	}
	if min(counts[0], counts[1]) < 1000 {
		t.Errorf("%d of no make, %d right ones", counts[0], counts[1])
	}
}

// Texts within a saga have no limit of their own: a long one is no name, and no step.
func TestSagaOKOfLongTexts(t *testing.T) {
	saga := manySteps(20)
	for i := range saga {
		for _, text := range []string{longText, tooLong, strings.Repeat("n", 1<<22)} {
			wrong := slices.Clone(saga)
			wrong[i].Needs = append(slices.Clone(saga[i].Needs), text)
			checkIsSaga(t, "a long need", wrong, false)
			wrong = slices.Clone(saga)
			wrong[i].Name = text
			checkIsSaga(t, "a long name", wrong, false)
		}
	}
}
