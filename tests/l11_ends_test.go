package tests

import (
	"slices"
	"strconv"
	"strings"
	"testing"

	"loop.example/g00045/impl"
)

func toldEnding(e ending) string {
	return toldOr(e.Code, toldState(e.State)) + ": " + strings.Join(e.Done, " ")
}

func endingOf(saga []impl.SagaStep, fails, stuck []string) ending {
	state, done, code := impl.SagaEnds(saga, fails, stuck)
	return ending{state, done, code}
}

func checkSameEnding(t *testing.T, saga []impl.SagaStep, fails, stuck []string) ending {
	t.Helper()
	got, want := endingOf(saga, fails, stuck), wantEnding(saga, fails, stuck)
	if got.State != want.State || got.Code != want.Code || !slices.Equal(got.Done, want.Done) {
		t.Fatalf("%s, fails %.200q, stuck %.200q: %s, not %s", showSaga(saga), fails, stuck, toldEnding(got), toldEnding(want))
	}
	return got
}

// checkEnds: the state and the steps that are done at the end, or the code's word.
func checkEnds(t *testing.T, saga, fails, stuck, want string) {
	t.Helper()
	got := checkSameEnding(t, sagaOf(t, saga), strings.Fields(fails), strings.Fields(stuck))
	if toldEnding(got) != want {
		t.Errorf("%s, fails %s, stuck %s: %s, not %s", saga, fails, stuck, toldEnding(got), want)
	}
}

func TestSagaEndsStates(t *testing.T) {
	checkEnds(t, "a 1", "", "", "done: a")
	checkEnds(t, "a 1", "a", "", "undone: ")
	checkEnds(t, "a! 1; b 1", "b", "a", "broken: ")
	checkEnds(t, "a! 1; b 1 a", "b", "", "undone: ")
	checkEnds(t, "a! 1; b 1 a; c! 5 b", "", "", "done: a b c")
	checkEnds(t, "z! 1; y 1; x 1 z", "", "z y x", "done: z y x")
	checkEnds(t, "a! 5; b! 5; c! 5; d 5", "d", "b", "broken: a")
	checkEnds(t, "a! 5; b! 5; c! 5; d 5", "d", "c", "broken: a b")
	checkEnds(t, "a! 5; b! 5; c! 5; d 5", "d", "a", "broken: ")
	checkEnds(t, "a! 5; b! 5; c! 5; d 5", "d", "a c", "broken: a b")
	checkEnds(t, "a! 5; b! 5; c! 5; d 5", "a b c d", "", "undone: ")
}

// Steps done are told in the order of the list; those that were asked ahead of the failure are done, and nothing behind it is.
func TestSagaEndsInTheOrderOfTheList(t *testing.T) {
	checkEnds(t, "z 1; f 1; b! 1; a! 1", "f", "a", "broken: z b")
	checkEnds(t, "z 1; f 1; b! 1; a! 1", "f", "b", "broken: z")
	checkEnds(t, "z! 1; f 1; b 1; a! 1 b", "f", "z", "broken: ")
	checkEnds(t, "z! 1; f 1; b! 1; a! 1 b", "f", "a", "undone: ")
	checkEnds(t, "z! 1; f 1; b! 1; a! 1 z; c! 1 f; d! 1 a", "f", "a c d", "broken: z b")
	checkEnds(t, "z! 1; f 2; y 1; b! 1; g 1 z; a! 1 z", "g f", "b", "broken: z y")
	checkEnds(t, "z 1; y 1; x! 1; w 1; f 1; v 1", "f", "x", "broken: z y")
	saga := manySteps(20)
	var names []string
	for _, step := range saga {
		names = append(names, step.Name)
	}
	for _, stuck := range [][]string{nil, names, names[:3]} {
		if got := checkSameEnding(t, saga, nil, stuck); got.State != impl.SgDone || !slices.Equal(got.Done, names) {
			t.Errorf("twenty steps: %s", toldEnding(got))
		}
	}
	for i := range saga {
		for k := range saga {
			got := checkSameEnding(t, saga, names[i:i+1], names[k:k+1])
			isBroken := k < i && k%2 == 0
			if isBroken && (got.State != impl.SgBroken || !slices.Equal(got.Done, names[:k])) || !isBroken && (got.State != impl.SgUndone || len(got.Done) > 0) {
				t.Errorf("%d fails, %d is stuck: %s", i, k, toldEnding(got))
			}
		}
	}
}

func TestSagaEndsOfListsOfNames(t *testing.T) {
	saga := "a! 1; b 1; c! 2 a; d 1 c b"
	// A name twice, and a step in both: it fails, and is never undone.
	checkEnds(t, saga, "d d d", "", "undone: ")
	checkEnds(t, saga, "d", "a c a", "broken: a b")
	checkEnds(t, saga, "d d", "a a a", "broken: ")
	checkEnds(t, saga, "c", "c", "undone: ")
	checkEnds(t, saga, "c c", "c c a", "broken: ")
	checkEnds(t, saga, "d", "d", "undone: ")
	checkEnds(t, saga, "a", "a", "undone: ")
	checkEnds(t, saga, "a b c d", "a b c d", "undone: ")
	// One that is stuck and has no Undo, or is never undone.
	checkEnds(t, saga, "d", "b", "undone: ")
	checkEnds(t, saga, "", "a b c d", "done: a b c d")
	checkEnds(t, saga, "a", "c d", "undone: ")
	checkEnds(t, saga, "b", "c", "broken: a")
	checkEnds(t, saga, "a", "b c", "undone: ")
	list := sagaOf(t, saga)
	for _, count := range []int{1, 2, 300, 301, 4095, 4096} {
		many := repeated(count, "d")
		if got := checkSameEnding(t, list, many, repeated(count, "b")); got.State != impl.SgUndone {
			t.Errorf("%d names: %s", count, toldEnding(got))
		}
		checkSameEnding(t, list, append(repeated(count-1, "d"), "gone"), nil)
		checkSameEnding(t, list, nil, append(repeated(count-1, "d"), "gone"))
	}
}

func TestSagaEndsCodes(t *testing.T) {
	saga := "a! 1; b 1 a"
	for _, names := range [][2]string{{"gone", ""}, {"", "gone"}, {"a gone", ""}, {"gone a", "a"}, {"a", "b gone"}, {"A", ""}, {"", "aa"}, {"gone", "gone"}, {"a b", "a b c"}} {
		checkEnds(t, saga, names[0], names[1], "none: ")
		checkEnds(t, "a! 1; b 1 c", names[0], names[1], "bad: ")
		checkEnds(t, "", names[0], names[1], "bad: ")
	}
	list := sagaOf(t, saga)
	for _, name := range append(notNames(), longText, tooLong, "A", "a ", "") {
		for _, lists := range [][2][]string{{{name}, nil}, {nil, {name}}, {{"a", name}, {"a"}}, {{"b"}, {"a", name}}} {
			if got := checkSameEnding(t, list, lists[0], lists[1]); got.Code != impl.ErrNone {
				t.Errorf("%.100q: %s", name, toldEnding(got))
			}
			for _, wrong := range wrongSagas() {
				if got := checkSameEnding(t, wrong, lists[0], lists[1]); got.Code != impl.ErrBad {
					t.Errorf("no saga, %.100q: %s", name, toldEnding(got))
				}
			}
		}
	}
}

func TestSagaEndsHowLong(t *testing.T) {
	list := sagaOf(t, "a! 1; b 1 a")
	check := func(what string, saga []impl.SagaStep, fails, stuck []string, want int) {
		t.Helper()
		got := checkSameEnding(t, saga, fails, stuck)
		if got.Code != want || want != impl.OK && (got.State != 0 || len(got.Done) > 0) {
			t.Errorf("%s: %s, not code %d", what, toldEnding(got), want)
		}
	}
	for _, count := range []int{4095, 4096, 4097, 4098, millions} {
		what := strconv.Itoa(count)
		for i, name := range []string{"a", "gone"} {
			code, bad := []int{impl.OK, impl.ErrNone}[i], impl.ErrBad
			if count > 4096 {
				code, bad = impl.ErrLong, impl.ErrLong
			}
			names := repeated(count, name)
			check(what+" fails", list, names, nil, code)
			check(what+" stuck", list, nil, names, code)
			check(what+" both", list, names, names, code)
			for _, wrong := range wrongSagas() {
				check(what+" fails, no saga", wrong, names, nil, bad)
				check(what+" stuck, no saga", wrong, nil, names, bad)
			}
			check(what+" fails, 4097 steps", manySteps(4097), names, nil, impl.ErrLong)
			check(what+" steps", manySteps(count), nil, []string{name}, bad)
		}
	}
}

// Sagas of any make: what SagaEnds tells is what the second telling does, and what RunSaga comes to by the messages in that order.
func TestSagaEndsOfAnyMake(t *testing.T) {
	s := newSource()
	var counts [6]int
	for i := range 20000 {
		saga := anySaga(s, 3+s.IntN(18), i%2 == 0)
		fails, stuck := someNames(s, saga, 1+s.IntN(12)), someNames(s, saga, 1+s.IntN(6))
		got := checkSameEnding(t, saga, fails, stuck)
		counts[got.State]++
		x := answered(t, saga, fails, stuck, func(busy []string) string {
			for _, step := range saga {
				if slices.Contains(busy, step.Name) {
					return step.Name
				}
			}
			return ""
		})
		done := slices.DeleteFunc(slices.Clone(saga), func(step impl.SagaStep) bool { return !slices.Contains(x.Done, step.Name) })
		if x.State != got.State || len(done) != len(got.Done) || slices.ContainsFunc(done, func(step impl.SagaStep) bool { return !slices.Contains(got.Done, step.Name) }) {
			t.Fatalf("%s, fails %s, stuck %s: %s, the run: %s", showSaga(saga), fails, stuck, toldEnding(got), toldSaga(x))
		}
	}
	if counts[1]+counts[2] > 0 || min(counts[3], counts[4], counts[5]) < 1000 {
		t.Errorf("states %v", counts)
	}
}
