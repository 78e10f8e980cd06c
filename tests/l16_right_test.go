package tests

import (
	"math"
	"slices"
	"testing"

	"loop.example/g00045/impl"
)

func TestHistoryConstants(t *testing.T) {
	kinds := []int{impl.HkRegister, impl.HkCounter, impl.HkStack, impl.HkQueue, impl.HkLock, impl.HkSet, impl.HkOnce}
	if !slices.Equal(kinds, historyKinds) || impl.MaxHistory != 10 {
		t.Error(kinds, impl.MaxHistory)
	}
}

func checkHistoryOK(t *testing.T, h []impl.Call, want bool) {
	t.Helper()
	if got := impl.HistoryOK(h); got != want || wantHistoryOK(h) != want {
		t.Errorf("%s: %t, not %t", toldCalls(h), got, want)
	}
}

func TestHistoryHowManyCalls(t *testing.T) {
	checkHistoryOK(t, nil, true)
	checkHistoryOK(t, []impl.Call{}, true)
	for _, threads := range []int{1, 4} {
		for count := range 13 {
			var h []impl.Call
			for i := range count {
				h = append(h, impl.Call{Thread: i % threads, Op: 1, From: i, To: i})
			}
			checkHistoryOK(t, h, count <= 10)
		}
	}
	for _, count := range []int{20, 4096, 4097, 70000} {
		checkHistoryOK(t, make([]impl.Call, count), false)
	}
}

// Each number of a call, with all others right.
func TestHistoryNumbersOfOneCall(t *testing.T) {
	c := impl.Call{Thread: 1, Op: 1, Arg: 1, Ret: 1, From: 3, To: 5}
	for _, n := range anyNumbers {
		one := c
		one.Thread = n
		checkHistoryOK(t, []impl.Call{one}, n >= 0 && n <= 3)
		one = c
		one.From = n
		checkHistoryOK(t, []impl.Call{one}, n >= 0 && n <= 5)
		one = c
		one.To = n
		checkHistoryOK(t, []impl.Call{one}, n >= 3)
		one.Ret = 0
		checkHistoryOK(t, []impl.Call{one}, n >= 3 || n == -1)
		one.To, one.Ret = -1, n
		checkHistoryOK(t, []impl.Call{one}, n == 0)
		one = c
		one.Op, one.Arg, one.Ret = n, n, n
		checkHistoryOK(t, []impl.Call{one}, true)
	}
}

func TestHistoryTimesOfOneCall(t *testing.T) {
	for _, c := range []struct {
		from, to int
		isOK     bool
	}{
		{0, 0, true}, {0, 1, true}, {0, -1, true}, {0, -2, false}, {1, 0, false}, {1, 1, true}, {-1, -1, false}, {-1, 0, false}, {-1, 5, false}, {-2, -1, false},
		{7, 6, false}, {7, 7, true}, {7, 8, true}, {7, -1, true}, {7, -7, false},
		{0, math.MaxInt, true}, {math.MaxInt, math.MaxInt, true}, {math.MaxInt, math.MaxInt - 1, false}, {math.MaxInt, -1, true},
		{math.MinInt, -1, false}, {math.MinInt, math.MaxInt, false}, {math.MinInt, math.MinInt, false}, {0, math.MinInt, false}, {math.MaxInt, math.MinInt, false},
	} {
		checkHistoryOK(t, []impl.Call{{From: c.from, To: c.to}}, c.isOK)
	}
}

// Two calls of one thread, other threads' calls ahead of them, between and behind, and the same two of two threads.
func TestHistoryOrderOfOneThread(t *testing.T) {
	for _, c := range []struct {
		text string
		isOK bool
	}{
		{"0:1(0)=0@2-5 0:1(0)=0@4-9", false},
		{"0:1(0)=0@2-5 0:1(0)=0@5-9", true},
		{"0:1(0)=0@2-5 0:1(0)=0@6-9", true},
		{"0:1(0)=0@2-5 0:1(0)=0@5-5", true},
		{"0:1(0)=0@5-5 0:1(0)=0@5-5", true},
		{"0:1(0)=0@2-5 0:1(0)=0@2-5", false},
		{"0:1(0)=0@2-5 0:1(0)=0@0-1", false},
		{"0:1(0)=0@2-5 0:1(0)@4", false},
		{"0:1(0)=0@2-5 0:1(0)@5", true},
		{"0:1(0)@2 0:1(0)=0@4-9", false},
		{"0:1(0)@0 0:1(0)=0@0-0", false},
		{"0:1(0)@2 0:1(0)@4", false},
		{"0:1(0)=0@0-9 0:1(0)=0@9-9 0:1(0)=0@8-12", false},
		{"0:1(0)=0@0-2 0:1(0)=0@2-9 0:1(0)=0@3-12", false},
		{"0:1(0)=0@0-2 0:1(0)@2 0:1(0)=0@3-12", false},
	} {
		h := callsOf(t, c.text)
		checkHistoryOK(t, h, c.isOK)
		others := callsOf(t, "1:1(0)=0@7-8 2:1(0)@1")
		checkHistoryOK(t, append(slices.Clone(others), h...), c.isOK)
		checkHistoryOK(t, append(slices.Clone(h), others...), c.isOK)
		checkHistoryOK(t, slices.Insert(slices.Clone(h), len(h)-1, others...), c.isOK)
		checkHistoryOK(t, slices.Insert(slices.Clone(h), 1, others...), c.isOK)
		for i := range h {
			h[i].Thread = i
		}
		checkHistoryOK(t, h, true)
	}
}

func TestHistoryGreatTimes(t *testing.T) {
	great := math.MaxInt
	for _, c := range []struct {
		h    []impl.Call
		isOK bool
	}{
		{[]impl.Call{{From: 0, To: great}, {From: great, To: great}}, true},
		{[]impl.Call{{From: 0, To: great}, {From: great - 1, To: great}}, false},
		{[]impl.Call{{From: 0, To: great}, {From: great, To: -1}}, true},
		{[]impl.Call{{From: 0, To: great - 1}, {From: great, To: great}, {From: great, To: -1}}, true},
		{[]impl.Call{{From: 0, To: great}, {From: math.MinInt, To: great}}, false},
		{[]impl.Call{{Thread: 3, From: 0, To: 4}, {Thread: 3, From: 4, To: math.MinInt}}, false},
	} {
		checkHistoryOK(t, c.h, c.isOK)
	}
}

// Several threads, each with an open call at its end.
func TestHistoryOpenCallsOfAllThreads(t *testing.T) {
	h := callsOf(t, "0:1(0)=0@0-3 1:1(0)=0@2-4 2:1(0)=0@2-3 3:1(0)=0@9-9 3:1(0)@9 2:1(0)@3 1:1(0)@7 0:1(0)@50")
	checkHistoryOK(t, h, true)
	for i := range h[:4] {
		other := slices.Clone(h)
		other[i].To = -1
		checkHistoryOK(t, other, false)
	}
	for thread := range 4 {
		checkHistoryOK(t, append(slices.Clone(h), impl.Call{Thread: thread, From: 60, To: 61}), false)
	}
}

// checkHistoryCode: all calls of the chapter that have a code answer this one, or that there is no row.
func checkHistoryCode(t *testing.T, what string, g historyGiven, want int) {
	t.Helper()
	a := g.answer()
	if a.serialCode != want || a.serial != 0 && want != impl.OK {
		t.Errorf("%s: Serial %d %s, not %s", what, a.serial, impl.CodeWord(a.serialCode), impl.CodeWord(want))
	}
	for _, r := range a.rows() {
		isCode := r.code == want || want == impl.OK && r.code == impl.ErrNone
		if !isCode || r.code != impl.OK && len(r.row) > 0 {
			t.Errorf("%s: %s, not %s", what, r.show(), impl.CodeWord(want))
		}
	}
}

// ErrLong ahead of ErrBad ahead of ErrKind.
func TestHistoryCodes(t *testing.T) {
	right := impl.Call{Op: 1, To: 3}
	for _, c := range []struct {
		what string
		kind int
		h    []impl.Call
		code int
	}{
		{"no calls", 1, nil, impl.OK},
		{"ten", 1, inRow(repeated(10, right)), impl.OK},
		{"eleven", 1, inRow(repeated(11, right)), impl.ErrBad},
		{"eleven of no kind", 9, inRow(repeated(11, right)), impl.ErrBad},
		{"MaxList", 1, inRow(repeated(impl.MaxList, right)), impl.ErrBad},
		{"more than MaxList", 1, inRow(repeated(impl.MaxList+1, right)), impl.ErrLong},
		{"more than MaxList of no kind", 0, repeated(impl.MaxList+1, impl.Call{Thread: -1}), impl.ErrLong},
		{"a thread", 1, []impl.Call{{Thread: 4, Op: 1}}, impl.ErrBad},
		{"a thread, an Op and a kind", 8, []impl.Call{{Thread: -1, Op: 9}}, impl.ErrBad},
		{"an Op behind a wrong time", 1, []impl.Call{{Op: 1, From: 3, To: 2}, {Op: 3, From: 4, To: 5}}, impl.ErrBad},
		{"an Op ahead of a wrong time", 1, []impl.Call{{Op: 3, From: 4, To: 5}, {Op: 1, From: 3, To: 2}}, impl.ErrBad},
		{"a Ret of an open one", 1, []impl.Call{{Op: 1, To: -1, Ret: 1}}, impl.ErrBad},
		{"an Op of an open one", 1, []impl.Call{{Op: 3, To: -1}}, impl.ErrKind},
		{"an Op of the last one", 1, inRow([]impl.Call{right, right, {Op: 3}}), impl.ErrKind},
		{"an Op behind a Ret that parts", 1, inRow([]impl.Call{{Op: 2, Ret: 9}, {Op: 3}}), impl.ErrKind},
	} {
		checkHistoryCode(t, c.what, historyGiven{c.kind, c.h}, c.code)
	}
}

func TestHistoryKinds(t *testing.T) {
	for _, kind := range append([]int{7, 8, 9, -7, 256, 1<<32 + 7}, anyNumbers...) {
		want := impl.ErrKind
		if slices.Contains(historyKinds, kind) {
			want = impl.OK
		}
		for _, h := range [][]impl.Call{nil, {}, {{Op: 1}}, {{Op: 1, To: -1}}} {
			checkHistoryCode(t, historyGiven{kind, h}.show(), historyGiven{kind, h}, want)
		}
	}
}

func TestHistoryOps(t *testing.T) {
	for _, kind := range historyKinds {
		for _, op := range append([]int{1<<32 + 1, 257}, anyNumbers...) {
			want := impl.ErrKind
			if op >= 1 && op <= lastOps[kind] {
				want = impl.OK
			}
			for _, c := range []impl.Call{{Op: op, To: 1}, {Op: op, To: -1}} {
				for _, h := range [][]impl.Call{{c}, {{Thread: 1, Op: 1}, c}, {c, {Thread: 1, Op: 1}}} {
					checkHistoryCode(t, historyGiven{kind, h}.show(), historyGiven{kind, h}, want)
				}
			}
		}
	}
}
