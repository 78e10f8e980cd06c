package tests

import (
	"slices"
	"strconv"
	"strings"
	"testing"

	"loop.example/g00045/impl"
)

// The second telling of chapter 16: the threads of each right form stand here as they are, each in a text of its own where they are not alike; a broken form is told by the lines in which it parts from the right one; what is right is a table of cells; and a form is judged by the states that the second telling of chapter 14 has.

// kitThreads: from how many threads to how many each kind is for.
var kitThreads = map[int][2]int{1: {1, 3}, 2: {1, 3}, 3: {2, 2}, 4: {1, 3}, 5: {2, 3}, 6: {2, 2}, 7: {2, 3}, 8: {2, 2}, 9: {2, 2}, 10: {2, 3}}

// kitCells: the first values of a kind that is for two threads, which are those of all numbers of threads.
var kitCells = map[int]string{1: "0 0", 2: "0 0 0", 3: "0 0 0 0", 4: "0 0 0", 5: "0 0 0", 6: "1 0", 7: "0 0 0 0 0", 8: "0 0 0", 9: "0 0 0", 10: "0 0 0"}

const toldSpin = `
await r1 c0 == 0 relaxed
cas r1 c0 0 1 acquire
jump r1 == 0 0
load r2 c1 relaxed
sum r2 1
store c1 r2 relaxed
store c0 0 release`

const toldTicket = `
add r1 c0 1 relaxed
await r2 c1 == r1 acquire
load r3 c2 relaxed
sum r3 1
store c2 r3 relaxed
sum r1 1
store c1 r1 release`

const toldTwoFirst = `
store c0 1 seq
store c2 1 seq
load r1 c1 seq
jump r1 == 0 6
load r2 c2 seq
jump r2 == 1 2
load r3 c3 relaxed
sum r3 1
store c3 r3 relaxed
store c0 0 seq`

const toldTwoSecond = `
store c1 1 seq
store c2 0 seq
load r1 c0 seq
jump r1 == 0 6
load r2 c2 seq
jump r2 == 0 2
load r3 c3 relaxed
sum r3 1
store c3 r3 relaxed
store c1 0 seq`

const toldOnce = `
load r1 c0 acquire
jump r1 == 2 9
cas r2 c0 0 1 acquire
jump r2 == 0 8
add r3 c2 1 relaxed
store c1 7 relaxed
store c0 2 release
jump 0 == 0 9
await r1 c0 == 2 acquire
load r4 c1 relaxed
assert r4 == 7`

const toldSequenceFirst = `
store c0 1 relaxed
store c1 5 release
store c2 5 release
store c0 2 release`

const toldSequenceOther = `
load r1 c0 acquire
load r2 c1 acquire
load r3 c2 acquire
load r4 c0 relaxed
jump r1 != r4 7
jump r1 == 1 7
assert r2 == r3`

const toldPermits = `
await r1 c0 != 0 relaxed
set r2 r1
sum r2 -1
cas r3 c0 r1 r2 both
jump r3 == 0 0
add r4 c1 1 relaxed
assert r4 < 1
add r5 c1 -1 relaxed
add r6 c0 1 both`

const toldBarrierOfTwo = `
add r1 c0 1 both
jump r1 != 1 4
store c1 1 release
await r2 c1 == 1 acquire
load r3 c2 relaxed
assert r3 == 1
load r3 c3 relaxed
assert r3 == 1`

const toldBarrierOfThree = `
add r1 c0 1 both
jump r1 != 2 4
store c1 1 release
await r2 c1 == 1 acquire
load r3 c2 relaxed
assert r3 == 1
load r3 c3 relaxed
assert r3 == 1
load r3 c4 relaxed
assert r3 == 1`

const toldStackFirst = `
call 1 1
load r1 c0 relaxed
store c1 r1 relaxed
cas r2 c0 r1 1 release
jump r2 == 0 1` + toldStackRest

const toldStackSecond = `
call 1 2
load r1 c0 relaxed
store c2 r1 relaxed
cas r2 c0 r1 2 release
jump r2 == 0 1` + toldStackRest

const toldStackRest = `
ret 0
call 2 0
load r1 c0 acquire
jump r1 == 0 17
jump r1 == 2 13
load r3 c1 relaxed
cas r2 c0 1 r3 both
jump 0 == 0 15
load r3 c2 relaxed
cas r2 c0 2 r3 both
jump r2 == 0 7
jump 0 == 0 18
set r1 -1
ret r1`

const toldRingFirst = `
await r1 c0 == 0 acquire
store c2 5 relaxed
store c1 1 release
await r1 c0 == 1 acquire
store c2 6 relaxed
store c1 2 release`

const toldRingSecond = `
await r1 c1 == 1 acquire
load r2 c2 relaxed
assert r2 == 5
store c0 1 release
await r1 c1 == 2 acquire
load r2 c2 relaxed
assert r2 == 6
store c0 2 release`

const toldSharedFirst = `
await r1 c0 == 0 relaxed
cas r2 c0 0 -1 acquire
jump r2 == 0 0
store c1 5 relaxed
store c2 5 relaxed
store c0 0 release`

const toldSharedOther = `
await r1 c0 != -1 relaxed
set r2 r1
sum r2 1
cas r3 c0 r1 r2 acquire
jump r3 == 0 0
load r4 c1 relaxed
load r5 c2 relaxed
assert r4 == r5
add r6 c0 -1 release`

// toldThreads: the threads of a right form.
func toldThreads(kind, threads int) []string {
	first := func(one, other string) []string { return append([]string{one}, repeated(threads-1, other)...) }
	switch kind {
	case impl.KtSpin:
		return repeated(threads, toldSpin)
	case impl.KtTicket:
		return repeated(threads, toldTicket)
	case impl.KtTwo:
		return []string{toldTwoFirst, toldTwoSecond}
	case impl.KtOnce:
		return repeated(threads, toldOnce)
	case impl.KtSequence:
		return first(toldSequenceFirst, toldSequenceOther)
	case impl.KtPermits:
		return repeated(threads, toldPermits)
	case impl.KtBarrier:
		if threads == 2 {
			return []string{"\nstore c2 1 relaxed" + toldBarrierOfTwo, "\nstore c3 1 relaxed" + toldBarrierOfTwo}
		}
		return []string{"\nstore c2 1 relaxed" + toldBarrierOfThree, "\nstore c3 1 relaxed" + toldBarrierOfThree, "\nstore c4 1 relaxed" + toldBarrierOfThree}
	case impl.KtStack:
		return []string{toldStackFirst, toldStackSecond}
	case impl.KtRing:
		return []string{toldRingFirst, toldRingSecond}
	}
	return first(toldSharedFirst, toldSharedOther)
}

// brokenKits: the kind, the number of the broken form, the thread (* each one, + each but thread 0), the number of an instruction, and what stands in its place: nothing, if it is left out.
const brokenKits = `
1 1 * 1 cas r1 c0 0 1 relaxed
1 2 * 6 store c0 0 relaxed
1 3 * 6
2 1 * 1 await r2 c1 == r1 relaxed
2 2 * 6 store c1 r1 relaxed
3 1 0 0 store c0 1 release
3 1 0 1 store c2 1 release
3 1 0 2 load r1 c1 acquire
3 1 0 4 load r2 c2 acquire
3 1 0 9 store c0 0 release
3 1 1 0 store c1 1 release
3 1 1 1 store c2 0 release
3 1 1 2 load r1 c0 acquire
3 1 1 4 load r2 c2 acquire
3 1 1 9 store c1 0 release
3 2 0 0 store c2 1 seq
3 2 0 1 store c0 1 seq
3 2 1 0 store c2 0 seq
3 2 1 1 store c1 1 seq
4 1 * 6 store c0 2 relaxed
4 2 * 0 load r1 c0 relaxed
4 2 * 8 await r1 c0 == 2 relaxed
4 3 * 2 set r2 1
5 1 0 1 store c1 5 relaxed
5 1 0 2 store c2 5 relaxed
5 2 + 1 load r2 c1 relaxed
5 2 + 2 load r3 c2 relaxed
6 1 * 3 store c0 r2 release
6 1 * 4 jump 1 == 0 0
7 1 * 1 add r1 c0 1 relaxed
7 2 * 4 await r2 c1 == 1 relaxed
8 1 * 11 store c0 r3 release
8 1 * 14 store c0 r3 release
8 1 * 15 jump 1 == 0 7
8 2 0 3 cas r2 c0 r1 1 relaxed
8 2 1 3 cas r2 c0 r1 2 relaxed
9 1 0 2 store c1 1 relaxed
9 1 0 5 store c1 2 relaxed
9 2 1 0 await r1 c1 == 1 relaxed
9 2 1 4 await r1 c1 == 2 relaxed
10 1 0 5 store c0 0 relaxed
10 2 + 3 cas r3 c0 r1 r2 relaxed
10 3 0 0
10 3 0 1
10 3 0 2
10 3 0 5`

// kitLine is one line of brokenKits.
type kitLine struct {
	kind, broken int
	thread       string
	at           int
	line         string
}

func kitLines() []kitLine {
	var out []kitLine
	for _, text := range strings.Split(strings.TrimSpace(brokenKits), "\n") {
		words := strings.Fields(text)
		l := kitLine{thread: words[2], line: strings.Join(words[4:], " ")}
		l.kind, _ = strconv.Atoi(words[0])
		l.broken, _ = strconv.Atoi(words[1])
		l.at, _ = strconv.Atoi(words[3])
		out = append(out, l)
	}
	return out
}

func (l kitLine) isOf(thread int) bool {
	return l.thread == "*" || l.thread == "+" && thread > 0 || l.thread == strconv.Itoa(thread)
}

// kitForms: how many broken forms a kind has.
func kitForms(kind int) int {
	most := 0
	for _, l := range kitLines() {
		if l.kind == kind {
			most = max(most, l.broken)
		}
	}
	return most
}

// kitCode: what there is to say ahead of all else.
func kitCode(kind, threads, broken int) int {
	bounds, isKind := kitThreads[kind]
	switch {
	case !isKind:
		return impl.ErrKind
	case threads < bounds[0] || threads > bounds[1]:
		return impl.ErrRange
	case broken < 0 || broken > kitForms(kind):
		return impl.ErrNone
	}
	return impl.OK
}

func wantKitText(kind, threads, broken int) (string, int) {
	if code := kitCode(kind, threads, broken); code != impl.OK {
		return "", code
	}
	out := "cells " + kitCells[kind] + "\n"
	for thread, text := range toldThreads(kind, threads) {
		lines := strings.Split(strings.TrimSpace(text), "\n")
		for _, l := range kitLines() {
			if l.kind == kind && l.broken == broken && l.isOf(thread) {
				lines[l.at] = l.line
			}
		}
		out += "thread\n"
		for _, line := range lines {
			if line != "" {
				out += "  " + line + "\n"
			}
		}
	}
	return out, impl.OK
}

// rightCells: the cells that the chapter's 'Right' names, and what they are.
func rightCells(kind, threads int) map[int]int {
	switch kind {
	case impl.KtSpin:
		return map[int]int{1: threads}
	case impl.KtTicket:
		return map[int]int{2: threads}
	case impl.KtTwo:
		return map[int]int{3: 2}
	case impl.KtOnce:
		return map[int]int{2: 1}
	case impl.KtSequence, impl.KtRing:
		return map[int]int{0: 2}
	case impl.KtPermits:
		return map[int]int{0: threads - 1, 1: 0}
	case impl.KtBarrier:
		return map[int]int{1: 1}
	}
	return map[int]int{0: 0}
}

func wantKitRight(kind, threads int, e impl.End) (bool, int) {
	if code := kitCode(kind, threads, 0); code != impl.OK {
		return false, code
	}
	if e.Bad || len(e.Stuck) > 0 || len(e.Regs) != threads || len(e.Cells) != len(strings.Fields(kitCells[kind])) {
		return false, impl.OK
	}
	for _, row := range e.Regs {
		if len(row) != 6 {
			return false, impl.OK
		}
	}
	for cell, value := range rightCells(kind, threads) {
		if e.Cells[cell] != value {
			return false, impl.OK
		}
	}
	if kind == impl.KtStack {
		taken := []int{e.Regs[0][0], e.Regs[1][0]}
		slices.Sort(taken)
		return slices.Equal(taken, []int{1, 2}), impl.OK
	}
	return true, impl.OK
}

// worldWrong: the turns to what is wrong first in a world, or ErrNone.
func worldWrong(w oneWorld, isWrong func(e impl.End) bool) ([]impl.Turn, int) {
	for what := impl.FdBad; what <= impl.FdHung; what++ {
		if turns, code := w.find(what); code == impl.OK {
			return turns, code
		}
	}
	for _, e := range w.report().Ends {
		if isWrong(e) {
			return w.findEnd(e)
		}
	}
	return nil, impl.ErrNone
}

func wantJudge(kind, threads, broken, most int) (impl.Verdict, int) {
	text, code := wantKitText(kind, threads, broken)
	if code != impl.OK {
		return impl.Verdict{}, code
	}
	p, _, _ := impl.ReadProg(text)
	w, code := wantWorld(p, most)
	if code != impl.OK {
		return impl.Verdict{}, code
	}
	turns, code := worldWrong(w, func(e impl.End) bool {
		isRight, _ := wantKitRight(kind, threads, e)
		return !isRight
	})
	return impl.Verdict{Good: code == impl.ErrNone, States: len(w), Turns: turns}, impl.OK
}

// kitForm is one form of a kind for so many threads.
type kitForm struct{ kind, threads, broken int }

// allForms: all that there are, right and broken.
func allForms() []kitForm {
	var out []kitForm
	for kind := 1; kind <= 10; kind++ {
		for threads := kitThreads[kind][0]; threads <= kitThreads[kind][1]; threads++ {
			for broken := range kitForms(kind) + 1 {
				out = append(out, kitForm{kind, threads, broken})
			}
		}
	}
	return out
}

func (f kitForm) prog(t *testing.T) impl.Prog {
	t.Helper()
	text, _ := impl.KitText(f.kind, f.threads, f.broken)
	p, code, line := impl.ReadProg(text)
	if code != impl.OK {
		t.Fatalf("%+v: %s at line %d of %q", f, impl.CodeWord(code), line, text)
	}
	return p
}

// isRight: KitRight takes it.
func (f kitForm) isRight(e impl.End) bool {
	isRight, code := impl.KitRight(f.kind, f.threads, e)
	return isRight && code == impl.OK
}

func isNoVerdict(v impl.Verdict) bool { return !v.Good && v.States == 0 && len(v.Turns) == 0 }
