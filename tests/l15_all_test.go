package tests

import (
	"math"
	"reflect"
	"runtime"
	"slices"
	"sync"
	"testing"

	"loop.example/g00045/impl"
)

// kitGiven: all that the calls of chapter 16 are given.
type kitGiven struct {
	kitForm
	most int
	end  impl.End
}

// kitAnswer: what they answer.
type kitAnswer struct {
	text                           string
	isRight                        bool
	verdict                        impl.Verdict
	textCode, rightCode, judgeCode int
}

func (g kitGiven) answer() kitAnswer {
	var r kitAnswer
	r.text, r.textCode = impl.KitText(g.kind, g.threads, g.broken)
	r.isRight, r.rightCode = impl.KitRight(g.kind, g.threads, g.end)
	r.verdict, r.judgeCode = impl.Judge(g.kind, g.threads, g.broken, g.most)
	r.verdict.Turns = tidyList(r.verdict.Turns)
	return r
}

func (g kitGiven) want() kitAnswer {
	var r kitAnswer
	r.text, r.textCode = wantKitText(g.kind, g.threads, g.broken)
	r.isRight, r.rightCode = wantKitRight(g.kind, g.threads, g.end)
	r.verdict, r.judgeCode = wantJudge(g.kind, g.threads, g.broken, g.most)
	r.verdict.Turns = tidyList(r.verdict.Turns)
	return r
}

var formsOnce = allForms()

func anyKitGiven(s source) kitGiven {
	g := kitGiven{kitForm: pick(s, formsOnce), most: 120}
	g.end = rightEnd(g.kind, g.threads)
	if s.IntN(3) == 0 {
		g.end = pick(s, otherEnds(g.end))
	}
	switch s.IntN(12) {
	case 0:
		g.kind = pick(s, kitNumbers)
	case 1:
		g.threads = pick(s, kitNumbers)
	case 2:
		g.broken = pick(s, kitNumbers)
	case 3:
		g.most = pick(s, []int{0, 1, 2, 40, 3001, math.MaxInt, math.MinInt})
	}
	return g
}

// turned gives the end lists of their own, each as work makes it of the one that is there.
func (g kitGiven) turned(ints func([]int) []int, rows func([][]int) [][]int) kitGiven {
	g.end = impl.End{Bad: g.end.Bad, Stuck: ints(g.end.Stuck), Regs: rows(g.end.Regs), Cells: ints(g.end.Cells)}
	for i := range g.end.Regs {
		g.end.Regs[i] = ints(g.end.Regs[i])
	}
	return g
}

func (g kitGiven) roomy() kitGiven {
	return g.turned(
		func(list []int) []int { return roomy(list, 77) },
		func(list [][]int) [][]int { return roomy(list, []int{77}) })
}

func (g kitGiven) whole() kitGiven { return g.turned(whole[int], whole[[]int]) }

// All calls together answer as the second telling does.
func TestKitOfAnyMake(t *testing.T) {
	s := newSource()
	good, broken, none := 0, 0, 0
	for range 300 {
		g := anyKitGiven(s)
		got, want := g.answer(), g.want()
		if !reflect.DeepEqual(got, want) {
			t.Fatalf("%+v\n%+v\nnot\n%+v", g, got, want)
		}
		switch {
		case got.judgeCode != impl.OK:
			none++
		case got.verdict.Good:
			good++
		default:
			broken++
		}
	}
	if min(good, broken, none) < 40 {
		t.Errorf("%d good, %d broken, %d with a code", good, broken, none)
	}
}

// P1: an end that is given stays as it was, behind its lists' ends too; answers do not hang on what was called ahead.
func TestKitDoesNotChangeWhatIsGiven(t *testing.T) {
	s := newSource()
	var all, before []kitGiven
	var first []kitAnswer
	for range 500 {
		g := anyKitGiven(s).roomy()
		all, before, first = append(all, g), append(before, g.whole()), append(first, g.answer())
	}
	for i := len(all) - 1; i >= 0; i-- {
		if again := all[i].answer(); !reflect.DeepEqual(again, first[i]) {
			t.Fatalf("%+v\n%+v\nthen\n%+v", all[i], first[i], again)
		}
	}
	for i, g := range all {
		if !reflect.DeepEqual(g.whole(), before[i]) {
			t.Fatalf("%+v: was changed", g)
		}
	}
}

// P1: an empty list and nil are the same.
func TestKitOfEmptyLists(t *testing.T) {
	s := newSource()
	rights := 0
	for range 1000 {
		g := anyKitGiven(s)
		switch s.IntN(8) {
		case 0:
			g.end.Regs = nil
		case 1:
			g.end.Cells = nil
		case 2:
			g.end = impl.End{Regs: make([][]int, g.threads&3), Cells: g.end.Cells}
		}
		g = g.turned(tidyList[int], tidyList[[]int])
		first, code := impl.KitRight(g.kind, g.threads, g.end)
		g = g.turned(filled[int], filled[[]int])
		if again, againCode := impl.KitRight(g.kind, g.threads, g.end); again != first || againCode != code {
			t.Fatalf("%+v: %t %s, then %t %s", g, first, impl.CodeWord(code), again, impl.CodeWord(againCode))
		}
		if first {
			rights++
		}
	}
	if rights < 200 {
		t.Errorf("%d right ones", rights)
	}
}

// P1: calls at the same time answer as calls one behind the other.
func TestKitAtTheSameTime(t *testing.T) {
	var given []kitGiven
	var want []kitAnswer
	for _, f := range []kitForm{{impl.KtSpin, 2, 3}, {impl.KtStack, 2, 0}, {impl.KtRing, 2, 2}, {impl.KtShared, 2, 1}} {
		g := kitGiven{f, 500, rightEnd(f.kind, f.threads)}
		given, want = append(given, g), append(want, g.answer())
	}
	var workers sync.WaitGroup
	for worker := range 16 {
		workers.Go(func() {
			for i := range 12 {
				at := (worker + i) % len(given)
				if got := given[at].answer(); !reflect.DeepEqual(got, want[at]) {
					t.Errorf("%+v: %+v", given[at], got)
				}
			}
		})
	}
	workers.Wait()
}

// P1: the turns that are answered are a list of their own, and what is written into one, or behind it, is in no other one.
func TestKitAnswersAreNew(t *testing.T) {
	for _, f := range allForms() {
		if f.threads > 2 {
			continue
		}
		var lists []stretch
		var verdicts [3]impl.Verdict
		for k := range verdicts {
			verdicts[k], _ = impl.Judge(f.kind, f.threads, f.broken, impl.MaxStates)
			lists = append(lists, stretchOf(verdicts[k].Turns))
		}
		checkApart(t, lists)
		want := slices.Clone(verdicts[1].Turns)
		turns := verdicts[0].Turns[:cap(verdicts[0].Turns)]
		for i := range turns {
			turns[i] = impl.Turn{Thread: 77, Choice: 77}
		}
		again, _ := impl.Judge(f.kind, f.threads, f.broken, impl.MaxStates)
		if !slices.Equal(verdicts[1].Turns, want) || !slices.Equal(verdicts[2].Turns, want) || !slices.Equal(again.Turns, want) {
			t.Errorf("%+v: %s, not %s", f, toldTurns(again.Turns), toldTurns(want))
		}
		runtime.KeepAlive(verdicts)
	}
}
