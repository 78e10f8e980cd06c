package tests

import (
	"cmp"
	"fmt"
	"maps"
	"reflect"
	"slices"
	"strings"

	"loop.example/g00045/impl"
)

// The second telling of chapter 15: whether steps are apart stands in a table of their kinds; the rows of a Normal are peeled off one by one; two runs are alike if they have the same turns, and the same order of each two that are not apart; all runs are played one by one, and those that are alike put together; a state is folded to the least of the texts that it has with its threads exchanged.

var stepKinds = map[int]string{1: "read", 2: "write", 3: "write", 4: "write", 5: "write", 6: "read", 7: "fence"}

// apartKinds: two kinds that may be apart, on one cell or on two alone.
var apartKinds = map[[2]string]string{
	{"read", "read"}: "one", {"read", "fence"}: "one", {"fence", "read"}: "one", {"write", "fence"}: "one", {"fence", "write"}: "one",
	{"read", "write"}: "two", {"write", "read"}: "two", {"write", "write"}: "two",
}

func isSeqStep(x impl.Ins) bool { return x.Op == 7 || x.Order == 5 }

func wantApart(a, b impl.Ins) bool {
	cells := apartKinds[[2]string{stepKinds[a.Op], stepKinds[b.Op]}]
	if isSeqStep(a) && isSeqStep(b) {
		return false
	}
	return cells == "one" || cells == "two" && a.Cell != b.Cell
}

// oneStep is a turn with its step; nth counts those of its thread.
type oneStep struct {
	turn impl.Turn
	ins  impl.Ins
	nth  int
}

// stepsOf leans on the caller for turns that can be.
func stepsOf(p impl.Prog, turns []impl.Turn) []oneStep {
	m := oneMemoryOf(p)
	var out []oneStep
	var counts [4]int
	for _, turn := range turns {
		out = append(out, oneStep{turn, p.Threads[turn.Thread][m.workers[turn.Thread].at], counts[turn.Thread]})
		counts[turn.Thread]++
		m.take(turn)
	}
	return out
}

func (s oneStep) isBehind(ahead oneStep) bool {
	return s.turn.Thread == ahead.turn.Thread || !wantApart(s.ins, ahead.ins)
}

// wantRows peels off, again and again, what has nothing ahead of it any more.
func wantRows(p impl.Prog, turns []impl.Turn) [][]impl.Turn {
	left := stepsOf(p, turns)
	var out [][]impl.Turn
	for len(left) > 0 {
		var row []impl.Turn
		var rest []oneStep
		for i, s := range left {
			if slices.ContainsFunc(left[:i], s.isBehind) {
				rest = append(rest, s)
			} else {
				row = append(row, s.turn)
			}
		}
		slices.SortFunc(row, func(a, b impl.Turn) int { return a.Thread - b.Thread })
		out, left = append(out, row), rest
	}
	return out
}

func wantNormal(p impl.Prog, turns []impl.Turn) ([][]impl.Turn, int) {
	if _, code, _ := wantPlayed(p, turns); code != impl.OK {
		return nil, code
	}
	return wantRows(p, turns), impl.OK
}

// number: of a step, by its thread and which one of the thread's it is.
func (s oneStep) number() int { return 10000*s.turn.Thread + s.nth }

// story: the turns that there were, as numbers below 0, and which of them came ahead of which that is not apart.
func story(p impl.Prog, turns []impl.Turn) string {
	steps := stepsOf(p, turns)
	var words []int
	for i, s := range steps {
		words = append(words, -1-(100*s.number()+s.turn.Choice))
		for _, ahead := range steps[:i] {
			if s.isBehind(ahead) {
				words = append(words, 100000*ahead.number()+s.number())
			}
		}
	}
	slices.Sort(words)
	return toldInts(words)
}

func wantAlike(p impl.Prog, a, b []impl.Turn) (bool, int) {
	if len(a) > 4096 || len(b) > 4096 {
		return false, impl.ErrLong
	}
	for _, turns := range [][]impl.Turn{a, b} {
		if _, code, _ := wantPlayed(p, turns); code != impl.OK {
			return false, code
		}
	}
	return story(p, a) == story(p, b), impl.OK
}

// runOrder: turn by turn, by Thread, then by Choice.
func runOrder(a, b []impl.Turn) int {
	return slices.CompareFunc(a, b, func(x, y impl.Turn) int {
		return cmp.Or(cmp.Compare(x.Thread, y.Thread), cmp.Compare(x.Choice, y.Choice))
	})
}

// wantClasses leans on Runs, which the tests of chapter 14 hold against a telling of their own.
func wantClasses(p impl.Prog) ([][]impl.Turn, int) {
	count, code := impl.Runs(p, 3000)
	if code != impl.OK {
		return nil, code
	}
	if count > 2000 {
		return nil, impl.ErrFuel
	}
	rows, _ := rowsOneByOne(p, 1<<40)
	return leastOfEach(p, rows), impl.OK
}

func leastOfEach(p impl.Prog, rows [][]impl.Turn) [][]impl.Turn {
	kinds := map[string][]impl.Turn{}
	for _, row := range rows {
		of := story(p, row)
		if least, isThere := kinds[of]; !isThere || runOrder(row, least) < 0 {
			kinds[of] = row
		}
	}
	return slices.SortedFunc(maps.Values(kinds), runOrder)
}

// exchanges: all ways to put threads in the places of those that have the same instructions.
func exchanges(p impl.Prog) [][]int {
	out := [][]int{nil}
	for at := range p.Threads {
		var longer [][]int
		for _, row := range out {
			for other := range p.Threads {
				if !slices.Contains(row, other) && slices.Equal(p.Threads[at], p.Threads[other]) {
					longer = append(longer, append(slices.Clip(row), other))
				}
			}
		}
		out = longer
	}
	return out
}

// foldedSight: the least of the texts of a state whose threads are exchanged in each of these ways.
func (m *oneMemory) foldedSight(ways [][]int) string {
	var texts []string
	for _, way := range ways {
		other := *m
		other.workers = nil
		for _, number := range way {
			other.workers = append(other.workers, m.workers[number])
		}
		texts = append(texts, other.sight(sightNames))
	}
	return slices.Min(texts)
}

func (w oneWorld) folded(p impl.Prog) int {
	ways := exchanges(p)
	texts := map[string]bool{}
	for _, s := range w {
		texts[s.memory.foldedSight(ways)] = true
	}
	return len(texts)
}

func wantFolded(p impl.Prog, most int) (int, int) {
	w, code := wantWorld(p, most)
	if code != impl.OK {
		return 0, code
	}
	return w.folded(p), impl.OK
}

// reduceGiven: all that the calls of chapter 15 are given.
type reduceGiven struct {
	p    impl.Prog
	most int
	a, b []impl.Turn
}

// reduceAnswer: what they answer.
type reduceAnswer struct {
	rows                                 [][]impl.Turn
	isAlike                              bool
	classes                              [][]impl.Turn
	folded                               int
	rowsCode, alikeCode, classCode, code int
}

func tidyRuns(runs [][]impl.Turn) [][]impl.Turn {
	var out [][]impl.Turn
	for _, run := range runs {
		out = append(out, tidyList(run))
	}
	return out
}

func (g reduceGiven) answer() reduceAnswer {
	var r reduceAnswer
	r.rows, r.rowsCode = impl.Normal(g.p, g.a)
	r.isAlike, r.alikeCode = impl.Alike(g.p, g.a, g.b)
	r.classes, r.classCode = impl.Classes(g.p)
	r.folded, r.code = impl.Folded(g.p, g.most)
	r.rows, r.classes = tidyRuns(r.rows), tidyRuns(r.classes)
	return r
}

func (g reduceGiven) want() reduceAnswer {
	var r reduceAnswer
	r.rows, r.rowsCode = wantNormal(g.p, g.a)
	r.isAlike, r.alikeCode = wantAlike(g.p, g.a, g.b)
	r.classes, r.classCode = wantClasses(g.p)
	r.folded, r.code = wantFolded(g.p, g.most)
	r.rows, r.classes = tidyRuns(r.rows), tidyRuns(r.classes)
	return r
}

func isSameAnswer(a, b reduceAnswer) bool { return reflect.DeepEqual(a, b) }

// toldRuns: rows of turns with bars between them.
func toldRuns(runs [][]impl.Turn) string {
	var words []string
	for _, run := range runs {
		words = append(words, toldTurns(run))
	}
	return strings.Join(words, " | ")
}

func (g reduceGiven) show() string {
	return fmt.Sprintf("%s%s\nand %s, most %d\n", showCells(g.p), toldTurns(g.a), toldTurns(g.b), g.most)
}

func (r reduceAnswer) show() string {
	return fmt.Sprintf("normal %s: %s\nalike %s: %t\nclasses %s: %s\nfolded %s: %d\n", impl.CodeWord(r.rowsCode), toldRuns(r.rows), impl.CodeWord(r.alikeCode), r.isAlike,
		impl.CodeWord(r.classCode), toldRuns(r.classes), impl.CodeWord(r.code), r.folded)
}
