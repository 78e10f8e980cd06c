package tests

import (
	"reflect"
	"slices"
	"strconv"
	"strings"
	"testing"

	"loop.example/g00045/impl"
)

// fewCells: a right program of a few steps on memory.
func fewCells(s source) impl.Prog {
	m := cellMaker{s, 1 + s.IntN(2), pick(s, []int{0, 2, 3, 5}), pick(s, []int{1, 2, 4, 10, 100})}
	return m.prog(1+s.IntN(3), 4)
}

// allSeq: the program with all steps on memory of order seq.
func allSeq(p impl.Prog) impl.Prog {
	p = tidyProg(p)
	for _, code := range p.Threads {
		for i := range code {
			if code[i].Order != 0 {
				code[i].Order = impl.OrSeq
			}
		}
	}
	return p
}

func tidyEnd(e impl.End) impl.End {
	return impl.End{Bad: e.Bad, Stuck: tidyList(e.Stuck), Regs: tidyRows(e.Regs), Cells: tidyList(e.Cells)}
}

func tidyReport(r impl.Report) impl.Report {
	var ends []impl.End
	for _, e := range r.Ends {
		ends = append(ends, tidyEnd(e))
	}
	r.Ends = ends
	return r
}

type turnsAnswer struct {
	turns []impl.Turn
	code  int
}

// exploreAnswer: what the calls of chapter 14 answer; found has one for each of whats, then one for each of ends.
type exploreAnswer struct {
	report     impl.Report
	code       int
	found      []turnsAnswer
	runs       int
	runsCode   int
	whats, end int
}

var allWhats = []int{impl.FdBad, impl.FdStuck, impl.FdHung}

func answerOfRuns(p impl.Prog, most int, whats []int, ends []impl.End) exploreAnswer {
	a := exploreAnswer{whats: len(whats), end: len(ends)}
	a.report, a.code = impl.Explore(p, most)
	a.report = tidyReport(a.report)
	for _, what := range whats {
		turns, code := impl.Find(p, most, what)
		a.found = append(a.found, turnsAnswer{tidyList(turns), code})
	}
	for _, e := range ends {
		turns, code := impl.FindEnd(p, most, e)
		a.found = append(a.found, turnsAnswer{tidyList(turns), code})
	}
	a.runs, a.runsCode = impl.Runs(p, most)
	return a
}

// wantOfRuns: the second telling's answer.
func wantOfRuns(w oneWorld, code int, whats []int, ends []impl.End) exploreAnswer {
	a := exploreAnswer{code: code, runsCode: code, whats: len(whats), end: len(ends)}
	if code != impl.OK {
		a.found = slices.Repeat([]turnsAnswer{{nil, code}}, len(whats)+len(ends))
		return a
	}
	a.report = tidyReport(w.report())
	for _, what := range whats {
		turns, code := w.find(what)
		a.found = append(a.found, turnsAnswer{tidyList(turns), code})
	}
	for _, e := range ends {
		turns, code := w.findEnd(e)
		a.found = append(a.found, turnsAnswer{tidyList(turns), code})
	}
	a.runs, a.runsCode = w.runs()
	return a
}

func showAnswer(a exploreAnswer) string {
	out := impl.CodeWord(a.code) + ": " + showReport(a.report) + "\nruns " + strconv.Itoa(a.runs) + " " + impl.CodeWord(a.runsCode)
	for _, f := range a.found {
		out += "\nfound " + toldTurns(f.turns) + " " + impl.CodeWord(f.code)
	}
	return out
}

// checkRunsAnswer: of all kinds, and of all ends that there are.
func checkRunsAnswer(t *testing.T, p impl.Prog, most int, w oneWorld, code int) {
	t.Helper()
	var ends []impl.End
	if code == impl.OK {
		ends = w.report().Ends
	}
	want := wantOfRuns(w, code, allWhats, ends)
	if got := answerOfRuns(p, most, allWhats, ends); !reflect.DeepEqual(got, want) {
		t.Fatalf("%smost %d\n%s\nnot\n%s", showCells(p), most, showAnswer(got), showAnswer(want))
	}
}

// checkSameRuns: all calls answer as the second telling does.
func checkSameRuns(t *testing.T, p impl.Prog, most int) {
	t.Helper()
	w, code := wantWorld(p, most)
	checkRunsAnswer(t, p, most, w, code)
}

// toldFound: turns, or the word of a code.
func toldFound(turns []impl.Turn, code int) string {
	if code != impl.OK {
		return impl.CodeWord(code)
	}
	return toldTurns(turns)
}

// checkMap: each named part of what the calls answer is as told. Parts have semicolons between them: states 5; moves 5; bad 0; stuck 0; hung 0; ends fine, stuck , regs 1/2, cells 3 | ..; runs 2; findbad 0:0 1:1; findstuck none; findhung none.
func checkMap(t *testing.T, prog, want string) {
	t.Helper()
	p := cellsOf(t, prog)
	r, code := impl.Explore(p, impl.MaxStates)
	if code != impl.OK {
		t.Fatalf("%s: %s", prog, impl.CodeWord(code))
	}
	parts := map[string]string{"states": strconv.Itoa(r.States), "moves": strconv.Itoa(r.Moves), "bad": strconv.Itoa(r.Bad), "stuck": strconv.Itoa(r.Stuck), "hung": strconv.Itoa(r.Hung), "ends": toldEnds(r.Ends)}
	for i, name := range []string{"findbad", "findstuck", "findhung"} {
		parts[name] = toldFound(impl.Find(p, impl.MaxStates, allWhats[i]))
	}
	count, code := impl.Runs(p, impl.MaxStates)
	parts["runs"] = strconv.Itoa(count)
	if code != impl.OK {
		parts["runs"] = impl.CodeWord(code)
	}
	for _, part := range strings.Split(want, ";") {
		name, told, _ := strings.Cut(strings.TrimSpace(part), " ")
		if got, isPart := parts[name]; !isPart || got != told {
			t.Errorf("%s\n%s %s, not %s", prog, name, got, told)
		}
	}
	if r.States <= 400 {
		checkSameRuns(t, p, impl.MaxStates)
	}
}

// checkMapCode: all four calls answer that code and nothing else, whatever else they are given.
func checkMapCode(t *testing.T, what string, p impl.Prog, most, code int) {
	t.Helper()
	ends := []impl.End{{}, {Bad: true}, {Regs: make([][]int, 1), Cells: make([]int, 1)}}
	whats := slices.Concat(allWhats, []int{0, 4, -1, 1<<63 - 1, -1 << 63})
	want := wantOfRuns(nil, code, whats, ends)
	if got := answerOfRuns(p, most, whats, ends); !reflect.DeepEqual(got, want) {
		t.Errorf("%s, most %d\n%s\nnot\n%s", what, most, showAnswer(got), showAnswer(want))
	}
}
