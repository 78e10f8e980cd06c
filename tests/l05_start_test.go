package tests

import (
	"reflect"
	"runtime"
	"slices"
	"strings"
	"sync"
	"testing"

	"loop.example/g00045/impl"
)

func TestLimitsOfChapter6(t *testing.T) {
	if impl.MaxProgram != 40 || impl.MaxFuel != 20000 || impl.MaxCalls != 50 {
		t.Errorf("limits %d, %d, %d", impl.MaxProgram, impl.MaxFuel, impl.MaxCalls)
	}
	kinds := []int{impl.EvVar, impl.EvSet, impl.EvEmit, impl.EvUp, impl.EvFail, impl.EvStop, impl.EvDown}
	if !slices.Equal(kinds, []int{1, 2, 3, 4, 5, 6, 7}) {
		t.Errorf("kinds of events %v", kinds)
	}
}

// progAnswers: what CheckProgram answers, and of each package that is asked for what StartOrder and Waves do.
type progAnswers struct {
	code   int
	about  []string
	orders [][]string
	codes  []int
	abouts [][]string
	waves  [][][]string
	more   []int
}

func tidyWaves(waves [][]string) [][]string {
	var out [][]string
	for _, wave := range waves {
		out = append(out, tidyList(wave))
	}
	return out
}

func (a *progAnswers) add(order []string, code int, about []string, waves [][]string, waveCode int) {
	a.orders, a.codes, a.abouts = append(a.orders, tidyList(order)), append(a.codes, code), append(a.abouts, tidyList(about))
	a.waves, a.more = append(a.waves, tidyWaves(waves)), append(a.more, waveCode)
}

// askedMains: a program's packages, and others.
func askedMains(files []impl.File) []string {
	return append(packageNamesOf(files), "", "nope", "var", "main ", strings.Repeat("m", impl.MaxText+1))
}

func programAnswers(files []impl.File, mains []string) progAnswers {
	var a progAnswers
	a.code, a.about = impl.CheckProgram(files)
	a.about = tidyList(a.about)
	for _, main := range mains {
		order, code, about := impl.StartOrder(files, main)
		waves, waveCode := impl.Waves(files, main)
		a.add(order, code, about, waves, waveCode)
	}
	return a
}

func wantProgramAnswers(files []impl.File, mains []string) progAnswers {
	var a progAnswers
	a.code, a.about = wantProgram(files)
	a.about = tidyList(a.about)
	for _, main := range mains {
		order, code, about := wantOrder(files, main, a.code, a.about)
		waves, waveCode := wantWaves(files, main, a.code)
		a.add(order, code, about, waves, waveCode)
	}
	return a
}

func tidyTrace(x impl.Trace) impl.Trace {
	x.Events, x.Values = tidyList(x.Events), tidyList(x.Values)
	return x
}

func checkTrace(t *testing.T, what string, files []impl.File, got, want impl.Trace) {
	t.Helper()
	got, want = tidyTrace(got), tidyTrace(want)
	if !reflect.DeepEqual(got, want) {
		t.Fatalf("%s\n%s: %s, not\n%s", showProgram(files), what, clipped(showTrace(got)), clipped(showTrace(want)))
	}
}

// ownEvents: those of one package.
func ownEvents(x impl.Trace, pkg string) []impl.Event {
	return slices.DeleteFunc(slices.Clone(x.Events), func(e impl.Event) bool { return e.Package != pkg })
}

func packagesWith(x impl.Trace, kind int) []string {
	var out []string
	for _, e := range x.Events {
		if e.Kind == kind {
			out = append(out, e.Package)
		}
	}
	return out
}

func sortedValues(x impl.Trace) []impl.Value {
	out := slices.Clone(x.Values)
	slices.SortFunc(out, func(a, b impl.Value) int { return strings.Compare(a.Name, b.Name) })
	return out
}

// checkUndone: a start that has a code leaves nothing up.
func checkUndone(t *testing.T, files []impl.File, x impl.Trace) {
	t.Helper()
	first := slices.IndexFunc(x.Events, func(e impl.Event) bool { return e.Kind == impl.EvStop })
	if first < 0 {
		first = len(x.Events)
	}
	fails := 0
	for _, e := range x.Events[:first] {
		if e.Kind == impl.EvFail {
			fails++
		}
	}
	up := packagesWith(x, impl.EvUp)
	slices.Reverse(up)
	if last := first - 1; last < 0 || fails != 1 || x.Events[last].Kind != impl.EvFail || x.Events[last].Num != x.Code || slices.Contains(up, x.Events[last].Package) || len(x.Values) > 0 {
		t.Fatalf("%s\nnot as a start that fails: %s", showProgram(files), showTrace(x))
	}
	if !slices.Equal(packagesWith(x, impl.EvStop), up) || !slices.Equal(packagesWith(x, impl.EvDown), up) {
		t.Fatalf("%s\nnot all are stopped: %s", showProgram(files), showTrace(x))
	}
}

// checkAlike: P6 of two starts of one program.
func checkAlike(t *testing.T, files []impl.File, one, other impl.Trace) {
	t.Helper()
	if (one.Code == impl.OK) != (other.Code == impl.OK) || !slices.Equal(sortedValues(one), sortedValues(other)) {
		t.Fatalf("%s\n%s, and\n%s", showProgram(files), showTrace(one), showTrace(other))
	}
	for _, x := range []impl.Trace{one, other} {
		if x.Code != impl.OK {
			checkUndone(t, files, x)
		}
	}
	if one.Code != impl.OK {
		return
	}
	if one.Steps != other.Steps {
		t.Fatalf("%s\n%d and %d steps", showProgram(files), one.Steps, other.Steps)
	}
	for _, pkg := range packageNamesOf(files) {
		if !slices.Equal(ownEvents(one, pkg), ownEvents(other, pkg)) {
			t.Fatalf("%s\n%s: %s, and\n%s", showProgram(files), pkg, showTrace(one), showTrace(other))
		}
	}
}

// checkWaves: P6 of waves.
func checkWaves(t *testing.T, files []impl.File, order []string, waves [][]string) {
	t.Helper()
	numbers, count := map[string]int{}, 0
	for i, wave := range waves {
		for _, pkg := range wave {
			numbers[pkg] = i
			count++
		}
	}
	if count != len(order) || len(numbers) != count {
		t.Fatalf("%s\n%v: waves %v", showProgram(files), order, waves)
	}
	for _, pkg := range order {
		number, has := numbers[pkg]
		latest := -1
		for _, other := range importsOf(files, pkg) {
			latest = max(latest, numbers[other])
		}
		if !has || number != latest+1 || !slices.IsSorted(waves[number]) {
			t.Fatalf("%s\n%s in waves %v", showProgram(files), pkg, waves)
		}
	}
}

// anyRightOrder: one of the orders in which a package may start.
func anyRightOrder(s source, files []impl.File, main string) []string {
	var out []string
	left := reachedPackages(files, main)
	s.Shuffle(len(left), func(i, k int) { left[i], left[k] = left[k], left[i] })
	for len(left) > 0 {
		at := slices.IndexFunc(left, func(pkg string) bool {
			return !slices.ContainsFunc(importsOf(files, pkg), func(other string) bool { return slices.Contains(left, other) })
		})
		out = append(out, left[at])
		left = slices.Delete(left, at, at+1)
	}
	return out
}

// wideMain: mostly the package that reaches most.
func wideMain(s source, files []impl.File) string {
	names := packageNamesOf(files)
	if s.IntN(4) == 0 {
		return pick(s, names)
	}
	return slices.MaxFunc(names, func(a, b string) int { return len(reachedPackages(files, a)) - len(reachedPackages(files, b)) })
}

// progCounts: how often what a test must meet was met.
type progCounts struct {
	codes, runs, failed map[int]int
	inVar, inInit       int
	inStop, afterStop   int
	undone, setInStop   int
	turned, deepWaves   int
}

func (c *progCounts) count(x impl.Trace, stop bool) {
	c.runs[x.Code]++
	first := slices.IndexFunc(x.Events, func(e impl.Event) bool { return e.Kind == impl.EvStop })
	for i, e := range x.Events {
		isStopping := first >= 0 && i > first
		switch {
		case e.Kind == impl.EvFail && isStopping:
			c.inStop++
			c.failed[e.Num]++
			if x.Events[i+1].Kind != impl.EvDown {
				c.afterStop++
			}
		case e.Kind == impl.EvFail && e.Name == "":
			c.inInit++
		case e.Kind == impl.EvFail:
			c.inVar++
		case e.Kind == impl.EvSet && isStopping && x.Code == impl.OK:
			c.setInStop++
		}
	}
	if x.Code != impl.OK && first >= 0 && !stop {
		c.undone++
	}
}

// checkRuns: starts of a program that is right, with fuels of any size, in its own order and in another one.
func checkRuns(t *testing.T, s source, files []impl.File, main string, c *progCounts) {
	t.Helper()
	own, _, _ := impl.StartOrder(files, main)
	other := anyRightOrder(s, files, main)
	if !slices.Equal(own, other) {
		c.turned++
	}
	ownRun, otherRun := runOf(files, own), runOf(files, other)
	all := ownRun.trace(impl.MaxFuel, false).Steps
	for _, fuel := range []int{impl.MaxFuel, all + 1, all, all - 1, s.IntN(all + 2), s.IntN(all + 2), 0} {
		if fuel < 0 || fuel > impl.MaxFuel {
			continue
		}
		stop := s.IntN(2) == 0
		first := impl.Run(files, main, nil, fuel, stop)
		checkTrace(t, "Run", files, first, ownRun.trace(fuel, stop))
		second := impl.Run(files, main, other, fuel, stop)
		checkTrace(t, "Run in "+strings.Join(other, " "), files, second, otherRun.trace(fuel, stop))
		checkAlike(t, files, first, second)
		c.count(first, stop)
	}
}

// Programs of any make: each answer is the second telling's, and P6 holds.
func TestProgramsOfAnyMake(t *testing.T) {
	s := newSource()
	c := progCounts{codes: map[int]int{}, runs: map[int]int{}, failed: map[int]int{}}
	for i := range 3000 {
		files := anyProgram(t, s, 5, []int{0, 0, 60, 200}[i%4])
		mains := askedMains(files)
		if i%8 > 0 {
			mains = packageNamesOf(files)
		}
		got, want := programAnswers(files, mains), wantProgramAnswers(files, mains)
		if !reflect.DeepEqual(got, want) {
			t.Fatalf("%s\n%+v, not\n%+v", showProgram(files), got, want)
		}
		c.codes[got.code]++
		if got.code != impl.OK {
			continue
		}
		for k := range packageNamesOf(files) {
			checkWaves(t, files, got.orders[k], got.waves[k])
			c.deepWaves += max(0, len(got.waves[k])-3)
		}
		checkRuns(t, s, files, wideMain(s, files), &c)
	}
	for _, code := range []int{impl.OK, impl.ErrName, impl.ErrKind, impl.ErrRange, impl.ErrTwice, impl.ErrNone, impl.ErrLoop, impl.ErrZero} {
		if c.codes[code] < 20 {
			t.Errorf("CheckProgram: %v", c.codes)
		}
	}
	for _, code := range []int{impl.OK, impl.ErrZero, impl.ErrFail, impl.ErrFuel, impl.ErrDeep} {
		if c.runs[code] < 20 || code != impl.OK && c.failed[code] < 20 {
			t.Errorf("Run: %v, in stops %v", c.runs, c.failed)
		}
	}
	if min(c.inVar, c.inInit, c.inStop, c.afterStop, c.undone, c.setInStop, c.turned, c.deepWaves) < 100 {
		t.Errorf("%+v", c)
	}
}

// P6: the list of files in every order: the same codes, orders, waves and traces.
func TestProgramsInEveryOrder(t *testing.T) {
	s := newSource()
	for i := 0; i < 60; {
		files := anyProgram(t, s, 4, []int{0, 100}[i%2])
		if len(files) < 3 || len(files) > 5 {
			continue
		}
		i++
		mains := askedMains(files)
		want := programAnswers(files, mains)
		main := pick(s, packageNamesOf(files))
		all := impl.Run(files, main, nil, impl.MaxFuel, true)
		fuel := s.IntN(all.Steps + 1)
		part := impl.Run(files, main, nil, fuel, false)
		orders(files, func(list []impl.File) {
			if got := programAnswers(list, mains); !reflect.DeepEqual(got, want) {
				t.Fatalf("%s\n%+v, not\n%+v", showProgram(list), got, want)
			}
			checkTrace(t, "Run", list, impl.Run(list, main, nil, impl.MaxFuel, true), all)
			checkTrace(t, "Run", list, impl.Run(list, main, nil, fuel, false), part)
		})
	}
}

// P6: the packages in every order: the right ones come to the same, all others are refused.
func TestStartsInEveryOrder(t *testing.T) {
	s := newSource()
	rights, wrongs, fails := 0, 0, 0
	for i := 0; i < 150; {
		files := anyProgram(t, s, 5, 0)
		main := pick(s, packageNamesOf(files))
		own, code, _ := impl.StartOrder(files, main)
		if code != impl.OK || len(own) < 3 {
			continue
		}
		i++
		all := impl.Run(files, main, nil, impl.MaxFuel, true)
		for _, fuel := range []int{impl.MaxFuel, all.Steps / 2} {
			first := impl.Run(files, main, nil, fuel, i%2 == 0)
			orders(own, func(order []string) {
				got := impl.Run(files, main, order, fuel, i%2 == 0)
				if !isRightOrder(files, main, order) {
					checkTrace(t, "Run in a wrong order", files, got, impl.Trace{Code: impl.ErrState})
					wrongs++
					return
				}
				checkAlike(t, files, first, got)
				rights++
				fails += min(1, got.Code)
				if names := packagesWith(got, impl.EvUp); !slices.Equal(names, order[:len(names)]) || got.Code == impl.OK && len(names) < len(order) {
					t.Fatalf("%s\n%v: %s", showProgram(files), order, showTrace(got))
				}
			})
		}
	}
	if min(rights, wrongs, fails) < 300 {
		t.Errorf("%d right orders, %d wrong ones, %d fail", rights, wrongs, fails)
	}
}

// oneRun is what is handed in to a Run.
type oneRun struct {
	files []impl.File
	main  string
	order []string
	fuel  int
	stop  bool
}

func (r oneRun) trace() impl.Trace { return impl.Run(r.files, r.main, r.order, r.fuel, r.stop) }

func anyRun(t *testing.T, s source, wild int) oneRun {
	files := anyProgram(t, s, 4, wild)
	r := oneRun{files: files, main: pick(s, packageNamesOf(files)), fuel: pick(s, []int{0, 5, 20, 50, impl.MaxFuel}), stop: s.IntN(2) == 0}
	if order, code, _ := impl.StartOrder(files, r.main); code == impl.OK && s.IntN(2) == 0 {
		r.order = order
	}
	return r
}

// P1: what is handed in stays as it was, answers do not hang on what was called ahead.
func TestProgramsAreNotChanged(t *testing.T) {
	s := newSource()
	var all []oneRun
	var before [][]impl.File
	var orders [][]string
	var first []progAnswers
	var traces []impl.Trace
	for i := range 300 {
		r := anyRun(t, s, []int{0, 60}[i%2])
		r.files, r.order = roomyPackage(r.files), roomy(r.order, "sign")
		all, before, orders = append(all, r), append(before, keptPackage(r.files)), append(orders, whole(r.order))
		first = append(first, programAnswers(r.files, askedMains(r.files)))
		traces = append(traces, tidyTrace(r.trace()))
	}
	for i := len(all) - 1; i >= 0; i-- {
		if again := programAnswers(all[i].files, askedMains(all[i].files)); !reflect.DeepEqual(again, first[i]) {
			t.Fatalf("%s\n%+v, then %+v", showProgram(all[i].files), first[i], again)
		}
		checkTrace(t, "Run again", all[i].files, all[i].trace(), traces[i])
	}
	for i := range all {
		if !reflect.DeepEqual(keptPackage(all[i].files), before[i]) || !slices.Equal(whole(all[i].order), orders[i]) {
			t.Fatalf("%s\nwas changed", showProgram(all[i].files))
		}
	}
}

// P1: calls at the same time answer as calls one behind the other, of one list of files and of several.
func TestProgramsAtTheSameTime(t *testing.T) {
	s := newSource()
	var all []oneRun
	var want []impl.Trace
	for range 24 {
		r := anyRun(t, s, 0)
		all, want = append(all, r), append(want, tidyTrace(r.trace()))
	}
	var workers sync.WaitGroup
	for worker := range 16 {
		workers.Go(func() {
			for i := range 3 * len(all) {
				at := (i*(1+worker%3) + worker/4) % len(all)
				if got := tidyTrace(all[at].trace()); !reflect.DeepEqual(got, want[at]) {
					t.Errorf("%s\n%s, not\n%s", showProgram(all[at].files), showTrace(got), showTrace(want[at]))
				}
			}
		})
	}
	workers.Wait()
}

func (a *rawAnswer) trace(x impl.Trace) {
	a.lists, a.kept = append(a.lists, stretchOf(x.Events), stretchOf(x.Values)), append(a.kept, x)
	for _, e := range x.Events {
		a.texts = append(a.texts, e.Package, e.Name)
	}
	for _, value := range x.Values {
		a.texts = append(a.texts, value.Name)
	}
}

func (a *rawAnswer) program(r oneRun, mains []string) {
	_, about := impl.CheckProgram(r.files)
	a.names(about)
	for _, main := range mains {
		order, _, about := impl.StartOrder(r.files, main)
		a.names(order)
		a.names(about)
		waves, _ := impl.Waves(r.files, main)
		a.lists, a.kept = append(a.lists, stretchOf(waves)), append(a.kept, waves)
		for _, wave := range waves {
			a.names(wave)
		}
	}
	a.trace(r.trace())
}

// P1: an answer shares no memory with what was handed in, and its lists none with one another.
func TestProgramAnswersAreNew(t *testing.T) {
	s := newSource()
	for i := range 300 {
		r := anyRun(t, s, []int{0, 0, 30}[i%3])
		lists := []stretch{stretchOf(r.files), stretchOf(r.order)}
		mains := askedMains(r.files)
		given := append(slices.Clone(r.order), mains...)
		given = append(given, r.main)
		for _, f := range r.files {
			lists, given = append(lists, fileLists(f)...), append(given, fileTexts(f)...)
		}
		var answers [2]rawAnswer
		for k := range answers {
			answers[k].program(r, mains)
			lists = append(lists, answers[k].lists...)
			checkNewTexts(t, answers[k].texts, given)
		}
		checkApart(t, lists)
		runtime.KeepAlive(answers)
	}
}
