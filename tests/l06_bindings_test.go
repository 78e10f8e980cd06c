package tests

import (
	"reflect"
	"runtime"
	"slices"
	"strconv"
	"strings"
	"sync"
	"testing"

	"loop.example/g00045/impl"
)

// bound: what one call of Resolve or Wrappers answers.
type bound struct {
	numbers []int
	code    int
}

// boundAnswers: what all calls of chapter 7 answer.
type boundAnswers struct {
	isRight   bool
	found     []bound
	around    []bound
	problems  []impl.Problem
	auditCode int
	circle    []string
	code      int
}

// askedWants: of each key and tag of the bindings and of others all modes, and some that are wrong.
func askedWants(list []impl.Binding) []impl.Want {
	keys, tags := []string{"nope"}, []string{"", "nope"}
	for _, b := range list {
		keys, tags = append(keys, b.Key), append(tags, b.Tag)
	}
	slices.Sort(keys)
	slices.Sort(tags)
	out := []impl.Want{{}, {Key: "k"}, {Key: "k", Mode: 5}, {Key: "k", Tag: "1", Mode: 1}, {Key: "!", Mode: 3}}
	for _, key := range slices.Compact(keys) {
		for _, tag := range slices.Compact(slices.Clone(tags)) {
			for mode := 1; mode <= 4; mode++ {
				out = append(out, impl.Want{Key: key, Tag: tag, Mode: mode})
			}
		}
	}
	return out
}

func askedNumbers(list []impl.Binding) []int {
	out := []int{-1 << 63, -1, 1<<63 - 1}
	for i := range len(list) + 1 {
		out = append(out, i)
	}
	return out
}

func rawBound(list []impl.Binding, flags []string) boundAnswers {
	a := boundAnswers{isRight: impl.BindingsOK(list)}
	for _, w := range askedWants(list) {
		numbers, code := impl.Resolve(list, flags, w)
		a.found = append(a.found, bound{numbers, code})
	}
	for _, number := range askedNumbers(list) {
		numbers, code := impl.Wrappers(list, flags, number)
		a.around = append(a.around, bound{numbers, code})
	}
	a.problems, a.auditCode = impl.Audit(list, flags)
	a.circle, a.code = impl.Circle(list, flags)
	return a
}

func wantBound(list []impl.Binding, flags []string) boundAnswers {
	a := boundAnswers{isRight: areSomeBindings(list)}
	for _, w := range askedWants(list) {
		numbers, code := wantResolve(list, flags, w)
		a.found = append(a.found, bound{numbers, code})
	}
	for _, number := range askedNumbers(list) {
		numbers, code := wantWrappers(list, flags, number)
		a.around = append(a.around, bound{numbers, code})
	}
	a.problems, a.auditCode = wantAudit(list, flags)
	a.circle, a.code, _ = wantCircle(list, flags)
	return a
}

func tidyBound(a boundAnswers) boundAnswers {
	for _, answers := range []*[]bound{&a.found, &a.around} {
		*answers = slices.Clone(*answers)
		for i := range *answers {
			(*answers)[i].numbers = tidyList((*answers)[i].numbers)
		}
	}
	a.problems, a.circle = tidyList(a.problems), tidyList(a.circle)
	return a
}

// showBound is what a failing test tells of answers that differ.
func showBound(list []impl.Binding, got, want boundAnswers) string {
	var out []string
	for i, w := range askedWants(list) {
		if !reflect.DeepEqual(got.found[i], want.found[i]) {
			out = append(out, "Resolve "+showWant(w)+": "+toldOr(got.found[i].code, namesOf(list, got.found[i].numbers))+", not "+toldOr(want.found[i].code, namesOf(list, want.found[i].numbers)))
		}
	}
	for i, number := range askedNumbers(list) {
		if !reflect.DeepEqual(got.around[i], want.around[i]) {
			out = append(out, "Wrappers "+strconv.Itoa(number)+": "+toldOr(got.around[i].code, namesOf(list, got.around[i].numbers))+", not "+toldOr(want.around[i].code, namesOf(list, want.around[i].numbers)))
		}
	}
	out = append(out, "Audit "+toldOr(got.auditCode, toldProblems(got.problems))+" and "+toldOr(want.auditCode, toldProblems(want.problems)))
	out = append(out, "Circle "+toldOr(got.code, strings.Join(got.circle, " "))+" and "+toldOr(want.code, strings.Join(want.circle, " ")))
	return strings.Join(out[:min(len(out), 8)], "\n")
}

func checkSameBound(t *testing.T, list []impl.Binding, flags []string, want boundAnswers) {
	t.Helper()
	if got := tidyBound(rawBound(list, flags)); !reflect.DeepEqual(got, want) {
		t.Fatalf("%s\n%s", showBindings(list, flags), showBound(list, got, want))
	}
}

// loopNames: the Names that an audit tells with ErrLoop, in its order.
func loopNames(problems []impl.Problem) []string {
	var names []string
	for _, p := range problems {
		if p.Code == impl.ErrLoop {
			names = append(names, p.Name)
		}
	}
	return names
}

// checkP7: the promise, by what the calls themselves answer; which bindings lead back is told by rows of steps.
func checkP7(t *testing.T, list []impl.Binding, flags []string, a boundAnswers) {
	t.Helper()
	loops := loopNames(a.problems)
	if len(a.problems) == 0 && a.code != impl.ErrNone || (len(loops) > 0) != (a.code == impl.OK) {
		t.Fatalf("%s: Audit %s, Circle %v %d", showBindings(list, flags), toldProblems(a.problems), a.circle, a.code)
	}
	for _, name := range a.circle {
		if !slices.Contains(loops, name) {
			t.Fatalf("%s: %s of the circle %v is not told: %s", showBindings(list, flags), name, a.circle, toldProblems(a.problems))
		}
	}
	leads := leadsOf(list, flags)
	for i, name := range a.circle {
		from := slices.IndexFunc(list, func(b impl.Binding) bool { return b.Name == name })
		to := slices.IndexFunc(list, func(b impl.Binding) bool { return b.Name == a.circle[(i+1)%len(a.circle)] })
		if !leads[from][to] {
			t.Fatalf("%s: %v is no circle", showBindings(list, flags), a.circle)
		}
	}
	var want []string
	for i, isBack := range backOf(list, flags) {
		if isBack {
			want = append(want, list[i].Name)
		}
	}
	slices.Sort(want)
	if !slices.Equal(loops, want) {
		t.Fatalf("%s: ErrLoop of %v, not of %v", showBindings(list, flags), loops, want)
	}
}

// boundCounts: how often what a test must meet was met.
type boundCounts struct {
	clean, busy, none, twice, state, loops, more  int
	circles                                       [5]int
	ties, throughWrap, lazyWould, asleep, byFlags int
	all, maybe                                    int
}

func (c *boundCounts) count(list []impl.Binding, flags []string, a boundAnswers) {
	needs := 0
	for _, b := range list {
		if !isAwake(b, flags) {
			c.asleep++
			continue
		}
		needs += len(b.Needs)
		if b.When != "" {
			c.byFlags++
		}
	}
	if len(a.problems) == 0 {
		c.clean++
		c.busy += min(1, needs/4)
	}
	for _, p := range a.problems {
		switch p.Code {
		case impl.ErrNone:
			c.none++
		case impl.ErrTwice:
			c.twice++
		case impl.ErrState:
			c.state++
		case impl.ErrLoop:
			c.loops++
		}
	}
	c.countCircle(list, flags, a)
	for i, w := range askedWants(list) {
		switch {
		case w.Mode == impl.WantAll && len(a.found[i].numbers) > 2:
			c.all++
		case w.Mode == impl.WantMaybe && a.found[i].code == impl.OK && len(a.found[i].numbers) == 0:
			c.maybe++
		}
	}
}

func (c *boundCounts) countCircle(list []impl.Binding, flags []string, a boundAnswers) {
	if a.code != impl.OK {
		c.lazyWould += oneIfCircle(eager(list), flags)
		return
	}
	c.circles[min(len(a.circle), 5)-1]++
	if _, _, count := wantCircle(list, flags); count > 1 {
		c.ties++
	}
	if len(loopNames(a.problems)) > len(a.circle) {
		c.more++
	}
	isIn := func(b impl.Binding) bool { return b.Wraps && slices.Contains(a.circle, b.Name) }
	if slices.ContainsFunc(list, isIn) {
		c.throughWrap++
	}
}

// eager: the same bindings without a lazy need.
func eager(list []impl.Binding) []impl.Binding {
	out := slices.Clone(list)
	for i := range out {
		out[i].Needs = slices.Clone(out[i].Needs)
		for k := range out[i].Needs {
			if out[i].Needs[k].Mode == impl.WantLazy {
				out[i].Needs[k].Mode = impl.WantOne
			}
		}
	}
	return out
}

func oneIfCircle(list []impl.Binding, flags []string) int {
	if _, code, _ := wantCircle(list, flags); code == impl.OK {
		return 1
	}
	return 0
}

// Bindings of any make: each answer is the second telling's, and P7 holds.
func TestBindingsOfAnyMake(t *testing.T) {
	s := newSource()
	var c boundCounts
	for i := range 12000 {
		list, flags := anyBindings(s, 3+i%10, []int{0, 12, 3, 1}[i%4], i%3 > 0)
		want := tidyBound(wantBound(list, flags))
		checkSameBound(t, list, flags, want)
		checkP7(t, list, flags, want)
		c.count(list, flags, want)
		if !want.isRight {
			t.Fatalf("%s: is not right", showBindings(list, flags))
		}
	}
	for name, count := range map[string]int{"clean": c.clean, "clean with needs": c.busy, "none": c.none, "twice": c.twice, "state": c.state, "loops": c.loops, "more loops than the circle's": c.more, "circles of 1": c.circles[0],
		"circles of 2": c.circles[1], "circles of 3": c.circles[2], "circles of 4": c.circles[3], "longer circles": c.circles[4], "ties": c.ties, "through a wrapper": c.throughWrap, "that a lazy need would close": c.lazyWould,
		"not active": c.asleep, "active by flags": c.byFlags, "all": c.all, "maybe": c.maybe} {
		if count < 50 {
			t.Errorf("%s: %d, of %+v", name, count, c)
		}
	}
}

// Many bindings, up to as many as there may be.
func TestManyBindingsOfAnyMake(t *testing.T) {
	s := newSource()
	for i := range 60 {
		list, flags := anyBindings(s, impl.MaxBindings, []int{0, 40, 3}[i%3], i%2 == 0)
		problems, code := impl.Audit(list, flags)
		names, circleCode := impl.Circle(list, flags)
		a := boundAnswers{problems: problems, auditCode: code, circle: names, code: circleCode}
		checkP7(t, list, flags, a)
		want, _ := wantAudit(list, flags)
		row, wantCode, _ := wantCircle(list, flags)
		if code != impl.OK || !slices.Equal(problems, want) || circleCode != wantCode || !slices.Equal(names, row) {
			t.Fatalf("%s: Audit %s, Circle %v, not %s, %v", showBindings(list, flags), toldProblems(problems), names, toldProblems(want), row)
		}
	}
}

// What is answered, told by Names, does not hang on the order of the bindings or of the flags, nor on how often a flag stands there.
func TestBindingsInEveryOrder(t *testing.T) {
	s := newSource()
	for i := range 120 {
		list, flags := anyBindings(s, 5, []int{0, 12, 3, 1}[i%4], i%3 > 0)
		problems, _ := wantAudit(list, flags)
		names, code, _ := wantCircle(list, flags)
		orders(list, func(turned []impl.Binding) {
			mixed := append(slices.Clone(flags), flags...)
			s.Shuffle(len(mixed), func(a, b int) { mixed[a], mixed[b] = mixed[b], mixed[a] })
			if got, _ := impl.Audit(turned, mixed); !slices.Equal(got, problems) {
				t.Fatalf("%s: Audit %s, not %s", showBindings(turned, mixed), toldProblems(got), toldProblems(problems))
			}
			if row, got := impl.Circle(turned, mixed); got != code || !slices.Equal(row, names) {
				t.Fatalf("%s: Circle %v %d, not %v", showBindings(turned, mixed), row, got, names)
			}
			for _, w := range askedWants(list) {
				want, wantCode := wantResolve(list, flags, w)
				if found, got := impl.Resolve(turned, mixed, w); got != wantCode || namesOf(turned, found) != namesOf(list, want) {
					t.Fatalf("%s: %s: %s %d, not %s", showBindings(turned, mixed), showWant(w), namesOf(turned, found), got, namesOf(list, want))
				}
			}
		})
	}
}

// turnBindings turns one thing of the bindings.
func turnBindings(s source, list []impl.Binding) []impl.Binding {
	if len(list) == 0 || s.IntN(4) == 0 {
		return turnedList(s, list, []impl.Binding{{}, {Name: "a", Key: "k", Scope: 1}, {Name: "x", Key: "a", Scope: 2, Wraps: true}})
	}
	list = slices.Clone(list)
	b := &list[s.IntN(len(list))]
	b.Needs = slices.Clone(b.Needs)
	switch s.IntN(9) {
	case 0:
		b.Name = pick(s, wrongNames)
	case 1:
		b.Key = pick(s, wrongNames)
	case 2:
		b.Tag = pick(s, wrongNames)
	case 3:
		b.When = pick(s, []string{"!", "!!f", "", "f", "!f", "f!", "when"})
	case 4:
		b.Scope = turnedNumber(s, b.Scope)
	case 5:
		b.Rank = turnedNumber(s, b.Rank)
	case 6:
		b.Wraps = !b.Wraps
	case 7:
		b.Needs = turnedList(s, b.Needs, []impl.Want{{}, {Key: b.Key, Mode: 1}, {Key: "k", Tag: "t", Mode: 4}, {Key: "k", Mode: 5}})
	case 8:
		if len(b.Needs) > 0 {
			need := &b.Needs[s.IntN(len(b.Needs))]
			need.Mode = turnedNumber(s, need.Mode)
			need.Tag = pick(s, []string{"", need.Tag, pick(s, wrongNames)})
		}
	}
	return list
}

// Bindings of any make, right or not.
func TestTurnedBindings(t *testing.T) {
	s := newSource()
	right, bad := 0, 0
	for i := range 6000 {
		list, flags := anyBindings(s, 6, 4, i%2 == 0)
		for range 1 + s.IntN(2) {
			list = turnBindings(s, list)
		}
		want := tidyBound(wantBound(list, flags))
		checkSameBound(t, list, flags, want)
		if want.isRight {
			right++
		} else {
			bad++
		}
	}
	if right < 1500 || bad < 1500 {
		t.Errorf("%d, %d", right, bad)
	}
}

func roomyBindings(list []impl.Binding) []impl.Binding {
	out := roomy(list, impl.Binding{Name: "sign", Key: "k", Scope: 1})
	for i := range out {
		out[i].Needs = roomy(out[i].Needs, impl.Want{Key: "sign", Mode: 1})
	}
	return out
}

// keptBindings: what stands in the bindings' memory, behind their lists' ends too.
func keptBindings(list []impl.Binding) []impl.Binding {
	out := whole(list)
	for i := range out {
		out[i].Needs = whole(out[i].Needs)
	}
	return out
}

// P1: what is handed in stays as it was, answers do not hang on what was called ahead.
func TestBindingsAreNotChanged(t *testing.T) {
	s := newSource()
	type given struct {
		list  []impl.Binding
		flags []string
	}
	var all, before []given
	var first []boundAnswers
	for i := range 400 {
		list, flags := anyBindings(s, 10, []int{0, 12, 3, 1}[i%4], i%3 > 0)
		if i%7 == 0 {
			list = turnBindings(s, list)
		}
		g := given{roomyBindings(list), roomy(flags, "f")}
		all, before = append(all, g), append(before, given{keptBindings(g.list), whole(g.flags)})
		first = append(first, tidyBound(rawBound(g.list, g.flags)))
	}
	for i := len(all) - 1; i >= 0; i-- {
		checkSameBound(t, all[i].list, all[i].flags, first[i])
	}
	for i, g := range all {
		if !reflect.DeepEqual(keptBindings(g.list), before[i].list) || !slices.Equal(whole(g.flags), before[i].flags) {
			t.Fatalf("%s: was changed", showBindings(g.list, g.flags))
		}
	}
}

// P1: calls at the same time answer as calls one behind the other.
func TestBindingsAtTheSameTime(t *testing.T) {
	s := newSource()
	list, flags := anyBindings(s, 14, 3, false)
	for len(list) < 10 {
		list, flags = anyBindings(s, 14, 3, false)
	}
	want := tidyBound(rawBound(list, flags))
	var workers sync.WaitGroup
	for range 16 {
		workers.Go(func() {
			for range 5 {
				if got := tidyBound(rawBound(list, flags)); !reflect.DeepEqual(got, want) {
					t.Errorf("%s\n%s", showBindings(list, flags), showBound(list, got, want))
				}
			}
		})
	}
	workers.Wait()
}

func (a *rawAnswer) bound(x boundAnswers) {
	a.kept = append(a.kept, x)
	for _, answers := range [][]bound{x.found, x.around} {
		for _, one := range answers {
			a.lists = append(a.lists, stretchOf(one.numbers))
		}
	}
	a.lists = append(a.lists, stretchOf(x.problems))
	for _, p := range x.problems {
		a.texts = append(a.texts, p.Name, p.Key, p.Tag)
	}
	a.names(x.circle)
}

// P1: an answer shares no memory with what was handed in, and its lists none with one another.
func TestBindingAnswersAreNew(t *testing.T) {
	s := newSource()
	texts := 0
	for i := range 400 {
		list, flags := anyBindings(s, 8, []int{0, 12, 3, 1}[i%4], i%3 > 0)
		lists := []stretch{stretchOf(list), stretchOf(flags)}
		given := slices.Clone(flags)
		for _, b := range list {
			lists, given = append(lists, stretchOf(b.Needs)), append(given, b.Name, b.Key, b.Tag, b.When)
			for _, need := range b.Needs {
				given = append(given, need.Key, need.Tag)
			}
		}
		var answers [2]rawAnswer
		for k := range answers {
			answers[k].bound(rawBound(list, flags))
			lists = append(lists, answers[k].lists...)
			texts += checkNewTexts(t, answers[k].texts, given)
		}
		checkApart(t, lists)
		runtime.KeepAlive(answers)
	}
	if texts < 1000 {
		t.Errorf("%d texts", texts)
	}
}
