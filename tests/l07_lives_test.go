package tests

import (
	"reflect"
	"runtime"
	"slices"
	"sync"
	"testing"

	"loop.example/g00045/impl"
)

func tidyLife(x impl.Life) impl.Life {
	x.Replies, x.Events, x.Alive = tidyList(x.Replies), tidyList(x.Events), tidyList(x.Alive)
	for i := range x.Replies {
		x.Replies[i].Insts = tidyList(x.Replies[i].Insts)
	}
	for i := range x.Events {
		x.Events[i].Needs = tidyList(x.Events[i].Needs)
	}
	return x
}

func showGiven(list []impl.Binding, flags []string, acts []impl.Act) string {
	return showBindings(list, flags) + "\n" + showActs(acts)
}

func checkSameLife(t *testing.T, list []impl.Binding, flags []string, acts []impl.Act, want impl.Life) {
	t.Helper()
	if got := impl.Live(list, flags, acts); !reflect.DeepEqual(tidyLife(got), tidyLife(want)) {
		t.Fatalf("%s\n%s, not\n%s", showGiven(list, flags, acts), showLife(got), showLife(want))
	}
}

// onLook follows events: which scopes are open, which instances are there.
type onLook struct {
	list  []impl.Binding
	open  map[int]bool
	seen  int
	there map[int]impl.LiveEvent
}

func (o *onLook) binding(e impl.LiveEvent) impl.Binding {
	for _, b := range o.list {
		if b.Name == e.Name {
			return b
		}
	}
	return impl.Binding{}
}

// twins: how many are there that are of the same binding, in the same scope if that counts.
func (o *onLook) twins(e impl.LiveEvent) int {
	b, count := o.binding(e), 0
	for _, other := range o.there {
		if other.Name == e.Name && !b.Wraps && (b.Scope == impl.ScSingle || b.Scope == impl.ScScoped && other.Scope == e.Scope) {
			count++
		}
	}
	return count
}

func (o *onLook) made(e impl.LiveEvent) string {
	o.seen++
	switch b := o.binding(e); {
	case e.Inst != o.seen:
		return "is not the next number"
	case b.Name == "":
		return "is of no binding"
	case !o.open[e.Scope]:
		return "is made in a scope that is not open"
	case b.Scope == impl.ScSingle && !b.Wraps && e.Scope != 0:
		return "is not in scope 0"
	case o.twins(e) > 0:
		return "is there already"
	}
	for _, need := range e.Needs {
		if o.there[need].Kind != impl.LvMade {
			return "is made over what is not there"
		}
	}
	o.there[e.Inst] = e
	return ""
}

func (o *onLook) gone(e impl.LiveEvent) string {
	x := o.there[e.Inst]
	switch {
	case x.Kind != impl.LvMade:
		return "goes and is not there"
	case x.Name != e.Name || x.Scope != e.Scope:
		return "goes as another one"
	case !o.open[e.Scope]:
		return "goes behind its scope's end"
	}
	for number, other := range o.there {
		if other.Scope == e.Scope && number > e.Inst {
			return "goes ahead of a later one of its scope"
		}
		if slices.Contains(other.Needs, e.Inst) {
			return "goes ahead of what was made over it"
		}
	}
	delete(o.there, e.Inst)
	return ""
}

func (o *onLook) shut(e impl.LiveEvent) string {
	if !o.open[e.Scope] {
		return "is shut and not open"
	}
	for _, other := range o.there {
		if other.Scope == e.Scope {
			return "is shut ahead of its instances"
		}
	}
	o.open[e.Scope] = false
	return ""
}

func (o *onLook) see(e impl.LiveEvent) string {
	switch e.Kind {
	case impl.LvOpen:
		if _, has := o.open[e.Scope]; has || e.Scope != len(o.open) {
			return "is opened out of turn"
		}
		o.open[e.Scope] = true
		return ""
	case impl.LvMade:
		return o.made(e)
	case impl.LvGone:
		return o.gone(e)
	case impl.LvShut:
		return o.shut(e)
	}
	return "is of no kind"
}

// checkP8: the promise, by the events alone, and that those that are told at the end are there.
func checkP8(t *testing.T, list []impl.Binding, flags []string, acts []impl.Act, x impl.Life) {
	t.Helper()
	o := &onLook{list: list, open: map[int]bool{0: true}, there: map[int]impl.LiveEvent{}}
	for i, e := range x.Events {
		if fault := o.see(e); fault != "" {
			t.Fatalf("%s\n%s: event %d: %s %s", showGiven(list, flags, acts), showLife(x), i, showLive(e), fault)
		}
	}
	var alive []int
	for number := range o.there {
		alive = append(alive, number)
	}
	slices.Sort(alive)
	if !slices.Equal(alive, x.Alive) || !o.open[0] && len(alive) > 0 {
		t.Fatalf("%s\n%s: what is there: %v", showGiven(list, flags, acts), showLife(x), alive)
	}
	for scope, isOpen := range o.open {
		if isOpen && !o.open[0] {
			t.Fatalf("%s\n%s: scope %d is open behind the end of scope 0", showGiven(list, flags, acts), showLife(x), scope)
		}
	}
}

// lifeCounts: how often what a test must meet was met.
type lifeCounts struct {
	codes                                          [20]int
	gets, all, nothing, shared, scoped             int
	wrapped, twiceWrapped                          int
	failedGets, failedForces, takenBack, keptAhead int
	forced, again, anew                            int
	shuts, deep, emptied                           int
}

func (c *lifeCounts) count(list []impl.Binding, acts []impl.Act, x impl.Life) {
	failed, answered := map[[2]int]bool{}, map[[2]int]bool{}
	for i, act := range acts {
		r := x.Replies[i]
		c.codes[r.Code]++
		key := [2]int{act.Inst, act.Lazy}
		switch {
		case act.Kind == impl.AcGet && r.Code == impl.OK:
			c.gets++
			c.all += min(1, len(r.Insts)/2)
			c.nothing += 1 - min(1, len(r.Insts))
		case act.Kind == impl.AcForce && r.Code == impl.OK:
			c.forced++
			if answered[key] {
				c.again++
			}
			if failed[key] {
				c.anew++
			}
			answered[key], failed[key] = true, false
		case act.Kind == impl.AcForce:
			failed[key] = true
		}
	}
	c.countEvents(list, x.Events)
}

func (c *lifeCounts) countEvents(list []impl.Binding, events []impl.LiveEvent) {
	o := &onLook{list: list, open: map[int]bool{0: true}, there: map[int]impl.LiveEvent{}}
	for i, e := range events {
		o.see(e)
		switch b := o.binding(e); {
		case e.Kind == impl.LvMade && b.Wraps:
			c.wrapped++
			if o.binding(o.there[e.Needs[0]]).Wraps {
				c.twiceWrapped++
			}
		case e.Kind == impl.LvMade:
			for _, need := range e.Needs {
				if o.there[need].Scope != e.Scope {
					c.shared++
				}
			}
			for number, other := range o.there {
				if other.Name == e.Name && b.Scope == impl.ScScoped && number != e.Inst {
					c.scoped++
				}
			}
		case e.Kind == impl.LvShut:
			c.shuts++
			if i > 0 && events[i-1].Kind == impl.LvShut {
				c.deep++
			}
			if i > 1 && events[i-1].Kind == impl.LvGone && events[i-2].Kind == impl.LvGone {
				c.emptied++
			}
		}
	}
}

// checkFailures: an act with a code changes nothing of what is there; the events of fewer acts are the beginning of those of all.
func (c *lifeCounts) checkFailures(t *testing.T, list []impl.Binding, flags []string, acts []impl.Act, x impl.Life) {
	t.Helper()
	var ahead impl.Life
	for i := range acts {
		part := impl.Live(list, flags, acts[:i+1])
		begin := impl.Life{Replies: x.Replies[:i+1], Events: x.Events[:len(part.Events)], Alive: part.Alive}
		if !reflect.DeepEqual(tidyLife(part), tidyLife(begin)) {
			t.Fatalf("%s: the first %d acts: %s", showGiven(list, flags, acts), i+1, showLife(part))
		}
		told := part.Events[len(ahead.Events):]
		if part.Replies[i].Code != impl.OK {
			c.checkTakenBack(t, showGiven(list, flags, acts[:i+1]), acts[i], told, ahead.Alive, part.Alive)
		}
		ahead = part
	}
}

func (c *lifeCounts) checkTakenBack(t *testing.T, what string, act impl.Act, told []impl.LiveEvent, before, after []int) {
	t.Helper()
	half := len(told) / 2
	isRight := slices.Equal(before, after) && len(told)%2 == 0
	for i := 0; isRight && i < half; i++ {
		made, gone := told[i], told[len(told)-1-i]
		isRight = made.Kind == impl.LvMade && gone.Kind == impl.LvGone && made.Inst == gone.Inst
	}
	if !isRight {
		t.Fatalf("%s: failed, and told %s; there were %v, are %v", what, showLives(told), before, after)
	}
	if half == 0 {
		return
	}
	c.takenBack += min(1, half/2)
	switch act.Kind {
	case impl.AcGet:
		c.failedGets++
	case impl.AcForce:
		c.failedForces++
	}
	for _, e := range told[:half] {
		for _, need := range e.Needs {
			if slices.Contains(before, need) {
				c.keptAhead++
			}
		}
	}
}

func (c *lifeCounts) check(t *testing.T, least int) {
	t.Helper()
	for name, count := range map[string]int{"ok": c.codes[impl.OK], "bad": c.codes[impl.ErrBad], "twice": c.codes[impl.ErrTwice], "none": c.codes[impl.ErrNone], "loop": c.codes[impl.ErrLoop],
		"fail": c.codes[impl.ErrFail], "state": c.codes[impl.ErrState], "kind": c.codes[impl.ErrKind], "gets": c.gets, "gets of many": c.all, "gets of nothing": c.nothing, "over another scope's": c.shared,
		"of many scopes": c.scoped, "wrapped": c.wrapped, "wrapped twice": c.twiceWrapped, "failed gets": c.failedGets, "failed forces": c.failedForces, "taken back": c.takenBack, "over what stays": c.keptAhead,
		"forced": c.forced, "forced again": c.again, "forced anew": c.anew, "shut": c.shuts, "shut within": c.deep, "shut with instances": c.emptied} {
		if count < least {
			t.Errorf("%s: %d, of %+v", name, count, *c)
		}
	}
}

// Acts of any make over bindings of any make: each answer is the second telling's, and P8 holds.
func TestLivesOfAnyMake(t *testing.T) {
	s := newSource()
	var c lifeCounts
	for i := range 6000 {
		list, flags, acts, want := anyContainer(s, 50)
		checkSameLife(t, list, flags, acts, want)
		checkP8(t, list, flags, acts, want)
		c.count(list, acts, want)
		if i%3 == 0 {
			c.checkFailures(t, list, flags, acts, want)
		}
		shut := append(slices.Clone(acts), impl.Act{Kind: impl.AcShut})
		if x := impl.Live(list, flags, shut); len(x.Alive) > 0 {
			t.Fatalf("%s\nthere are %v", showGiven(list, flags, shut), x.Alive)
		}
	}
	c.check(t, 60)
}

// As many acts as there may be: what was made comes to MaxInsts.
func TestManyLivesOfAnyMake(t *testing.T) {
	s := newSource()
	many := 0
	for i := range 150 {
		list, flags, acts, want := anyContainer(s, impl.MaxActs)
		if i%3 == 0 {
			list = crowd(s, 4+i%11)
			acts, want = anyActs(s, list, flags, impl.MaxActs)
		}
		checkSameLife(t, list, flags, acts, want)
		checkP8(t, list, flags, acts, want)
		if slices.ContainsFunc(want.Replies, func(r impl.Reply) bool { return r.Code == impl.ErrMany }) {
			many++
		}
	}
	if many < 10 {
		t.Errorf("ErrMany in %d", many)
	}
}

// Names and numbers of instances do not hang on the order of the bindings or of the flags, nor on how often a flag stands there.
func TestLivesInEveryOrder(t *testing.T) {
	s := newSource()
	for range 60 {
		list, flags := anyParts(s, 2, 6)
		list = list[:min(len(list), 5)]
		acts, want := anyActs(s, list, flags, 30)
		orders(list, func(turned []impl.Binding) {
			mixed := append(slices.Clone(flags), flags...)
			s.Shuffle(len(mixed), func(a, b int) { mixed[a], mixed[b] = mixed[b], mixed[a] })
			checkSameLife(t, turned, mixed, acts, want)
		})
	}
}

// checkPlans: what Plan answers of each want is the second telling's; P7: where an audit tells nothing a provider that is alone can be planned.
func checkPlans(t *testing.T, list []impl.Binding, flags []string) (planned, many int) {
	t.Helper()
	for _, w := range askedWants(list) {
		names, code := impl.Plan(list, flags, w)
		want, wantCode := wantPlan(list, flags, w)
		if code != wantCode || !slices.Equal(names, want) {
			t.Fatalf("%s: Plan of %s: %v %d, not %v %d", showBindings(list, flags), showWant(w), names, code, want, wantCode)
		}
	}
	if problems, code := impl.Audit(list, flags); code != impl.OK || len(problems) > 0 {
		return 0, 0
	}
	for i, b := range list {
		around, code := impl.Wrappers(list, flags, i)
		if code != impl.OK || countOf(list, flags, b) != 1 {
			continue
		}
		names, code := impl.Plan(list, flags, impl.Want{Key: b.Key, Tag: b.Tag, Mode: impl.WantOne})
		last := b.Name
		if len(around) > 0 {
			last = list[around[len(around)-1]].Name
		}
		switch {
		case code == impl.ErrMany && len(names) == 0:
			many++
		case code == impl.OK && len(names) > 0 && names[len(names)-1] == last:
			planned++
		default:
			t.Fatalf("%s: Audit tells nothing, Plan of %s: %v %d", showBindings(list, flags), b.Name, names, code)
		}
	}
	return planned, many
}

// countOf: how many providers of a binding's key and tag there are.
func countOf(list []impl.Binding, flags []string, b impl.Binding) int {
	count := 0
	for _, other := range list {
		if isAwake(other, flags) && !other.Wraps && other.Key == b.Key && other.Tag == b.Tag {
			count++
		}
	}
	return count
}

func TestPlansOfAnyMake(t *testing.T) {
	s := newSource()
	planned, many := 0, 0
	add := func(list []impl.Binding, flags []string) {
		some, more := checkPlans(t, list, flags)
		planned, many = planned+some, many+more
	}
	for i := range 2000 {
		list, flags := anyBindings(s, 3+i%10, []int{0, 12, 0, 3}[i%4], i%3 > 0)
		add(list, flags)
		list, flags = anyParts(s, 1+i%5, []int{0, 20, 4}[i%3])
		add(list, flags)
	}
	for range 30 {
		add(crowd(s, 10+s.IntN(10)), nil)
	}
	if planned < 500 || many < 20 {
		t.Errorf("planned %d, too many %d", planned, many)
	}
}

func turnAct(s source, acts []impl.Act) []impl.Act {
	acts = turnedList(s, acts, []impl.Act{{}, {Kind: 7}, {Kind: impl.AcGet}, {Kind: impl.AcShut}, {Kind: impl.AcForce, Inst: 1}})
	if len(acts) == 0 {
		return acts
	}
	a := &acts[s.IntN(len(acts))]
	switch s.IntN(8) {
	case 0:
		a.Kind = turnedNumber(s, a.Kind)
	case 1:
		a.Scope = turnedNumber(s, a.Scope)
	case 2:
		a.Inst = turnedNumber(s, a.Inst)
	case 3:
		a.Lazy = turnedNumber(s, a.Lazy)
	case 4:
		a.Name = pick(s, wrongNames)
	case 5:
		a.Want.Mode = turnedNumber(s, a.Want.Mode)
	case 6:
		a.Want.Key = pick(s, wrongNames)
	case 7:
		a.Want.Tag = pick(s, wrongNames)
	}
	return acts
}

// Bindings and acts of any make, right or not.
func TestTurnedLives(t *testing.T) {
	s := newSource()
	right, bad := 0, 0
	for i := range 3000 {
		list, flags, acts, _ := anyContainer(s, 20)
		if i%3 == 0 {
			list = turnBindings(s, list)
		}
		for range s.IntN(4) {
			acts = turnAct(s, acts)
		}
		want := wantLive(list, flags, acts)
		checkSameLife(t, list, flags, acts, want)
		if want.Code == impl.OK {
			right++
			checkP8(t, list, flags, acts, want)
		} else {
			bad++
		}
	}
	if right < 1000 || bad < 300 {
		t.Errorf("%d, %d", right, bad)
	}
}

// P1: what is handed in stays as it was, answers do not hang on what was called ahead.
func TestLivesDoNotChangeWhatIsGiven(t *testing.T) {
	s := newSource()
	type given struct {
		list  []impl.Binding
		flags []string
		acts  []impl.Act
	}
	var all, before []given
	var first []impl.Life
	for i := range 400 {
		list, flags, acts, _ := anyContainer(s, 30)
		if i%7 == 0 {
			list = turnBindings(s, list)
		}
		g := given{roomyBindings(list), roomy(flags, "f"), roomy(acts, impl.Act{Kind: 77})}
		all, before = append(all, g), append(before, given{keptBindings(g.list), whole(g.flags), whole(g.acts)})
		first = append(first, impl.Live(g.list, g.flags, g.acts))
		for _, w := range askedWants(list)[:9] {
			impl.Plan(g.list, g.flags, w)
		}
	}
	for i := len(all) - 1; i >= 0; i-- {
		checkSameLife(t, all[i].list, all[i].flags, all[i].acts, first[i])
	}
	for i, g := range all {
		if !reflect.DeepEqual(keptBindings(g.list), before[i].list) || !slices.Equal(whole(g.flags), before[i].flags) || !slices.Equal(whole(g.acts), before[i].acts) {
			t.Fatalf("%s: was changed", showGiven(g.list, g.flags, g.acts))
		}
	}
}

// P1: calls at the same time answer as calls one behind the other.
func TestLivesAtTheSameTime(t *testing.T) {
	s := newSource()
	list, flags, acts, want := anyContainer(s, 200)
	for len(want.Events) < 100 {
		list, flags, acts, want = anyContainer(s, 200)
	}
	var workers sync.WaitGroup
	for range 16 {
		workers.Go(func() {
			for range 5 {
				if got := impl.Live(list, flags, acts); !reflect.DeepEqual(tidyLife(got), tidyLife(want)) {
					t.Errorf("%s\n%s", showGiven(list, flags, acts), showLife(got))
				}
			}
		})
	}
	workers.Wait()
}

func (a *rawAnswer) life(x impl.Life) {
	a.kept = append(a.kept, x)
	a.lists = append(a.lists, stretchOf(x.Replies), stretchOf(x.Events), stretchOf(x.Alive))
	for _, r := range x.Replies {
		a.lists = append(a.lists, stretchOf(r.Insts))
	}
	for _, e := range x.Events {
		a.lists, a.texts = append(a.lists, stretchOf(e.Needs)), append(a.texts, e.Name)
	}
}

// P1: an answer shares no memory with what was handed in, and its lists none with one another.
func TestLifeAnswersAreNew(t *testing.T) {
	s := newSource()
	texts := 0
	for range 300 {
		list, flags, acts, _ := anyContainer(s, 40)
		lists := []stretch{stretchOf(list), stretchOf(flags), stretchOf(acts)}
		given := slices.Clone(flags)
		for _, b := range list {
			lists, given = append(lists, stretchOf(b.Needs)), append(given, b.Name, b.Key, b.Tag, b.When)
		}
		for _, act := range acts {
			given = append(given, act.Name, act.Want.Key, act.Want.Tag)
		}
		var answers [2]rawAnswer
		for k := range answers {
			answers[k].life(impl.Live(list, flags, acts))
			for _, w := range askedWants(list) {
				names, _ := impl.Plan(list, flags, w)
				answers[k].names(names)
			}
			lists = append(lists, answers[k].lists...)
			texts += checkNewTexts(t, answers[k].texts, given)
		}
		checkApart(t, lists)
		runtime.KeepAlive(answers)
	}
	if texts < 1000 {
		t.Errorf("%d texts", texts)
	}
}
