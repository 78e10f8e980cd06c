package tests

import (
	"reflect"
	"runtime"
	"slices"
	"sync"
	"testing"

	"loop.example/g00045/impl"
)

// sagaLook follows messages by what was answered of them: what was done and is not undone, in the order in which it was done, and which command of each step was the last one.
type sagaLook struct {
	steps           map[string]impl.SagaStep
	row             []string
	last            map[string]impl.SagaCmd
	asked           map[string]int
	undoing         string
	goesBack        bool
	late, idle, cut int
	again, stuck    int
	atOnce          int
}

func sagaLookOf(saga []impl.SagaStep) *sagaLook {
	l := &sagaLook{steps: map[string]impl.SagaStep{}, last: map[string]impl.SagaCmd{}, asked: map[string]int{}}
	for _, step := range saga {
		l.steps[step.Name] = step
	}
	return l
}

// take follows a message that was taken; more is what was ordered behind it.
func (l *sagaLook) take(m impl.SagaMsg, more []impl.SagaCmd) string {
	step, last := l.steps[m.Step], l.last[m.Step]
	again := impl.SagaCmd{Kind: last.Kind, Try: last.Try + 1, Step: m.Step}
	isAgain := len(more) == 1 && more[0] == again
	switch m.Kind {
	case impl.MgDone, impl.MgFail:
		if l.asked[m.Step] == 0 || l.undoing != "" {
			return "is of a step that is not asked"
		}
		if l.goesBack {
			l.late++
		}
		switch {
		case m.Kind == impl.MgDone:
			l.row = append(l.row, m.Step)
		case !l.goesBack && last.Try < step.Tries:
			l.again++
			if !isAgain {
				return "lets it not be tried again, that alone"
			}
			return ""
		default:
			if l.goesBack && last.Try < step.Tries {
				l.cut++
			}
			l.idle++
			l.goesBack = true
		}
		delete(l.asked, m.Step)
	default:
		if l.undoing != m.Step {
			return "is of a step that is not undoing"
		}
		if m.Kind == impl.MgStuck && last.Try < step.Tries {
			l.again++
			if !isAgain {
				return "lets it not be undone again, that alone"
			}
			return ""
		}
		l.undoing = ""
		if m.Kind == impl.MgStuck {
			l.stuck++
			if len(more) > 0 {
				return "has commands behind it"
			}
		}
	}
	return ""
}

// order follows a command.
func (l *sagaLook) order(c impl.SagaCmd) string {
	what := toldCommands([]impl.SagaCmd{c})
	step, isOne := l.steps[c.Step]
	if !isOne || c.Try < 1 || c.Try > step.Tries {
		return what + " is of no step, or tried too often"
	}
	defer func() { l.last[c.Step] = c }()
	if c.Try > 1 {
		if l.last[c.Step] != (impl.SagaCmd{Kind: c.Kind, Try: c.Try - 1, Step: c.Step}) {
			return what + " comes behind another one"
		}
		return ""
	}
	if c.Kind == impl.CmUndo {
		return l.undo(step)
	}
	if c.Kind != impl.CmDo || l.goesBack || l.last[c.Step].Kind != 0 {
		return what + " is asked anew, or when it goes back"
	}
	for _, need := range step.Needs {
		if !slices.Contains(l.row, need) {
			return what + " is asked ahead of " + need
		}
	}
	l.asked[c.Step] = 1
	return ""
}

// undo: the one that was done last is undone, but for those without Undo, which go at once.
func (l *sagaLook) undo(step impl.SagaStep) string {
	if !l.goesBack || len(l.asked) > 0 || l.undoing != "" {
		return step.Name + " is undone as long as another one is asked or undoing, or when it does not go back"
	}
	for len(l.row) > 0 {
		name := l.row[len(l.row)-1]
		l.row = l.row[:len(l.row)-1]
		if l.steps[name].Undo {
			if l.undoing = name; name != step.Name {
				return step.Name + " is undone ahead of " + name
			}
			return ""
		}
		l.atOnce++
	}
	return step.Name + " is undone, and is not done"
}

// rest: what must be ordered by itself was, and the state and Done are those that it came to.
func (l *sagaLook) rest(x impl.SagaLog) string {
	want := impl.SgForward
	switch {
	case l.stuck > 0:
		want = impl.SgBroken
	case l.goesBack && len(l.asked) == 0 && l.undoing == "":
		want = impl.SgUndone
		for _, name := range l.row {
			if l.steps[name].Undo {
				return name + " is not undone"
			}
		}
		l.atOnce += len(l.row)
		l.row = nil
	case l.goesBack:
		want = impl.SgBack
	case len(l.row) == len(l.steps):
		want = impl.SgDone
	}
	if x.State != want || !slices.Equal(x.Done, l.row) {
		return "it is not " + toldState(want) + ", or not those are done"
	}
	if want != impl.SgForward {
		return ""
	}
	for name, step := range l.steps {
		isOpen := slices.ContainsFunc(step.Needs, func(need string) bool { return !slices.Contains(l.row, need) })
		if !isOpen && l.last[name].Kind == 0 {
			return name + " is not asked"
		}
	}
	return ""
}

func (l *sagaLook) see(x impl.SagaLog, more []impl.SagaCmd) string {
	for _, c := range more {
		if fault := l.order(c); fault != "" {
			return fault
		}
	}
	return l.rest(x)
}

// checkP12: the promise, by the answers alone: what is told of one message more begins with what was told, a message with a code changes nothing, and each command comes where it may.
func checkP12(t *testing.T, saga []impl.SagaStep, msgs []impl.SagaMsg) *sagaLook {
	t.Helper()
	l := sagaLookOf(saga)
	ahead := impl.RunSaga(saga, nil)
	fault := l.see(ahead, ahead.Commands)
	for i, m := range msgs {
		if fault != "" {
			break
		}
		x := impl.RunSaga(saga, msgs[:i+1])
		switch {
		case len(x.Commands) < len(ahead.Commands) || !slices.Equal(x.Commands[:len(ahead.Commands)], ahead.Commands) || len(x.Replies) != i+1 || !slices.Equal(x.Replies[:i], ahead.Replies):
			fault = "what was told ahead is told otherwise"
		case x.Replies[i] != impl.OK:
			if len(x.Commands) != len(ahead.Commands) || x.State != ahead.State || !slices.Equal(x.Done, ahead.Done) {
				fault = "it has a code and changes something"
			}
		default:
			more := x.Commands[len(ahead.Commands):]
			if fault = l.take(m, more); fault == "" {
				fault = l.see(x, more)
			}
		}
		if fault != "" {
			t.Fatalf("%s\n%s\n%s: message %d: %s: %s", showSaga(saga), showMsgs(msgs), toldSaga(x), i, showMsgs(msgs[i:i+1]), fault)
		}
		ahead = x
	}
	if fault != "" {
		t.Fatalf("%s\n%s: %s", showSaga(saga), toldSaga(ahead), fault)
	}
	return l
}

// busySteps: those with a command that was not answered: each command has one answer.
func busySteps(x impl.SagaLog, msgs []impl.SagaMsg) []string {
	open := map[string]int{}
	for _, c := range x.Commands {
		open[c.Step]++
	}
	for _, m := range msgs {
		open[m.Step]--
	}
	var out []string
	for _, c := range x.Commands {
		if open[c.Step] == 1 && !slices.Contains(out, c.Step) {
			out = append(out, c.Step)
		}
	}
	return out
}

func lastCommand(x impl.SagaLog, name string) impl.SagaCmd {
	var last impl.SagaCmd
	for _, c := range x.Commands {
		if c.Step == name {
			last = c
		}
	}
	return last
}

// answerOf: to the last command of a step, by the lists of those that never do it.
func answerOf(x impl.SagaLog, name string, fails, stuck []string) impl.SagaMsg {
	kind := lastCommand(x, name).Kind
	switch {
	case kind == impl.CmDo && slices.Contains(fails, name):
		return impl.SagaMsg{Step: name, Kind: impl.MgFail}
	case kind == impl.CmDo:
		return impl.SagaMsg{Step: name, Kind: impl.MgDone}
	case slices.Contains(stuck, name):
		return impl.SagaMsg{Step: name, Kind: impl.MgStuck}
	}
	return impl.SagaMsg{Step: name, Kind: impl.MgUndone}
}

// answered runs a saga to its end: as long as a step is asked or undoing, the chosen one answers.
func answered(t *testing.T, saga []impl.SagaStep, fails, stuck []string, choose func(busy []string) string) impl.SagaLog {
	t.Helper()
	var msgs []impl.SagaMsg
	for {
		x := impl.RunSaga(saga, msgs)
		if len(msgs) > 0 && slices.Max(x.Replies) != impl.OK {
			t.Fatalf("%s\n%s\n%s: an answer is not taken", showSaga(saga), showMsgs(msgs), toldSaga(x))
		}
		busy := busySteps(x, msgs)
		if len(busy) == 0 {
			return x
		}
		msgs = append(msgs, answerOf(x, choose(busy), fails, stuck))
	}
}

func checkEnded(t *testing.T, saga []impl.SagaStep, fails []string, x impl.SagaLog) {
	t.Helper()
	want := endingOf(saga, fails, nil)
	if want.Code != impl.OK || x.State != want.State || !slices.Equal(slices.Sorted(slices.Values(x.Done)), slices.Sorted(slices.Values(want.Done))) {
		t.Fatalf("%s, fails %s: %s, not %s", showSaga(saga), fails, toldSaga(x), toldEnding(want))
	}
	if isDone := len(fails) == 0; isDone != (want.State == impl.SgDone) || !isDone && want.State != impl.SgUndone {
		t.Fatalf("%s, fails %s: %s", showSaga(saga), fails, toldEnding(want))
	}
}

// P12: nothing is stuck, and the answers come in any order.
func TestSagasEndAlikeInAnyOrder(t *testing.T) {
	s := newSource()
	var counts [6]int
	for i := range 3000 {
		saga := anySaga(s, 3+s.IntN(18), i%2 == 0)
		fails := someNames(s, saga, 2+s.IntN(20))
		for range 4 {
			x := answered(t, saga, fails, nil, func(busy []string) string { return pick(s, busy) })
			checkEnded(t, saga, fails, x)
			counts[x.State]++
		}
		last := answered(t, saga, fails, nil, func(busy []string) string { return busy[len(busy)-1] })
		checkEnded(t, saga, fails, last)
	}
	if min(counts[impl.SgDone], counts[impl.SgUndone]) < 1000 {
		t.Errorf("states %v", counts)
	}
}

// P12: of small sagas each order of the answers.
func TestSagasEndAlikeInEveryOrder(t *testing.T) {
	s := newSource()
	ends := 0
	for range 700 {
		saga := anySaga(s, 4, true)
		fails := someNames(s, saga, 3)
		var every func(msgs []impl.SagaMsg)
		every = func(msgs []impl.SagaMsg) {
			x := impl.RunSaga(saga, msgs)
			busy := busySteps(x, msgs)
			for _, name := range busy {
				every(append(slices.Clip(msgs), answerOf(x, name, fails, nil)))
			}
			if len(busy) == 0 {
				checkEnded(t, saga, fails, x)
				ends++
			}
		}
		every(nil)
	}
	if ends < 3000 {
		t.Errorf("%d ends", ends)
	}
}

// P12: some tries of the others fail too, fewer than there are, of undoing as well: the end is the same.
func TestSagasEndAlikeWithFewerTries(t *testing.T) {
	s := newSource()
	for range 2000 {
		saga := anySaga(s, 12, false)
		fails := someNames(s, saga, 2+s.IntN(20))
		var msgs []impl.SagaMsg
		x := impl.RunSaga(saga, nil)
		for busy := busySteps(x, msgs); len(busy) > 0; busy = busySteps(x, msgs) {
			m := answerOf(x, pick(s, busy), fails, nil)
			last := lastCommand(x, m.Step)
			at := slices.IndexFunc(saga, func(step impl.SagaStep) bool { return step.Name == m.Step })
			if last.Try < saga[at].Tries && s.IntN(2) == 0 {
				m.Kind = impl.MgFail
				if last.Kind == impl.CmUndo {
					m.Kind = impl.MgStuck
				}
			}
			msgs = append(msgs, m)
			x = impl.RunSaga(saga, msgs)
		}
		checkEnded(t, saga, fails, x)
	}
}

// sagaCounts: how often what a test must meet was met: codes by the kind of message and the state ahead of it.
type sagaCounts struct {
	codes                                 [5][6][20]int
	late, idle, cut, again, stuck, atOnce int
	manyAtOnce, manyLate, notInListOrder  int
	states                                [6]int
}

func (c *sagaCounts) count(saga []impl.SagaStep, msgs []impl.SagaMsg, x impl.SagaLog, l *sagaLook) {
	s := oneSagaOf(saga)
	for i, m := range msgs {
		kind := m.Kind
		if kind < 1 || kind > 4 {
			kind = 0
		}
		c.codes[kind][s.state()][x.Replies[i]]++
		s.hear(m)
	}
	c.states[x.State]++
	c.late, c.idle, c.cut, c.again, c.stuck, c.atOnce = c.late+l.late, c.idle+l.idle, c.cut+l.cut, c.again+l.again, c.stuck+l.stuck, c.atOnce+l.atOnce
	if l.late > 2 {
		c.manyLate++
	}
	if l.atOnce > 2 {
		c.manyAtOnce++
	}
	inList := func(name string) int {
		return slices.IndexFunc(saga, func(step impl.SagaStep) bool { return step.Name == name })
	}
	if !slices.IsSortedFunc(x.Done, func(a, b string) int { return inList(a) - inList(b) }) {
		c.notInListOrder++
	}
}

func (c *sagaCounts) check(t *testing.T, least int) {
	t.Helper()
	for kind := range c.codes {
		for state := 1; state <= 5; state++ {
			codes := []int{impl.ErrNone, impl.ErrState}
			switch {
			case kind == 0:
				codes = []int{impl.ErrNone, impl.ErrKind}
			case state == impl.SgBack || state == impl.SgForward && kind <= impl.MgFail:
				codes = append(codes, impl.OK)
			}
			for code, count := range c.codes[kind][state] {
				if isMet := slices.Contains(codes, code); isMet && count < least || !isMet && count > 0 {
					t.Errorf("messages of kind %d in state %d with code %d: %d", kind, state, code, count)
				}
			}
		}
	}
	if min(c.late, c.idle, c.cut, c.again, c.stuck, c.atOnce, c.manyLate, c.manyAtOnce, c.notInListOrder) < least || slices.Min(c.states[1:]) < least {
		t.Errorf("late %d (many %d), given up %d, cut short %d, again %d, stuck %d, undone at once %d (many %d), not in the order of the list %d, states %v", c.late, c.manyLate, c.idle, c.cut, c.again, c.stuck, c.atOnce, c.manyAtOnce, c.notInListOrder, c.states)
	}
}

// Sagas and messages of any make: each answer is the second telling's, and P12 holds.
func TestSagasOfAnyMake(t *testing.T) {
	s := newSource()
	var c sagaCounts
	for i := range 6000 {
		saga := anySaga(s, 3+s.IntN(18), i%2 == 0)
		msgs, want := anyMsgs(s, saga, 60)
		checkSameSaga(t, saga, msgs, want)
		c.count(saga, msgs, want, checkP12(t, saga, msgs))
	}
	c.check(t, 50)
}

// As many messages as there may be, of some sagas with as many tries as there may be.
func TestLongSagasOfAnyMake(t *testing.T) {
	s := newSource()
	most, longest := 0, 0
	for i := range 600 {
		saga := anySaga(s, impl.MaxSteps, false)
		if i%2 == 0 {
			for k := range saga {
				saga[k].Tries = 5
			}
		}
		msgs, want := anyMsgs(s, saga, impl.MaxActs)
		checkSameSaga(t, saga, msgs, want)
		most, longest = max(most, len(want.Commands)), max(longest, len(msgs))
	}
	if most < 40 || longest < 290 {
		t.Errorf("at most %d commands, %d messages", most, longest)
	}
}

// Messages that are not taken turn nothing but their replies.
func TestSagasWithoutWhatIsNotTaken(t *testing.T) {
	s := newSource()
	dropped := 0
	for range 2000 {
		saga := anySaga(s, 10, true)
		msgs, _ := anyMsgs(s, saga, 60)
		x := impl.RunSaga(saga, msgs)
		var taken []impl.SagaMsg
		for i, m := range msgs {
			if x.Replies[i] == impl.OK {
				taken = append(taken, m)
			}
		}
		dropped += len(msgs) - len(taken)
		x.Replies = make([]int, len(taken))
		checkSameSaga(t, saga, taken, x)
	}
	if dropped < 1000 {
		t.Errorf("%d dropped", dropped)
	}
}

// Needs in another order turn nothing.
func TestSagasWithNeedsInAnyOrder(t *testing.T) {
	s := newSource()
	for range 1000 {
		saga := anySaga(s, 12, true)
		msgs, want := anyMsgs(s, saga, 60)
		fails, stuck := someNames(s, saga, 4), someNames(s, saga, 4)
		first := endingOf(saga, fails, stuck)
		for i := range saga {
			slices.Reverse(saga[i].Needs)
		}
		checkSameSaga(t, saga, msgs, want)
		s.Shuffle(len(fails), func(a, b int) { fails[a], fails[b] = fails[b], fails[a] })
		slices.Reverse(stuck)
		if got := endingOf(saga, append(fails, fails...), append(stuck, stuck...)); !reflect.DeepEqual(got, first) {
			t.Fatalf("%s: %s, not %s", showSaga(saga), toldEnding(got), toldEnding(first))
		}
	}
}

func turnMsgs(s source, saga []impl.SagaStep, msgs []impl.SagaMsg) []impl.SagaMsg {
	name := pick(s, saga).Name
	msgs = turnedList(s, msgs, []impl.SagaMsg{{}, {Step: name}, {Step: name, Kind: 1 + s.IntN(4)}, {Step: "q", Kind: 1}, {Step: name, Kind: 5}})
	if len(msgs) == 0 {
		return msgs
	}
	m := &msgs[s.IntN(len(msgs))]
	switch s.IntN(3) {
	case 0:
		m.Kind = turnedNumber(s, m.Kind)
	case 1:
		m.Step = pick(s, append(slices.Clone(stepNames), wrongNames...))
	}
	return msgs
}

func TestTurnedMessages(t *testing.T) {
	s := newSource()
	for range 3000 {
		saga := anySaga(s, 9, true)
		msgs, _ := anyMsgs(s, saga, 40)
		for range s.IntN(8) {
			msgs = turnMsgs(s, saga, msgs)
		}
		checkSameSaga(t, saga, msgs, wantSaga(saga, msgs))
		checkP12(t, saga, msgs)
	}
}

// sagaGiven: all that the calls of chapter 12 are given.
type sagaGiven struct {
	saga         []impl.SagaStep
	msgs         []impl.SagaMsg
	fails, stuck []string
}

func anySagaGiven(s source) sagaGiven {
	saga := anySaga(s, 12, true)
	msgs, _ := anyMsgs(s, saga, 60)
	g := sagaGiven{saga, msgs, someNames(s, saga, 4), someNames(s, saga, 3)}
	switch s.IntN(12) {
	case 0:
		g.saga = turnSaga(s, g.saga)
	case 1:
		g.fails = append(g.fails, "gone")
	case 2:
		g.stuck = append(g.stuck, "")
	}
	return g
}

// turned gives lists of their own, each as work makes it of the one that is there.
func (g sagaGiven) turned(steps func([]impl.SagaStep) []impl.SagaStep, texts func([]string) []string, msgs func([]impl.SagaMsg) []impl.SagaMsg) sagaGiven {
	g = sagaGiven{steps(g.saga), msgs(g.msgs), texts(g.fails), texts(g.stuck)}
	for i := range g.saga {
		g.saga[i].Needs = texts(g.saga[i].Needs)
	}
	return g
}

func (g sagaGiven) roomy() sagaGiven {
	return g.turned(
		func(list []impl.SagaStep) []impl.SagaStep {
			return roomy(list, impl.SagaStep{Name: "sign", Needs: []string{"sign"}, Tries: 77})
		},
		func(list []string) []string { return roomy(list, "sign") },
		func(list []impl.SagaMsg) []impl.SagaMsg { return roomy(list, impl.SagaMsg{Step: "sign", Kind: 77}) })
}

func (g sagaGiven) whole() sagaGiven {
	return g.turned(whole[impl.SagaStep], whole[string], whole[impl.SagaMsg])
}

// sagaAnswer: what the calls of chapter 12 answer of it.
type sagaAnswer struct {
	isOne bool
	log   impl.SagaLog
	ends  ending
}

func (g sagaGiven) answer() sagaAnswer {
	return sagaAnswer{impl.SagaOK(g.saga), impl.RunSaga(g.saga, g.msgs), endingOf(g.saga, g.fails, g.stuck)}
}

// P1: what is given stays as it was, behind its end too; answers do not hang on what was called ahead.
func TestSagasDoNotChangeWhatIsGiven(t *testing.T) {
	s := newSource()
	var all, before []sagaGiven
	var first []sagaAnswer
	for range 600 {
		g := anySagaGiven(s).roomy()
		all, before, first = append(all, g), append(before, g.whole()), append(first, g.answer())
	}
	for i := len(all) - 1; i >= 0; i-- {
		if again := all[i].answer(); !reflect.DeepEqual(again, first[i]) {
			t.Fatalf("%s\n%s: %v, then %v", showSaga(all[i].saga), showMsgs(all[i].msgs), first[i], again)
		}
	}
	for i, g := range all {
		if !reflect.DeepEqual(g.whole(), before[i]) {
			t.Fatalf("%s\n%s: was changed", showSaga(g.saga), showMsgs(g.msgs))
		}
	}
}

// P1: an empty list and nil are the same.
func TestSagasOfEmptyLists(t *testing.T) {
	s := newSource()
	for range 300 {
		g := anySagaGiven(s)
		g.msgs, g.fails, g.stuck = nil, nil, nil
		first := g.answer()
		g.msgs, g.fails, g.stuck = []impl.SagaMsg{}, []string{}, []string{}
		g.saga = slices.Clone(g.saga)
		for i := range g.saga {
			if len(g.saga[i].Needs) == 0 {
				g.saga[i].Needs = []string{}
			}
		}
		if again := g.answer(); !reflect.DeepEqual(again, first) {
			t.Fatalf("%s: %v, then %v", showSaga(g.saga), first, again)
		}
	}
}

// P1: calls at the same time answer as calls one behind the other.
func TestSagasAtTheSameTime(t *testing.T) {
	s := newSource()
	g := anySagaGiven(s)
	for g.answer().log.State != impl.SgBroken || len(g.answer().log.Commands) < 12 || g.answer().ends.State != impl.SgBroken {
		g = anySagaGiven(s)
	}
	want := g.answer()
	var workers sync.WaitGroup
	for range 16 {
		workers.Go(func() {
			for range 50 {
				if got := g.answer(); !reflect.DeepEqual(got, want) {
					t.Errorf("%s\n%s: %v", showSaga(g.saga), showMsgs(g.msgs), got)
				}
			}
		})
	}
	workers.Wait()
}

// memory: where the lists lie, and all texts.
func (g sagaGiven) memory() ([]stretch, []string) {
	lists := []stretch{stretchOf(g.saga), stretchOf(g.msgs), stretchOf(g.fails), stretchOf(g.stuck)}
	texts := slices.Concat(g.fails, g.stuck)
	for _, step := range g.saga {
		lists, texts = append(lists, stretchOf(step.Needs)), append(append(texts, step.Name), step.Needs...)
	}
	for _, m := range g.msgs {
		texts = append(texts, m.Step)
	}
	return lists, texts
}

// P1: an answer shares no memory with what was given, and its lists none with one another.
func TestSagaAnswersAreNew(t *testing.T) {
	s := newSource()
	count := 0
	for range 400 {
		g := anySagaGiven(s)
		if s.IntN(2) == 0 {
			g.msgs = nil
			for _, step := range g.saga {
				g.msgs = append(g.msgs, impl.SagaMsg{Step: step.Name, Kind: impl.MgDone})
			}
			g.fails, g.stuck = nil, nil
		}
		g = g.whole()
		lists, given := g.memory()
		var answers [2]sagaAnswer
		for k := range answers {
			x := g.answer()
			answers[k] = x
			lists = append(lists, stretchOf(x.log.Replies), stretchOf(x.log.Commands), stretchOf(x.log.Done), stretchOf(x.ends.Done))
			var ordered []string
			for _, c := range x.log.Commands {
				ordered = append(ordered, c.Step)
			}
			count += checkNewTexts(t, slices.Concat(ordered, x.log.Done, x.ends.Done), given)
			checkNewTexts(t, x.log.Done, ordered)
		}
		checkApart(t, lists)
		runtime.KeepAlive(answers)
	}
	if count < 1000 {
		t.Errorf("%d texts", count)
	}
}
