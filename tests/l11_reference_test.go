package tests

import (
	"slices"

	"loop.example/g00045/impl"
)

// The second telling of chapter 12: one row of all that happened and nothing else, from which each state is worked out anew; how a saga ends is told without a run at all.

func isOneSaga(saga []impl.SagaStep) bool {
	if len(saga) < 1 || len(saga) > 20 {
		return false
	}
	for i, step := range saga {
		if !impl.NameOK(step.Name) || isOneOf(saga[:i], step.Name) || step.Tries < 1 || step.Tries > 5 {
			return false
		}
		for k, need := range step.Needs {
			if !isOneOf(saga[:i], need) || slices.Contains(step.Needs[:k], need) {
				return false
			}
		}
	}
	return true
}

func isOneOf(saga []impl.SagaStep, name string) bool {
	for _, step := range saga {
		if step.Name == name {
			return true
		}
	}
	return false
}

// happening: what is do, done, idle (given up), undo, undone or broken.
type happening struct {
	what, step string
	try        int
}

type oneSaga struct {
	steps   []impl.SagaStep
	row     []happening
	replies []int
}

func oneSagaOf(saga []impl.SagaStep) *oneSaga {
	s := &oneSaga{steps: saga}
	s.settle()
	return s
}

func (s *oneSaga) add(what, step string, try int) {
	s.row = append(s.row, happening{what, step, try})
}

// last: what happened last with a step.
func (s *oneSaga) last(step string) happening {
	for i := len(s.row) - 1; i >= 0; i-- {
		if s.row[i].step == step {
			return s.row[i]
		}
	}
	return happening{}
}

func (s *oneSaga) happened(what string) bool {
	return slices.ContainsFunc(s.row, func(h happening) bool { return h.what == what })
}

// those: the steps with which one of these happened last, in the order of the list.
func (s *oneSaga) those(whats ...string) []impl.SagaStep {
	var out []impl.SagaStep
	for _, step := range s.steps {
		if slices.Contains(whats, s.last(step.Name).what) {
			out = append(out, step)
		}
	}
	return out
}

func (s *oneSaga) state() int {
	switch {
	case s.happened("broken"):
		return 5
	case s.happened("idle") && len(s.those("do", "done", "undo")) == 0:
		return 4
	case s.happened("idle"):
		return 2
	case len(s.those("done")) == len(s.steps):
		return 3
	}
	return 1
}

func (s *oneSaga) settle() {
	for s.turn() {
	}
}

// turn: one thing that happens without a message, if there is one.
func (s *oneSaga) turn() bool {
	switch s.state() {
	case 1:
		for _, step := range s.those("") {
			if len(s.openNeeds(step)) == 0 {
				s.add("do", step.Name, 1)
				return true
			}
		}
	case 2:
		if len(s.those("do", "undo")) == 0 {
			s.undo(s.lastDone())
			return true
		}
	}
	return false
}

func (s *oneSaga) openNeeds(step impl.SagaStep) []string {
	var out []string
	for _, need := range step.Needs {
		if s.last(need).what != "done" {
			out = append(out, need)
		}
	}
	return out
}

func (s *oneSaga) lastDone() impl.SagaStep {
	var out impl.SagaStep
	for _, h := range s.row {
		for _, step := range s.those("done") {
			if h.what == "done" && h.step == step.Name {
				out = step
			}
		}
	}
	return out
}

func (s *oneSaga) undo(step impl.SagaStep) {
	if step.Undo {
		s.add("undo", step.Name, 1)
	} else {
		s.add("undone", step.Name, 0)
	}
}

func (s *oneSaga) code(m impl.SagaMsg) int {
	at := slices.IndexFunc(s.steps, func(step impl.SagaStep) bool { return step.Name == m.Step })
	switch {
	case at < 0:
		return impl.ErrNone
	case m.Kind != 1 && m.Kind != 2 && m.Kind != 3 && m.Kind != 4:
		return impl.ErrKind
	case s.state() > 2:
		return impl.ErrState
	}
	last, isLeft := s.last(m.Step), s.last(m.Step).try < s.steps[at].Tries
	switch {
	case last.what == "do" && m.Kind == 1:
		s.add("done", m.Step, 0)
	case last.what == "do" && m.Kind == 2 && isLeft && s.state() == 1:
		s.add("do", m.Step, last.try+1)
	case last.what == "do" && m.Kind == 2:
		s.add("idle", m.Step, 0)
	case last.what == "undo" && m.Kind == 3:
		s.add("undone", m.Step, 0)
	case last.what == "undo" && m.Kind == 4 && isLeft:
		s.add("undo", m.Step, last.try+1)
	case last.what == "undo" && m.Kind == 4:
		s.add("broken", m.Step, 0)
	default:
		return impl.ErrState
	}
	s.settle()
	return impl.OK
}

func (s *oneSaga) hear(m impl.SagaMsg) { s.replies = append(s.replies, s.code(m)) }

func (s *oneSaga) log() impl.SagaLog {
	log := impl.SagaLog{State: s.state(), Replies: s.replies}
	for _, h := range s.row {
		switch {
		case h.what == "do":
			log.Commands = append(log.Commands, impl.SagaCmd{Kind: 1, Try: h.try, Step: h.step})
		case h.what == "undo":
			log.Commands = append(log.Commands, impl.SagaCmd{Kind: 2, Try: h.try, Step: h.step})
		case h.what == "done" && s.last(h.step).what == "done":
			log.Done = append(log.Done, h.step)
		}
	}
	return log
}

func wantSaga(saga []impl.SagaStep, msgs []impl.SagaMsg) impl.SagaLog {
	switch {
	case len(saga) > 4096 || len(msgs) > 4096:
		return impl.SagaLog{Code: impl.ErrLong}
	case !isOneSaga(saga):
		return impl.SagaLog{Code: impl.ErrBad}
	case len(msgs) > 300:
		return impl.SagaLog{Code: impl.ErrMany}
	}
	s := oneSagaOf(saga)
	for _, m := range msgs {
		s.hear(m)
	}
	return s.log()
}

// ending is what SagaEnds answers.
type ending struct {
	State int
	Done  []string
	Code  int
}

// wantEnding: the steps ahead of the first one that fails are done then, and of those behind it those that need no others: they were asked by then, and nothing new is. What goes back goes from the end of the list as far as one that is stuck.
func wantEnding(saga []impl.SagaStep, fails, stuck []string) ending {
	switch {
	case len(saga) > 4096 || len(fails) > 4096 || len(stuck) > 4096:
		return ending{Code: impl.ErrLong}
	case !isOneSaga(saga):
		return ending{Code: impl.ErrBad}
	}
	for _, name := range slices.Concat(fails, stuck) {
		if !isOneOf(saga, name) {
			return ending{Code: impl.ErrNone}
		}
	}
	first := 0
	for first < len(saga) && !slices.Contains(fails, saga[first].Name) {
		first++
	}
	var done []string
	for i, step := range saga {
		isAsked := i < first || !slices.ContainsFunc(step.Needs, func(need string) bool { return !isOneOf(saga[:first], need) })
		if isAsked && !slices.Contains(fails, step.Name) {
			done = append(done, step.Name)
		}
	}
	if first == len(saga) {
		return ending{State: 3, Done: done}
	}
	for i := len(done) - 1; i >= 0; i-- {
		at := slices.IndexFunc(saga, func(step impl.SagaStep) bool { return step.Name == done[i] })
		if saga[at].Undo && slices.Contains(stuck, done[i]) {
			return ending{State: 5, Done: done[:i]}
		}
	}
	return ending{State: 4}
}
