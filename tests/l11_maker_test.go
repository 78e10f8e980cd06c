package tests

import (
	"slices"
	"strconv"
	"strings"
	"testing"

	"loop.example/g00045/impl"
)

// Words of the kinds of messages and of the states of a saga.
var (
	msgWords   = []string{"", "done", "fail", "undone", "stuck"}
	stateWords = []string{"", "forward", "back", "done", "undone", "broken"}
)

// sagaOf reads steps with semicolons between them: book! 1; pay! 2 book; ship 1 pay note (the tries, then the needs; ! stands behind the name of one with Undo).
func sagaOf(t *testing.T, text string) []impl.SagaStep {
	t.Helper()
	var out []impl.SagaStep
	for _, part := range strings.Split(text, ";") {
		words := strings.Fields(part)
		if len(words) == 0 {
			continue
		}
		name, undo := strings.CutSuffix(words[0], "!")
		out = append(out, impl.SagaStep{Name: name, Undo: undo, Tries: numberOf(t, words[1]), Needs: words[2:]})
	}
	return out
}

// msgsOf reads messages with semicolons between them: done book; fail pay; kind 7 book.
func msgsOf(t *testing.T, text string) []impl.SagaMsg {
	t.Helper()
	var out []impl.SagaMsg
	for _, part := range strings.Split(text, ";") {
		words := strings.Fields(part)
		if len(words) == 0 {
			continue
		}
		m := impl.SagaMsg{Step: words[len(words)-1], Kind: slices.Index(msgWords, words[0])}
		if words[0] == "kind" {
			m.Kind = numberOf(t, words[1])
		} else if m.Kind < 1 {
			t.Fatalf("%s is no message", words[0])
		}
		out = append(out, m)
	}
	return out
}

func showSaga(saga []impl.SagaStep) string {
	var parts []string
	for _, step := range saga[:min(len(saga), 30)] {
		name := clipped(step.Name)
		if step.Undo {
			name += "!"
		}
		words := []string{name, strconv.Itoa(step.Tries)}
		for _, need := range step.Needs[:min(len(step.Needs), 30)] {
			words = append(words, clipped(need))
		}
		parts = append(parts, strings.Join(words, " "))
	}
	return strings.Join(parts, "; ")
}

func showMsgs(msgs []impl.SagaMsg) string {
	var parts []string
	for _, m := range msgs[:min(len(msgs), 150)] {
		word := "kind " + strconv.Itoa(m.Kind)
		if 1 <= m.Kind && m.Kind <= 4 {
			word = msgWords[m.Kind]
		}
		parts = append(parts, word+" "+clipped(m.Step))
	}
	return strings.Join(parts, "; ")
}

// toldCommands: pay/2 is the second CmDo of pay, -pay/1 the first CmUndo.
func toldCommands(list []impl.SagaCmd) string {
	var words []string
	for _, c := range list {
		word := c.Step + "/" + strconv.Itoa(c.Try)
		switch c.Kind {
		case impl.CmDo:
		case impl.CmUndo:
			word = "-" + word
		default:
			word += "(" + strconv.Itoa(c.Kind) + ")"
		}
		words = append(words, word)
	}
	return strings.Join(words, " ")
}

func toldState(state int) string {
	if state < 0 || state >= len(stateWords) {
		return strconv.Itoa(state)
	}
	return stateWords[state]
}

func toldSaga(x impl.SagaLog) string {
	return impl.CodeWord(x.Code) + " " + toldCodes(x.Replies) + "; " + toldCommands(x.Commands) + "; " + toldState(x.State) + "; done " + strings.Join(x.Done, " ")
}

var stepNames = []string{"a", "B", "b", "aa", "é", "жук", "_", "n1", "Z", "c", "d", "e", "f", "g", "h", "i", "j", "k", "l", "m"}

// anySaga: of at most so many steps; lean ones have few tries.
func anySaga(s source, most int, isLean bool) []impl.SagaStep {
	names := slices.Clone(stepNames)
	s.Shuffle(len(names), func(a, b int) { names[a], names[b] = names[b], names[a] })
	dense, undos := s.IntN(5), 1+s.IntN(4)
	var saga []impl.SagaStep
	for i := range 1 + s.IntN(most) {
		step := impl.SagaStep{Name: names[i], Undo: s.IntN(4) < undos, Tries: 1 + s.IntN(5)}
		if isLean || s.IntN(2) == 0 {
			step.Tries = 1 + s.IntN(2)
		}
		for _, k := range s.Perm(i) {
			if s.IntN(6) < dense && len(step.Needs) < 1+s.IntN(4) {
				step.Needs = append(step.Needs, names[k])
			}
		}
		saga = append(saga, step)
	}
	return saga
}

// someNames: of the steps, each with a chance of one in so many.
func someNames(s source, saga []impl.SagaStep, odds int) []string {
	var out []string
	for _, step := range saga {
		if s.IntN(odds) == 0 {
			out = append(out, step.Name)
		}
	}
	s.Shuffle(len(out), func(a, b int) { out[a], out[b] = out[b], out[a] })
	return out
}

// msgMaker makes messages that mostly fit: it looks at what the second telling makes of those ahead. One answer in fails is a failure, one in sticks is stuck, one in wilds is of any make.
type msgMaker struct {
	source
	saga                 *oneSaga
	fails, sticks, wilds int
}

func (m *msgMaker) any() impl.SagaMsg {
	msg := impl.SagaMsg{Step: pick(m.source, m.saga.steps).Name, Kind: 1 + m.IntN(4)}
	if m.IntN(4) == 0 {
		msg.Kind = pick(m.source, append([]int{7, -5}, anyNumbers...))
	}
	if m.IntN(4) == 0 {
		msg.Step = pick(m.source, append(slices.Clone(stepNames), wrongNames...))
	}
	return msg
}

func (m *msgMaker) msg() impl.SagaMsg {
	busy := m.saga.those("do", "undo")
	if len(busy) == 0 || m.IntN(m.wilds) == 0 {
		return m.any()
	}
	name := pick(m.source, busy).Name
	kind := impl.MgDone
	switch {
	case m.saga.last(name).what == "do" && m.IntN(m.fails) == 0:
		kind = impl.MgFail
	case m.saga.last(name).what == "undo" && m.IntN(m.sticks) == 0:
		kind = impl.MgStuck
	case m.saga.last(name).what == "undo":
		kind = impl.MgUndone
	}
	return impl.SagaMsg{Step: name, Kind: kind}
}

// anyMsgs: at most so many messages, and what the second telling makes of them.
func anyMsgs(s source, saga []impl.SagaStep, most int) ([]impl.SagaMsg, impl.SagaLog) {
	m := &msgMaker{source: s, saga: oneSagaOf(saga), fails: 1 + s.IntN(12), sticks: 1 + s.IntN(12), wilds: 2 + s.IntN(20)}
	var msgs []impl.SagaMsg
	for range s.IntN(most + 1) {
		msg := m.msg()
		msgs = append(msgs, msg)
		m.saga.hear(msg)
	}
	return msgs, m.saga.log()
}
