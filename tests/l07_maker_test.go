package tests

import (
	"strconv"
	"strings"
	"testing"

	"loop.example/g00045/impl"
)

// actWords: the words of acts by their kinds.
var actWords = []string{"", "open", "get", "force", "shut", "break", "mend"}

// actsOf reads acts with semicolons between them: open 0; get 1 +key.tag; force 4 0; shut 1; break name; mend name; kind 9.
func actsOf(t *testing.T, text string) []impl.Act {
	t.Helper()
	var out []impl.Act
	for _, part := range strings.Split(text, ";") {
		if words := strings.Fields(part); len(words) > 0 {
			out = append(out, actOf(t, append(words, "", "")))
		}
	}
	return out
}

func actOf(t *testing.T, words []string) impl.Act {
	t.Helper()
	switch words[0] {
	case "open":
		return impl.Act{Kind: impl.AcOpen, Scope: numberOf(t, words[1])}
	case "get":
		return impl.Act{Kind: impl.AcGet, Scope: numberOf(t, words[1]), Want: wantOf(t, words[2])}
	case "force":
		return impl.Act{Kind: impl.AcForce, Inst: numberOf(t, words[1]), Lazy: numberOf(t, words[2])}
	case "shut":
		return impl.Act{Kind: impl.AcShut, Scope: numberOf(t, words[1])}
	case "break":
		return impl.Act{Kind: impl.AcBreak, Name: words[1]}
	case "mend":
		return impl.Act{Kind: impl.AcMend, Name: words[1]}
	case "kind":
		return impl.Act{Kind: numberOf(t, words[1])}
	}
	t.Fatalf("%s is no act", words[0])
	return impl.Act{}
}

func numberOf(t *testing.T, word string) int {
	t.Helper()
	number, err := strconv.Atoi(word)
	if err != nil {
		t.Fatal(err)
	}
	return number
}

func showAct(a impl.Act) string {
	switch a.Kind {
	case impl.AcOpen, impl.AcShut:
		return actWords[a.Kind] + " " + strconv.Itoa(a.Scope)
	case impl.AcGet:
		return "get " + strconv.Itoa(a.Scope) + " " + showWant(a.Want)
	case impl.AcForce:
		return "force " + strconv.Itoa(a.Inst) + " " + strconv.Itoa(a.Lazy)
	case impl.AcBreak, impl.AcMend:
		return actWords[a.Kind] + " " + clipped(a.Name)
	}
	return "kind " + strconv.Itoa(a.Kind)
}

func showActs(acts []impl.Act) string {
	var out []string
	for _, a := range acts[:min(len(acts), 80)] {
		out = append(out, showAct(a))
	}
	return strings.Join(out, "; ")
}

func showNumbers(numbers []int, between string) string {
	var out []string
	for _, number := range numbers {
		out = append(out, strconv.Itoa(number))
	}
	return strings.Join(out, between)
}

// showReplies: of each act its numbers with commas between, or the code's word, which is ok of a reply without numbers.
func showReplies(replies []impl.Reply) string {
	var out []string
	for _, r := range replies {
		text := showNumbers(r.Insts, ",")
		if r.Code != impl.OK || len(r.Insts) == 0 {
			text = impl.CodeWord(r.Code) + text
		}
		out = append(out, text)
	}
	return strings.Join(out, " ")
}

// showLives: <1 scope 1 is opened, >1 it is shut, 5=a@1(2,3) instance 5 of binding a is made in scope 1 over 2 and 3, -5=a@1 it goes.
func showLives(events []impl.LiveEvent) string {
	var out []string
	for _, e := range events {
		out = append(out, showLive(e))
	}
	return strings.Join(out, " ")
}

func showLive(e impl.LiveEvent) string {
	scope := strconv.Itoa(e.Scope)
	text := strconv.Itoa(e.Inst) + "=" + e.Name + "@" + scope
	needs := ""
	if len(e.Needs) > 0 {
		needs = "(" + showNumbers(e.Needs, ",") + ")"
	}
	isBare := e.Inst == 0 && e.Name == "" && needs == ""
	switch {
	case e.Kind == impl.LvMade:
		return text + needs
	case e.Kind == impl.LvGone && needs == "":
		return "-" + text
	case e.Kind == impl.LvOpen && isBare:
		return "<" + scope
	case e.Kind == impl.LvShut && isBare:
		return ">" + scope
	}
	return "kind" + strconv.Itoa(e.Kind) + ":" + text + needs
}

// showLife: code, replies; events; what is there.
func showLife(x impl.Life) string {
	return impl.CodeWord(x.Code) + " " + showReplies(x.Replies) + "; " + showLives(x.Events) + "; " + showNumbers(x.Alive, ",")
}

// partMaker makes right bindings of which most can be made: each key has a provider. A need asks for a later key, but for a lazy one, and for one in so many as wild tells (none if it is 0).
type partMaker struct {
	source
	wild int
	keys []string
	list []impl.Binding
}

func (m *partMaker) needs(level int) []impl.Want {
	var out []impl.Want
	for range m.IntN(4) {
		w := impl.Want{Mode: pick(m.source, []int{1, 1, 1, 2, 3, 4, 4})}
		from := level + 1
		if w.Mode == impl.WantLazy || m.wild > 0 && m.IntN(m.wild) == 0 {
			from = 0
		}
		if from < len(m.keys) {
			w.Key = pick(m.source, m.keys[from:])
			out = append(out, w)
		}
	}
	return out
}

func (m *partMaker) add(level int, wraps bool) {
	b := impl.Binding{Name: wireNames[len(m.list)], Key: m.keys[level], Scope: 1 + m.IntN(3), Needs: m.needs(level), Rank: m.IntN(50), Wraps: wraps}
	switch m.IntN(25) {
	case 0:
		b.Tag = "t"
	case 1:
		b.When = pick(m.source, wireWhens)
	case 2:
		b.Rank = 1
	}
	m.list = append(m.list, b)
}

// anyParts: right bindings of so many keys, and flags.
func anyParts(s source, size, wild int) ([]impl.Binding, []string) {
	m := &partMaker{source: s, wild: wild, keys: wireKeys[:size]}
	for level := range size {
		m.add(level, false)
		if s.IntN(3) == 0 {
			m.add(level, s.IntN(3) > 0)
		}
	}
	for len(m.list) < len(wireNames) && s.IntN(3) > 0 {
		m.add(s.IntN(size), true)
	}
	s.Shuffle(len(m.list), func(i, k int) { m.list[i], m.list[k] = m.list[k], m.list[i] })
	for i, at := range s.Perm(len(wireNames))[:len(m.list)] {
		m.list[i].Name = wireNames[at]
	}
	return m.list, pick(s, [][]string{nil, {"f"}, {"g", "a"}})
}

// crowd: bindings of a key each, in a row, each of which needs the next ones many times.
func crowd(s source, size int) []impl.Binding {
	list := manyBindings(size)
	for i := range list {
		list[i].Key = "k" + list[i].Name
	}
	for i := range list {
		list[i].Scope = pick(s, []int{impl.ScSingle, impl.ScFresh, impl.ScFresh, impl.ScFresh})
		for range 1 + s.IntN(impl.MaxNeeds) {
			if i+1 < size {
				list[i].Needs = append(list[i].Needs, impl.Want{Key: list[min(i+1+s.IntN(2), size-1)].Key, Mode: pick(s, []int{1, 1, 2, 3, 4})})
			}
		}
	}
	return list
}

// actMaker makes acts that mostly can be done: it does them by the second telling, and looks at what is there. Scope 0 is shut by few of them.
type actMaker struct {
	source
	life *oneLife
}

func (m *actMaker) scope() int {
	if m.IntN(25) == 0 {
		return pick(m.source, append([]int{len(m.life.parents)}, anyNumbers...))
	}
	scope := m.IntN(len(m.life.parents))
	for range 6 {
		if !m.life.isShut[scope] {
			return scope
		}
		scope = m.IntN(len(m.life.parents))
	}
	return scope
}

func (m *actMaker) want() impl.Want {
	w := impl.Want{Key: pick(m.source, wireKeys), Tag: pick(m.source, wireTags), Mode: 1 + m.IntN(4)}
	if len(m.life.list) > 0 && m.IntN(20) > 0 {
		b := pick(m.source, m.life.list)
		w.Key, w.Tag = b.Key, b.Tag
	}
	switch m.IntN(60) {
	case 0:
		w.Mode = pick(m.source, anyNumbers)
	case 1:
		w.Key = pick(m.source, wrongNames)
	case 2:
		w.Tag = pick(m.source, wrongNames)
	}
	return w
}

// force: of one that has a lazy need, if there is one.
func (m *actMaker) force() impl.Act {
	var fit []int
	for i, x := range m.life.made {
		if !x.isGone && len(lazyOnes(m.life.list[x.binding])) > 0 {
			fit = append(fit, i+1)
		}
	}
	if len(fit) == 0 || m.IntN(10) == 0 {
		return impl.Act{Kind: impl.AcForce, Inst: pick(m.source, append([]int{m.IntN(len(m.life.made) + 2)}, anyNumbers...)), Lazy: m.IntN(3) - 1}
	}
	inst := pick(m.source, fit)
	count := len(lazyOnes(m.life.list[m.life.made[inst-1].binding]))
	if m.IntN(10) == 0 {
		return impl.Act{Kind: impl.AcForce, Inst: inst, Lazy: pick(m.source, append([]int{count}, anyNumbers...))}
	}
	return impl.Act{Kind: impl.AcForce, Inst: inst, Lazy: m.IntN(count)}
}

// name: of one that is broken, if there is one and that is wished.
func (m *actMaker) name(isBroken bool) string {
	if len(m.life.list) == 0 || m.IntN(12) == 0 {
		return pick(m.source, wrongNames)
	}
	for i, b := range m.life.list {
		if isBroken && m.life.isBroken[i] {
			return b.Name
		}
	}
	return pick(m.source, m.life.list).Name
}

// shut: mostly of the scope that was opened last.
func (m *actMaker) shut() impl.Act {
	scope := m.scope()
	if scope == 0 && m.IntN(10) > 0 {
		scope = len(m.life.parents) - 1
	}
	if scope == 0 && m.IntN(5) > 0 {
		return impl.Act{Kind: impl.AcOpen}
	}
	return impl.Act{Kind: impl.AcShut, Scope: scope}
}

func (m *actMaker) act() impl.Act {
	switch m.IntN(20) {
	case 0, 1, 2:
		return impl.Act{Kind: impl.AcOpen, Scope: m.scope()}
	case 3, 4, 5, 6:
		return m.force()
	case 7:
		return m.shut()
	case 8, 9:
		return impl.Act{Kind: impl.AcBreak, Name: m.name(false)}
	case 10, 11:
		return impl.Act{Kind: impl.AcMend, Name: m.name(true)}
	case 12:
		if m.IntN(3) == 0 {
			return impl.Act{Kind: pick(m.source, anyNumbers), Scope: m.scope(), Want: m.want(), Inst: m.IntN(9), Lazy: pick(m.source, anyNumbers), Name: m.name(false)}
		}
	}
	return impl.Act{Kind: impl.AcGet, Scope: m.scope(), Want: m.want()}
}

// anyActs: at most so many acts, and what the second telling makes of them.
func anyActs(s source, list []impl.Binding, flags []string, most int) ([]impl.Act, impl.Life) {
	m := &actMaker{s, newOneLife(list, flags)}
	var acts []impl.Act
	var out impl.Life
	for range s.IntN(most + 1) {
		act := m.act()
		acts = append(acts, act)
		out.Replies = append(out.Replies, m.life.do(act))
	}
	out.Events, out.Alive = m.life.events, m.life.there()
	return acts, out
}

// anyContainer: bindings, flags and at most so many acts of one kind or another, and what the second telling makes of them.
func anyContainer(s source, most int) ([]impl.Binding, []string, []impl.Act, impl.Life) {
	list, flags := anyParts(s, 1+s.IntN(5), pick(s, []int{0, 0, 20, 4}))
	switch s.IntN(6) {
	case 0:
		list, flags = anyBindings(s, 3+s.IntN(10), pick(s, []int{0, 12, 3}), s.IntN(3) > 0)
	case 1:
		list, flags = crowd(s, 3+s.IntN(8)), nil
	}
	acts, want := anyActs(s, list, flags, most)
	return list, flags, acts, want
}
