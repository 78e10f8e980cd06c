package tests

import (
	"slices"
	"strconv"
	"strings"
	"testing"

	"loop.example/g00045/impl"
)

// modeSigns: each mode's sign stands ahead of a want's key.
var modeSigns = map[string]int{"+": impl.WantOne, "?": impl.WantMaybe, "*": impl.WantAll, "~": impl.WantLazy}

// wantOf reads a want: its mode's sign, its key and perhaps a dot and its tag.
func wantOf(t *testing.T, word string) impl.Want {
	t.Helper()
	mode, isMode := modeSigns[word[:1]]
	if !isMode {
		t.Fatalf("%s is no want", word)
	}
	key, tag, _ := strings.Cut(word[1:], ".")
	return impl.Want{Key: key, Tag: tag, Mode: mode}
}

// tagged: a key with its tag.
func tagged(key, tag string) string {
	if tag == "" {
		return clipped(key)
	}
	return clipped(key) + "." + clipped(tag)
}

func showWant(w impl.Want) string {
	for sign, mode := range modeSigns {
		if mode == w.Mode {
			return sign + tagged(w.Key, w.Tag)
		}
	}
	return "(" + strconv.Itoa(w.Mode) + ")" + tagged(w.Key, w.Tag)
}

// bindingsOf reads bindings with a bar between them: a:app.old 1 ^5 wraps if=!test +db ?log is named a, of key app and tag old, of scope 1 (else 3) and rank 5, it wraps where test is no flag, and has two needs.
func bindingsOf(t *testing.T, text string) []impl.Binding {
	t.Helper()
	var out []impl.Binding
	for _, part := range strings.Split(text, "|") {
		words := strings.Fields(part)
		if len(words) == 0 {
			continue
		}
		name, rest, _ := strings.Cut(words[0], ":")
		key, tag, _ := strings.Cut(rest, ".")
		b := impl.Binding{Name: name, Key: key, Tag: tag, Scope: impl.ScFresh}
		for _, word := range words[1:] {
			readWord(t, &b, word)
		}
		out = append(out, b)
	}
	return out
}

func readWord(t *testing.T, b *impl.Binding, word string) {
	t.Helper()
	var err error
	switch {
	case word == "wraps":
		b.Wraps = true
	case strings.HasPrefix(word, "if="):
		b.When = word[len("if="):]
	case word[0] == '^':
		b.Rank, err = strconv.Atoi(word[1:])
	case '0' <= word[0] && word[0] <= '9':
		b.Scope, err = strconv.Atoi(word)
	default:
		b.Needs = append(b.Needs, wantOf(t, word))
	}
	if err != nil {
		t.Fatal(err)
	}
}

func showBinding(b impl.Binding) string {
	words := []string{clipped(b.Name) + ":" + tagged(b.Key, b.Tag), strconv.Itoa(b.Scope), "^" + strconv.Itoa(b.Rank)}
	if b.Wraps {
		words = append(words, "wraps")
	}
	if b.When != "" {
		words = append(words, "if="+clipped(b.When))
	}
	for _, need := range b.Needs[:min(len(b.Needs), 12)] {
		words = append(words, showWant(need))
	}
	return strings.Join(words, " ")
}

// showBindings is cut off where it would be too long to be looked at.
func showBindings(list []impl.Binding, flags []string) string {
	var parts []string
	for _, b := range list[:min(len(list), 60)] {
		parts = append(parts, showBinding(b))
	}
	out := strings.Join(parts, " | ") + " with"
	for _, flag := range flags[:min(len(flags), 12)] {
		out += " " + strconv.Quote(clipped(flag))
	}
	return out[:min(len(out), 6000)]
}

// namesOf: the Names of bindings by their numbers, with blanks between.
func namesOf(list []impl.Binding, numbers []int) string {
	var names []string
	for _, number := range numbers {
		if number < 0 || number >= len(list) {
			names = append(names, "number "+strconv.Itoa(number))
			continue
		}
		names = append(names, list[number].Name)
	}
	return strings.Join(names, " ")
}

func toldProblems(problems []impl.Problem) string {
	var parts []string
	for _, p := range problems {
		parts = append(parts, strings.TrimSpace(impl.CodeWord(p.Code)+" "+clipped(p.Name)+" "+tagged(p.Key, p.Tag)))
	}
	return strings.Join(parts, ", ")
}

// toldOr: the code's word, if it is not OK.
func toldOr(code int, text string) string {
	if code == impl.OK {
		return text
	}
	return strings.TrimSpace(impl.CodeWord(code) + " " + text)
}

// wireMaker makes right bindings. A need asks for a key that stands behind the binding's own in keys, but for one in so many as wild tells (none if it is 0). Where it is tame, few bindings stand in one another's way. Where it is round, most needs ask for the next key, those of the last one for the first.
type wireMaker struct {
	source
	keys  []string
	wild  int
	tame  bool
	round bool
	list  []impl.Binding
}

var (
	wireNames = []string{"a", "B", "aa", "b", "é", "c", "Z", "_", "a1", "ab", "d", "ж", "c2", "x", "A", "y"}
	wireKeys  = []string{"k", "a", "log", "K", "é", "db", "kk"}
	wireTags  = []string{"", "", "t", "a", "T"}
	wireWhens = []string{"f", "!f", "g", "!g", "a", "!nope"}
	wireFlags = []string{"f", "g", "f", "!f", "!g", "h", "", "a", "!", "!!f", "f g", "\xff"}
)

func (m *wireMaker) mode() int {
	if m.tame && m.IntN(2) == 0 {
		return impl.WantMaybe
	}
	return 1 + m.IntN(4)
}

func (m *wireMaker) need(level int) impl.Want {
	if m.round && m.IntN(12) > 0 {
		return impl.Want{Key: m.keys[(level+1)%len(m.keys)], Mode: m.mode()}
	}
	from := level + 1
	if from >= len(m.keys) || m.wild > 0 && m.IntN(m.wild) == 0 {
		from = 0
	}
	w := impl.Want{Key: pick(m.source, m.keys[from:]), Tag: pick(m.source, wireTags), Mode: m.mode()}
	if len(m.list) > 0 && m.IntN(3) > 0 {
		b := pick(m.source, m.list)
		if slices.Index(m.keys, b.Key) >= from {
			w.Key, w.Tag = b.Key, b.Tag
		}
	}
	return w
}

func (m *wireMaker) rank() int {
	switch {
	case m.IntN(12) == 0:
		return pick(m.source, []int{-1 << 63, 1<<63 - 1, -1<<63 + 1})
	case m.tame:
		return m.IntN(1000)
	}
	return m.IntN(3) - 1
}

func (m *wireMaker) binding(name string) impl.Binding {
	level := m.IntN(len(m.keys))
	b := impl.Binding{Name: name, Key: m.keys[level], Tag: pick(m.source, wireTags), Scope: 1 + m.IntN(3), Rank: m.rank(), Wraps: m.IntN(4) == 0}
	if m.round && m.IntN(8) > 0 {
		b.Key, b.Tag = m.keys[len(m.list)%len(m.keys)], ""
	}
	if m.IntN(3) == 0 && !m.round {
		b.When = pick(m.source, wireWhens)
	}
	return b
}

func (m *wireMaker) flags() []string {
	var out []string
	for range m.IntN(5) {
		out = append(out, pick(m.source, wireFlags))
	}
	return out
}

// anyBindings: right bindings, at most so many, and flags.
func anyBindings(s source, most, wild int, tame bool) ([]impl.Binding, []string) {
	m := &wireMaker{source: s, keys: wireKeys[:1+s.IntN(len(wireKeys))], wild: wild, tame: tame, round: tame && wild > 0 && s.IntN(3) == 0}
	names := slices.Clone(wireNames)
	s.Shuffle(len(names), func(i, k int) { names[i], names[k] = names[k], names[i] })
	count := s.IntN(most + 1)
	if m.round {
		count = most
	}
	for i := range count {
		name := names[i%len(names)]
		if i >= len(names) {
			name += strconv.Itoa(i)
		}
		m.list = append(m.list, m.binding(name))
	}
	for i := range m.list {
		level := slices.Index(m.keys, m.list[i].Key)
		if level == len(m.keys)-1 && s.IntN(4) > 0 && !m.round {
			continue
		}
		least := 0
		if m.round {
			least = 1
		}
		for range least + s.IntN(4-least) {
			m.list[i].Needs = append(m.list[i].Needs, m.need(level))
		}
	}
	return m.list, m.flags()
}
