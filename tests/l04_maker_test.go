package tests

import (
	"slices"
	"strconv"
	"strings"
	"testing"

	"loop.example/g00045/impl"
)

// splitWord: a name of letters and the number behind it, 0 if there is none.
func splitWord(t *testing.T, word string) (string, int) {
	t.Helper()
	name := strings.TrimRight(word, "0123456789")
	if name == word {
		return name, 0
	}
	number, err := strconv.Atoi(word[len(name):])
	if err != nil {
		t.Fatal(err)
	}
	return name, number
}

// needsOf reads needs: b is any version, b2 one from 2, b2-4 one from 2 to 4.
func needsOf(t *testing.T, text string) []impl.Import {
	t.Helper()
	var out []impl.Import
	for _, word := range strings.Fields(text) {
		head, tail, isBounded := strings.Cut(word, "-")
		need := impl.Import{Min: 1, Max: impl.MaxVersion}
		name, least := splitWord(t, head)
		need.Name = name
		if least > 0 {
			need.Min = least
		}
		if isBounded {
			_, need.Max = splitWord(t, "x"+tail)
		}
		out = append(out, need)
	}
	return out
}

// storeOf reads releases with a bar between them: a1 b2-4 c is release 1 of a with two needs.
func storeOf(t *testing.T, text string) []impl.Release {
	t.Helper()
	var out []impl.Release
	for _, part := range strings.Split(text, "|") {
		head, rest, _ := strings.Cut(strings.TrimSpace(part), " ")
		if head == "" {
			continue
		}
		name, version := splitWord(t, head)
		out = append(out, impl.Release{Name: name, Version: version, Needs: needsOf(t, rest)})
	}
	return out
}

// clipped keeps what a failing test tells short.
func clipped(text string) string { return text[:min(len(text), 100)] }

func showPicks(picks []impl.Pick) string {
	var words []string
	for _, p := range picks {
		words = append(words, clipped(p.Name)+strconv.Itoa(p.Version))
	}
	return strings.Join(words, " ")
}

// told writes an answer: the picks, or the code's word and, quoted, the names.
func told(picks []impl.Pick, code int, names []string) string {
	if code == impl.OK && len(names) == 0 {
		return showPicks(picks)
	}
	out := impl.CodeWord(code)
	for _, name := range names {
		out += " " + strconv.Quote(clipped(name))
	}
	if len(picks) > 0 {
		out += " and picks " + showPicks(picks)
	}
	return out
}

func showNeeds(needs []impl.Import) string {
	var words []string
	for _, need := range needs {
		words = append(words, clipped(need.Name)+strconv.Itoa(need.Min)+"-"+strconv.Itoa(need.Max))
	}
	return strings.Join(words, " ")
}

func showStore(store []impl.Release) string {
	var parts []string
	for _, r := range store {
		parts = append(parts, strings.TrimSpace(clipped(r.Name)+strconv.Itoa(r.Version)+" "+showNeeds(r.Needs)))
	}
	return strings.Join(parts, " | ")
}

// storeMaker makes stores. Names of needs are those of releases but for one in so many as wild tells; a need's Max is tight for one in so many as tight tells.
type storeMaker struct {
	source
	names       []string
	wild, tight int
	store       []impl.Release
}

var releaseNames = []string{"a", "B", "aa", "b", "é", "c", "d"}

func (m *storeMaker) version() int {
	if m.IntN(20) == 0 {
		return impl.MaxVersion - m.IntN(2)
	}
	return 1 + m.IntN(5)
}

func (m *storeMaker) releases(count int) {
	for range count {
		r := impl.Release{Name: pick(m.source, m.names), Version: m.version()}
		if !slices.ContainsFunc(m.store, func(o impl.Release) bool { return o.Name == r.Name && o.Version == r.Version }) {
			m.store = append(m.store, r)
		}
	}
}

func (m *storeMaker) need() impl.Import {
	goal := impl.Release{Name: pick(m.source, releaseNames), Version: m.version()}
	if m.IntN(m.wild) > 0 && len(m.store) > 0 {
		goal = pick(m.source, m.store)
	}
	need := impl.Import{Name: goal.Name, Min: 1 + m.IntN(goal.Version), Max: impl.MaxVersion}
	if m.IntN(2) == 0 {
		need.Min = goal.Version
	}
	if m.IntN(m.tight) == 0 {
		need.Max = need.Min + m.IntN(min(4, impl.MaxVersion-need.Min+1))
	}
	return need
}

func (m *storeMaker) needs(most int, own string) []impl.Import {
	var out []impl.Import
	for range m.IntN(most + 1) {
		need := m.need()
		if need.Name != own && !slices.ContainsFunc(out, func(o impl.Import) bool { return o.Name == need.Name }) {
			out = append(out, need)
		}
	}
	return out
}

// anyStore: a right store of at most so many releases, and right wishes.
func anyStore(s source, most, wild, tight int) ([]impl.Release, []impl.Import) {
	m := &storeMaker{source: s, names: releaseNames[:1+s.IntN(len(releaseNames))], wild: wild, tight: tight}
	m.releases(s.IntN(most + 1))
	for i := range m.store {
		m.store[i].Needs = m.needs(3, m.store[i].Name)
	}
	return m.store, m.needs(3, "")
}
