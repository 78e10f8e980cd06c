package tests

import (
	"slices"
	"strconv"
	"strings"
	"testing"

	"loop.example/g00045/impl"
)

// layersOf reads layers with a bar between them: base^1 net.port=80 log= is named base, of rank 1 (else 0), and has two entries, the second one with an empty text.
func layersOf(t *testing.T, text string) []impl.Layer {
	t.Helper()
	var out []impl.Layer
	for _, part := range strings.Split(text, "|") {
		words := strings.Fields(part)
		if len(words) == 0 {
			continue
		}
		name, rank, isRanked := strings.Cut(words[0], "^")
		l := impl.Layer{Name: name}
		if isRanked {
			l.Rank = numberOf(t, rank)
		}
		for _, word := range words[1:] {
			path, text, isEntry := strings.Cut(word, "=")
			if !isEntry {
				t.Fatalf("%s is no entry", word)
			}
			l.Entries = append(l.Entries, impl.Entry{Path: path, Text: text})
		}
		out = append(out, l)
	}
	return out
}

var kindWords = map[string]int{"int": impl.KdInt, "bool": impl.KdBool, "text": impl.KdText, "choice": impl.KdChoice, "span": impl.KdSpan}

// rulesOf reads rules with a bar between them: net.port int 1..9000 must =80 has bounds, must be set and has a default; log choice low,high has two choices.
func rulesOf(t *testing.T, text string) []impl.Rule {
	t.Helper()
	var out []impl.Rule
	for _, part := range strings.Split(text, "|") {
		words := strings.Fields(part)
		if len(words) == 0 {
			continue
		}
		r := impl.Rule{Path: words[0], Kind: kindWords[words[1]]}
		for _, word := range words[2:] {
			if least, most, hasBounds := strings.Cut(word, ".."); hasBounds {
				r.Min, r.Max = numberOf(t, least), numberOf(t, most)
			} else if word == "must" {
				r.Must = true
			} else if text, isDefault := strings.CutPrefix(word, "="); isDefault {
				r.Default = text
			} else {
				r.Choices = strings.Split(word, ",")
			}
		}
		out = append(out, r)
	}
	return out
}

func showLayers(layers []impl.Layer) string {
	var parts []string
	for _, l := range layers[:min(len(layers), 30)] {
		words := []string{clipped(l.Name) + "^" + strconv.Itoa(l.Rank)}
		for _, e := range l.Entries[:min(len(l.Entries), 30)] {
			words = append(words, clipped(e.Path)+"="+clipped(e.Text))
		}
		parts = append(parts, strings.Join(words, " "))
	}
	return "layers " + strings.Join(parts, " | ")
}

func showRule(r impl.Rule) string {
	out := clipped(r.Path) + " kind " + strconv.Itoa(r.Kind) + " " + strconv.Itoa(r.Min) + ".." + strconv.Itoa(r.Max) + " " + clipped(strings.Join(r.Choices, ","))
	if r.Must {
		out += " must"
	}
	return out + " =" + clipped(r.Default)
}

func showRules(rules []impl.Rule) string {
	var parts []string
	for _, r := range rules[:min(len(rules), 30)] {
		parts = append(parts, showRule(r))
	}
	return "rules " + strings.Join(parts, " | ")
}

func toldSettings(list []impl.Setting) string {
	var words []string
	for _, x := range list {
		words = append(words, x.Path+"="+x.Text+"@"+x.From)
	}
	return strings.Join(words, " ")
}

func toldFaults(list []impl.Fault) string {
	var parts []string
	for _, f := range list {
		parts = append(parts, strings.TrimSpace(impl.CodeWord(f.Code)+" "+f.Path+" "+f.From))
	}
	return strings.Join(parts, ", ")
}

func toldChanges(list []impl.Change) string {
	var words []string
	for _, c := range list {
		words = append(words, c.Path+"="+c.Old+">"+c.New)
	}
	return strings.Join(words, " ")
}

func toldStages(list []impl.Stage) string {
	var parts []string
	for _, s := range list {
		words := append([]string{strconv.Itoa(s.Percent) + ":"}, s.Nodes...)
		if s.Code != impl.OK {
			words = append(words, "("+impl.CodeWord(s.Code)+")")
		}
		parts = append(parts, strings.Join(words, " "))
	}
	return strings.Join(parts, ", ")
}

func toldLookup(x lookedUp) string {
	return toldOr(x.code, strings.TrimSpace(strconv.Itoa(x.num)+" "+x.text+"@"+x.from))
}

func (r rollout) show() string {
	out := showRules(r.rules) + "\n" + showLayers(r.layers) + "\nnext " + showLayers([]impl.Layer{r.next}) + "\nnodes " + clipped(strings.Join(r.nodes, " ")) + ", percents"
	for _, percent := range r.percents[:min(len(r.percents), 110)] {
		out += " " + strconv.Itoa(percent)
	}
	return out + ", sick " + clipped(strings.Join(r.sick[:min(len(r.sick), 9)], " "))
}

var (
	pathNames   = []string{"a", "b", "bc", "a1", "é", "A", "_"}
	layerNames  = []string{"base", "site", "user", "a", "B", "Z", "é", "node", "_x", "a2"}
	layerRanks  = []int{0, 0, 0, 1, 1, 2, -1, 7, -1 << 63, -1<<63 + 1, 1<<63 - 1, 1<<63 - 2}
	someTexts   = []string{"~", "~", "", "x", "yes", "no", "80", "-5", "0", "5", "2m", "90s", "1h", "500ms", "0s", "low", "high", "~~", " ~", "~ ", "007", "-0", "+1", "5 s", "Yes", "жук", strings.Repeat("x", 200), "999999999999999999", "-999999999999999999", "1000000000000000000", "999999999999999999ms", "1000000000000000s", "300000000000h", "16666666666666m"}
	someBounds  = [][2]int{{0, 9}, {1, 9000}, {-5, 5}, {0, 200}, {1000, 6000000}, {0, 0}, {80, 80}, {5, 4}, {-1 << 63, 1<<63 - 1}, {1<<63 - 1, -1 << 63}, {-1 << 63, -1}, {3, 1<<63 - 1}}
	someChoices = [][]string{nil, {"low", "high"}, {"low", "x", "low", "yes", "x"}, {"", "5"}, {"~", "low"}, {"x"}}
	topName     = "яяя"
)

// settingMaker makes rules and layers. Where it is calm, what is set is mostly as the rules ask for it.
type settingMaker struct {
	source
	calm  bool
	rules []impl.Rule
}

func (m *settingMaker) path() string {
	parts := []string{pick(m.source, pathNames)}
	for len(parts) < 5 && m.IntN(5) < 2 {
		parts = append(parts, pick(m.source, pathNames))
	}
	return strings.Join(parts, ".")
}

// fitting: some texts that fit a rule.
func fitting(r impl.Rule) []string {
	var out []string
	for _, text := range slices.Concat(someTexts[2:], r.Choices, []string{strconv.Itoa(r.Min), strconv.Itoa(r.Max), strconv.Itoa(r.Min) + "ms", strconv.Itoa(r.Max) + "ms"}) {
		if _, code := wantFit(r, text); code == impl.OK && text != "~" && len(text) <= 200 {
			out = append(out, text)
		}
	}
	return out
}

func (m *settingMaker) rule(path string) impl.Rule {
	bounds := pick(m.source, someBounds)
	r := impl.Rule{Path: path, Kind: 1 + m.IntN(5), Min: bounds[0], Max: bounds[1], Choices: pick(m.source, someChoices), Must: m.IntN(3) == 0}
	fits := fitting(r)
	if len(fits) == 0 && m.calm {
		return impl.Rule{Path: path, Kind: impl.KdText, Max: 200}
	}
	if len(fits) > 0 && m.IntN(2) == 0 {
		r.Default = pick(m.source, fits)
	}
	return r
}

func (m *settingMaker) addRules(most int) {
	for range m.IntN(most + 1) {
		path := m.path()
		if !slices.ContainsFunc(m.rules, func(r impl.Rule) bool { return areMet(r.Path, path) }) {
			m.rules = append(m.rules, m.rule(path))
		}
	}
}

func (m *settingMaker) entry() impl.Entry {
	if len(m.rules) == 0 || m.IntN(3) == 0 && !m.calm {
		return impl.Entry{Path: m.path(), Text: pick(m.source, someTexts)}
	}
	r := pick(m.source, m.rules)
	fits := fitting(r)
	if len(fits) == 0 || m.IntN(4) == 0 && !m.calm {
		return impl.Entry{Path: r.Path, Text: pick(m.source, someTexts)}
	}
	if m.IntN(6) == 0 {
		return impl.Entry{Path: r.Path, Text: "~"}
	}
	return impl.Entry{Path: r.Path, Text: pick(m.source, fits)}
}

func (m *settingMaker) layer(name string, most int) impl.Layer {
	l := impl.Layer{Name: name, Rank: pick(m.source, layerRanks)}
	for range m.IntN(most + 1) {
		e := m.entry()
		if !slices.ContainsFunc(l.Entries, func(other impl.Entry) bool { return other.Path == e.Path }) {
			l.Entries = append(l.Entries, e)
		}
	}
	return l
}

// layers: at most so many, each with at most so many entries.
func (m *settingMaker) layers(count, entries int) []impl.Layer {
	names := slices.Clone(layerNames)
	m.Shuffle(len(names), func(i, k int) { names[i], names[k] = names[k], names[i] })
	var out []impl.Layer
	for i := range m.IntN(count + 1) {
		name := names[i%len(names)]
		if i >= len(names) {
			name += strconv.Itoa(i)
		}
		out = append(out, m.layer(name, entries))
	}
	return out
}

// anySettings: right rules and layers.
func anySettings(s source) ([]impl.Rule, []impl.Layer) {
	m := &settingMaker{source: s, calm: s.IntN(3) == 0}
	m.addRules(8)
	return m.rules, m.layers(5, 6)
}

// anyPaths: some of the paths that are told of, what they are within, and others.
func anyPaths(s source, lists ...[]impl.Layer) []string {
	m := &settingMaker{source: s}
	all := []string{m.path(), m.path()}
	for _, layers := range lists {
		for _, x := range laidEntries(layers) {
			all = append(all, x.Path, strings.Split(x.Path, ".")[0])
		}
	}
	var out []string
	for range s.IntN(5) {
		out = append(out, pick(s, all))
	}
	return out
}

var nodeNames = []string{"a", "b", "c", "node", "B", "é", "жук", "n1", "n2", "n3", "n4", "n5", "n6", "n7", "n8", "n9", "n10", "n11", "n12", "_", "Z", "web", "db"}

// anyRollout: most of them have no fault.
func anyRollout(s source) rollout {
	m := &settingMaker{source: s, calm: s.IntN(8) > 0}
	m.addRules(6)
	r := rollout{rules: m.rules, layers: m.layers(4, 5)}
	r.next = m.layer("next", 4)
	if m.calm {
		r.next = m.mended(r)
	}
	names := slices.Clone(nodeNames)
	s.Shuffle(len(names), func(i, k int) { names[i], names[k] = names[k], names[i] })
	r.nodes = names[:s.IntN(len(names)+1)]
	for percent := s.IntN(30); percent < 100; percent += 1 + s.IntN(40) {
		r.percents = append(r.percents, percent)
	}
	if s.IntN(3) > 0 {
		r.percents = append(r.percents, 100)
	}
	if s.IntN(20) == 0 {
		r.percents = nil
	}
	for range pick(s, []int{0, 0, 1, 1, 3}) {
		r.sick = append(r.sick, pick(s, append([]string{"nope", "", "\xff", "N1"}, nodeNames...)))
	}
	return r
}

// mended: the next layer of a rollout, on top, with what must be set and is not.
func (m *settingMaker) mended(r rollout) impl.Layer {
	next := r.next
	next.Name, next.Rank = topName, 1<<63-1
	faults, _ := wantValidate(r.rules, append(slices.Clone(r.layers), next))
	for _, f := range faults {
		rule, has := ruleOf(r.rules, f.Path)
		e := impl.Entry{Path: f.Path, Text: "~"}
		if has {
			e.Text = pick(m.source, fitting(rule))
		}
		next.Entries = slices.DeleteFunc(next.Entries, func(other impl.Entry) bool { return other.Path == f.Path })
		next.Entries = append(next.Entries, e)
	}
	return next
}
