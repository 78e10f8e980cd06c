package tests

import (
	"slices"
	"strconv"
	"strings"
	"testing"

	"loop.example/g00045/impl"
)

// calmRollout: rules, layers and a next one that have no fault.
func calmRollout(t *testing.T) rollout {
	t.Helper()
	return rollout{rules: rulesOf(t, "net.port int 1..9000 must | log choice low,high =low"), layers: layersOf(t, "base log=low"), next: layersOf(t, "next^5 net.port=8080")[0], nodes: []string{"a"}, percents: []int{50}}
}

func checkRollout(t *testing.T, what string, r rollout, told string) {
	t.Helper()
	stages, code := r.run()
	if got := toldOr(code, toldStages(stages)); got != told {
		t.Errorf("%s: %s: %s, not %s", what, r.show(), got, told)
	}
	checkStages(t, r, stages, code)
	second, secondCode := r.want()
	if secondCode != code || toldStages(second) != toldStages(stages) {
		t.Errorf("%s: %s: the second telling: %s", what, r.show(), toldOr(secondCode, toldStages(second)))
	}
}

// checkRolloutCode: nothing but a code.
func checkRolloutCode(t *testing.T, what string, r rollout, want int) {
	t.Helper()
	if stages, code := r.run(); code != want || len(stages) > 0 {
		t.Errorf("%s: %s %d, not %d", what, clipped(toldStages(stages)), code, want)
	}
	if stages, code := r.want(); code != want || len(stages) > 0 {
		t.Errorf("%s: the second telling: %d", what, code)
	}
}

// A node has it from the first percent on that is above its number.
func TestNodeNumbers(t *testing.T) {
	for node, number := range map[string]int{"a": 20, "b": 77} {
		if libraryNumber(node) != number {
			t.Errorf("%s: %d", node, libraryNumber(node))
		}
	}
	s := newSource()
	nodes := append([]string{strings.Repeat("n", 40), strings.Repeat("é", 20), "жук", "ÿ", "_"}, nodeNames...)
	for range 200 {
		nodes = append(nodes, "n"+strconv.Itoa(s.IntN(1000000)))
	}
	for _, node := range nodes {
		r := calmRollout(t)
		number := libraryNumber(node)
		r.nodes = []string{node}
		r.percents = []int{number, number + 1}
		checkRollout(t, node, r, strconv.Itoa(number)+":, "+strconv.Itoa(number+1)+": "+node)
		r.sick = []string{node}
		checkRollout(t, node+" sick", r, strconv.Itoa(number)+":, "+strconv.Itoa(number+1)+": (fail)")
	}
}

func TestRolloutStages(t *testing.T) {
	for _, c := range []struct {
		nodes    string
		percents []int
		sick     string
		told     string
	}{
		{"b a", []int{0, 21, 100}, "", "0:, 21: a, 100: a b"},
		{"a b", []int{0, 21, 100}, "", "0:, 21: a, 100: a b"},
		{"a b", []int{20, 77}, "", "20:, 77: a"},
		{"a b", []int{21, 78}, "", "21: a, 78: a b"},
		{"a b", nil, "", ""},
		{"a b", nil, "a", ""},
		{"a b", []int{0}, "a b", "0:"},
		{"a b", []int{100}, "", "100: a b"},
		{"a b", []int{100}, "b", "100: (fail)"},
		{"a b", []int{0, 100}, "", "0:, 100: a b"},
		{"a b", []int{99}, "", "99: a b"},
		{"", []int{0, 50, 100}, "", "0:, 50:, 100:"},
		{"", []int{0, 50, 100}, "a", "0:, 50:, 100:"},
		{"", nil, "", ""},
		{"b a", []int{21, 80, 100}, "b", "21: a, 80: (fail)"},
		{"b a", []int{21, 80, 100}, "a", "21: (fail)"},
		{"b a", []int{5, 20, 21, 22}, "a", "5:, 20:, 21: (fail)"},
		{"b a", []int{21, 77}, "b", "21: a, 77: a"},
		{"b a", []int{21, 77, 78}, "b", "21: a, 77: a, 78: (fail)"},
		{"b a", []int{21, 100}, "c", "21: a, 100: a b"},
		{"b a", []int{21, 100}, "A aa nope", "21: a, 100: a b"},
		{"b a", []int{21, 100}, "b b b", "21: a, 100: (fail)"},
		{"b a", []int{21, 100}, "c b a", "21: (fail)"},
	} {
		r := calmRollout(t)
		r.nodes, r.percents, r.sick = strings.Fields(c.nodes), c.percents, strings.Fields(c.sick)
		checkRollout(t, c.told, r, c.told)
	}
}

// All percents, and as many nodes as a list may have.
func TestRolloutOfMany(t *testing.T) {
	r := calmRollout(t)
	r.nodes, r.percents = nil, nil
	for i := range 4096 {
		r.nodes = append(r.nodes, "n"+strconv.Itoa(4095-i))
	}
	for percent := range 101 {
		r.percents = append(r.percents, percent)
	}
	stages, code := r.run()
	checkStages(t, r, stages, code)
	want, _ := r.want()
	if code != impl.OK || len(stages) != 101 || len(stages[100].Nodes) != 4096 || toldStages(stages) != toldStages(want) {
		t.Errorf("%d stages, code %d", len(stages), code)
	}
	r.sick = append(repeated(4095, strings.Repeat("n", 10*millions)), "n77")
	number := libraryNumber("n77")
	stages, code = r.run()
	if code != impl.OK || len(stages) != number+2 || stages[number+1].Code != impl.ErrFail || stages[number+1].Percent != number+1 {
		t.Errorf("%d stages with a sick one, code %d", len(stages), code)
	}
	r.nodes = append(r.nodes, "more")
	checkRolloutCode(t, "a node more", r, impl.ErrLong)
}

func TestRolloutOfPercents(t *testing.T) {
	for _, c := range []struct {
		percents []int
		code     int
	}{
		{nil, impl.OK}, {[]int{0}, impl.OK}, {[]int{100}, impl.OK}, {[]int{0, 1}, impl.OK}, {[]int{0, 100}, impl.OK}, {[]int{99, 100}, impl.OK}, {[]int{1, 2, 3, 50, 98}, impl.OK},
		{[]int{-1}, impl.ErrBad}, {[]int{101}, impl.ErrBad}, {[]int{-1, 5}, impl.ErrBad}, {[]int{5, 101}, impl.ErrBad}, {[]int{100, 101}, impl.ErrBad}, {[]int{0, 0}, impl.ErrBad}, {[]int{5, 5}, impl.ErrBad}, {[]int{100, 100}, impl.ErrBad}, {[]int{5, 4}, impl.ErrBad}, {[]int{100, 0}, impl.ErrBad},
		{[]int{1, 2, 2, 3}, impl.ErrBad}, {[]int{1, 2, 1, 3}, impl.ErrBad}, {[]int{1, 50, 3, 60}, impl.ErrBad}, {[]int{-1 << 63}, impl.ErrBad}, {[]int{1<<63 - 1}, impl.ErrBad}, {[]int{1<<63 - 1, -1 << 63}, impl.ErrBad}, {[]int{0, 1 << 32}, impl.ErrBad}, {[]int{50, -50}, impl.ErrBad},
	} {
		r := calmRollout(t)
		r.percents = c.percents
		if stages, code := r.run(); code != c.code || code == impl.OK && len(stages) != len(c.percents) || code != impl.OK && len(stages) > 0 {
			t.Errorf("%v: %s %d", c.percents, toldStages(stages), code)
		}
	}
	for _, count := range []int{102, 4096, 4097} {
		r := calmRollout(t)
		r.percents = nil
		for i := range count {
			r.percents = append(r.percents, i)
		}
		want := impl.ErrBad
		if count > 4096 {
			want = impl.ErrLong
		}
		checkRolloutCode(t, strconv.Itoa(count)+" percents", r, want)
	}
}

func TestRolloutOfNodes(t *testing.T) {
	for _, name := range rightNames {
		r := calmRollout(t)
		r.nodes, r.percents = []string{"b", name, "zz"}, []int{100}
		if stages, code := r.run(); code != impl.OK || len(stages) != 1 || len(stages[0].Nodes) != 3 || !slices.IsSorted(stages[0].Nodes) {
			t.Errorf("%s: %s %d", name, toldStages(stages), code)
		}
	}
	for _, text := range notNames() {
		for _, nodes := range [][]string{{text}, {"a", text}, {text, "a"}, {"a", text, "b"}} {
			r := calmRollout(t)
			r.nodes = nodes
			checkRolloutCode(t, "node "+clipped(text), r, impl.ErrBad)
		}
	}
	for _, text := range []string{"a a", "a b a", "b a a", "a b c d e f g h i j b"} {
		r := calmRollout(t)
		r.nodes = strings.Fields(text)
		checkRolloutCode(t, text, r, impl.ErrBad)
		r.percents = nil
		checkRolloutCode(t, text, r, impl.ErrBad)
	}
}

// Sick ones are texts of any kind.
func TestRolloutOfSickOnes(t *testing.T) {
	for _, text := range append([]string{"A", "a.", "a\x00", "aa", "\xff", tooLong}, notNames()...) {
		r := calmRollout(t)
		r.sick = []string{text, "nope", text}
		checkRollout(t, "sick "+clipped(text), r, "50: a")
		r.sick = []string{text, "a"}
		checkRollout(t, "sick "+clipped(text), r, "50: (fail)")
	}
	r := calmRollout(t)
	r.sick = repeated(4096, "nope")
	checkRollout(t, "as many sick ones as can be", r, "50: a")
	r.sick = repeated(4097, "nope")
	checkRolloutCode(t, "a sick one more", r, impl.ErrLong)
}

// Each argument that is not right, alone, with a next layer that is not, and with lists too long.
func TestRolloutOfWrongArguments(t *testing.T) {
	wrong := map[string]func(r *rollout){
		"rules":              func(r *rollout) { r.rules = append(r.rules, impl.Rule{Path: "x", Kind: 6}) },
		"rules twice":        func(r *rollout) { r.rules = append(r.rules, r.rules[0]) },
		"too many rules":     func(r *rollout) { r.rules = manyRules(101) },
		"layers":             func(r *rollout) { r.layers = layersOf(t, "base p.=1") },
		"layers twice":       func(r *rollout) { r.layers = layersOf(t, "base | base") },
		"too many layers":    func(r *rollout) { r.layers = manyLayers(21) },
		"a node":             func(r *rollout) { r.nodes = []string{"when"} },
		"a node twice":       func(r *rollout) { r.nodes = []string{"a", "b", "a"} },
		"a percent":          func(r *rollout) { r.percents = []int{50, 101} },
		"percents that fall": func(r *rollout) { r.percents = []int{50, 40} },
		"percents alike":     func(r *rollout) { r.percents = []int{50, 50} },
		"a percent below 0":  func(r *rollout) { r.percents = []int{-1} },
	}
	nexts := []impl.Layer{{Name: "next", Entries: []impl.Entry{{Path: "net.port", Text: "80"}}}, {}, {Name: "base"}, {Name: "next"}, {Name: "next", Entries: []impl.Entry{{Path: "p..q"}}}, {Name: "next", Entries: []impl.Entry{{Path: "nope", Text: "1"}}}, {Name: tooLong}, {Name: "next", Entries: manyEntries(millions)}}
	tooMany := map[string]func(r *rollout){
		"rules":    func(r *rollout) { r.rules = manyRules(4097) },
		"layers":   func(r *rollout) { r.layers = manyLayers(4097) },
		"nodes":    func(r *rollout) { r.nodes = repeated(4097, "a") },
		"percents": func(r *rollout) { r.percents = make([]int, 4097) },
		"sick":     func(r *rollout) { r.sick = repeated(4097, "") },
	}
	for what, turn := range wrong {
		for _, next := range nexts {
			r := calmRollout(t)
			r.next = next
			turn(&r)
			checkRolloutCode(t, what, r, impl.ErrBad)
			for list, lengthen := range tooMany {
				long := r
				lengthen(&long)
				checkRolloutCode(t, what+" and too long "+list, long, impl.ErrLong)
			}
		}
	}
}

// What makes a next layer a wrong one.
func TestRolloutOfNextLayers(t *testing.T) {
	for _, c := range []struct {
		what string
		next impl.Layer
		code int
	}{
		{"right", layersOf(t, "next net.port=80")[0], impl.OK},
		{"on top", layersOf(t, "next^9223372036854775807 net.port=80 log=high")[0], impl.OK},
		{"below", layersOf(t, "next^-9223372036854775808 net.port=80 log=none")[0], impl.OK},
		{"100 entries", impl.Layer{Name: "next", Rank: 5, Entries: append([]impl.Entry{{Path: "net.port", Text: "80"}}, erasing(99)...)}, impl.OK},
		{"101 entries", impl.Layer{Name: "next", Rank: 5, Entries: append([]impl.Entry{{Path: "net.port", Text: "80"}}, erasing(100)...)}, impl.ErrForm},
		{"nothing", impl.Layer{}, impl.ErrForm},
		{"a name that is there", layersOf(t, "base net.port=80")[0], impl.ErrForm},
		{"a wrong name", layersOf(t, "when net.port=80")[0], impl.ErrForm},
		{"a long name", impl.Layer{Name: tooLong, Entries: layersOf(t, "a net.port=80")[0].Entries}, impl.ErrForm},
		{"a wrong path", layersOf(t, "next net.port=80 net.=1")[0], impl.ErrForm},
		{"a path twice", layersOf(t, "next net.port=80 net.port=80")[0], impl.ErrForm},
		{"a long text", impl.Layer{Name: "next", Entries: []impl.Entry{{Path: "net.port", Text: "80"}, {Path: "zz", Text: strings.Repeat("~", 201)}}}, impl.ErrForm},
		{"very many entries", impl.Layer{Name: "next", Entries: make([]impl.Entry, 4097)}, impl.ErrForm},
		{"what must be set is not", layersOf(t, "next log=high")[0], impl.ErrForm},
		{"no rule for it", layersOf(t, "next net.port=80 net.host=x")[0], impl.ErrForm},
		{"not of the form", layersOf(t, "next net.port=eighty")[0], impl.ErrForm},
		{"out of its bounds", layersOf(t, "next net.port=9001")[0], impl.ErrForm},
		{"it erases what must be set", layersOf(t, "next net.port=80 net=~")[0], impl.ErrForm},
		{"it erases what is not there", layersOf(t, "next net=~ net.port=80")[0], impl.OK},
	} {
		r := calmRollout(t)
		r.next = c.next
		for _, percents := range [][]int{{50}, nil, {0, 100}} {
			r.percents = percents
			if c.code != impl.OK {
				checkRolloutCode(t, c.what, r, c.code)
				continue
			}
			if stages, code := r.run(); code != impl.OK || len(stages) != len(percents) {
				t.Errorf("%s: %s %d", c.what, toldStages(stages), code)
			}
		}
	}
	r := calmRollout(t)
	for count := 18; count <= 20; count++ {
		r.layers = manyLayers(count)
		if count < 20 {
			checkRollout(t, strconv.Itoa(count)+" layers", r, "50: a")
		} else {
			checkRolloutCode(t, "one too many", r, impl.ErrForm)
		}
	}
	r = calmRollout(t)
	r.layers = layersOf(t, "base log=mid")
	checkRolloutCode(t, "a fault of the others", r, impl.ErrForm)
	r.next = layersOf(t, "next^5 net.port=1 log=low")[0]
	checkRollout(t, "a fault of the others that is laid over", r, "50: a")
	checkRollout(t, "no rules, nothing set", rollout{next: impl.Layer{Name: "next"}, nodes: []string{"a"}, percents: []int{20, 21}}, "20:, 21: a")
}

// erasing: so many entries that set nothing.
func erasing(count int) []impl.Entry {
	out := manyEntries(count)
	for i := range out {
		out[i].Text = "~"
	}
	return out
}
