package tests

import (
	"slices"
	"strconv"
	"strings"
	"testing"

	"loop.example/g00045/impl"
)

func TestLimitsOfChapter9(t *testing.T) {
	if impl.MaxParts != 5 || impl.MaxLayers != 20 || impl.MaxEntries != 100 || impl.MaxWord != 200 {
		t.Errorf("limits %d, %d, %d, %d", impl.MaxParts, impl.MaxLayers, impl.MaxEntries, impl.MaxWord)
	}
	if impl.KdInt != 1 || impl.KdBool != 2 || impl.KdText != 3 || impl.KdChoice != 4 || impl.KdSpan != 5 {
		t.Errorf("kinds %d, %d, %d, %d, %d", impl.KdInt, impl.KdBool, impl.KdText, impl.KdChoice, impl.KdSpan)
	}
}

// checkLayerCodes: each call of chapter 9 that is handed these layers answers that code alone.
func checkLayerCodes(t *testing.T, what string, layers []impl.Layer, want int) {
	t.Helper()
	rules := []impl.Rule{{Path: "zz", Kind: impl.KdText, Max: 9, Default: "x"}}
	if list, code := impl.Merge(layers); code != want || code != impl.OK && len(list) > 0 {
		t.Errorf("%s: Merge %d, not %d", what, code, want)
	}
	if list, code := impl.Validate(rules, layers); code != want || code != impl.OK && len(list) > 0 {
		t.Errorf("%s: Validate %d, not %d", what, code, want)
	}
	for _, path := range []string{"zz", "nope", "", "\xff"} {
		got := lookup(rules, layers, path)
		isFine := got.code == impl.OK || path != "zz" && got.code == impl.ErrNone
		if want == impl.OK && !isFine || want != impl.OK && got != (lookedUp{code: want}) {
			t.Errorf("%s: Lookup of %q: %s, not %d", what, path, toldLookup(got), want)
		}
	}
	for _, pair := range [][2][]impl.Layer{{layers, nil}, {nil, layers}, {layers, layers}} {
		for _, paths := range [][]string{nil, {"a"}, {"zz", "a.b"}} {
			if list, code := impl.Watch(pair[0], pair[1], paths); code != want || code != impl.OK && len(list) > 0 {
				t.Errorf("%s: Watch %d, not %d", what, code, want)
			}
		}
	}
	if want == impl.OK {
		return
	}
	for _, next := range []impl.Layer{{}, {Name: "next"}, {Name: "next", Entries: []impl.Entry{{Path: "nope"}}}} {
		if list, code := impl.Rollout(rules, layers, next, []string{"a"}, []int{50}, nil); code != want || len(list) > 0 {
			t.Errorf("%s: Rollout %d, not %d", what, code, want)
		}
	}
}

// checkLayers: whether layers are right, by the codes that hang on it.
func checkLayers(t *testing.T, what string, layers []impl.Layer, right bool) {
	t.Helper()
	want := impl.ErrBad
	switch {
	case len(layers) > impl.MaxList:
		want = impl.ErrLong
	case right:
		want = impl.OK
	}
	checkLayerCodes(t, what, layers, want)
	if len(layers) <= impl.MaxList && areSomeLayers(layers) != right {
		t.Errorf("%s: the second telling is not %t", what, right)
	}
}

// someLayers puts a layer at each place among others.
func someLayers(l impl.Layer) [][]impl.Layer {
	others := []impl.Layer{{Name: "x1", Rank: 3, Entries: []impl.Entry{{Path: "a"}, {Path: "a.b", Text: "~"}}}, {Name: "y1"}}
	return [][]impl.Layer{{l}, {l, others[0], others[1]}, {others[0], l, others[1]}, {others[0], others[1], l}}
}

func checkOneLayer(t *testing.T, what string, l impl.Layer, right bool) {
	t.Helper()
	for _, layers := range someLayers(l) {
		checkLayers(t, what, layers, right)
	}
}

// checkPath: whether a text is a path, wherever one is asked for.
func checkPath(t *testing.T, path string, right bool) {
	t.Helper()
	what := "path " + strconv.Quote(clipped(path))
	for _, entries := range [][]impl.Entry{{{Path: path, Text: "x"}}, {{Path: "zz1"}, {Path: path, Text: "~"}}, {{Path: path}, {Path: "zz1", Text: "~"}}} {
		checkOneLayer(t, what, impl.Layer{Name: "base", Entries: entries}, right)
	}
	want := impl.ErrBad
	if right {
		want = impl.OK
	}
	for _, paths := range [][]string{{path}, {path, "zz"}, {"zz", path}, {path, path}} {
		if list, code := impl.Watch(nil, nil, paths); code != want || len(list) > 0 {
			t.Errorf("%s: Watch %s %d", what, toldChanges(list), code)
		}
	}
	for _, rules := range [][]impl.Rule{{{Path: path, Kind: 2}}, {{Path: "zz1", Kind: 2}, {Path: path, Kind: 2}}} {
		if list, code := impl.Validate(rules, nil); code != want || len(list) > 0 {
			t.Errorf("%s: Validate %s %d", what, toldFaults(list), code)
		}
	}
	if isOnePath(path) != right {
		t.Errorf("%s: the second telling is not %t", what, right)
	}
}

func TestPaths(t *testing.T) {
	long := strings.Repeat("n", 40)
	for _, path := range []string{"a", "a.b", "a.b.c", "a.b.c.d", "a.b.c.d.e", "a.a", "a.a.a.a.a", "_._", "a1.b2", "é.ж.Ω9", "жук", "A.a", "whens.inits", "When",
		long, long + "." + long, strings.Join(repeated(5, long), "."), strings.Join(repeated(5, strings.Repeat("é", 20)), ".")} {
		checkPath(t, path, true)
	}
	for _, path := range []string{"", ".", "..", ".a", "a.", "a..b", ".a.b", "a.b.", "a.b..", "a.b.c.d.e.", ".a.b.c.d.e", "a.b.c.d.e.f", "a.b.c.d..e", "a.b.c.d.e.f.g.h", "a.1", "1.a", "a.b.1c", "a b", "a. b", "a .b", " a", "a ", "a.b ", "a,b", "a/b", "a.*", "#", "a.~", "~",
		"when", "a.when", "set.a", "a.init.b", "a.\xff", "\xff.a", "a.€", "a.b\n", "a.b\x00", "a。b",
		long + "n", "a." + long + "n", long + "n.a", "a.b.c.d." + long + "n", strings.Repeat("é", 20) + "a.b", strings.Join(repeated(6, long), ".")} {
		checkPath(t, path, false)
	}
	for _, name := range rightNames {
		checkPath(t, name, true)
		checkPath(t, "a."+name+".b", true)
	}
	for _, text := range notNames() {
		isTwo := text == "a.b"
		checkPath(t, text, isTwo)
		checkPath(t, "a."+text, isTwo)
		checkPath(t, text+".a", isTwo)
		checkPath(t, "a."+text+".b", isTwo)
	}
	for _, huge := range []string{strings.Repeat("a.", 5*millions), strings.Repeat(".", 10*millions), strings.Repeat("a", 10*millions), "a." + strings.Repeat("b", 10*millions)} {
		checkPath(t, huge, false)
	}
}

func manyLayers(count int) []impl.Layer {
	var out []impl.Layer
	for i := range count {
		out = append(out, impl.Layer{Name: "n" + strconv.Itoa(i), Rank: i % 3})
	}
	return out
}

func manyEntries(count int) []impl.Entry {
	var out []impl.Entry
	for i := range count {
		out = append(out, impl.Entry{Path: "p" + strconv.Itoa(i%7) + ".q" + strconv.Itoa(i), Text: strconv.Itoa(i)})
	}
	return out
}

func TestLayersHowMany(t *testing.T) {
	checkLayers(t, "nil", nil, true)
	checkLayers(t, "empty", []impl.Layer{}, true)
	for _, count := range []int{1, 2, 19, 20, 21, 22, 4096, 4097, 10000} {
		checkLayers(t, strconv.Itoa(count)+" layers", manyLayers(count), count <= 20)
		checkLayers(t, strconv.Itoa(count)+" layers of nothing", make([]impl.Layer, count), false)
	}
	for _, count := range []int{0, 1, 99, 100, 101, 102, 4096, 4097, millions} {
		checkOneLayer(t, strconv.Itoa(count)+" entries", impl.Layer{Name: "base", Entries: manyEntries(count)}, count <= 100)
	}
	full := manyLayers(20)
	for i := range full {
		full[i].Entries = manyEntries(100)
	}
	checkLayers(t, "all entries of all layers", full, true)
	full[19].Entries = manyEntries(101)
	checkLayers(t, "one entry more of the last one", full, false)
}

func TestLayersOfNames(t *testing.T) {
	for _, name := range rightNames {
		checkOneLayer(t, name, impl.Layer{Name: name, Entries: manyEntries(3)}, true)
	}
	for _, text := range notNames() {
		checkOneLayer(t, clipped(text), impl.Layer{Name: text, Entries: manyEntries(3)}, false)
	}
	for text, right := range map[string]bool{"a | b": true, "a | A | aa": true, "a | a": false, "a^1 | a^2": false, "a a=1 | b a=1": true, "a a=1 | b | a b=1": false, "a | b | c | b": false} {
		checkLayers(t, text, layersOf(t, text), right)
	}
	for at := range 20 {
		for _, other := range []int{0, 9, 10, 19} {
			layers := manyLayers(20)
			layers[at].Name = layers[other].Name
			checkLayers(t, "one name at "+strconv.Itoa(at)+" and "+strconv.Itoa(other), layers, at == other)
		}
	}
	for _, rank := range anyNumbers {
		checkOneLayer(t, "rank "+strconv.Itoa(rank), impl.Layer{Name: "base", Rank: rank}, true)
	}
}

func TestLayersOfEntries(t *testing.T) {
	for text, right := range map[string]bool{
		"a p=1 q=1": true, "a p=1 p.q=1": true, "a p.q=1 p=1": true, "a p=1 p=1": false, "a p=1 p=~": false, "a p=~ q=1 p=2": false, "a p.q=1 p=2 p.q=3": false, "a p=1 P=1 pp=1": true, "a p=1 | b p=1": true,
	} {
		checkLayers(t, text, layersOf(t, text), right)
	}
	for at := range 100 {
		for _, other := range []int{0, 49, 99} {
			entries := manyEntries(100)
			entries[at].Path = entries[other].Path
			checkLayers(t, "one path at "+strconv.Itoa(at)+" and "+strconv.Itoa(other), []impl.Layer{{Name: "base", Entries: entries}}, at == other)
		}
	}
	for _, size := range []int{0, 1, 199, 200, 201, 202, 400, 65536, 65537, 20 * millions} {
		for _, each := range []string{"x", "~", "\xff", "\x00"} {
			for at := range 3 {
				entries := manyEntries(3)
				entries[at].Text = strings.Repeat(each, size)
				checkOneLayer(t, "a text of "+strconv.Itoa(size)+" bytes", impl.Layer{Name: "base", Entries: entries}, size <= 200)
			}
		}
	}
	checkOneLayer(t, "a text of 100 runes", impl.Layer{Name: "base", Entries: []impl.Entry{{Path: "a", Text: strings.Repeat("é", 100)}}}, true)
	checkOneLayer(t, "a text of 101 runes", impl.Layer{Name: "base", Entries: []impl.Entry{{Path: "a", Text: strings.Repeat("é", 101)}}}, false)
}

// checkMerge: what is told, whatever the order of the layers.
func checkMerge(t *testing.T, text, told string) {
	t.Helper()
	layers := layersOf(t, text)
	orders(layers, func(turned []impl.Layer) {
		list, code := impl.Merge(turned)
		if got := toldOr(code, toldSettings(list)); got != told {
			t.Errorf("%s: %s, not %s", showLayers(turned), got, told)
		}
		if second, _ := wantMerge(turned); !slices.Equal(list, second) {
			t.Errorf("%s: the second telling: %s", showLayers(turned), toldSettings(second))
		}
	})
}

func TestMerge(t *testing.T) {
	for text, told := range map[string]string{
		"":                               "",
		"a":                              "",
		"a p=1":                          "p=1@a",
		"a p=":                           "p=@a",
		"a q=1 p=2 p1=3 p.q=4":           "p.q=4@a p1=3@a q=1@a",
		"a p=1 | b p=2":                  "p=2@b",
		"b p=1 | a p=2":                  "p=1@b",
		"a^1 p=1 | b^0 p=2":              "p=1@a",
		"a^-1 p=1 | b^-2 p=2":            "p=1@a",
		"a^2 p=1 | b^10 p=2":             "p=2@b",
		"a p=1 | B p=2 | _ p=3":          "p=1@a",
		"a p=1 | aa p=2":                 "p=2@aa",
		"é p=1 | z p=2":                  "p=1@é",
		"a^1 p=1 | b q=2":                "p=1@a q=2@b",
		"a p.q=1 p.r=2 | b p.q=3":        "p.q=3@b p.r=2@a",
		"a p.q=1 p.r=2 q=3 | b p=4":      "p=4@b q=3@a",
		"a p=1 | b p.q=2":                "p.q=2@b",
		"a p=1 q=2 | b p.q.r.s.t=2":      "p.q.r.s.t=2@b q=2@a",
		"a p.q.r.s.t=1 | b p.q.r.s=2":    "p.q.r.s=2@b",
		"a p.q=1 | b p.qr=2":             "p.q=1@a p.qr=2@b",
		"a p.qr=1 | b p.q=2":             "p.q=2@b p.qr=1@a",
		"a p=1 | b pq=2 p1=3 P=4":        "P=4@b p=1@a p1=3@b pq=2@b",
		"a p=1 q=2 | b p=~":              "q=2@a",
		"a p.q=1 p.r.s=2 q=3 | b p=~":    "q=3@a",
		"a p=1 q=2 | b p.q=~":            "q=2@a",
		"a p=1 q=2 | b p.q.r=~":          "q=2@a",
		"a p.q=1 p.r=2 | b p.q=~":        "p.r=2@a",
		"a p.q=1 | b p.qr=~":             "p.q=1@a",
		"a p=~":                          "",
		"a p=~ | b p=1":                  "p=1@b",
		"a p=1 | b p=~ | c p=2":          "p=2@c",
		"a p=1 | b p=~ | c p.q=2":        "p.q=2@c",
		"a p=1 | b p=~~":                 "p=~~@b",
		"a p=1 | b p=~x":                 "p=~x@b",
		"a p=1 | b p=":                   "p=@b",
		"a p=1 p.q=2":                    "p.q=2@a",
		"a p.q=2 p=1":                    "p=1@a",
		"a p.q=1 p.r=2 p=3 p.s=4":        "p.s=4@a",
		"a p=1 p.q=~":                    "",
		"a p.q=~ p=1":                    "p=1@a",
		"a p.q=1 p=~ p.r=2":              "p.r=2@a",
		"a p.q=1 p.q.r=2 p=3 p.q.r.s=4":  "p.q.r.s=4@a",
		"a p.q=1 | b p.r=2 p=~ | c q=3":  "q=3@c",
		"a p.q=1 | b p=2 p.r=3":          "p.r=3@b",
		"a p=1 | b p.q=2 | c p.q=~":      "",
		"a p=1=2 q==":                    "p=1=2@a q==@a",
		"a é.ж=1 é=2 | b é.ж=3":          "é.ж=3@b",
		"a^1 p=1 | b^1 p=2 | c^0 p=3":    "p=2@b",
		"a b.c.d=1 b.c=2 b=3 | b b.c.d=": "b.c.d=@b",
		"a^-9223372036854775808 p=1 | b^9223372036854775807 p=2 | c p=3":                         "p=2@b",
		"a^9223372036854775807 p=1 | b^-9223372036854775808 p=2 | c^-1 p=3":                      "p=1@a",
		"a^9223372036854775806 p=1 | b^-9223372036854775807 p=2 | c^9223372036854775807 p.q=3":   "p.q=3@c",
		"a^-9223372036854775808 p=1 | b^-9223372036854775807 p=~ | c^-9223372036854775808 p.r=3": "",
	} {
		checkMerge(t, text, told)
	}
}

// Rows of paths, each within the one ahead: the last one laid is what is there.
func TestMergeOfRows(t *testing.T) {
	row := []string{"a", "a.b", "a.b.c", "a.b.c.d", "a.b.c.d.e"}
	orders(row, func(paths []string) {
		one := impl.Layer{Name: "one"}
		var many []impl.Layer
		for i, path := range paths {
			e := impl.Entry{Path: path, Text: strconv.Itoa(i)}
			one.Entries = append(one.Entries, e)
			many = append(many, impl.Layer{Name: "n" + strconv.Itoa(i), Rank: i, Entries: []impl.Entry{e}})
		}
		slices.Reverse(many)
		if list, code := impl.Merge([]impl.Layer{one}); code != impl.OK || toldSettings(list) != paths[4]+"=4@one" {
			t.Errorf("%v in one layer: %s %d", paths, toldSettings(list), code)
		}
		if list, code := impl.Merge(many); code != impl.OK || toldSettings(list) != paths[4]+"=4@n4" {
			t.Errorf("%v in many layers: %s %d", paths, toldSettings(list), code)
		}
	})
}

// As many settings as there can be, one path each, in any order of ranks.
func TestMergeOfMany(t *testing.T) {
	var layers []impl.Layer
	for i := range 20 {
		l := impl.Layer{Name: "n" + strconv.Itoa(i), Rank: (i * 7) % 20}
		for k := range 100 {
			l.Entries = append(l.Entries, impl.Entry{Path: strings.Join(repeated(4, strings.Repeat("p", 40)), ".") + ".q" + strconv.Itoa(i*100+k), Text: strings.Repeat("t", 200)})
		}
		layers = append(layers, l)
	}
	list, code := impl.Merge(layers)
	if code != impl.OK || len(list) != 2000 || !slices.IsSortedFunc(list, func(a, b impl.Setting) int { return strings.Compare(a.Path, b.Path) }) {
		t.Errorf("%d settings, code %d", len(list), code)
	}
	top := impl.Layer{Name: "n0", Rank: 1 << 62, Entries: []impl.Entry{{Path: strings.Repeat("p", 40), Text: "~"}}}
	layers[0] = top
	if list, code = impl.Merge(layers); code != impl.OK || len(list) != 0 {
		t.Errorf("%d settings, code %d", len(list), code)
	}
}
