package tests

import (
	"reflect"
	"runtime"
	"slices"
	"strings"
	"sync"
	"testing"

	"loop.example/g00045/impl"
)

// settingGiven: what one drawing hands to the calls of chapter 9.
type settingGiven struct {
	rules     []impl.Rule
	old, late []impl.Layer
	paths     []string
	looked    []string
	rollout   rollout
}

// settingAnswers: what all calls of chapter 9 answer.
type settingAnswers struct {
	merged, mergedLate         []impl.Setting
	mergedCode, mergedLateCode int
	faults                     []impl.Fault
	faultCode                  int
	looked                     []lookedUp
	changes                    []impl.Change
	changeCode                 int
	stages                     []impl.Stage
	stageCode                  int
}

func anySettingGiven(s source) settingGiven {
	rules, layers := anySettings(s)
	m := &settingMaker{source: s, rules: rules}
	g := settingGiven{rules: rules, old: layers, late: m.layers(4, 6), rollout: anyRollout(s)}
	if s.IntN(3) == 0 {
		g.late = turnedList(s, layers, []impl.Layer{m.layer("late", 6)})
		if !areSomeLayers(g.late) {
			g.late = layers
		}
	}
	g.paths = anyPaths(s, g.old, g.late)
	g.looked = lookedPaths(rules, layers)
	return g
}

// lookedPaths: those of the rules and of the entries, and some that are none.
func lookedPaths(rules []impl.Rule, layers []impl.Layer) []string {
	out := []string{"", ".", "nope", "a.", "a.b.bc.a.b.a"}
	for _, r := range rules[:min(len(rules), 30)] {
		out = append(out, r.Path, r.Path+".x")
	}
	for _, l := range layers[:min(len(layers), 30)] {
		for _, e := range l.Entries[:min(len(l.Entries), 5)] {
			out = append(out, e.Path)
		}
	}
	return out
}

func lookup(rules []impl.Rule, layers []impl.Layer, path string) lookedUp {
	text, num, from, code := impl.Lookup(rules, layers, path)
	return lookedUp{text, num, from, code}
}

func (g settingGiven) ask() settingAnswers {
	var a settingAnswers
	a.merged, a.mergedCode = impl.Merge(g.old)
	a.mergedLate, a.mergedLateCode = impl.Merge(g.late)
	a.faults, a.faultCode = impl.Validate(g.rules, g.old)
	for _, path := range g.looked {
		a.looked = append(a.looked, lookup(g.rules, g.old, path))
	}
	a.changes, a.changeCode = impl.Watch(g.old, g.late, g.paths)
	a.stages, a.stageCode = g.rollout.run()
	return a
}

func (g settingGiven) want() settingAnswers {
	var a settingAnswers
	a.merged, a.mergedCode = wantMerge(g.old)
	a.mergedLate, a.mergedLateCode = wantMerge(g.late)
	a.faults, a.faultCode = wantValidate(g.rules, g.old)
	for _, path := range g.looked {
		a.looked = append(a.looked, wantLookup(g.rules, g.old, path))
	}
	a.changes, a.changeCode = wantWatch(g.old, g.late, g.paths)
	a.stages, a.stageCode = g.rollout.want()
	return a
}

func (a settingAnswers) tidy() settingAnswers {
	a.merged, a.mergedLate, a.faults = tidyList(a.merged), tidyList(a.mergedLate), tidyList(a.faults)
	a.looked, a.changes, a.stages = tidyList(a.looked), tidyList(a.changes), tidyList(a.stages)
	for i := range a.stages {
		a.stages[i].Nodes = tidyList(a.stages[i].Nodes)
	}
	return a
}

func (g settingGiven) show() string {
	return showRules(g.rules) + "\nold " + showLayers(g.old) + "\nlate " + showLayers(g.late) + "\npaths " + clipped(strings.Join(g.paths, " ")) + "\nrollout " + g.rollout.show()
}

func (a settingAnswers) show() string {
	out := "Merge " + toldOr(a.mergedCode, toldSettings(a.merged)) + " and " + toldOr(a.mergedLateCode, toldSettings(a.mergedLate)) + "\nValidate " + toldOr(a.faultCode, toldFaults(a.faults)) + "\nLookup"
	for _, x := range a.looked {
		out += " " + toldLookup(x) + ","
	}
	return out + "\nWatch " + toldOr(a.changeCode, toldChanges(a.changes)) + "\nRollout " + toldOr(a.stageCode, toldStages(a.stages))
}

func checkSettings(t *testing.T, g settingGiven, want settingAnswers) {
	t.Helper()
	if got := g.ask(); !reflect.DeepEqual(got.tidy(), want.tidy()) {
		t.Fatalf("%s\n%s\nnot\n%s", g.show(), got.show(), want.show())
	}
}

// settingCounts: how often what a test must meet was met.
type settingCounts struct {
	lookups                                                 [20]int
	set, erased, above, below, empty                        int
	faults                                                  [20]int
	defaults, mustDefault, unset, noFault                   int
	changes, added, removed, turned, silent                 int
	stages, failed, whole, form                             int
	sickWaits, sickNone, nodes, percentNought, emptyRollout int
}

func (c *settingCounts) count(g settingGiven, a settingAnswers) {
	c.countMerge(g.old, a.merged)
	for _, f := range a.faults {
		c.faults[f.Code]++
	}
	for i, x := range a.looked {
		c.lookups[x.code]++
		r, has := ruleOf(g.rules, g.looked[i])
		if x.code == impl.OK && x.from == "" {
			c.defaults++
			if r.Must {
				c.mustDefault++
			}
		}
		if x.code == impl.ErrName && has && !r.Must {
			c.unset++
		}
	}
	if len(a.faults) == 0 && len(a.merged) > 2 {
		c.noFault++
	}
	c.countChanges(a)
	c.countStages(g.rollout, a.stages, a.stageCode)
}

func (c *settingCounts) countMerge(layers []impl.Layer, list []impl.Setting) {
	laid := laidEntries(layers)
	for i, x := range laid {
		for _, y := range laid[i+1:] {
			switch {
			case x.Text == "~" || !areMet(x.Path, y.Path):
				continue
			case y.Text == "~":
				c.erased++
			case x.Path == y.Path:
				c.set++
			case isIn(x.Path, y.Path):
				c.below++
			default:
				c.above++
			}
		}
	}
	for _, x := range list {
		if x.Text == "" {
			c.empty++
		}
	}
}

func (c *settingCounts) countChanges(a settingAnswers) {
	for _, x := range a.changes {
		c.changes++
		switch {
		case x.Old == "":
			c.added++
		case x.New == "":
			c.removed++
		default:
			c.turned++
		}
	}
	for _, x := range a.merged {
		if _, has := setAt(a.mergedLate, x.Path); !has && x.Text == "" {
			c.silent++
		}
	}
}

func (c *settingCounts) countStages(r rollout, stages []impl.Stage, code int) {
	if code == impl.ErrForm {
		c.form++
		return
	}
	c.stages += len(stages)
	if len(stages) == 0 {
		c.emptyRollout++
	}
	for _, s := range stages {
		switch {
		case s.Code == impl.ErrFail:
			c.failed++
		case s.Percent == 100 && len(s.Nodes) > 0:
			c.whole++
		case s.Percent == 0:
			c.percentNought++
		}
		c.nodes += len(s.Nodes)
	}
	for _, node := range r.sick {
		if !slices.Contains(r.nodes, node) {
			c.sickNone++
		} else if len(stages) > 0 && stages[0].Code == impl.OK {
			c.sickWaits++
		}
	}
}

func (c *settingCounts) check(t *testing.T, least int) {
	t.Helper()
	for name, count := range map[string]int{"set twice": c.set, "erased": c.erased, "above": c.above, "below": c.below, "empty": c.empty,
		"fault none": c.faults[impl.ErrNone], "fault form": c.faults[impl.ErrForm], "fault range": c.faults[impl.ErrRange], "fault name": c.faults[impl.ErrName], "no fault": c.noFault,
		"lookup ok": c.lookups[impl.OK], "lookup none": c.lookups[impl.ErrNone], "lookup form": c.lookups[impl.ErrForm], "lookup range": c.lookups[impl.ErrRange], "lookup name": c.lookups[impl.ErrName],
		"defaults": c.defaults, "must with a default": c.mustDefault, "not set": c.unset, "changes": c.changes, "added": c.added, "removed": c.removed, "turned": c.turned, "silent": c.silent,
		"stages": c.stages, "failed stages": c.failed, "whole stages": c.whole, "rollouts of faults": c.form, "sick that wait": c.sickWaits, "sick that are none": c.sickNone, "nodes": c.nodes, "percent 0": c.percentNought, "no stage": c.emptyRollout} {
		if count < least {
			t.Errorf("%s: %d, of %+v", name, count, *c)
		}
	}
}

// Settings of any make: each answer is the second telling's, and P9 holds.
func TestSettingsOfAnyMake(t *testing.T) {
	s := newSource()
	var c settingCounts
	for range 5000 {
		g := anySettingGiven(s)
		want := g.want()
		checkSettings(t, g, want)
		c.count(g, want)
		if want.mergedCode != impl.OK || want.mergedLateCode != impl.OK || want.faultCode != impl.OK || want.changeCode != impl.OK || want.stageCode == impl.ErrBad {
			t.Fatalf("%s: is not right", g.show())
		}
		checkMerged(t, g.old)
		checkOnTop(t, s, g.old)
		checkLookups(t, g.rules, g.old)
		checkWatched(t, g.old, g.late, g.paths)
		checkStages(t, g.rollout, want.stages, want.stageCode)
	}
	c.check(t, 60)
}

// checkMerged: P9 of layers by what Merge itself answers.
func checkMerged(t *testing.T, layers []impl.Layer) {
	t.Helper()
	list, _ := impl.Merge(layers)
	for i, x := range list {
		for k, y := range list {
			if (x.Path < y.Path) != (i < k) || i != k && isIn(x.Path, y.Path) {
				t.Fatalf("%s: %s: %s and %s", showLayers(layers), toldSettings(list), x.Path, y.Path)
			}
		}
		l := layers[slices.IndexFunc(layers, func(l impl.Layer) bool { return l.Name == x.From })]
		if !slices.Contains(l.Entries, impl.Entry{Path: x.Path, Text: x.Text}) || x.Text == "~" {
			t.Fatalf("%s: %s is none of its entries", showLayers(layers), toldSettings([]impl.Setting{x}))
		}
	}
	check := func(turned []impl.Layer) {
		if got, code := impl.Merge(turned); code != impl.OK || !slices.Equal(got, list) {
			t.Fatalf("%s: %s, not %s", showLayers(turned), toldOr(code, toldSettings(got)), toldSettings(list))
		}
	}
	if len(layers) <= 4 {
		orders(layers, check)
	}
	turned := slices.Clone(layers)
	slices.Reverse(turned)
	check(turned)
}

// checkOnTop: P9 of one more layer that is laid last: all that its one entry meets goes, all else stays.
func checkOnTop(t *testing.T, s source, layers []impl.Layer) {
	t.Helper()
	list, _ := impl.Merge(layers)
	for _, path := range append(anyPaths(s, layers), anyPaths(s, layers)...) {
		for _, text := range []string{"~", "", "on top", "~~"} {
			top := impl.Layer{Name: topName, Rank: 1<<63 - 1, Entries: []impl.Entry{{Path: path, Text: text}}}
			at := s.IntN(len(layers) + 1)
			got, code := impl.Merge(slices.Insert(slices.Clone(layers), at, top))
			want := slices.DeleteFunc(slices.Clone(list), func(x impl.Setting) bool { return areMet(x.Path, path) })
			if text != "~" {
				want = append(want, impl.Setting{Path: path, Text: text, From: topName})
			}
			slices.SortFunc(want, func(a, b impl.Setting) int { return strings.Compare(a.Path, b.Path) })
			if code != impl.OK || !slices.Equal(got, want) {
				t.Fatalf("%s and %s=%s: %s, not %s", showLayers(layers), path, text, toldOr(code, toldSettings(got)), toldSettings(want))
			}
		}
	}
}

// checkLookups: P9 of rules: what is set can be looked up just if no fault is told of it, what is not just if it has a default.
func checkLookups(t *testing.T, rules []impl.Rule, layers []impl.Layer) {
	t.Helper()
	faults, _ := impl.Validate(rules, layers)
	list, _ := impl.Merge(layers)
	for _, r := range rules {
		x, isSet := setAt(list, r.Path)
		got := lookup(rules, layers, r.Path)
		hasFault := slices.ContainsFunc(faults, func(f impl.Fault) bool { return f.Path == r.Path })
		if isSet && (got.code == impl.OK) == hasFault || !isSet && (got.code == impl.OK) != (r.Default != "") || !isSet && hasFault != r.Must {
			t.Fatalf("%s\n%s: %s: Lookup %s, Validate %s", showRules(rules), showLayers(layers), r.Path, toldLookup(got), toldFaults(faults))
		}
		if !isSet {
			x = impl.Setting{Text: r.Default}
		}
		if got.code == impl.OK && (got.text != x.Text || got.from != x.From) || got.code != impl.OK && got != (lookedUp{code: got.code}) {
			t.Fatalf("%s\n%s: %s: Lookup %s", showRules(rules), showLayers(layers), r.Path, toldLookup(got))
		}
	}
}

// checkWatched: P9 of what is watched.
func checkWatched(t *testing.T, old, late []impl.Layer, paths []string) {
	t.Helper()
	if list, code := impl.Watch(old, old, paths); code != impl.OK || len(list) > 0 {
		t.Fatalf("%s: Watch of itself: %s", showLayers(old), toldOr(code, toldChanges(list)))
	}
	list, _ := impl.Merge(late)
	var come, gone []impl.Change
	for _, x := range list {
		if x.Text != "" && slices.ContainsFunc(paths, func(path string) bool { return isIn(x.Path, path) }) {
			come, gone = append(come, impl.Change{Path: x.Path, New: x.Text}), append(gone, impl.Change{Path: x.Path, Old: x.Text})
		}
	}
	if got, code := impl.Watch(nil, late, paths); code != impl.OK || !slices.Equal(got, come) {
		t.Fatalf("%s: Watch of none and these: %s", showLayers(late), toldOr(code, toldChanges(got)))
	}
	if got, code := impl.Watch(late, nil, paths); code != impl.OK || !slices.Equal(got, gone) {
		t.Fatalf("%s: Watch of these and none: %s", showLayers(late), toldOr(code, toldChanges(got)))
	}
}

// checkStages: P9 of rollouts: no node loses what it has until a stage fails, which is the last one; at 100 all have it.
func checkStages(t *testing.T, r rollout, stages []impl.Stage, code int) {
	t.Helper()
	if code != impl.OK {
		if len(stages) > 0 {
			t.Fatalf("%s: code %d and %s", r.show(), code, toldStages(stages))
		}
		return
	}
	isSick := slices.ContainsFunc(r.sick, func(node string) bool { return slices.Contains(r.nodes, node) })
	var have []string
	for i, s := range stages {
		isRight := s.Percent == r.percents[i] && slices.IsSorted(s.Nodes)
		switch s.Code {
		case impl.OK:
			for _, node := range have {
				isRight = isRight && slices.Contains(s.Nodes, node)
			}
			isRight = isRight && (s.Percent < 100 || len(s.Nodes) == len(r.nodes) && !isSick) && (s.Percent > 0 || len(s.Nodes) == 0)
			have = s.Nodes
		case impl.ErrFail:
			isRight = isRight && i == len(stages)-1 && len(s.Nodes) == 0 && isSick
		default:
			isRight = false
		}
		if !isRight {
			t.Fatalf("%s: %s: stage %d", r.show(), toldStages(stages), i)
		}
	}
	isCut := len(stages) < len(r.percents)
	if isCut && (len(stages) == 0 || stages[len(stages)-1].Code != impl.ErrFail) {
		t.Fatalf("%s: %s ends too early", r.show(), toldStages(stages))
	}
}

// As many layers, entries and rules as there may be.
func TestManySettingsOfAnyMake(t *testing.T) {
	s := newSource()
	for i := range 20 {
		m := &settingMaker{source: s, calm: i%2 == 0}
		m.addRules(100)
		layers := m.layers(20, 100)
		g := settingGiven{rules: m.rules, old: layers, late: m.layers(20, 100), looked: lookedPaths(m.rules, layers), rollout: anyRollout(s)}
		g.paths = anyPaths(s, g.old, g.late)
		checkSettings(t, g, g.want())
		checkMerged(t, g.old)
	}
}

func turnEntry(s source, e impl.Entry) impl.Entry {
	switch s.IntN(4) {
	case 0:
		e.Text = pick(s, append([]string{strings.Repeat("x", 201), strings.Repeat("\xff", 200)}, someTexts...))
	case 1:
		e.Path = pick(s, wrongNames)
	case 2:
		e.Path += pick(s, []string{".", ".a", ".a.a.a.a", ".1", "..a", "1", ".when"})
	case 3:
		e.Path = pick(s, []string{".", "a.", ".a", "..", "a..b", "a.b.bc.a1.é", "a.b.bc.a1.é.A", "a .b"})
	}
	return e
}

func turnLayers(s source, layers []impl.Layer) []impl.Layer {
	if len(layers) == 0 || s.IntN(4) == 0 {
		return turnedList(s, layers, []impl.Layer{{}, {Name: "base"}, {Name: "x", Rank: 3, Entries: []impl.Entry{{Path: "a", Text: "~"}}}})
	}
	layers = slices.Clone(layers)
	l := &layers[s.IntN(len(layers))]
	l.Entries = slices.Clone(l.Entries)
	switch {
	case s.IntN(4) == 0:
		l.Name = pick(s, wrongNames)
	case s.IntN(4) == 0:
		l.Rank = turnedNumber(s, l.Rank)
	case len(l.Entries) == 0 || s.IntN(3) == 0:
		l.Entries = turnedList(s, l.Entries, []impl.Entry{{}, {Path: "a", Text: "~"}, {Path: "a.b"}, {Path: "b", Text: "5"}})
	default:
		e := &l.Entries[s.IntN(len(l.Entries))]
		*e = turnEntry(s, *e)
	}
	return layers
}

func turnRules(s source, rules []impl.Rule) []impl.Rule {
	if len(rules) == 0 || s.IntN(4) == 0 {
		return turnedList(s, rules, []impl.Rule{{}, {Path: "a", Kind: 1}, {Path: "b.b", Kind: 3, Max: 9, Must: true}, {Path: "zz", Kind: 4}})
	}
	rules = slices.Clone(rules)
	r := &rules[s.IntN(len(rules))]
	switch s.IntN(8) {
	case 0:
		r.Path = turnEntry(s, impl.Entry{Path: r.Path}).Path
	case 1:
		r.Kind = turnedNumber(s, r.Kind)
	case 2:
		r.Min = turnedNumber(s, r.Min)
	case 3:
		r.Max = turnedNumber(s, r.Max)
	case 4:
		r.Choices = pick(s, append([][]string{repeated(20, "x"), repeated(21, "x"), {strings.Repeat("x", 201)}}, someChoices...))
	case 5:
		r.Default = pick(s, append([]string{strings.Repeat("x", 201)}, someTexts...))
	case 6:
		r.Must = !r.Must
	case 7:
		r.Default = ""
	}
	return rules
}

func turnRollout(s source, r rollout) rollout {
	switch s.IntN(6) {
	case 0:
		r.rules = turnRules(s, r.rules)
	case 1:
		r.layers = turnLayers(s, r.layers)
	case 2:
		r.next = append(turnLayers(s, []impl.Layer{r.next}), r.next)[0]
	case 3:
		r.nodes = turnedList(s, r.nodes, wrongNames)
	case 4:
		r.percents = turnedList(s, r.percents, append([]int{50, 99, 100, 101}, anyNumbers...))
	case 5:
		r.sick = turnedList(s, r.sick, append(slices.Clone(nodeNames), "", "\xff"))
	}
	return r
}

func turnSettings(s source, g settingGiven) settingGiven {
	switch s.IntN(5) {
	case 0:
		g.rules = turnRules(s, g.rules)
	case 1:
		g.old = turnLayers(s, g.old)
	case 2:
		g.late = turnLayers(s, g.late)
	case 3:
		g.paths = turnedList(s, g.paths, append([]string{".", "a.", ".a", "a..b", "a.b", "a.b.a.b.a", "a.b.a.b.a.b"}, wrongNames...))
	case 4:
		g.rollout = turnRollout(s, g.rollout)
	}
	return g
}

// Settings of any make, right or not.
func TestTurnedSettings(t *testing.T) {
	s := newSource()
	var codes, stages [20]int
	for range 5000 {
		g := anySettingGiven(s)
		for range 1 + s.IntN(3) {
			g = turnSettings(s, g)
		}
		g.looked = lookedPaths(g.rules, g.old)
		want := g.want()
		checkSettings(t, g, want)
		for _, code := range []int{want.mergedCode, want.faultCode, want.changeCode} {
			codes[code]++
		}
		stages[want.stageCode]++
	}
	if min(codes[impl.OK], codes[impl.ErrBad]) < 1000 || min(stages[impl.OK], stages[impl.ErrBad], stages[impl.ErrForm]) < 100 {
		t.Errorf("%v, %v", codes, stages)
	}
}

func roomyLayers(layers []impl.Layer) []impl.Layer {
	out := roomy(layers, impl.Layer{Name: "sign", Rank: 9, Entries: []impl.Entry{{Path: "sign", Text: "sign"}}})
	for i := range out {
		out[i].Entries = roomy(out[i].Entries, impl.Entry{Path: "sign", Text: "sign"})
	}
	return out
}

func roomyRules(rules []impl.Rule) []impl.Rule {
	out := roomy(rules, impl.Rule{Path: "sign", Kind: 4, Choices: []string{"sign"}})
	for i := range out {
		out[i].Choices = roomy(out[i].Choices, "sign")
	}
	return out
}

func (g settingGiven) roomy() settingGiven {
	r := g.rollout
	r.next.Entries = roomy(r.next.Entries, impl.Entry{Path: "sign"})
	r = rollout{roomyRules(r.rules), roomyLayers(r.layers), r.next, roomy(r.nodes, "sign"), roomy(r.percents, 7), roomy(r.sick, "a")}
	return settingGiven{roomyRules(g.rules), roomyLayers(g.old), roomyLayers(g.late), roomy(g.paths, "sign"), g.looked, r}
}

// kept: what stands in the memory of what is given, behind its lists' ends too.
func (g settingGiven) kept() settingGiven {
	layers := func(list []impl.Layer) []impl.Layer {
		out := whole(list)
		for i := range out {
			out[i].Entries = whole(out[i].Entries)
		}
		return out
	}
	rules := func(list []impl.Rule) []impl.Rule {
		out := whole(list)
		for i := range out {
			out[i].Choices = whole(out[i].Choices)
		}
		return out
	}
	r := g.rollout
	r.next.Entries = whole(r.next.Entries)
	r = rollout{rules(r.rules), layers(r.layers), r.next, whole(r.nodes), whole(r.percents), whole(r.sick)}
	return settingGiven{rules(g.rules), layers(g.old), layers(g.late), whole(g.paths), g.looked, r}
}

// P1: what is handed in stays as it was, answers do not hang on what was called ahead.
func TestSettingsAreNotChanged(t *testing.T) {
	s := newSource()
	var all, before []settingGiven
	var first []settingAnswers
	for i := range 500 {
		g := anySettingGiven(s)
		if i%5 == 0 {
			g = turnSettings(s, g)
		}
		g = g.roomy()
		all, before = append(all, g), append(before, g.kept())
		first = append(first, g.ask())
	}
	for i := len(all) - 1; i >= 0; i-- {
		checkSettings(t, all[i], first[i])
	}
	for i, g := range all {
		if !reflect.DeepEqual(g.kept(), before[i]) {
			t.Fatalf("%s: was changed", g.show())
		}
	}
}

// P1: calls at the same time answer as calls one behind the other.
func TestSettingsAtTheSameTime(t *testing.T) {
	s := newSource()
	g := anySettingGiven(s)
	for want := g.want(); len(want.merged) < 5 || len(want.changes) < 2 || len(want.stages) < 3; want = g.want() {
		g = anySettingGiven(s)
	}
	want := g.want().tidy()
	var workers sync.WaitGroup
	for range 16 {
		workers.Go(func() {
			for range 20 {
				if got := g.ask(); !reflect.DeepEqual(got.tidy(), want) {
					t.Errorf("%s\n%s", g.show(), got.show())
				}
			}
		})
	}
	workers.Wait()
}

func (a *rawAnswer) settings(x settingAnswers) {
	a.kept = append(a.kept, x)
	a.lists = append(a.lists, stretchOf(x.merged), stretchOf(x.mergedLate), stretchOf(x.faults), stretchOf(x.changes), stretchOf(x.stages))
	for _, one := range append(slices.Clone(x.merged), x.mergedLate...) {
		a.texts = append(a.texts, one.Path, one.Text, one.From)
	}
	for _, f := range x.faults {
		a.texts = append(a.texts, f.Path, f.From)
	}
	for _, one := range x.looked {
		a.texts = append(a.texts, one.text, one.from)
	}
	for _, c := range x.changes {
		a.texts = append(a.texts, c.Path, c.Old, c.New)
	}
	for _, s := range x.stages {
		a.names(s.Nodes)
	}
}

// memory: the lists and the texts of what is given.
func (g settingGiven) memory() ([]stretch, []string) {
	r := g.rollout
	lists := []stretch{stretchOf(g.rules), stretchOf(g.old), stretchOf(g.late), stretchOf(g.paths), stretchOf(r.rules), stretchOf(r.layers), stretchOf(r.next.Entries), stretchOf(r.nodes), stretchOf(r.percents), stretchOf(r.sick)}
	texts := slices.Concat(g.paths, g.looked, r.nodes, r.sick)
	for _, rule := range append(slices.Clone(g.rules), r.rules...) {
		lists, texts = append(lists, stretchOf(rule.Choices)), append(append(texts, rule.Path, rule.Default), rule.Choices...)
	}
	for _, l := range slices.Concat(g.old, g.late, r.layers, []impl.Layer{r.next}) {
		texts = append(texts, l.Name)
		for _, e := range l.Entries {
			texts = append(texts, e.Path, e.Text)
		}
	}
	for _, l := range slices.Concat(g.old, g.late, r.layers) {
		lists = append(lists, stretchOf(l.Entries))
	}
	return lists, texts
}

// P1: an answer shares no memory with what was handed in, and its lists none with one another.
func TestSettingAnswersAreNew(t *testing.T) {
	s := newSource()
	texts := 0
	for range 300 {
		g := anySettingGiven(s).roomy()
		lists, given := g.memory()
		var answers [2]rawAnswer
		for k := range answers {
			answers[k].settings(g.ask())
			lists = append(lists, answers[k].lists...)
			texts += checkNewTexts(t, answers[k].texts, given)
		}
		checkApart(t, lists)
		runtime.KeepAlive(answers)
		runtime.KeepAlive(g)
	}
	if texts < 1000 {
		t.Errorf("%d texts", texts)
	}
}
