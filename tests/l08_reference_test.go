package tests

import (
	"hash/fnv"
	"math/big"
	"regexp"
	"slices"
	"strings"

	"loop.example/g00045/impl"
)

// The second telling of chapter 9: an entry is there at the end if none that is laid behind it meets it; paths by their parts, numbers by patterns and without bounds, a node's number by the library.

func isOnePath(text string) bool {
	if strings.Count(text, ".") > 4 {
		return false
	}
	for _, part := range strings.Split(text, ".") {
		if !impl.NameOK(part) {
			return false
		}
	}
	return true
}

// isIn: whether a path is within another one.
func isIn(path, other string) bool {
	parts, others := strings.Split(path, "."), strings.Split(other, ".")
	return len(parts) >= len(others) && slices.Equal(parts[:len(others)], others)
}

func areMet(path, other string) bool { return isIn(path, other) || isIn(other, path) }

func areSomeLayers(layers []impl.Layer) bool {
	for i, l := range layers {
		if i == 20 || !impl.NameOK(l.Name) || len(l.Entries) > 100 {
			return false
		}
		for _, other := range layers[:i] {
			if other.Name == l.Name {
				return false
			}
		}
		for k, e := range l.Entries {
			if !isOnePath(e.Path) || len(e.Text) > 200 {
				return false
			}
			for _, other := range l.Entries[:k] {
				if other.Path == e.Path {
					return false
				}
			}
		}
	}
	return true
}

func areSomeRules(rules []impl.Rule) bool {
	for i, r := range rules {
		if i == 100 || !isOneRule(r) {
			return false
		}
		for _, other := range rules[:i] {
			if areMet(r.Path, other.Path) {
				return false
			}
		}
	}
	return true
}

func isOneRule(r impl.Rule) bool {
	if !isOnePath(r.Path) || !slices.Contains([]int{1, 2, 3, 4, 5}, r.Kind) || len(r.Choices) > 20 || len(r.Default) > 200 {
		return false
	}
	for _, choice := range r.Choices {
		if len(choice) > 200 {
			return false
		}
	}
	_, code := wantFit(r, r.Default)
	return r.Default == "" || code == impl.OK
}

var (
	intForm  = regexp.MustCompile(`\A(0|-?[1-9][0-9]{0,17})\z`)
	spanForm = regexp.MustCompile(`\A(0|[1-9][0-9]{0,17})(ms|s|m|h)\z`)
	spanUnit = map[string]int64{"ms": 1, "s": 1000, "m": 60 * 1000, "h": 60 * 60 * 1000}
)

// bounded: a number of any length, if it is from Min to Max.
func bounded(r impl.Rule, number *big.Int) (int, int) {
	if number.Cmp(big.NewInt(int64(r.Min))) < 0 || number.Cmp(big.NewInt(int64(r.Max))) > 0 {
		return 0, impl.ErrRange
	}
	return int(number.Int64()), impl.OK
}

func wantFit(r impl.Rule, text string) (int, int) {
	number := new(big.Int)
	switch r.Kind {
	case 1:
		if intForm.MatchString(text) {
			number.SetString(text, 10)
			return bounded(r, number)
		}
	case 2:
		switch text {
		case "no":
			return 0, impl.OK
		case "yes":
			return 1, impl.OK
		}
	case 3:
		return bounded(r, big.NewInt(int64(len(text))))
	case 4:
		for i, choice := range r.Choices {
			if choice == text {
				return i, impl.OK
			}
		}
	case 5:
		if parts := spanForm.FindStringSubmatch(text); parts != nil {
			number.SetString(parts[1], 10)
			number.Mul(number, big.NewInt(spanUnit[parts[2]]))
			if len(number.String()) <= 18 {
				return bounded(r, number)
			}
		}
	}
	return 0, impl.ErrForm
}

// laidEntries: all entries, in the order in which they are laid, From their layers.
func laidEntries(layers []impl.Layer) []impl.Setting {
	var numbers []int
	for i := range layers {
		numbers = append(numbers, i)
	}
	var out []impl.Setting
	for _, i := range inPlaces(numbers, func(a, b int) bool {
		return layers[a].Rank < layers[b].Rank || layers[a].Rank == layers[b].Rank && layers[a].Name < layers[b].Name
	}) {
		for _, e := range layers[i].Entries {
			out = append(out, impl.Setting{Path: e.Path, Text: e.Text, From: layers[i].Name})
		}
	}
	return out
}

func wantMerge(layers []impl.Layer) ([]impl.Setting, int) {
	if len(layers) > 4096 {
		return nil, impl.ErrLong
	}
	if !areSomeLayers(layers) {
		return nil, impl.ErrBad
	}
	laid := laidEntries(layers)
	var out []impl.Setting
	for i, x := range laid {
		isOver := func(y impl.Setting) bool { return areMet(x.Path, y.Path) }
		if x.Text != "~" && !slices.ContainsFunc(laid[i+1:], isOver) {
			out = append(out, x)
		}
	}
	slices.SortFunc(out, func(a, b impl.Setting) int { return strings.Compare(a.Path, b.Path) })
	return out, impl.OK
}

// setAt: what is told of a path.
func setAt(list []impl.Setting, path string) (impl.Setting, bool) {
	for _, x := range list {
		if x.Path == path {
			return x, true
		}
	}
	return impl.Setting{}, false
}

func ruleOf(rules []impl.Rule, path string) (impl.Rule, bool) {
	for _, r := range rules {
		if r.Path == path {
			return r, true
		}
	}
	return impl.Rule{}, false
}

// wantBoth: the code of rules and layers, and what is told of the layers.
func wantBoth(rules []impl.Rule, layers []impl.Layer) ([]impl.Setting, int) {
	list, code := wantMerge(layers)
	switch {
	case len(rules) > 4096 || code == impl.ErrLong:
		return nil, impl.ErrLong
	case !areSomeRules(rules):
		return nil, impl.ErrBad
	}
	return list, code
}

func wantValidate(rules []impl.Rule, layers []impl.Layer) ([]impl.Fault, int) {
	list, code := wantBoth(rules, layers)
	if code != impl.OK {
		return nil, code
	}
	var out []impl.Fault
	for _, x := range list {
		r, has := ruleOf(rules, x.Path)
		code := impl.ErrNone
		if has {
			_, code = wantFit(r, x.Text)
		}
		if code != impl.OK {
			out = append(out, impl.Fault{Code: code, Path: x.Path, From: x.From})
		}
	}
	var missing []string
	for _, r := range rules {
		if _, isSet := setAt(list, r.Path); !isSet && r.Must {
			missing = append(missing, r.Path)
		}
	}
	slices.Sort(missing)
	for _, path := range missing {
		out = append(out, impl.Fault{Code: impl.ErrName, Path: path})
	}
	return out, impl.OK
}

// lookedUp: what Lookup answers.
type lookedUp struct {
	text string
	num  int
	from string
	code int
}

func wantLookup(rules []impl.Rule, layers []impl.Layer, path string) lookedUp {
	list, code := wantBoth(rules, layers)
	if len(path) > 65536 {
		code = impl.ErrLong
	}
	if code != impl.OK {
		return lookedUp{code: code}
	}
	r, has := ruleOf(rules, path)
	if !has {
		return lookedUp{code: impl.ErrNone}
	}
	x, isSet := setAt(list, path)
	if !isSet && r.Default == "" {
		return lookedUp{code: impl.ErrName}
	}
	if !isSet {
		x.Text = r.Default
	}
	num, code := wantFit(r, x.Text)
	if code != impl.OK {
		return lookedUp{code: code}
	}
	return lookedUp{x.Text, num, x.From, impl.OK}
}

func wantWatch(old, late []impl.Layer, paths []string) ([]impl.Change, int) {
	before, code := wantMerge(old)
	after, lateCode := wantMerge(late)
	if len(paths) > 4096 || code == impl.ErrLong || lateCode == impl.ErrLong {
		return nil, impl.ErrLong
	}
	if code != impl.OK || lateCode != impl.OK || slices.ContainsFunc(paths, func(path string) bool { return !isOnePath(path) }) {
		return nil, impl.ErrBad
	}
	var all []string
	for _, x := range append(slices.Clone(before), after...) {
		if slices.ContainsFunc(paths, func(path string) bool { return isIn(x.Path, path) }) {
			all = append(all, x.Path)
		}
	}
	slices.Sort(all)
	var out []impl.Change
	for _, path := range slices.Compact(all) {
		from, _ := setAt(before, path)
		to, _ := setAt(after, path)
		if from.Text != to.Text {
			out = append(out, impl.Change{Path: path, Old: from.Text, New: to.Text})
		}
	}
	return out, impl.OK
}

// rollout: what Rollout is handed.
type rollout struct {
	rules    []impl.Rule
	layers   []impl.Layer
	next     impl.Layer
	nodes    []string
	percents []int
	sick     []string
}

func (r rollout) run() ([]impl.Stage, int) {
	return impl.Rollout(r.rules, r.layers, r.next, r.nodes, r.percents, r.sick)
}

func (r rollout) isBad() bool {
	for i, node := range r.nodes {
		if !impl.NameOK(node) || slices.Contains(r.nodes[:i], node) {
			return true
		}
	}
	for i, percent := range r.percents {
		if percent < 0 || percent > 100 || i > 0 && percent <= r.percents[i-1] {
			return true
		}
	}
	return !areSomeRules(r.rules) || !areSomeLayers(r.layers)
}

// libraryNumber: a node's number by the library's hash.
func libraryNumber(node string) int {
	h := fnv.New32a()
	h.Write([]byte(node))
	return int(h.Sum32() % 100)
}

func (r rollout) want() ([]impl.Stage, int) {
	for _, length := range []int{len(r.rules), len(r.layers), len(r.nodes), len(r.percents), len(r.sick)} {
		if length > 4096 {
			return nil, impl.ErrLong
		}
	}
	if r.isBad() {
		return nil, impl.ErrBad
	}
	faults, code := wantValidate(r.rules, append(slices.Clone(r.layers), r.next))
	if code != impl.OK || len(faults) > 0 {
		return nil, impl.ErrForm
	}
	var out []impl.Stage
	for _, percent := range r.percents {
		stage := impl.Stage{Percent: percent}
		for _, node := range r.nodes {
			if libraryNumber(node) < percent {
				stage.Nodes = append(stage.Nodes, node)
			}
		}
		slices.Sort(stage.Nodes)
		if slices.ContainsFunc(stage.Nodes, func(node string) bool { return slices.Contains(r.sick, node) }) {
			return append(out, impl.Stage{Percent: percent, Code: impl.ErrFail}), impl.OK
		}
		out = append(out, stage)
	}
	return out, impl.OK
}
