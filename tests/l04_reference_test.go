package tests

import (
	"slices"
	"strings"

	"loop.example/g00045/impl"
)

// The second telling of chapter 5: all releases asked one by one, told again until nothing new comes; rows all tried.

func isOneNeed(need impl.Import) bool {
	return impl.NameOK(need.Name) && need.Min >= 1 && need.Max >= need.Min && need.Max <= 999999
}

func areSomeNeeds(needs []impl.Import) bool {
	for i, need := range needs {
		if i == 20 || !isOneNeed(need) {
			return false
		}
		for _, other := range needs[:i] {
			if other.Name == need.Name {
				return false
			}
		}
	}
	return true
}

func isOneStore(store []impl.Release) bool {
	for i, r := range store {
		if i == 200 || !isOneNeed(impl.Import{Name: r.Name, Min: r.Version, Max: r.Version}) || !areSomeNeeds(r.Needs) {
			return false
		}
		for _, need := range r.Needs {
			if need.Name == r.Name {
				return false
			}
		}
		for _, other := range store[:i] {
			if other.Name == r.Name && other.Version == r.Version {
				return false
			}
		}
	}
	return true
}

// reachOf: what a need reaches, -1 if nothing.
func reachOf(store []impl.Release, need impl.Import) int {
	at := -1
	for i, r := range store {
		if r.Name == need.Name && r.Version >= need.Min && (at < 0 || r.Version < store[at].Version) {
			at = i
		}
	}
	return at
}

// reachedOf: which releases are reached.
func reachedOf(store []impl.Release, wishes []impl.Import) []bool {
	isReached := make([]bool, len(store))
	for isNew := true; isNew; {
		isNew = false
		enter := func(needs []impl.Import) {
			for _, need := range needs {
				if at := reachOf(store, need); at >= 0 && !isReached[at] {
					isReached[at], isNew = true, true
				}
			}
		}
		enter(wishes)
		for i, r := range store {
			if isReached[i] {
				enter(r.Needs)
			}
		}
	}
	return isReached
}

func pickedOf(store []impl.Release, isReached []bool) []bool {
	isPicked := slices.Clone(isReached)
	for i, r := range store {
		for k, other := range store {
			if isReached[k] && other.Name == r.Name && other.Version > r.Version {
				isPicked[i] = false
			}
		}
	}
	return isPicked
}

func missingOf(store []impl.Release, wishes []impl.Import, isReached []bool) []string {
	var out []string
	tell := func(needs []impl.Import) {
		for _, need := range needs {
			if reachOf(store, need) < 0 && !slices.Contains(out, need.Name) {
				out = append(out, need.Name)
			}
		}
	}
	tell(wishes)
	for i, r := range store {
		if isReached[i] {
			tell(r.Needs)
		}
	}
	slices.Sort(out)
	return out
}

// clashesOf: the pairs of names of all needs whose Max is below what is picked.
func clashesOf(store []impl.Release, wishes []impl.Import, isPicked []bool) [][]string {
	var out [][]string
	tell := func(who string, needs []impl.Import) {
		for _, need := range needs {
			for i, r := range store {
				if isPicked[i] && r.Name == need.Name && r.Version > need.Max {
					out = append(out, []string{who, need.Name})
				}
			}
		}
	}
	for i, r := range store {
		if isPicked[i] {
			tell(r.Name, r.Needs)
		}
	}
	tell("", wishes)
	return out
}

func picksOf(store []impl.Release, isIn []bool) []impl.Pick {
	var out []impl.Pick
	for i, r := range store {
		if isIn[i] {
			out = append(out, impl.Pick{Name: r.Name, Version: r.Version})
		}
	}
	slices.SortFunc(out, func(a, b impl.Pick) int { return strings.Compare(a.Name, b.Name) })
	return out
}

func wantChoose(store []impl.Release, wishes []impl.Import) ([]impl.Pick, int, []string) {
	if len(store) > 4096 || len(wishes) > 4096 {
		return nil, impl.ErrLong, nil
	}
	if !isOneStore(store) || !areSomeNeeds(wishes) {
		return nil, impl.ErrBad, nil
	}
	return wantPicks(store, wishes)
}

// wantPicks asks nothing of the wishes.
func wantPicks(store []impl.Release, wishes []impl.Import) ([]impl.Pick, int, []string) {
	isReached := reachedOf(store, wishes)
	if names := missingOf(store, wishes, isReached); len(names) > 0 {
		return nil, impl.ErrNone, names
	}
	isPicked := pickedOf(store, isReached)
	if clashes := clashesOf(store, wishes, isPicked); len(clashes) > 0 {
		return nil, impl.ErrRange, slices.MinFunc(clashes, slices.Compare)
	}
	return picksOf(store, isPicked), impl.OK, nil
}

func comparePicks(a, b impl.Pick) int {
	if a.Name != b.Name {
		return strings.Compare(a.Name, b.Name)
	}
	return a.Version - b.Version
}

// reasonsOf: all rows of so many releases that end with the pick of that name.
func reasonsOf(store []impl.Release, wishes []impl.Import, goal impl.Pick, length int) [][]impl.Pick {
	var out [][]impl.Pick
	var extend func(needs []impl.Import, row []impl.Pick)
	extend = func(needs []impl.Import, row []impl.Pick) {
		for _, need := range needs {
			at := reachOf(store, need)
			if at < 0 {
				continue
			}
			longer := append(slices.Clone(row), impl.Pick{Name: store[at].Name, Version: store[at].Version})
			if len(longer) < length {
				extend(store[at].Needs, longer)
			} else if longer[length-1] == goal {
				out = append(out, longer)
			}
		}
	}
	extend(wishes, nil)
	return out
}

// wantWhy answers how many rows are as short, too.
func wantWhy(store []impl.Release, wishes []impl.Import, name string) ([]impl.Pick, int, int) {
	if len(name) > 65536 {
		return nil, impl.ErrLong, 0
	}
	picks, code, _ := wantChoose(store, wishes)
	if code != impl.OK {
		return nil, code, 0
	}
	for _, p := range picks {
		for length := 1; p.Name == name; length++ {
			if rows := reasonsOf(store, wishes, p, length); len(rows) > 0 {
				return slices.MinFunc(rows, func(a, b []impl.Pick) int { return slices.CompareFunc(a, b, comparePicks) }), impl.OK, len(rows)
			}
		}
	}
	return nil, impl.ErrNone, 0
}

func wantUpgrade(store []impl.Release, wishes []impl.Import, name string, version int) ([]impl.Pick, int, []string) {
	if len(name) > 65536 {
		return nil, impl.ErrLong, nil
	}
	if _, code, _ := wantChoose(store, wishes); code == impl.ErrLong || code == impl.ErrBad {
		return nil, code, nil
	}
	for _, r := range store {
		if r.Name == name && r.Version == version {
			return wantPicks(store, slices.Concat([]impl.Import{{Name: name, Min: version, Max: 999999}}, wishes))
		}
	}
	return nil, impl.ErrNone, []string{name}
}

func wantNewest(store []impl.Release, wishes []impl.Import) ([]impl.Pick, int) {
	picks, code, _ := wantChoose(store, wishes)
	if code != impl.OK {
		return nil, code
	}
	counts := slices.Clone(wishes)
	for _, r := range store {
		if slices.Contains(picks, impl.Pick{Name: r.Name, Version: r.Version}) {
			counts = append(counts, r.Needs...)
		}
	}
	out := slices.Clone(picks)
	for i := range out {
		for _, r := range store {
			isAbove := func(need impl.Import) bool { return need.Name == r.Name && r.Version > need.Max }
			if r.Name == out[i].Name && r.Version > out[i].Version && !slices.ContainsFunc(counts, isAbove) {
				out[i].Version = r.Version
			}
		}
	}
	return out, impl.OK
}
