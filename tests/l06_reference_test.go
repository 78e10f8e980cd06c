package tests

import (
	"slices"
	"strings"

	"loop.example/g00045/impl"
)

// The second telling of chapter 7: places told by how many stand ahead, steps as a table, told again until nothing new comes; circles by how many rows there are of each length.

func isEmptyOrName(text string) bool { return len(text) == 0 || impl.NameOK(text) }

func isOneWant(w impl.Want) bool {
	return impl.NameOK(w.Key) && isEmptyOrName(w.Tag) && slices.Contains([]int{1, 2, 3, 4}, w.Mode)
}

func isOneBinding(b impl.Binding) bool {
	isRight := impl.NameOK(b.Name) && impl.NameOK(b.Key) && isEmptyOrName(b.Tag) && slices.Contains([]int{1, 2, 3}, b.Scope) && len(b.Needs) <= 8
	for i := 0; isRight && i < len(b.Needs); i++ {
		isRight = isOneWant(b.Needs[i])
	}
	if strings.HasPrefix(b.When, "!") {
		return isRight && impl.NameOK(b.When[1:])
	}
	return isRight && isEmptyOrName(b.When)
}

func areSomeBindings(list []impl.Binding) bool {
	for i, b := range list {
		if i == 60 || !isOneBinding(b) {
			return false
		}
		for _, other := range list[:i] {
			if other.Name == b.Name {
				return false
			}
		}
	}
	return true
}

func hasFlag(flags []string, text string) bool {
	for _, flag := range flags {
		if flag == text {
			return true
		}
	}
	return false
}

func isAwake(b impl.Binding, flags []string) bool {
	switch {
	case b.When == "", hasFlag(flags, b.When):
		return true
	case b.When[0] == '!':
		return !hasFlag(flags, b.When[1:])
	}
	return false
}

// inPlaces puts numbers where as many of them stand as come ahead.
func inPlaces(numbers []int, isAhead func(a, b int) bool) []int {
	out := make([]int, len(numbers))
	for _, a := range numbers {
		place := 0
		for _, b := range numbers {
			if isAhead(b, a) {
				place++
			}
		}
		out[place] = a
	}
	return out
}

func wantResolve(list []impl.Binding, flags []string, w impl.Want) ([]int, int) {
	if len(list) > 4096 || len(flags) > 4096 {
		return nil, impl.ErrLong
	}
	if !areSomeBindings(list) || !isOneWant(w) {
		return nil, impl.ErrBad
	}
	var found []int
	for i, b := range list {
		if isAwake(b, flags) && !b.Wraps && b.Key == w.Key && (b.Tag == w.Tag || w.Mode == impl.WantAll && w.Tag == "") {
			found = append(found, i)
		}
	}
	if w.Mode == impl.WantAll {
		return inPlaces(found, func(a, b int) bool {
			return list[a].Rank > list[b].Rank || list[a].Rank == list[b].Rank && list[a].Name < list[b].Name
		}), impl.OK
	}
	var best []int
	for _, i := range found {
		if !slices.ContainsFunc(found, func(k int) bool { return list[k].Rank > list[i].Rank }) {
			best = append(best, i)
		}
	}
	switch {
	case len(best) > 1:
		return nil, impl.ErrTwice
	case len(best) == 0 && w.Mode != impl.WantMaybe:
		return nil, impl.ErrNone
	}
	return best, impl.OK
}

func wantWrappers(list []impl.Binding, flags []string, number int) ([]int, int) {
	if len(list) > 4096 || len(flags) > 4096 {
		return nil, impl.ErrLong
	}
	if !areSomeBindings(list) {
		return nil, impl.ErrBad
	}
	if number < 0 || number >= len(list) || list[number].Wraps || !isAwake(list[number], flags) {
		return nil, impl.ErrNone
	}
	var found []int
	for i, b := range list {
		if isAwake(b, flags) && b.Wraps && b.Key == list[number].Key && b.Tag == list[number].Tag {
			found = append(found, i)
		}
	}
	return inPlaces(found, func(a, b int) bool {
		return list[a].Rank < list[b].Rank || list[a].Rank == list[b].Rank && list[a].Name < list[b].Name
	}), impl.OK
}

// leadsOf: which binding leads to which.
func leadsOf(list []impl.Binding, flags []string) [][]bool {
	table := make([][]bool, len(list))
	for i, b := range list {
		table[i] = make([]bool, len(list))
		if !isAwake(b, flags) {
			continue
		}
		for _, need := range b.Needs {
			if need.Mode == impl.WantLazy {
				continue
			}
			found, _ := wantResolve(list, flags, need)
			for _, number := range found {
				table[i][number] = true
				around, _ := wantWrappers(list, flags, number)
				for _, other := range around {
					table[i][other] = true
				}
			}
		}
	}
	return table
}

// backOf: from which binding a row of steps leads back to itself.
func backOf(list []impl.Binding, flags []string) []bool {
	table := leadsOf(list, flags)
	for isNew := true; isNew; {
		isNew = false
		for a := range list {
			for b := range list {
				for c := range list {
					if table[a][b] && table[b][c] && !table[a][c] {
						table[a][c], isNew = true, true
					}
				}
			}
		}
	}
	out := make([]bool, len(list))
	for i := range list {
		out[i] = table[i][i]
	}
	return out
}

// sortedBindings: the numbers of the active bindings by their Names.
func sortedBindings(list []impl.Binding, flags []string) []int {
	var awake []int
	for i, b := range list {
		if isAwake(b, flags) {
			awake = append(awake, i)
		}
	}
	return inPlaces(awake, func(a, b int) bool { return list[a].Name < list[b].Name })
}

func wantAudit(list []impl.Binding, flags []string) ([]impl.Problem, int) {
	if len(list) > 4096 || len(flags) > 4096 {
		return nil, impl.ErrLong
	}
	if !areSomeBindings(list) {
		return nil, impl.ErrBad
	}
	var out, loops []impl.Problem
	isBack := backOf(list, flags)
	for _, i := range sortedBindings(list, flags) {
		b := list[i]
		for _, need := range b.Needs {
			found, code := wantResolve(list, flags, need)
			for _, number := range found {
				if b.Scope == impl.ScSingle && list[number].Scope == impl.ScScoped && !b.Wraps && need.Mode != impl.WantLazy {
					code = impl.ErrState
				}
			}
			if code != impl.OK {
				out = append(out, impl.Problem{Code: code, Name: b.Name, Key: need.Key, Tag: need.Tag})
			}
		}
		if isBack[i] {
			loops = append(loops, impl.Problem{Code: impl.ErrLoop, Name: b.Name})
		}
	}
	return append(out, loops...), impl.OK
}

// rowCounts: of each length up to that of the list, how many rows of so many steps lead from one binding to another.
func rowCounts(table [][]bool) [][][]int {
	size := len(table)
	counts := make([][][]int, size+1)
	for length := range counts {
		counts[length] = make([][]int, size)
		for a := range size {
			counts[length][a] = make([]int, size)
			if length == 0 {
				counts[length][a][a] = 1
				continue
			}
			for b := range size {
				for c := range size {
					if table[a][c] {
						counts[length][a][b] += counts[length-1][c][b]
					}
				}
			}
		}
	}
	return counts
}

// wantCircle answers how many circles are as short, too.
func wantCircle(list []impl.Binding, flags []string) ([]string, int, int) {
	if len(list) > 4096 || len(flags) > 4096 {
		return nil, impl.ErrLong, 0
	}
	if !areSomeBindings(list) {
		return nil, impl.ErrBad, 0
	}
	table, order := leadsOf(list, flags), sortedBindings(list, flags)
	counts := rowCounts(table)
	for length := 1; length <= len(list); length++ {
		turns := 0
		for _, i := range order {
			turns += counts[length][i][i]
		}
		if turns == 0 {
			continue
		}
		first := order[slices.IndexFunc(order, func(i int) bool { return counts[length][i][i] > 0 })]
		names, at := []string{list[first].Name}, first
		for left := length - 1; left > 0; left-- {
			at = order[slices.IndexFunc(order, func(i int) bool { return table[at][i] && counts[left][i][first] > 0 })]
			names = append(names, list[at].Name)
		}
		return names, impl.OK, turns / length
	}
	return nil, impl.ErrNone, 0
}
