package tests

import (
	"math/big"
	"slices"
	"sort"

	"loop.example/g00045/impl"
)

// oneThing is a name that a package declares, and where.
type oneThing struct {
	name string
	kind int
	file impl.File
	decl impl.Decl
	root int
}

func byName(files []impl.File) []impl.File {
	out := slices.Clone(files)
	sort.SliceStable(out, func(i, k int) bool { return out[i].Name < out[k].Name })
	return out
}

// thingsOf: a package's names in the order of declaration.
func thingsOf(files []impl.File) []oneThing {
	var out []oneThing
	for _, f := range byName(files) {
		for _, d := range f.Decls {
			for i, name := range d.Names {
				out = append(out, oneThing{name, d.Kind, f, d, d.Roots[i]})
			}
		}
	}
	return out
}

func placeOf(things []oneThing, name string) int {
	return slices.IndexFunc(things, func(x oneThing) bool { return x.name == name })
}

// nodesUnder: the numbers of an expression's nodes, found by their Kids.
func nodesUnder(f impl.File, root int) []int {
	if root < 0 {
		return nil
	}
	out := []int{root}
	for _, kid := range f.Nodes[root].Kids {
		out = append(out, nodesUnder(f, kid)...)
	}
	slices.Sort(out)
	return out
}

// oneFault is a fault of a package, and where it stands among all of them.
type oneFault struct {
	rank []int
	code int
	name string
}

const (
	lineBad = iota
	lineMany
	lineFiles
	lineNames
	lineParams
	lineImports
	lineUses
)

const behindAllNodes = 1 << 40

func twiceFaults(names []string, rank ...int) []oneFault {
	var out []oneFault
	for i, name := range names {
		if slices.Contains(names[:i], name) {
			out = append(out, oneFault{append(slices.Clone(rank), i), impl.ErrTwice, name})
		}
	}
	return out
}

func isOnePackage(files []impl.File) bool {
	for _, f := range files {
		if _, code := wantText(f); code != impl.OK || f.Package != files[0].Package {
			return false
		}
	}
	return len(files) >= 1 && len(files) <= 8
}

// faultsOf: all faults of a package, each with its rank.
func faultsOf(files []impl.File) []oneFault {
	var out []oneFault
	files = byName(files)
	things := thingsOf(files)
	if len(things) > 300 {
		out = append(out, oneFault{[]int{lineMany}, impl.ErrMany, ""})
	}
	var fileNames, names []string
	for _, f := range files {
		fileNames = append(fileNames, f.Name)
	}
	for _, x := range things {
		names = append(names, x.name)
	}
	out = append(out, twiceFaults(fileNames, lineFiles)...)
	out = append(out, twiceFaults(names, lineNames)...)
	for i, f := range files {
		var imports []string
		for _, need := range f.Imports {
			imports = append(imports, need.Name)
		}
		out = append(out, twiceFaults(imports, lineImports, i)...)
		for k, d := range f.Decls {
			out = append(out, twiceFaults(d.Params, lineParams, i, k)...)
			out = append(out, usesFaults(things, f, d, lineUses, i, k)...)
		}
	}
	return out
}

func usesFaults(things []oneThing, f impl.File, d impl.Decl, rank ...int) []oneFault {
	var out []oneFault
	tell := func(code int, name string, more ...int) {
		if code != impl.OK {
			out = append(out, oneFault{slices.Concat(rank, more), code, name})
		}
	}
	look := func(root, part int) {
		for _, number := range nodesUnder(f, root) {
			code, name := nodeFault(things, f, d, f.Nodes[number])
			tell(code, name, part, number)
		}
	}
	for _, root := range d.Roots {
		look(root, 0)
	}
	for i, s := range d.Body {
		look(s.Root, i)
		look(s.When, i)
		if s.Kind == impl.SSet {
			at := placeOf(things, s.Name)
			if at < 0 {
				tell(impl.ErrName, s.Name, i, behindAllNodes)
			} else if things[at].kind != impl.DVar {
				tell(impl.ErrKind, s.Name, i, behindAllNodes)
			}
		}
	}
	return out
}

func nodeFault(things []oneThing, f impl.File, d impl.Decl, node impl.Node) (int, string) {
	isConst, at := d.Kind == impl.DConst, placeOf(things, node.Name)
	if node.Kind != impl.NName && node.Kind != impl.NCall {
		return impl.OK, ""
	}
	if node.Pkg != "" {
		for _, need := range f.Imports {
			if need.Name == node.Pkg && isConst {
				return impl.ErrKind, node.Pkg
			}
			if need.Name == node.Pkg {
				return impl.OK, ""
			}
		}
		return impl.ErrName, node.Pkg
	}
	if node.Kind == impl.NName && slices.Contains(d.Params, node.Name) {
		return impl.OK, ""
	}
	if at < 0 {
		return impl.ErrName, node.Name
	}
	// By what the node is, the kinds that it may stand for.
	fits := []int{impl.DConst, impl.DVar}
	if isConst {
		fits = fits[:1]
	}
	if node.Kind == impl.NCall {
		fits = []int{impl.DFunc}
	}
	if !slices.Contains(fits, things[at].kind) || node.Kind == impl.NCall && isConst {
		return impl.ErrKind, node.Name
	}
	if node.Kind == impl.NCall && len(node.Kids) != len(things[at].decl.Params) {
		return impl.ErrRange, node.Name
	}
	return impl.OK, ""
}

// wantCheck is CheckPackage: of all faults the one with the least rank.
func wantCheck(files []impl.File) (int, string) {
	if len(files) > 4096 {
		return impl.ErrLong, ""
	}
	if !isOnePackage(files) {
		return impl.ErrBad, ""
	}
	faults := faultsOf(files)
	if len(faults) == 0 {
		return impl.OK, ""
	}
	least := slices.MinFunc(faults, func(a, b oneFault) int { return slices.Compare(a.rank, b.rank) })
	return least.code, least.name
}

// namedBy: the places of what a thing's expression names or calls.
func namedBy(things []oneThing, place int) []int {
	var out []int
	x := things[place]
	for _, number := range nodesUnder(x.file, x.root) {
		node := x.file.Nodes[number]
		isHidden := node.Kind == impl.NName && slices.Contains(x.decl.Params, node.Name)
		if node.Name == "" || node.Pkg != "" || isHidden {
			continue
		}
		out = append(out, placeOf(things, node.Name))
	}
	return out
}

// firstRow tries all rows, the shortest ones first, each length in the order of declaration.
func firstRow(things []oneThing, mayBegin, mayBeIn func(x oneThing) bool) []string {
	leads := make([][]int, len(things))
	for i := range things {
		leads[i] = namedBy(things, i)
	}
	for length := 1; length <= len(things); length++ {
		var tried func(row []int) []int
		tried = func(row []int) []int {
			if len(row) == length {
				if slices.Contains(leads[row[length-1]], row[0]) {
					return row
				}
				return nil
			}
			for next, x := range things {
				if !mayBeIn(x) || len(row) == 0 && !mayBegin(x) || len(row) > 0 && !slices.Contains(leads[row[len(row)-1]], next) {
					continue
				}
				if found := tried(append(slices.Clone(row), next)); found != nil {
					return found
				}
			}
			return nil
		}
		if row := tried(nil); row != nil {
			return namesAt(things, row)
		}
	}
	return nil
}

func namesAt(things []oneThing, places []int) []string {
	var out []string
	for _, at := range places {
		out = append(out, things[at].name)
	}
	return out
}

// wrapped: a number taken modulo 2 to the 64.
func wrapped(n *big.Int) int {
	all := new(big.Int).Lsh(big.NewInt(1), 64)
	rest := new(big.Int).Mod(n, all)
	if rest.Bit(63) == 1 {
		rest.Sub(rest, all)
	}
	return int(rest.Int64())
}

// worth works out an expression by numbers of any length; false if something is divided by zero.
func worth(things []oneThing, f impl.File, root int) (int, bool) {
	node := f.Nodes[root]
	switch node.Kind {
	case impl.NNum:
		return node.Num, true
	case impl.NName:
		x := things[placeOf(things, node.Name)]
		return worth(things, x.file, x.root)
	}
	var parts []int
	for _, kid := range node.Kids {
		value, ok := worth(things, f, kid)
		if !ok {
			return 0, false
		}
		parts = append(parts, value)
	}
	return combined(node.Kind, parts)
}

// combined: what a sign makes of its parts, by numbers of any length; false if something is divided by zero.
func combined(kind int, numbers []int) (int, bool) {
	var parts []*big.Int
	for _, n := range numbers {
		parts = append(parts, big.NewInt(int64(n)))
	}
	out := new(big.Int)
	one := func(holds bool) {
		if holds {
			out.SetInt64(1)
		}
	}
	switch kind {
	case impl.NNeg:
		out.Neg(parts[0])
	case impl.NNot:
		one(parts[0].Sign() == 0)
	case impl.NAdd:
		out.Add(parts[0], parts[1])
	case impl.NSub:
		out.Sub(parts[0], parts[1])
	case impl.NMul:
		out.Mul(parts[0], parts[1])
	case impl.NDiv, impl.NRem:
		if parts[1].Sign() == 0 {
			return 0, false
		}
		rest := new(big.Int)
		out.QuoRem(parts[0], parts[1], rest)
		if kind == impl.NRem {
			out = rest
		}
	case impl.NEq:
		one(parts[0].Cmp(parts[1]) == 0)
	case impl.NNe:
		one(parts[0].Cmp(parts[1]) != 0)
	case impl.NLt:
		one(parts[0].Cmp(parts[1]) < 0)
	case impl.NLe:
		one(parts[0].Cmp(parts[1]) <= 0)
	}
	return wrapped(out), true
}

func isConstThing(x oneThing) bool { return x.kind == impl.DConst }

func wantConsts(files []impl.File) ([]impl.Value, int, []string) {
	if code, _ := wantCheck(files); code != impl.OK {
		return nil, code, nil
	}
	things := thingsOf(files)
	if row := firstRow(things, isConstThing, isConstThing); row != nil {
		return nil, impl.ErrLoop, row
	}
	var out []impl.Value
	for _, x := range things {
		if !isConstThing(x) {
			continue
		}
		value, ok := worth(things, x.file, x.root)
		if !ok {
			return nil, impl.ErrZero, []string{x.name}
		}
		out = append(out, impl.Value{Name: x.name, Num: value})
	}
	return out, impl.OK, nil
}

// hangsOn: of each thing the places of the vars on which it hangs, told again and again until nothing comes to it.
func hangsOn(things []oneThing) [][]int {
	out := make([][]int, len(things))
	for isNew := true; isNew; {
		isNew = false
		for i := range things {
			for _, k := range namedBy(things, i) {
				var more []int
				switch things[k].kind {
				case impl.DVar:
					more = []int{k}
				case impl.DFunc:
					more = out[k]
				}
				for _, at := range more {
					if !slices.Contains(out[i], at) {
						out[i] = append(out[i], at)
						isNew = true
					}
				}
			}
		}
	}
	for i := range out {
		slices.Sort(out[i])
	}
	return out
}

// wantNeeds is handed wantCheck's code: many names are asked of one package.
func wantNeeds(files []impl.File, name string, code int) ([]string, int) {
	if len(name) > 65536 {
		return nil, impl.ErrLong
	}
	if code != impl.OK {
		return nil, code
	}
	things := thingsOf(files)
	at := placeOf(things, name)
	if at < 0 || isConstThing(things[at]) {
		return nil, impl.ErrNone
	}
	return namesAt(things, hangsOn(things)[at]), impl.OK
}

func wantInit(files []impl.File) ([]string, int, []string) {
	if _, code, names := wantConsts(files); code != impl.OK {
		return nil, code, names
	}
	things := thingsOf(files)
	hangs := hangsOn(things)
	var order []int
	isLeft := func(at int) bool { return things[at].kind == impl.DVar && !slices.Contains(order, at) }
	for isNew := true; isNew; {
		isNew = false
		for at := range things {
			if isLeft(at) && !slices.ContainsFunc(hangs[at], isLeft) {
				order = append(order, at)
				isNew = true
				break
			}
		}
	}
	for at := range things {
		if isLeft(at) {
			isLeftThing := func(x oneThing) bool { return isLeft(placeOf(things, x.name)) }
			row := firstRow(things, isLeftThing, func(x oneThing) bool { return x.kind == impl.DFunc || isLeftThing(x) })
			return nil, impl.ErrLoop, row
		}
	}
	return namesAt(things, order), impl.OK, nil
}
