package tests

import (
	"maps"
	"slices"

	"loop.example/g00045/impl"
)

// packagesOf: a program's files package by package.
func packagesOf(files []impl.File) map[string][]impl.File {
	out := map[string][]impl.File{}
	for _, f := range files {
		out[f.Package] = append(out[f.Package], f)
	}
	return out
}

func packageNamesOf(files []impl.File) []string {
	return slices.Sorted(maps.Keys(packagesOf(files)))
}

// importsOf: what a package imports, in the order of texts, each once.
func importsOf(files []impl.File, pkg string) []string {
	found := map[string]bool{}
	for _, f := range packagesOf(files)[pkg] {
		for _, need := range f.Imports {
			found[need.Name] = true
		}
	}
	return slices.Sorted(maps.Keys(found))
}

// progFault is a fault of a program, and where it stands among all of them.
type progFault struct {
	rank  []int
	code  int
	about []string
}

const (
	linePackage = iota
	lineImported
	lineCircle
	lineForeign
	lineValues
)

func foreignFault(packages map[string][]impl.File, node impl.Node) int {
	if node.Pkg == "" || packages[node.Pkg] == nil {
		return impl.OK
	}
	things := thingsOf(packages[node.Pkg])
	at := placeOf(things, node.Name)
	switch {
	case at < 0:
		return impl.ErrName
	case things[at].kind == impl.DFunc && node.Kind == impl.NName:
		return impl.ErrKind
	case things[at].kind != impl.DFunc && node.Kind == impl.NCall:
		return impl.ErrKind
	case node.Kind == impl.NCall && len(node.Kids) != len(things[at].decl.Params):
		return impl.ErrRange
	}
	return impl.OK
}

// circleOfPackages tries all rows, the shortest ones first, each length in the order of texts.
func circleOfPackages(files []impl.File) []string {
	names := packageNamesOf(files)
	leads := map[string][]string{}
	for _, name := range names {
		leads[name] = importsOf(files, name)
	}
	for length := 1; length <= len(names); length++ {
		var tried func(row []string) []string
		tried = func(row []string) []string {
			if len(row) == length {
				if slices.Contains(leads[row[length-1]], row[0]) {
					return row
				}
				return nil
			}
			for _, next := range names {
				if len(row) > 0 && !slices.Contains(leads[row[len(row)-1]], next) {
					continue
				}
				if found := tried(append(slices.Clone(row), next)); found != nil {
					return found
				}
			}
			return nil
		}
		if row := tried(nil); row != nil {
			return row
		}
	}
	return nil
}

// programFaults: all faults of a program, each with its rank. What hangs on a fault of an earlier line may be missing.
func programFaults(files []impl.File) []progFault {
	var out []progFault
	packages := packagesOf(files)
	for i, pkg := range packageNamesOf(files) {
		tell := func(code int, about []string, rank ...int) {
			if code != impl.OK {
				out = append(out, progFault{rank, code, append([]string{pkg}, about...)})
			}
		}
		code, name := wantCheck(packages[pkg])
		if code == impl.ErrBad {
			code = impl.ErrMany
		}
		tell(code, []string{name}, linePackage, i)
		for k, other := range importsOf(files, pkg) {
			if packages[other] == nil {
				tell(impl.ErrNone, []string{other}, lineImported, i, k)
			}
		}
		for k, f := range byName(packages[pkg]) {
			for number, node := range f.Nodes {
				tell(foreignFault(packages, node), []string{node.Pkg + "." + node.Name}, lineForeign, i, k, number)
			}
		}
		if code == impl.OK {
			_, code, about := wantInit(packages[pkg])
			tell(code, about, lineValues, i)
		}
	}
	if row := circleOfPackages(files); row != nil {
		out = append(out, progFault{[]int{lineCircle}, impl.ErrLoop, row})
	}
	return out
}

// wantProgram is CheckProgram: of all faults the one with the least rank.
func wantProgram(files []impl.File) (int, []string) {
	if len(files) > 4096 {
		return impl.ErrLong, nil
	}
	if len(files) == 0 || len(files) > 40 {
		return impl.ErrBad, nil
	}
	for _, f := range files {
		if _, code := wantText(f); code != impl.OK {
			return impl.ErrBad, nil
		}
	}
	faults := programFaults(files)
	if len(faults) == 0 {
		return impl.OK, nil
	}
	least := slices.MinFunc(faults, func(a, b progFault) int { return slices.Compare(a.rank, b.rank) })
	return least.code, least.about
}

// reachedPackages: told again and again until nothing comes to it.
func reachedPackages(files []impl.File, main string) []string {
	out := []string{main}
	for isNew := true; isNew; {
		isNew = false
		for _, pkg := range slices.Clone(out) {
			for _, other := range importsOf(files, pkg) {
				if !slices.Contains(out, other) {
					out = append(out, other)
					isNew = true
				}
			}
		}
	}
	slices.Sort(out)
	return out
}

func isRightOrder(files []impl.File, main string, order []string) bool {
	for i, pkg := range order {
		if slices.ContainsFunc(importsOf(files, pkg), func(other string) bool { return !slices.Contains(order[:i], other) }) {
			return false
		}
	}
	return slices.Equal(slices.Sorted(slices.Values(order)), reachedPackages(files, main))
}

// wantOrder is handed wantProgram's answer: many packages are asked for of one program.
func wantOrder(files []impl.File, main string, code int, about []string) ([]string, int, []string) {
	if len(main) > 65536 {
		return nil, impl.ErrLong, nil
	}
	if code != impl.OK {
		return nil, code, about
	}
	if packagesOf(files)[main] == nil {
		return nil, impl.ErrNone, []string{main}
	}
	var out []string
	for range reachedPackages(files, main) {
		for _, pkg := range reachedPackages(files, main) {
			isAhead := func(other string) bool { return slices.Contains(out, other) }
			if !isAhead(pkg) && !slices.ContainsFunc(importsOf(files, pkg), func(other string) bool { return !isAhead(other) }) {
				out = append(out, pkg)
				break
			}
		}
	}
	return out, impl.OK, nil
}

// longestRow: of how many packages the longest row is in which each imports the next one.
func longestRow(files []impl.File, pkg string) int {
	most := 0
	for _, other := range importsOf(files, pkg) {
		most = max(most, longestRow(files, other))
	}
	return 1 + most
}

func wantWaves(files []impl.File, main string, code int) ([][]string, int) {
	if _, code, _ = wantOrder(files, main, code, nil); code != impl.OK {
		return nil, code
	}
	var out [][]string
	for _, pkg := range reachedPackages(files, main) {
		number := longestRow(files, pkg)
		for len(out) < number {
			out = append(out, nil)
		}
		out[number-1] = append(out[number-1], pkg)
	}
	return out, impl.OK
}

// moment is where a step is made: a package, and the var that is worked out.
type moment struct{ pkg, name string }

// timed is an event, and how many steps are ahead of it.
type timed struct {
	event impl.Event
	at    int
}

// tape is all that is done where the fuel has no end, up to a fault; a fault's code and where it is.
type tape struct {
	packages map[string][]impl.File
	things   map[string][]oneThing
	state    map[string]int
	steps    []moment
	events   []timed
	where    moment
	code     int
}

// tapeOf begins with the values that vars have. Behind the most steps that fuel can be it is cut off.
func tapeOf(packages map[string][]impl.File, state map[string]int, work func(p *tape)) *tape {
	p := &tape{packages: packages, things: map[string][]oneThing{}, state: maps.Clone(state)}
	for pkg, files := range packages {
		p.things[pkg] = thingsOf(files)
	}
	p.record(work)
	return p
}

func (p *tape) record(work func(p *tape)) {
	defer func() {
		switch x := recover().(type) {
		case nil:
		case int:
			p.code = x
		default:
			panic(x)
		}
	}()
	work(p)
}

func (p *tape) tell(kind int, name string, num int) {
	p.events = append(p.events, timed{impl.Event{Kind: kind, Package: p.where.pkg, Name: name, Num: num}, len(p.steps)})
	if kind == impl.EvVar || kind == impl.EvSet {
		p.state[p.where.pkg+"."+name] = num
	}
}

// eval: params are those of the func whose expression it is, depth how many of these it is within.
func (p *tape) eval(f impl.File, root int, params map[string]int, depth int) int {
	p.steps = append(p.steps, p.where)
	if len(p.steps) > 20001 {
		panic(impl.ErrFuel)
	}
	node := f.Nodes[root]
	var parts []int
	for _, kid := range node.Kids {
		parts = append(parts, p.eval(f, kid, params, depth))
	}
	switch node.Kind {
	case impl.NNum:
		return node.Num
	case impl.NName:
		return p.named(f, node, params)
	case impl.NCall:
		return p.called(f, node, parts, depth)
	}
	num, ok := combined(node.Kind, parts)
	if !ok {
		panic(impl.ErrZero)
	}
	return num
}

// thing: what a node's name stands for, and the name of its package.
func (p *tape) thing(f impl.File, node impl.Node) (oneThing, string) {
	pkg := f.Package
	if node.Pkg != "" {
		pkg = node.Pkg
	}
	return p.things[pkg][placeOf(p.things[pkg], node.Name)], pkg
}

func (p *tape) named(f impl.File, node impl.Node, params map[string]int) int {
	if num, has := params[node.Name]; has && node.Pkg == "" {
		return num
	}
	x, pkg := p.thing(f, node)
	if x.kind == impl.DVar {
		return p.state[pkg+"."+node.Name]
	}
	num, _ := worth(p.things[pkg], x.file, x.root)
	return num
}

func (p *tape) called(f impl.File, node impl.Node, args []int, depth int) int {
	if depth+1 > 50 {
		panic(impl.ErrDeep)
	}
	x, _ := p.thing(f, node)
	params := map[string]int{}
	for i, name := range x.decl.Params {
		params[name] = args[i]
	}
	return p.eval(x.file, x.root, params, depth+1)
}

func (p *tape) body(f impl.File, list []impl.Stmt) {
	for _, s := range list {
		if s.When >= 0 && p.eval(f, s.When, nil, 0) == 0 {
			continue
		}
		switch s.Kind {
		case impl.SFail:
			panic(impl.ErrFail)
		case impl.SSet:
			p.tell(impl.EvSet, s.Name, p.eval(f, s.Root, nil, 0))
		case impl.SEmit:
			p.tell(impl.EvEmit, "", p.eval(f, s.Root, nil, 0))
		}
	}
}

// bodiesOf: a package's inits or stops in the order of declaration, each as a file that has it alone.
func bodiesOf(files []impl.File, kind int) []impl.File {
	var out []impl.File
	for _, f := range byName(files) {
		for _, d := range f.Decls {
			if d.Kind == kind {
				one := f
				one.Decls = []impl.Decl{d}
				out = append(out, one)
			}
		}
	}
	return out
}

func (p *tape) start(pkg string) {
	order, _, _ := wantInit(p.packages[pkg])
	for _, name := range order {
		p.where = moment{pkg, name}
		x := p.things[pkg][placeOf(p.things[pkg], name)]
		p.tell(impl.EvVar, name, p.eval(x.file, x.root, nil, 0))
	}
	p.where = moment{pkg, ""}
	for _, f := range bodiesOf(p.packages[pkg], impl.DInit) {
		p.body(f, f.Decls[0].Body)
	}
	p.tell(impl.EvUp, "", 0)
}

// cut: the events of a tape that has so much fuel, the fault's among them, its code, and how many steps were made.
func (p *tape) cut(fuel int) ([]impl.Event, int, int) {
	code, where, count := p.code, p.where, len(p.steps)
	if count > fuel {
		code, where, count = impl.ErrFuel, p.steps[fuel], fuel
	}
	var out []impl.Event
	for _, x := range p.events {
		if x.at <= count {
			out = append(out, x.event)
		}
	}
	if code != impl.OK {
		out = append(out, impl.Event{Kind: impl.EvFail, Package: where.pkg, Name: where.name, Num: code})
	}
	return out, code, count
}

// played: the values that vars have behind events.
func played(state map[string]int, events []impl.Event) map[string]int {
	state = maps.Clone(state)
	for _, e := range events {
		if e.Kind == impl.EvVar || e.Kind == impl.EvSet {
			state[e.Package+"."+e.Name] = e.Num
		}
	}
	return state
}

func stopped(packages map[string][]impl.File, state map[string]int, pkg string, fuel int) []impl.Event {
	out := []impl.Event{{Kind: impl.EvStop, Package: pkg}}
	list := bodiesOf(packages[pkg], impl.DStop)
	slices.Reverse(list)
	for _, f := range list {
		p := tapeOf(packages, played(state, out), func(p *tape) {
			p.where = moment{pkg, ""}
			p.body(f, f.Decls[0].Body)
		})
		events, _, count := p.cut(fuel)
		out = append(out, events...)
		fuel -= count
	}
	return append(out, impl.Event{Kind: impl.EvDown, Package: pkg})
}

// secondRun is a start that nothing bars: by the tape of its packages, which is cut where the fuel ends.
type secondRun struct {
	packages map[string][]impl.File
	order    []string
	start    *tape
}

func runOf(files []impl.File, order []string) secondRun {
	packages := packagesOf(files)
	return secondRun{packages, order, tapeOf(packages, map[string]int{}, func(p *tape) {
		for _, pkg := range order {
			p.start(pkg)
		}
	})}
}

func (r secondRun) trace(fuel int, stop bool) impl.Trace {
	var out impl.Trace
	out.Events, out.Code, out.Steps = r.start.cut(fuel)
	var up []string
	for _, e := range out.Events {
		if e.Kind == impl.EvUp {
			up = append(up, e.Package)
		}
	}
	slices.Reverse(up)
	for _, pkg := range up {
		if out.Code != impl.OK || stop {
			out.Events = append(out.Events, stopped(r.packages, played(map[string]int{}, out.Events), pkg, fuel)...)
		}
	}
	if out.Code != impl.OK {
		return out
	}
	state := played(map[string]int{}, out.Events)
	for _, pkg := range r.order {
		for _, x := range thingsOf(r.packages[pkg]) {
			if x.kind == impl.DVar {
				out.Values = append(out.Values, impl.Value{Name: pkg + "." + x.name, Num: state[pkg+"."+x.name]})
			}
		}
	}
	return out
}

// wantRun is handed wantProgram's code.
func wantRun(files []impl.File, main string, order []string, fuel int, stop bool, code int) impl.Trace {
	if len(order) > 4096 {
		return impl.Trace{Code: impl.ErrLong}
	}
	own, code, _ := wantOrder(files, main, code, nil)
	if len(order) == 0 {
		order = own
	}
	switch {
	case code != impl.OK:
		return impl.Trace{Code: code}
	case fuel < 0 || fuel > 20000:
		return impl.Trace{Code: impl.ErrBad}
	case !isRightOrder(files, main, order):
		return impl.Trace{Code: impl.ErrState}
	}
	return runOf(files, order).trace(fuel, stop)
}
