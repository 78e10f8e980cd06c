package tests

import (
	"slices"

	"loop.example/g00045/impl"
)

// The second telling of chapter 8: one flat list of all that was ever made, each with what it is kept for; what is kept is looked for there, and what goes is kept no more by that alone. What is being made is a row that is handed on; a code is a panic up to the act.

type oneMade struct {
	binding, scope int
	keptFor        int // a binding's number and 1
	isGone         bool
}

type oneLife struct {
	list     []impl.Binding
	flags    []string
	made     []oneMade
	parents  []int
	isShut   []bool
	isBroken []bool
	forced   map[[2]int]int
	events   []impl.LiveEvent
}

func newOneLife(list []impl.Binding, flags []string) *oneLife {
	return &oneLife{list: list, flags: flags, parents: []int{-1}, isShut: []bool{false}, isBroken: make([]bool, len(list)), forced: map[[2]int]int{}}
}

func wantLive(list []impl.Binding, flags []string, acts []impl.Act) impl.Life {
	switch {
	case len(list) > 4096 || len(flags) > 4096 || len(acts) > 4096:
		return impl.Life{Code: impl.ErrLong}
	case !areSomeBindings(list):
		return impl.Life{Code: impl.ErrBad}
	case len(acts) > 300:
		return impl.Life{Code: impl.ErrMany}
	}
	p := newOneLife(list, flags)
	var out impl.Life
	for _, act := range acts {
		out.Replies = append(out.Replies, p.do(act))
	}
	out.Events, out.Alive = p.events, p.there()
	return out
}

func wantPlan(list []impl.Binding, flags []string, w impl.Want) ([]string, int) {
	x := wantLive(list, flags, []impl.Act{{Kind: impl.AcGet, Want: w}})
	if x.Code != impl.OK {
		return nil, x.Code
	}
	var names []string
	for _, e := range x.Events {
		if x.Replies[0].Code == impl.OK && e.Kind == impl.LvMade {
			names = append(names, e.Name)
		}
	}
	return names, x.Replies[0].Code
}

func (p *oneLife) there() []int {
	var out []int
	for i, x := range p.made {
		if !x.isGone {
			out = append(out, i+1)
		}
	}
	return out
}

func (p *oneLife) needScope(scope int) {
	if scope < 0 || scope >= len(p.parents) {
		panic(impl.ErrNone)
	}
	if p.isShut[scope] {
		panic(impl.ErrState)
	}
}

// do: what was made in an act that has a code goes.
func (p *oneLife) do(act impl.Act) (reply impl.Reply) {
	count := len(p.made)
	defer func() {
		if code, isCode := recover().(int); isCode {
			reply = impl.Reply{Code: code}
			for number := len(p.made); number > count; number-- {
				p.end(number)
			}
		}
	}()
	switch act.Kind {
	case 1:
		p.needScope(act.Scope)
		p.parents, p.isShut = append(p.parents, act.Scope), append(p.isShut, false)
		reply.Insts = []int{len(p.parents) - 1}
		p.events = append(p.events, impl.LiveEvent{Kind: 1, Scope: len(p.parents) - 1})
	case 2:
		p.needScope(act.Scope)
		reply.Insts = p.all(act.Scope, act.Want, nil)
	case 3:
		reply.Insts = []int{p.lazy(act.Inst, act.Lazy)}
	case 4:
		p.needScope(act.Scope)
		p.shut(act.Scope)
	case 5, 6:
		at := slices.IndexFunc(p.list, func(b impl.Binding) bool { return b.Name == act.Name })
		if at < 0 {
			panic(impl.ErrNone)
		}
		p.isBroken[at] = act.Kind == 5
	default:
		panic(impl.ErrKind)
	}
	return reply
}

func (p *oneLife) end(number int) {
	x := &p.made[number-1]
	x.isGone = true
	p.events = append(p.events, impl.LiveEvent{Kind: 3, Inst: number, Scope: x.scope, Name: p.list[x.binding].Name})
}

func (p *oneLife) shut(scope int) {
	for child := len(p.parents) - 1; child > scope; child-- {
		if p.parents[child] == scope && !p.isShut[child] {
			p.shut(child)
		}
	}
	for number := len(p.made); number > 0; number-- {
		if x := p.made[number-1]; x.scope == scope && !x.isGone {
			p.end(number)
		}
	}
	p.isShut[scope] = true
	p.events = append(p.events, impl.LiveEvent{Kind: 4, Scope: scope})
}

func lazyOnes(b impl.Binding) []impl.Want {
	var out []impl.Want
	for _, need := range b.Needs {
		if need.Mode == 4 {
			out = append(out, need)
		}
	}
	return out
}

func (p *oneLife) lazy(inst, number int) int {
	if inst < 1 || inst > len(p.made) || p.made[inst-1].isGone {
		panic(impl.ErrNone)
	}
	x := p.made[inst-1]
	needs := lazyOnes(p.list[x.binding])
	if number < 0 || number >= len(needs) {
		panic(impl.ErrNone)
	}
	known, isKnown := p.forced[[2]int{inst, number}]
	if !isKnown {
		known = p.all(x.scope, impl.Want{Key: needs[number].Key, Tag: needs[number].Tag, Mode: 1}, nil)[0]
		p.forced[[2]int{inst, number}] = known
	}
	return known
}

// all: what a want comes to, had in a scope, while a row of bindings is being made.
func (p *oneLife) all(scope int, w impl.Want, row []int) []int {
	found, code := wantResolve(p.list, p.flags, w)
	if code != impl.OK {
		panic(code)
	}
	var out []int
	for _, number := range found {
		out = append(out, p.have(number, scope, row))
	}
	return out
}

func (p *oneLife) have(number, scope int, row []int) int {
	kind := p.list[number].Scope
	if kind == 3 {
		return p.bring(number, scope, row, nil)
	}
	if kind == 1 {
		scope = 0
		p.needScope(0)
	}
	for i, x := range p.made {
		if x.keptFor == number+1 && x.scope == scope && !x.isGone {
			return i + 1
		}
	}
	inst := p.bring(number, scope, row, nil)
	p.made[inst-1].keptFor = number + 1
	return inst
}

func (p *oneLife) bring(number, scope int, row, inner []int) int {
	if slices.Contains(row, number) {
		panic(impl.ErrLoop)
	}
	row = append(slices.Clone(row), number)
	needs := slices.Clone(inner)
	for _, need := range p.list[number].Needs {
		if need.Mode != 4 {
			needs = append(needs, p.all(scope, need, row)...)
		}
	}
	if p.isBroken[number] {
		panic(impl.ErrFail)
	}
	if len(p.made) >= 1000 {
		panic(impl.ErrMany)
	}
	p.made = append(p.made, oneMade{binding: number, scope: scope})
	inst := len(p.made)
	p.events = append(p.events, impl.LiveEvent{Kind: 2, Inst: inst, Scope: scope, Name: p.list[number].Name, Needs: needs})
	around, _ := wantWrappers(p.list, p.flags, number)
	for _, wrapper := range around {
		inst = p.bring(wrapper, scope, row, []int{inst})
	}
	return inst
}
