package tests

import (
	"slices"
	"strconv"
	"strings"
	"testing"

	"loop.example/g00045/impl"
)

// readPackage reads each text as a file of package p; ahead of a text may stand its file's name and a colon, else it is f1, f2, ..
func readPackage(t *testing.T, texts ...string) []impl.File {
	t.Helper()
	var out []impl.File
	for i, text := range texts {
		name, rest, isNamed := strings.Cut(text, ":")
		if !isNamed {
			name, rest = "f"+strconv.Itoa(i+1), text
		}
		f, code, at := impl.ReadFile(name, "package p; "+rest)
		if code != impl.OK {
			t.Fatalf("%q: code %d at %d", text, code, at)
		}
		out = append(out, f)
	}
	return out
}

// orders calls work with each order of a list, which it may not keep.
func orders[T any](list []T, work func(list []T)) {
	list = slices.Clone(list)
	var turn func(at int)
	turn = func(at int) {
		if at == len(list) {
			work(list)
			return
		}
		for i := at; i < len(list); i++ {
			list[at], list[i] = list[i], list[at]
			turn(at + 1)
			list[at], list[i] = list[i], list[at]
		}
	}
	turn(0)
}

// packMaker makes packages. What it names is what may stand there, but for one name in so many as wild tells (none if it is 0).
type packMaker struct {
	source
	wild   int
	rich   int
	things []oneThing
	params []string
	own    string
}

var thingNames = []string{"a", "b", "c", "d", "e", "g", "h", "k", "m", "n", "s", "t"}

func (m *packMaker) isWild() bool { return m.wild > 0 && m.IntN(m.wild) == 0 }

func (m *packMaker) nameFor(kind int) string {
	if m.isWild() {
		return pick(m.source, append([]string{"nope", "x"}, thingNames...))
	}
	names := slices.Clone(m.params)
	for _, x := range m.things {
		if x.kind == impl.DConst || x.kind == impl.DVar && kind != impl.DConst {
			names = append(names, x.name)
		}
	}
	// What names itself is a circle of one: mostly others are wanted.
	if m.IntN(8) > 0 {
		names = slices.DeleteFunc(names, func(name string) bool { return name == m.own })
	}
	if len(names) == 0 {
		return ""
	}
	return pick(m.source, names)
}

func (m *packMaker) callFor(kind, room int) string {
	var funcs []oneThing
	for _, x := range m.things {
		if x.kind == impl.DFunc || m.isWild() {
			funcs = append(funcs, x)
		}
	}
	if len(funcs) == 0 || kind == impl.DConst && !m.isWild() {
		return ""
	}
	x := pick(m.source, funcs)
	count := len(x.decl.Params)
	if m.isWild() || m.isWild() {
		count = m.IntN(3)
	}
	var parts []string
	for range count {
		parts = append(parts, m.expr(kind, room-1))
	}
	return x.name + "(" + strings.Join(parts, ", ") + ")"
}

func (m *packMaker) atom(kind, room int) string {
	switch n := m.IntN(10); {
	case n < m.rich:
		if name := m.nameFor(kind); name != "" {
			return name
		}
	case n < 2*m.rich && room > 0:
		if call := m.callFor(kind, room); call != "" {
			return call
		}
	case n == 9 && (kind != impl.DConst || m.isWild()) && room > 0:
		return "q." + pick(m.source, thingNames) + pick(m.source, []string{"", "()", "(" + m.expr(kind, room-1) + ")"})
	case n == 8 && m.isWild():
		return pick(m.source, []string{"r.a", "nope.f()"})
	}
	return strconv.Itoa(pick(m.source, []int{0, 1, 1, 2, 3, 7, 10, 922337203685477580, 999999999999999999}))
}

func (m *packMaker) expr(kind, room int) string {
	if room == 0 || m.IntN(3) == 0 {
		return m.atom(kind, room)
	}
	switch m.IntN(4) {
	case 0:
		return pick(m.source, []string{"-", "!"}) + "(" + m.expr(kind, room-1) + ")"
	case 1:
		return m.atom(kind, room)
	}
	sign := pick(m.source, []string{"+", "-", "*", "*", "+", "-", "/", "%", "==", "!=", "<", "<="})
	if kind == impl.DConst && m.IntN(4) == 0 {
		sign = pick(m.source, []string{"/", "%"})
	}
	return "(" + m.expr(kind, room-1) + " " + sign + " " + m.expr(kind, room-1) + ")"
}

func (m *packMaker) declare() {
	names := slices.Clone(thingNames)
	m.Shuffle(len(names), func(i, k int) { names[i], names[k] = names[k], names[i] })
	for _, name := range names[:m.IntN(len(names))+1] {
		x := oneThing{name: name, kind: impl.DConst + m.IntN(3)}
		if m.wild > 0 && m.IntN(10*m.wild) == 0 {
			x.name = pick(m.source, thingNames)
		}
		if x.kind == impl.DFunc {
			for _, param := range []string{"x", "y", pick(m.source, thingNames)}[:m.IntN(4)] {
				if m.wild > 0 && m.IntN(8*m.wild) == 0 {
					param = "x"
				}
				x.decl.Params = append(x.decl.Params, param)
			}
		}
		m.things = append(m.things, x)
	}
}

func (m *packMaker) bodyText(word string) string {
	out := word + " { "
	for range m.IntN(3) {
		stmt := pick(m.source, []string{"fail", "emit " + m.expr(impl.DInit, 2)})
		vars := slices.DeleteFunc(slices.Clone(m.things), func(x oneThing) bool { return x.kind != impl.DVar && !m.isWild() })
		if len(vars) > 0 && m.IntN(2) == 0 {
			stmt = "set " + pick(m.source, vars).name + " = " + m.expr(impl.DInit, 2)
		}
		if m.IntN(3) == 0 {
			stmt += " when " + m.expr(impl.DInit, 1)
		}
		out += stmt + "; "
	}
	return out + "} "
}

// fileText writes some of the package's things, and an init or a stop.
func (m *packMaker) fileText(things []oneThing) string {
	out := pick(m.source, []string{"import q; ", "import q 2; import r; "})
	if m.isWild() {
		out = pick(m.source, []string{"", "import r; ", "import q; import s; import q; "})
	}
	for len(things) > 0 {
		x := things[0]
		things = things[1:]
		m.params, m.own = x.decl.Params, x.name
		switch x.kind {
		case impl.DConst:
			out += "const " + x.name + " = " + m.expr(x.kind, m.IntN(4)) + "; "
		case impl.DFunc:
			out += "func " + x.name + "(" + strings.Join(x.decl.Params, ", ") + ") = " + m.expr(x.kind, m.IntN(4)) + "; "
		case impl.DVar:
			names, exprs := x.name, m.expr(x.kind, m.IntN(4))
			for len(things) > 0 && things[0].kind == impl.DVar && m.IntN(2) == 0 {
				names, exprs = names+", "+things[0].name, exprs+", "+m.expr(x.kind, m.IntN(3))
				things = things[1:]
			}
			out += "var " + names + " = " + exprs + "; "
		}
		m.params, m.own = nil, ""
		if m.IntN(6) == 0 {
			out += m.bodyText(pick(m.source, []string{"init", "stop"}))
		}
	}
	return out
}

// anyPackage: files of one package, with no fault of CheckPackage if wild is 0; the more rich it is the more its things hang on one another.
func anyPackage(t *testing.T, s source, most, wild, rich int) []impl.File {
	t.Helper()
	m := &packMaker{source: s, wild: wild, rich: rich}
	m.declare()
	names := []string{"B", "a", "aa", "ab", "b", "é", "ж", "_"}
	s.Shuffle(len(names), func(i, k int) { names[i], names[k] = names[k], names[i] })
	count := 1 + s.IntN(most)
	parts := make([][]oneThing, count)
	for _, x := range m.things {
		at := s.IntN(count)
		parts[at] = append(parts[at], x)
	}
	var texts []string
	for i, part := range parts {
		name := names[i]
		if wild > 0 && s.IntN(20*wild) == 0 {
			name = names[0]
		}
		texts = append(texts, name+":"+m.fileText(part))
	}
	return readPackage(t, texts...)
}

func showPackage(files []impl.File) string {
	var out strings.Builder
	for _, f := range files {
		text, _ := impl.FileText(f)
		out.WriteString(f.Name + ": " + text)
	}
	return out.String()
}
