package tests

import (
	"slices"
	"strconv"
	"strings"
	"testing"

	"loop.example/g00045/impl"
)

// readProgram reads each text as a file: ahead of it stand its package, perhaps a blank and the file's name (else it is f1, f2, ..), and a colon.
func readProgram(t *testing.T, texts ...string) []impl.File {
	t.Helper()
	var out []impl.File
	for i, text := range texts {
		head, rest, _ := strings.Cut(text, ":")
		pkg, name, isNamed := strings.Cut(head, " ")
		if !isNamed {
			name = "f" + strconv.Itoa(i+1)
		}
		f, code, at := impl.ReadFile(name, "package "+pkg+"; "+rest)
		if code != impl.OK {
			t.Fatalf("%s: code %d at %d", clipped(text), code, at)
		}
		out = append(out, f)
	}
	return out
}

// showProgram is cut off where it would be too long to be looked at.
func showProgram(files []impl.File) string {
	out := showPackage(files[:min(len(files), 12)])
	return out[:min(len(out), 4000)]
}

// progMaker makes programs: a package imports what stands ahead of it in names, a thing names what stands ahead of it in its package's things, but for one in so many as wild tells (none if it is 0).
type progMaker struct {
	source
	wild    int
	names   []string
	imports map[string][]string
	things  map[string][]oneThing

	pkg    string
	at     int
	params []string
}

var packageNames = []string{"main", "a", "B", "aa", "é", "x", "q9"}

func (m *progMaker) isWild() bool { return m.wild > 0 && m.IntN(m.wild) == 0 }

func (m *progMaker) declare(count int) {
	m.names = slices.Clone(packageNames)
	m.Shuffle(len(m.names), func(i, k int) { m.names[i], m.names[k] = m.names[k], m.names[i] })
	m.names = m.names[:count]
	m.imports, m.things = map[string][]string{}, map[string][]oneThing{}
	for i, pkg := range m.names {
		for _, other := range m.names[:i] {
			if m.IntN(2) == 0 {
				m.imports[pkg] = append(m.imports[pkg], other)
			}
		}
		if m.wild > 0 && m.IntN(12) == 0 {
			m.imports[pkg] = append(m.imports[pkg], pick(m.source, append([]string{"nope", "zz"}, m.names...)))
		}
		m.declareThings(pkg)
	}
}

func (m *progMaker) declareThings(pkg string) {
	names := slices.Clone(thingNames)
	m.Shuffle(len(names), func(i, k int) { names[i], names[k] = names[k], names[i] })
	for _, name := range names[:m.IntN(8)] {
		if m.isWild() && m.IntN(2) == 0 {
			name = pick(m.source, thingNames)
		}
		x := oneThing{name: name, kind: pick(m.source, []int{impl.DConst, impl.DVar, impl.DVar, impl.DFunc})}
		if x.kind == impl.DFunc {
			x.decl.Params = []string{"y", pick(m.source, thingNames)}[:m.IntN(3)]
		}
		m.things[pkg] = append(m.things[pkg], x)
	}
}

// thing: one that may be named or called where the maker stands, and the package that has it (empty of the own one).
func (m *progMaker) thing(fits func(x oneThing) bool) (string, oneThing, bool) {
	own := m.things[m.pkg]
	if !m.isWild() {
		own = own[:m.at]
	}
	pkg := ""
	if others := m.imports[m.pkg]; len(others) > 0 && m.IntN(2) == 0 {
		pkg = pick(m.source, others)
		own = m.things[pkg]
	}
	own = slices.DeleteFunc(slices.Clone(own), func(x oneThing) bool { return !fits(x) && !(m.isWild() && m.IntN(6) == 0) })
	if len(own) == 0 {
		return "", oneThing{}, false
	}
	return pkg, pick(m.source, own), true
}

func (m *progMaker) named(isConst bool) string {
	fits := func(x oneThing) bool { return x.kind == impl.DConst || x.kind == impl.DVar && !isConst }
	if len(m.params) > 0 && m.IntN(2) == 0 {
		return pick(m.source, m.params)
	}
	for range 4 {
		pkg, x, found := m.thing(fits)
		if found && (pkg == "" || !isConst || m.isWild()) {
			return dotted(pkg, x.name)
		}
	}
	return "3"
}

func dotted(pkg, name string) string {
	if pkg == "" {
		return name
	}
	return pkg + "." + name
}

func (m *progMaker) called(room int) string {
	pkg, x, found := m.thing(func(x oneThing) bool { return x.kind == impl.DFunc })
	if !found {
		return m.named(false)
	}
	count := len(x.decl.Params)
	if m.isWild() {
		count = m.IntN(3)
	}
	var args []string
	for range count {
		args = append(args, m.expr(false, room-1))
	}
	name := x.name
	if m.isWild() {
		name = "nope"
	}
	return dotted(pkg, name) + "(" + strings.Join(args, ", ") + ")"
}

func (m *progMaker) expr(isConst bool, room int) string {
	switch n := m.IntN(10); {
	case n < 2 || room <= 0:
		return strconv.Itoa(pick(m.source, []int{0, 1, 1, 2, 3, 7, 999999999999999999}))
	case n < 5:
		return m.named(isConst)
	case n < 7 && !isConst:
		return m.called(room)
	case n == 7:
		return pick(m.source, []string{"-", "!"}) + "(" + m.expr(isConst, room-1) + ")"
	}
	sign := pick(m.source, []string{"+", "-", "*", "+", "-", "*", "+", "-", "*", "==", "!=", "<", "<=", "/", "%"})
	right := m.expr(isConst, room-1)
	if (sign == "/" || sign == "%") && m.IntN(3) > 0 {
		right = "7"
	}
	return "(" + m.expr(isConst, room-1) + " " + sign + " " + right + ")"
}

func (m *progMaker) body(word string) string {
	out := word + " { "
	for range m.IntN(4) {
		stmt := "emit " + m.expr(false, 2)
		vars := slices.DeleteFunc(slices.Clone(m.things[m.pkg]), func(x oneThing) bool { return x.kind != impl.DVar })
		switch n := m.IntN(20); {
		case n == 0:
			stmt = "fail"
		case n < 3:
			stmt = "fail when " + m.expr(false, 1) + " == 1"
		case n < 12 && len(vars) > 0:
			stmt = "set " + pick(m.source, vars).name + " = " + m.expr(false, 2)
		}
		if m.IntN(3) == 0 && !strings.HasPrefix(stmt, "fail when") {
			stmt += " when " + m.expr(false, 1)
		}
		out += stmt + "; "
	}
	return out + "} "
}

func (m *progMaker) decl(at int) string {
	x := m.things[m.pkg][at]
	m.at, m.params = at, x.decl.Params
	defer func() { m.at, m.params = len(m.things[m.pkg]), nil }()
	switch x.kind {
	case impl.DConst:
		return "const " + x.name + " = " + m.expr(true, 3) + "; "
	case impl.DVar:
		return "var " + x.name + " = " + m.expr(false, 3) + "; "
	}
	if m.IntN(3) == 0 {
		m.at++
	}
	return "func " + x.name + "(" + strings.Join(x.decl.Params, ", ") + ") = " + m.expr(false, 3) + "; "
}

// texts: a package's files, its things in any order, in some of them.
func (m *progMaker) texts(pkg string) []string {
	m.pkg, m.at = pkg, len(m.things[pkg])
	var decls []string
	for at := range m.things[pkg] {
		decls = append(decls, m.decl(at))
	}
	for range m.IntN(3) {
		decls = append(decls, m.body("init"))
	}
	for range m.IntN(4) {
		decls = append(decls, m.body("stop"))
	}
	m.Shuffle(len(decls), func(i, k int) { decls[i], decls[k] = decls[k], decls[i] })
	cut := len(decls)
	if m.IntN(2) == 0 {
		cut = m.IntN(len(decls) + 1)
	}
	parts := [][]string{decls[:cut], decls[cut:]}
	if cut == len(decls) {
		parts = parts[:1]
	}
	names := pick(m.source, [][]string{{"a", "b"}, {"b", "B"}, {"f1", "é"}})
	var out []string
	for i, part := range parts {
		text := strings.Join(part, "")
		head := ""
		for _, other := range m.imports[pkg] {
			if i == 0 || strings.Contains(text, other+".") {
				head += "import " + other + "; "
			}
		}
		out = append(out, pkg+" "+names[i]+": "+head+text)
	}
	return out
}

// anyProgram: files of at most so many packages, with no fault of CheckProgram but circles of vars and divisions by zero in consts if wild is 0.
func anyProgram(t *testing.T, s source, most, wild int) []impl.File {
	t.Helper()
	m := &progMaker{source: s, wild: wild}
	m.declare(1 + s.IntN(most))
	var texts []string
	for _, pkg := range m.names {
		texts = append(texts, m.texts(pkg)...)
	}
	s.Shuffle(len(texts), func(i, k int) { texts[i], texts[k] = texts[k], texts[i] })
	return readProgram(t, texts...)
}
