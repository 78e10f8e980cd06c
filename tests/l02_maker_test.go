package tests

import (
	"slices"
	"strconv"
	"strings"

	"loop.example/g00045/impl"
)

// fileMaker makes a file and, by the grammar, lexemes that must be read as it; no reader has a part in that.
type fileMaker struct {
	source
	names   []string
	file    impl.File
	lexemes []string
}

// goNames are names in Go's own grammar too.
var goNames = []string{"a", "b", "c1", "_", "_9", "ж", "Ωx", "Packages", "Init", "whens", "é", strings.Repeat("n", 40), strings.Repeat("ß", 20)}

var anyNames = append([]string{"if", "for", "go", "type", "end", "package_", "ok"}, goNames...)

var someNumbers = []int{0, 1, 2, 9, 10, 999999, 1000000, 123456789012345678, 999999999999999999}

func newMaker(s source, names []string) *fileMaker {
	return &fileMaker{source: s, names: names}
}

func (m *fileMaker) put(lexemes ...string) { m.lexemes = append(m.lexemes, lexemes...) }

func (m *fileMaker) name() string {
	name := pick(m.source, m.names)
	m.put(name)
	return name
}

func (m *fileMaker) add(node impl.Node) int {
	m.file.Nodes = append(m.file.Nodes, node)
	return len(m.file.Nodes) - 1
}

func (m *fileMaker) expr(room int) int {
	left := m.sum(room)
	if m.IntN(3) > 0 {
		return left
	}
	kind := pick(m.source, []int{impl.NEq, impl.NNe, impl.NLt, impl.NLe})
	m.put(signOfKind[kind])
	return m.add(impl.Node{Kind: kind, Kids: []int{left, m.sum(room)}})
}

func (m *fileMaker) sum(room int) int {
	left := m.prod(room)
	for m.IntN(3) == 0 {
		kind := pick(m.source, []int{impl.NAdd, impl.NSub})
		m.put(signOfKind[kind])
		left = m.add(impl.Node{Kind: kind, Kids: []int{left, m.prod(room)}})
	}
	return left
}

func (m *fileMaker) prod(room int) int {
	left := m.unary(room)
	for m.IntN(4) == 0 {
		kind := pick(m.source, []int{impl.NMul, impl.NDiv, impl.NRem})
		m.put(signOfKind[kind])
		left = m.add(impl.Node{Kind: kind, Kids: []int{left, m.unary(room)}})
	}
	return left
}

func (m *fileMaker) unary(room int) int {
	if room == 0 || m.IntN(4) > 0 {
		return m.atom(room)
	}
	kind := pick(m.source, []int{impl.NNeg, impl.NNot})
	m.put(signOfKind[kind])
	kid := m.unary(room - 1)
	return m.add(impl.Node{Kind: kind, Kids: []int{kid}})
}

func (m *fileMaker) atom(room int) int {
	switch m.IntN(4) {
	case 0:
		number := pick(m.source, someNumbers)
		m.put(strconv.Itoa(number))
		return m.add(impl.Node{Kind: impl.NNum, Num: number})
	case 1:
		if room > 0 {
			m.put("(")
			inner := m.expr(room - 1)
			m.put(")")
			return inner
		}
	}
	node := impl.Node{Kind: impl.NName, Name: m.name()}
	if m.IntN(3) == 0 {
		m.put(".")
		node.Pkg, node.Name = node.Name, m.name()
	}
	if room > 0 && m.IntN(3) == 0 {
		node.Kind = impl.NCall
		m.put("(")
		node.Kids = m.row(m.IntN(4), room-1)
		m.put(")")
	}
	return m.add(node)
}

func (m *fileMaker) row(count, room int) []int {
	var roots []int
	for i := range count {
		if i > 0 {
			m.put(",")
		}
		roots = append(roots, m.expr(room))
	}
	return roots
}

func (m *fileMaker) nameRow(count int) []string {
	var names []string
	for i := range count {
		if i > 0 {
			m.put(",")
		}
		names = append(names, m.name())
	}
	return names
}

func (m *fileMaker) imported() {
	m.put("import")
	need := impl.Import{Name: m.name(), Min: 1, Max: impl.MaxVersion}
	form := m.IntN(3)
	if form > 0 {
		need.Min = pick(m.source, []int{1, 2, 7, 999998, 999999})
		m.put(strconv.Itoa(need.Min))
	}
	if form > 1 {
		need.Max = need.Min + m.IntN(impl.MaxVersion-need.Min+1)
		m.put(strconv.Itoa(need.Max))
	}
	m.put(";")
	m.file.Imports = append(m.file.Imports, need)
}

func (m *fileMaker) stmt(room int) impl.Stmt {
	s := impl.Stmt{Kind: 1 + m.IntN(3), Root: -1, When: -1}
	m.put(wordOfStmt[s.Kind])
	if s.Kind == impl.SSet {
		s.Name = m.name()
		m.put("=")
	}
	if s.Kind != impl.SFail {
		s.Root = m.expr(room)
	}
	if m.IntN(2) == 0 {
		m.put("when")
		s.When = m.expr(room)
	}
	m.put(";")
	return s
}

func (m *fileMaker) decl(room int) {
	d := impl.Decl{Kind: 1 + m.IntN(5)}
	m.put(wordOfDecl[d.Kind])
	switch d.Kind {
	case impl.DInit, impl.DStop:
		m.put("{")
		for range m.IntN(4) {
			d.Body = append(d.Body, m.stmt(room))
		}
		m.put("}")
		m.file.Decls = append(m.file.Decls, d)
		return
	case impl.DVar:
		d.Names = m.nameRow(1 + m.IntN(3))
	case impl.DConst:
		d.Names = m.nameRow(1)
	case impl.DFunc:
		d.Names = m.nameRow(1)
		m.put("(")
		d.Params = m.nameRow(m.IntN(4))
		m.put(")")
	}
	m.put("=")
	d.Roots = m.row(len(d.Names), room)
	m.put(";")
	m.file.Decls = append(m.file.Decls, d)
}

// anyFile: a file and lexemes of it, with more parentheses and import numbers than it needs.
func anyFile(s source, names []string) (impl.File, []string) {
	m := newMaker(s, names)
	m.file.Name = pick(s, names)
	m.put("package")
	m.file.Package = m.name()
	m.put(";")
	for range s.IntN(3) {
		m.imported()
	}
	for range s.IntN(5) {
		m.decl(s.IntN(4))
	}
	return m.file, m.lexemes
}

func isWordy(lexeme string) bool {
	return slices.Contains(reservedWords, lexeme) || lexeme != ")" && isOperandEnd(lexeme)
}

// spread writes lexemes with any blanks, line ends and remarks between, and none where none is needed.
func spread(s source, lexemes []string) string {
	gaps := []string{"", "", "", " ", "\t", "\n", "\r\n", "  \n\t ", " // a remark, ж; \"\n", " //\n", "\n//// + 1;\n\n"}
	var out strings.Builder
	for i, lexeme := range lexemes {
		gap := pick(s, gaps)
		if gap == "" && i > 0 && isWordy(lexemes[i-1]) && isWordy(lexeme) {
			gap = " "
		}
		out.WriteString(gap)
		out.WriteString(lexeme)
	}
	return out.String() + pick(s, append(gaps, " // no line end"))
}
