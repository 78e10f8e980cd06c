package tests

import (
	"slices"
	"strconv"
	"strings"

	"loop.example/g00045/impl"
)

// tidy copies a file whole; its empty lists become nil, since both are one value.
func tidy(f impl.File) impl.File {
	f.Imports = tidyList(f.Imports)
	f.Decls = tidyList(f.Decls)
	for i := range f.Decls {
		d := &f.Decls[i]
		d.Names, d.Params, d.Roots, d.Body = tidyList(d.Names), tidyList(d.Params), tidyList(d.Roots), tidyList(d.Body)
	}
	f.Nodes = tidyList(f.Nodes)
	for i := range f.Nodes {
		f.Nodes[i].Kids = tidyList(f.Nodes[i].Kids)
	}
	return f
}

func tidyList[T any](list []T) []T { return append([]T(nil), list...) }

var (
	signOfKind = map[int]string{
		impl.NNeg: "-", impl.NNot: "!", impl.NAdd: "+", impl.NSub: "-", impl.NMul: "*", impl.NDiv: "/", impl.NRem: "%",
		impl.NEq: "==", impl.NNe: "!=", impl.NLt: "<", impl.NLe: "<=",
	}
	classOfKind = map[int]string{
		impl.NNum: "a", impl.NName: "a", impl.NCall: "a", impl.NNeg: "u", impl.NNot: "u", impl.NMul: "p", impl.NDiv: "p",
		impl.NRem: "p", impl.NAdd: "s", impl.NSub: "s", impl.NEq: "c", impl.NNe: "c", impl.NLt: "c", impl.NLe: "c",
	}
	// groupedParts: for each class, and each of its parts, the classes that stand there in parentheses.
	groupedParts = map[string][]string{"c": {"c", "c"}, "s": {"c", "cs"}, "p": {"cs", "csp"}, "u": {"csp"}, "a": {}}
	wordOfDecl   = map[int]string{impl.DConst: "const", impl.DVar: "var", impl.DFunc: "func", impl.DInit: "init", impl.DStop: "stop"}
	wordOfStmt   = map[int]string{impl.SSet: "set", impl.SEmit: "emit", impl.SFail: "fail"}
)

// isGrouped: of a call no part is.
func isGrouped(f impl.File, node impl.Node, part int) bool {
	parts := groupedParts[classOfKind[node.Kind]]
	return part < len(parts) && strings.Contains(parts[part], classOfKind[f.Nodes[node.Kids[part]].Kind])
}

func partLexemes(f impl.File, node impl.Node, part int) []string {
	inner := exprLexemes(f, node.Kids[part])
	if isGrouped(f, node, part) {
		return slices.Concat([]string{"("}, inner, []string{")"})
	}
	return inner
}

func exprLexemes(f impl.File, root int) []string {
	node := f.Nodes[root]
	name := []string{node.Name}
	if node.Pkg != "" {
		name = []string{node.Pkg, ".", node.Name}
	}
	switch class := classOfKind[node.Kind]; {
	case node.Kind == impl.NNum:
		return []string{strconv.Itoa(node.Num)}
	case node.Kind == impl.NName:
		return name
	case node.Kind == impl.NCall:
		return slices.Concat(name, []string{"("}, rowLexemes(f, node.Kids), []string{")"})
	case class == "u":
		return append([]string{signOfKind[node.Kind]}, partLexemes(f, node, 0)...)
	}
	return slices.Concat(partLexemes(f, node, 0), []string{signOfKind[node.Kind]}, partLexemes(f, node, 1))
}

func rowLexemes(f impl.File, roots []int) []string {
	var out []string
	for i, root := range roots {
		if i > 0 {
			out = append(out, ",")
		}
		out = append(out, exprLexemes(f, root)...)
	}
	return out
}

func namesLexemes(names []string) []string {
	var out []string
	for i, name := range names {
		if i > 0 {
			out = append(out, ",")
		}
		out = append(out, name)
	}
	return out
}

func stmtLexemes(f impl.File, s impl.Stmt) []string {
	out := []string{wordOfStmt[s.Kind]}
	if s.Kind == impl.SSet {
		out = append(out, s.Name, "=")
	}
	if s.Kind != impl.SFail {
		out = append(out, exprLexemes(f, s.Root)...)
	}
	if s.When != -1 {
		out = append(append(out, "when"), exprLexemes(f, s.When)...)
	}
	return append(out, ";")
}

func declLexemes(f impl.File, d impl.Decl) []string {
	out := append([]string{wordOfDecl[d.Kind]}, namesLexemes(d.Names)...)
	if d.Kind == impl.DInit || d.Kind == impl.DStop {
		out = append(out, "{")
		for _, s := range d.Body {
			out = append(out, stmtLexemes(f, s)...)
		}
		return append(out, "}")
	}
	if d.Kind == impl.DFunc {
		out = slices.Concat(out, []string{"("}, namesLexemes(d.Params), []string{")"})
	}
	return slices.Concat(out, []string{"="}, rowLexemes(f, d.Roots), []string{";"})
}

// fileLexemes: the lexemes of a right file's text, as few as can be.
func fileLexemes(f impl.File) []string {
	out := []string{"package", f.Package, ";"}
	for _, need := range f.Imports {
		out = append(out, "import", need.Name)
		switch {
		case need.Max != impl.MaxVersion:
			out = append(out, strconv.Itoa(need.Min), strconv.Itoa(need.Max))
		case need.Min != 1:
			out = append(out, strconv.Itoa(need.Min))
		}
		out = append(out, ";")
	}
	for _, d := range f.Decls {
		out = append(out, declLexemes(f, d)...)
	}
	return out
}

func isOperandEnd(lexeme string) bool {
	return lexeme == ")" || impl.NameOK(lexeme) || lexeme[0] >= '0' && lexeme[0] <= '9'
}

func isBinary(lexemes []string, at int) bool {
	return at > 0 && slices.Contains([]string{"+", "-", "*", "/", "%", "==", "!=", "<", "<="}, lexemes[at]) && isOperandEnd(lexemes[at-1])
}

// gapAhead: what stands between a lexeme and the one ahead of it.
func gapAhead(lexemes []string, at int, inBody bool) string {
	ahead, lexeme := lexemes[at-1], lexemes[at]
	switch {
	case ahead == "{" || ahead == "}" || ahead == ";":
		if inBody && lexeme != "}" {
			return "\n  "
		}
		return "\n"
	case ahead == ",", ahead == "=", lexeme == "=", lexeme == "{", lexeme == "when", isBinary(lexemes, at), isBinary(lexemes, at-1):
		return " "
	case lexeme == ";":
		return ""
	case slices.Contains(reservedWords, ahead):
		return " "
	case isOperandEnd(ahead) && ahead != ")" && isOperandEnd(lexeme) && lexeme != ")":
		return " "
	}
	return ""
}

// layout writes lexemes as FileText must.
func layout(lexemes []string) string {
	var out strings.Builder
	inBody := false
	for i, lexeme := range lexemes {
		if i > 0 {
			out.WriteString(gapAhead(lexemes, i, inBody))
		}
		out.WriteString(lexeme)
		inBody = lexeme == "{" || inBody && lexeme != "}"
	}
	return out.String() + "\n"
}

// deepest: how many groups, calls and unary signs are within each other.
func deepest(f impl.File, root int) int {
	node := f.Nodes[root]
	most := 0
	for part, kid := range node.Kids {
		depth := deepest(f, kid)
		if isGrouped(f, node, part) {
			depth++
		}
		most = max(most, depth)
	}
	if node.Kind == impl.NCall || classOfKind[node.Kind] == "u" {
		most++
	}
	return most
}

// nodeFits: its fields are those of its kind.
func nodeFits(node impl.Node) bool {
	named := impl.NameOK(node.Name) && (node.Pkg == "" || impl.NameOK(node.Pkg)) && node.Num == 0
	nameless := node.Name == "" && node.Pkg == "" && node.Num == 0
	switch classOfKind[node.Kind] {
	case "a":
		switch node.Kind {
		case impl.NNum:
			return node.Name == "" && node.Pkg == "" && node.Num >= 0 && node.Num <= 999999999999999999 && len(node.Kids) == 0
		case impl.NName:
			return named && len(node.Kids) == 0
		}
		return named
	case "u":
		return nameless && len(node.Kids) == 1
	case "p", "s", "c":
		return nameless && len(node.Kids) == 2
	}
	return false
}

// firstNode: the first node of an expression, all of whose nodes stand in their order right ahead of its last one; -1 if they do not.
func firstNode(f impl.File, root int) int {
	if root < 0 || root >= len(f.Nodes) {
		return -1
	}
	first := root
	for i := len(f.Nodes[root].Kids) - 1; i >= 0; i-- {
		if f.Nodes[root].Kids[i] != first-1 {
			return -1
		}
		first = firstNode(f, first-1)
		if first < 0 {
			return -1
		}
	}
	return first
}

func declRoots(d impl.Decl) []int {
	roots := slices.Clone(d.Roots)
	for _, s := range d.Body {
		if s.Kind != impl.SFail {
			roots = append(roots, s.Root)
		}
		if s.When != -1 {
			roots = append(roots, s.When)
		}
	}
	return roots
}

func allNames(names []string, least, most int) bool {
	return len(names) >= least && len(names) <= most && !slices.ContainsFunc(names, func(name string) bool { return !impl.NameOK(name) })
}

func stmtFits(s impl.Stmt) bool {
	switch s.Kind {
	case impl.SSet:
		return impl.NameOK(s.Name)
	case impl.SEmit:
		return s.Name == ""
	}
	return s.Kind == impl.SFail && s.Name == "" && s.Root == -1
}

func declFits(d impl.Decl) bool {
	empty := len(d.Names) == 0 && len(d.Params) == 0 && len(d.Roots) == 0
	switch d.Kind {
	case impl.DConst:
		return allNames(d.Names, 1, 1) && len(d.Params) == 0 && len(d.Roots) == 1 && len(d.Body) == 0
	case impl.DVar:
		return allNames(d.Names, 1, 8) && len(d.Params) == 0 && len(d.Roots) == len(d.Names) && len(d.Body) == 0
	case impl.DFunc:
		return allNames(d.Names, 1, 1) && allNames(d.Params, 0, 8) && len(d.Roots) == 1 && len(d.Body) == 0
	case impl.DInit, impl.DStop:
		return empty && len(d.Body) <= 40 && !slices.ContainsFunc(d.Body, func(s impl.Stmt) bool { return !stmtFits(s) })
	}
	return false
}

// shapeFits: all but the depth, the number of lexemes and the length of the text.
func shapeFits(f impl.File) bool {
	if !impl.NameOK(f.Name) || !impl.NameOK(f.Package) || len(f.Imports) > 20 || len(f.Decls) > 200 || len(f.Nodes) > 2000 {
		return false
	}
	for _, need := range f.Imports {
		if !impl.NameOK(need.Name) || need.Min < 1 || need.Min > need.Max || need.Max > 999999 {
			return false
		}
	}
	if slices.ContainsFunc(f.Decls, func(d impl.Decl) bool { return !declFits(d) }) || slices.ContainsFunc(f.Nodes, func(n impl.Node) bool { return !nodeFits(n) }) {
		return false
	}
	next := 0
	for _, d := range f.Decls {
		for _, root := range declRoots(d) {
			if firstNode(f, root) != next {
				return false
			}
			next = root + 1
		}
	}
	return next == len(f.Nodes)
}

// wantText is FileText told by rules: what each kind may have, and a table of the parts that need parentheses.
func wantText(f impl.File) (string, int) {
	if !shapeFits(f) {
		return "", impl.ErrBad
	}
	for root := range f.Nodes {
		if deepest(f, root) > 20 {
			return "", impl.ErrBad
		}
	}
	lexemes := fileLexemes(f)
	text := layout(lexemes)
	if len(lexemes) > 20000 || len(text) > 65536 {
		return "", impl.ErrBad
	}
	return text, impl.OK
}
