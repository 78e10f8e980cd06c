package tests

import (
	"reflect"
	"slices"
	"strings"
	"testing"

	"loop.example/g00045/impl"
)

// emptyFile: a right file without anything.
func emptyFile() impl.File { return impl.File{Name: "one", Package: "p"} }

func withConst(f impl.File, nodes ...impl.Node) impl.File {
	f.Nodes = append(slices.Clone(f.Nodes), nodes...)
	f.Decls = append(slices.Clone(f.Decls), impl.Decl{Kind: impl.DConst, Names: []string{"c"}, Roots: []int{len(f.Nodes) - 1}})
	return f
}

func checkIs(t *testing.T, what string, f impl.File, right bool) {
	t.Helper()
	if checkRight(t, f) != right {
		t.Errorf("%s: FileOK is not %t", what, right)
	}
}

func repeated[T any](n int, each T) []T { return slices.Repeat([]T{each}, n) }

func TestFileOKAtEachBound(t *testing.T) {
	checkIs(t, "nothing", impl.File{}, false)
	checkIs(t, "empty", emptyFile(), true)
	for extra := range 2 {
		right := extra == 0
		f := emptyFile()
		f.Imports = repeated(20+extra, impl.Import{Name: "q", Min: 1, Max: 999999})
		checkIs(t, "imports", f, right)
		f = emptyFile()
		f.Decls = repeated(200+extra, impl.Decl{Kind: impl.DStop})
		checkIs(t, "declarations", f, right)
		for _, kind := range []int{impl.DInit, impl.DStop} {
			f = emptyFile()
			f.Decls = []impl.Decl{{Kind: kind, Body: repeated(40+extra, impl.Stmt{Kind: impl.SFail, Root: -1, When: -1})}}
			checkIs(t, "statements", f, right)
		}
		f = emptyFile()
		f.Nodes = repeated(8+extra, numberNode(1))
		roots := []int{0, 1, 2, 3, 4, 5, 6, 7, 8}
		f.Decls = []impl.Decl{{Kind: impl.DVar, Names: repeated(8+extra, "a"), Roots: roots[:8+extra]}}
		checkIs(t, "names", f, right)
		f = withConst(emptyFile(), numberNode(1))
		f.Decls[0].Kind, f.Decls[0].Params = impl.DFunc, repeated(8+extra, "a")
		checkIs(t, "parameters", f, right)
		f = withConst(emptyFile(), numberNode(999999999999999999+extra))
		checkIs(t, "a number", f, right)
		f = withConst(emptyFile(), nameNode(strings.Repeat("n", 40+extra)))
		checkIs(t, "a name", f, right)
	}
}

func TestFileOKHowManyNodes(t *testing.T) {
	for _, count := range []int{1999, 2000, 2001, 2002} {
		f := withConst(emptyFile(), numberNode(0))
		for len(f.Nodes)+2 <= count {
			f.Nodes = append(f.Nodes, numberNode(1), operationNode(impl.NAdd, len(f.Nodes)-1, len(f.Nodes)))
		}
		f.Decls[0].Roots[0] = len(f.Nodes) - 1
		if len(f.Nodes) < count {
			f = withConst(f, numberNode(2))
		}
		checkIs(t, "nodes", f, count <= 2000)
	}
}

func TestFileOKHowDeep(t *testing.T) {
	wraps := map[string][2]string{"groups": {"1 - (", ")"}, "more groups": {"(", ") < 1"}, "calls": {"f(", ")"}, "calls of a package": {"q.f(1, ", ")"}, "signs": {"-", ""}, "other signs": {"!", ""}}
	for what, wrap := range wraps {
		for _, depth := range []int{19, 20} {
			inner := "a"
			if what == "groups" || what == "more groups" {
				inner = "(a < b)"
				depth--
			}
			f := checkRead(t, "package p; const c = "+strings.Repeat(wrap[0], depth)+inner+strings.Repeat(wrap[1], depth)+";")
			checkIs(t, what, f, true)
		}
	}
	// One deeper than any text can be: a right file's root within one more.
	fits := checkRead(t, "package p; const c = "+strings.Repeat("-", 20)+"a;")
	for _, node := range []impl.Node{operationNode(impl.NNeg, 20), operationNode(impl.NNot, 20), {Kind: impl.NCall, Name: "f", Kids: []int{20}}} {
		f := tidy(fits)
		f.Nodes = append(f.Nodes, node)
		f.Decls[0].Roots[0] = 21
		checkIs(t, "too deep", f, false)
	}
	group := checkRead(t, "package p; const c = a * "+strings.Repeat("-", 19)+"(a * b);")
	checkIs(t, "a group within signs", group, true)
	f := tidy(group)
	f.Nodes = slices.Insert(f.Nodes, 4, operationNode(impl.NNeg, 3))
	for i := 5; i < len(f.Nodes); i++ {
		for k := range f.Nodes[i].Kids {
			if f.Nodes[i].Kids[k] >= 3 {
				f.Nodes[i].Kids[k]++
			}
		}
	}
	f.Decls[0].Roots[0]++
	checkIs(t, "a group within one sign more", f, false)
}

// A text may hold more parentheses than FileText writes: what is too deep with them is right without.
func TestFileOKAsksForTheFewestParentheses(t *testing.T) {
	checkFault(t, "package p; const c = "+strings.Repeat("(", 20)+"@(1"+strings.Repeat(")", 21)+";", impl.ErrDeep)
	f := checkRead(t, "package p; const c = "+strings.Repeat("(", 20)+"1"+strings.Repeat(")", 20)+";")
	checkIs(t, "a number in groups", f, true)
}

// bodies: a file with so many statements fail, 40 a body, behind so many that emit a call, and a number of empty bodies.
func bodies(calls, fails, empty int) impl.File {
	f := emptyFile()
	var stmts []impl.Stmt
	for i := range calls {
		f.Nodes = append(f.Nodes, impl.Node{Kind: impl.NCall, Pkg: "p", Name: "f"})
		stmts = append(stmts, impl.Stmt{Kind: impl.SEmit, Root: i, When: -1})
	}
	stmts = append(stmts, repeated(fails, impl.Stmt{Kind: impl.SFail, Root: -1, When: -1})...)
	for part := range slices.Chunk(stmts, 40) {
		f.Decls = append(f.Decls, impl.Decl{Kind: impl.DInit, Body: slices.Clone(part)})
	}
	f.Decls = append(f.Decls, repeated(empty, impl.Decl{Kind: impl.DStop})...)
	return f
}

func TestFileOKHowManyLexemes(t *testing.T) {
	fits := bodies(2000, 2811, 4)
	over := bodies(2000, 2810, 5)
	if got := len(fileLexemes(fits)); got != impl.MaxTokens {
		t.Fatalf("%d lexemes", got)
	}
	if got := len(fileLexemes(over)); got != impl.MaxTokens+1 {
		t.Fatalf("%d lexemes", got)
	}
	checkIs(t, "MaxTokens lexemes", fits, true)
	checkIs(t, "one lexeme more", over, false)
	text := layout(fileLexemes(over))
	if _, code, at := impl.ReadFile("one", text); len(text) > impl.MaxText || code != impl.ErrMany || at != len(text)-2 {
		t.Errorf("a text of one lexeme more: code %d at %d", code, at)
	}
}

func TestFileOKHowLong(t *testing.T) {
	for extra := range 3 {
		f := bodies(1300, 0, 0)
		for i := range f.Nodes {
			f.Nodes[i].Pkg, f.Nodes[i].Name = strings.Repeat("p", 20), strings.Repeat("f", 14)
		}
		missing := impl.MaxText - 1 + extra - len(layout(fileLexemes(f)))
		for i := 0; missing > 0; i++ {
			more := min(missing, 20)
			f.Nodes[i].Name += strings.Repeat("g", more)
			missing -= more
		}
		if got := len(layout(fileLexemes(f))); got != impl.MaxText-1+extra {
			t.Fatalf("%d bytes", got)
		}
		checkIs(t, "length", f, extra < 2)
	}
}

// A short text can be read as a file whose FileText would be too long: then it is read, and is none that FileOK takes.
func TestFileOKOfWhatWasReadFromAShorterText(t *testing.T) {
	text := "package p;" + strings.Repeat("init{"+strings.Repeat("fail;", 40)+"}", 200)
	f := checkRead(t, text)
	if len(f.Decls) != 200 || len(text) > impl.MaxText {
		t.Fatalf("%d declarations", len(f.Decls))
	}
	checkIs(t, "a FileText of too many bytes", f, false)
	f.Decls = f.Decls[:199]
	checkIs(t, "one body fewer", f, true)
}

// Files that no text is read as, of any make: no panic, no end that does not come.
func TestFileOKOfHostileFiles(t *testing.T) {
	circle := withConst(emptyFile(), operationNode(impl.NNeg, 0))
	doubled := emptyFile()
	doubled.Nodes = []impl.Node{nameNode("")}
	for i := range 100 {
		doubled.Nodes = append(doubled.Nodes, operationNode(impl.NAdd, i, i))
	}
	doubled.Decls = []impl.Decl{{Kind: impl.DVar, Names: []string{"a"}, Roots: []int{100}}}
	row := withConst(emptyFile(), numberNode(1))
	for i := range 200000 {
		row.Nodes = append(row.Nodes, operationNode(impl.NNot, i))
	}
	row.Decls[0].Roots[0] = 200000
	wide := withConst(emptyFile(), numberNode(1), impl.Node{Kind: impl.NCall, Name: "f", Kids: make([]int, 3000000)})
	idle := withConst(emptyFile(), numberNode(1))
	idle.Nodes = append(idle.Nodes, make([]impl.Node, 1000000)...)
	named := withConst(emptyFile(), nameNode(strings.Repeat("n", 5000000)))
	pkg := withConst(emptyFile(), impl.Node{Kind: impl.NName, Pkg: strings.Repeat("n", 5000000), Name: "a"})
	file, pack := emptyFile(), emptyFile()
	file.Name, pack.Package = strings.Repeat("n", 5000000), strings.Repeat("n", 5000000)
	decls, needs, names, params, body, roots := emptyFile(), emptyFile(), withConst(emptyFile(), numberNode(1)), withConst(emptyFile(), numberNode(1)), emptyFile(), withConst(emptyFile(), numberNode(1))
	decls.Decls = repeated(1000000, impl.Decl{Kind: impl.DInit})
	needs.Imports = repeated(1000000, impl.Import{Name: "q", Min: 1, Max: 1})
	names.Decls[0].Names = make([]string, 1000000)
	params.Decls[0].Kind, params.Decls[0].Params = impl.DFunc, make([]string, 1000000)
	body.Decls = []impl.Decl{{Kind: impl.DInit, Body: repeated(1000000, impl.Stmt{Kind: impl.SFail, Root: -1, When: -1})}}
	roots.Decls[0].Roots = make([]int, 1000000)
	unused := withConst(emptyFile(), impl.Node{Kind: impl.NName, Name: "a", Kids: make([]int, 3000000)})
	for what, f := range map[string]impl.File{"circle": circle, "doubled": doubled, "row": row, "wide": wide, "idle": idle, "named": named, "pkg": pkg, "file": file, "pack": pack,
		"decls": decls, "needs": needs, "names": names, "params": params, "body": body, "roots": roots, "unused": unused} {
		if impl.FileOK(f) {
			t.Errorf("%s: FileOK", what)
		}
		if text, code := impl.FileText(f); text != "" || code != impl.ErrBad {
			t.Errorf("%s: FileText %.50q, code %d", what, text, code)
		}
		if text, code := impl.ExprText(f, 0); text != "" || code != impl.ErrBad {
			t.Errorf("%s: ExprText %.50q, code %d", what, text, code)
		}
	}
}

// Each field that a kind does not use, set.
func TestFileOKOfUnusedFields(t *testing.T) {
	const text = "package p; import q 2 3; const c = 1; var a, b = x, -y; func f(a) = q.g(a + 1); init { set a = 1 when 2; emit 3; fail; } stop { }"
	base := checkRead(t, text)
	checkIs(t, "as it was read", base, true)
	for i := range base.Nodes {
		for _, turn := range []func(*impl.Node){func(n *impl.Node) { n.Num = 1 }, func(n *impl.Node) { n.Pkg = "q" }, func(n *impl.Node) { n.Name = "a" }, func(n *impl.Node) { n.Kids = append(n.Kids, 0) }} {
			f := tidy(base)
			turn(&f.Nodes[i])
			checkRight(t, f)
		}
	}
	for i := range base.Decls {
		for _, turn := range []func(*impl.Decl){func(d *impl.Decl) { d.Names = append(d.Names, "z") }, func(d *impl.Decl) { d.Params = append(d.Params, "z") }, func(d *impl.Decl) { d.Roots = append(d.Roots, 0) },
			func(d *impl.Decl) { d.Body = append(d.Body, impl.Stmt{Kind: impl.SFail, Root: -1, When: -1}) }} {
			f := tidy(base)
			turn(&f.Decls[i])
			right := checkRight(t, f)
			if isBody := f.Decls[i].Kind >= impl.DInit; right && !isBody && f.Decls[i].Kind != impl.DFunc {
				t.Errorf("declaration %d: %v", i, f.Decls[i])
			}
		}
	}
	for _, s := range []impl.Stmt{{Kind: impl.SFail, Root: 0, When: -1}, {Kind: impl.SFail, When: -1}, {Kind: impl.SFail, Root: -1}, {Kind: impl.SFail, Root: -1, When: -2}, {Kind: impl.SFail, Root: -2, When: -1}, {Kind: impl.SFail, Name: "a", Root: -1, When: -1},
		{Kind: impl.SEmit, Root: -1, When: -1}, {Kind: 0, Root: -1, When: -1}, {Kind: 4, Root: -1, When: -1}, {Kind: -1, Root: -1, When: -1}} {
		f := tidy(base)
		f.Decls[4].Body = []impl.Stmt{s}
		checkIs(t, "a statement", f, false)
	}
}

// A file that was read is right, and its lists may be nil or empty.
func TestFileOKOfEmptyLists(t *testing.T) {
	f := checkRead(t, "package p; const c = 1 + f(); init { }")
	g := tidy(f)
	g.Imports = []impl.Import{}
	for i := range g.Decls {
		d := &g.Decls[i]
		if d.Names == nil {
			d.Names = []string{}
		}
		if d.Roots == nil {
			d.Roots = []int{}
		}
		if d.Body == nil {
			d.Body = []impl.Stmt{}
		}
		d.Params = []string{}
	}
	for i := range g.Nodes {
		if g.Nodes[i].Kids == nil {
			g.Nodes[i].Kids = []int{}
		}
	}
	first, code := impl.FileText(f)
	second, again := impl.FileText(g)
	if code != impl.OK || again != impl.OK || first != second || !reflect.DeepEqual(tidy(g), tidy(f)) {
		t.Errorf("%q, code %d; %q, code %d", first, code, second, again)
	}
}
