package tests

import (
	"strconv"
	"strings"
	"testing"

	"loop.example/g00045/impl"
)

const millions = 2000000

// checkNone: no text is read as f.
func checkNone(t *testing.T, what string, f impl.File) {
	t.Helper()
	if impl.FileOK(f) {
		t.Errorf("%s: FileOK", what)
	}
	if text, code := impl.FileText(f); text != "" || code != impl.ErrBad {
		t.Errorf("%s: FileText of %d bytes, code %d", what, len(text), code)
	}
	for _, root := range []int{-1, 0, 1, len(f.Nodes) / 2, len(f.Nodes) - 1, len(f.Nodes)} {
		if text, code := impl.ExprText(f, root); text != "" || code != impl.ErrBad {
			t.Errorf("%s: ExprText of %d has %d bytes, code %d", what, root, len(text), code)
		}
	}
}

// chain: a const's nodes, the first one a number, in each other one the node ahead of it is the part of that number.
func chain(count, parts, part int, each func(i int) impl.Node) impl.File {
	kids := make([]int, parts*count)
	f := emptyFile()
	f.Nodes = make([]impl.Node, count)
	f.Nodes[0] = numberNode(1)
	for i := 1; i < count; i++ {
		own := kids[parts*i : parts*i+parts]
		own[part] = i - 1
		f.Nodes[i] = each(i)
		f.Nodes[i].Kids = own
	}
	f.Decls = []impl.Decl{{Kind: impl.DConst, Names: []string{"c"}, Roots: []int{count - 1}}}
	return f
}

func ofKind(kind int) func(int) impl.Node {
	return func(int) impl.Node {
		if kind == impl.NCall {
			return impl.Node{Kind: kind, Name: "f"}
		}
		return impl.Node{Kind: kind}
	}
}

// P1: each sign's first part, and its second one, is the same sign again, a million times over.
func TestFileOKOfManySignsInARow(t *testing.T) {
	for kind := impl.NAdd; kind <= impl.NLe; kind++ {
		for part := range 2 {
			what := signOfKind[kind] + " with part " + strconv.Itoa(part)
			checkNone(t, what, chain(millions, 2, part, ofKind(kind)))
		}
	}
	mixed := chain(millions, 2, 0, func(i int) impl.Node { return impl.Node{Kind: impl.NAdd + i%9} })
	checkNone(t, "all of them", mixed)
}

func TestFileOKOfManyCallsAndSignsWithinEachOther(t *testing.T) {
	for _, kind := range []int{impl.NNeg, impl.NNot, impl.NCall} {
		checkNone(t, "kind "+strconv.Itoa(kind), chain(millions, 1, 0, ofKind(kind)))
	}
	kinds := []int{impl.NNeg, impl.NCall, impl.NNot}
	checkNone(t, "calls and signs", chain(millions, 1, 0, func(i int) impl.Node { return ofKind(kinds[i%3])(i) }))
	for part := range 3 {
		checkNone(t, "calls with argument "+strconv.Itoa(part), chain(millions, 3, part, ofKind(impl.NCall)))
	}
}

// As many nodes as a file may have, each deeper than the one ahead of it.
func TestFileOKOfDeepNodesWithinTheBound(t *testing.T) {
	for _, kind := range []int{impl.NNeg, impl.NNot, impl.NCall} {
		for _, count := range []int{22, 100, impl.MaxNodes, impl.MaxNodes + 1} {
			checkNone(t, "kind "+strconv.Itoa(kind), chain(count, 1, 0, ofKind(kind)))
		}
		checkIs(t, "20 of kind "+strconv.Itoa(kind), chain(21, 1, 0, ofKind(kind)), true)
	}
	for kind := impl.NAdd; kind <= impl.NLe; kind++ {
		// Each second part is node 0: no text has one node twice.
		checkNone(t, signOfKind[kind], chain(impl.MaxNodes, 2, 0, ofKind(kind)))
		checkNone(t, signOfKind[kind], chain(impl.MaxNodes, 2, 1, ofKind(kind)))
	}
}

// The same lists where no declaration leads to them.
func TestFileOKOfManyIdleNodes(t *testing.T) {
	for _, kind := range []int{impl.NNum, impl.NName, impl.NCall, impl.NNeg, impl.NAdd, impl.NLe, 0, 99} {
		f := emptyFile()
		f.Nodes = repeated(millions, impl.Node{Kind: kind})
		checkNone(t, "idle nodes", f)
		f = checkRead(t, "package p; const c = 1;")
		f.Nodes = append(f.Nodes, repeated(millions, impl.Node{Kind: kind})...)
		checkNone(t, "nodes behind those of a const", f)
	}
}

// fullText: a file with each kind of declaration, statement and node.
const fullText = "package p; import q 2 3; const c = 1; var a, b = x, -y; func f(a) = q.g(a + 1, h()); init { set a = 1 when 2; emit 3; fail; } stop { emit !a < b; }"

func withList(t *testing.T, turn func(f *impl.File)) impl.File {
	t.Helper()
	f := tidy(checkRead(t, fullText))
	turn(&f)
	return f
}

func TestFileOKOfManyImportsAndDecls(t *testing.T) {
	for _, need := range []impl.Import{{}, {Name: "q", Min: 1, Max: impl.MaxVersion}, {Name: "q", Min: 2, Max: 3}} {
		checkNone(t, "imports", withList(t, func(f *impl.File) { f.Imports = repeated(millions, need) }))
	}
	for kind := range 7 {
		for _, d := range []impl.Decl{{Kind: kind}, {Kind: kind, Names: []string{"a"}, Roots: []int{0}}, {Kind: kind, Body: []impl.Stmt{{Kind: impl.SFail, Root: -1, When: -1}}}} {
			checkNone(t, "declarations of kind "+strconv.Itoa(kind), withList(t, func(f *impl.File) { f.Decls = repeated(millions, d) }))
		}
	}
}

func TestFileOKOfManyWithinADecl(t *testing.T) {
	base := checkRead(t, fullText)
	stmts := []impl.Stmt{{}, {Kind: impl.SFail, Root: -1, When: -1}, {Kind: impl.SEmit, Root: 0, When: -1}, {Kind: impl.SSet, Name: "a", Root: 0, When: 0}}
	for i := range base.Decls {
		what := " of declaration " + strconv.Itoa(i)
		for _, name := range []string{"", "n"} {
			checkNone(t, "names"+what, withList(t, func(f *impl.File) { f.Decls[i].Names = repeated(millions, name) }))
			checkNone(t, "parameters"+what, withList(t, func(f *impl.File) { f.Decls[i].Params = repeated(millions, name) }))
			checkNone(t, "names and roots"+what, withList(t, func(f *impl.File) {
				f.Decls[i].Names, f.Decls[i].Roots = repeated(millions, name), make([]int, millions)
			}))
		}
		for _, root := range []int{0, -1, 7, millions} {
			checkNone(t, "roots"+what, withList(t, func(f *impl.File) { f.Decls[i].Roots = repeated(millions, root) }))
		}
		for _, stmt := range stmts {
			checkNone(t, "statements"+what, withList(t, func(f *impl.File) { f.Decls[i].Body = repeated(millions, stmt) }))
		}
	}
}

func TestFileOKOfManyKids(t *testing.T) {
	base := checkRead(t, fullText)
	for i := range base.Nodes {
		for _, kid := range []int{0, i - 1, i, i + 1, -1, millions} {
			checkNone(t, "kids of node "+strconv.Itoa(i), withList(t, func(f *impl.File) { f.Nodes[i].Kids = repeated(millions, kid) }))
		}
	}
	// Each node has all nodes ahead of it as its arguments, many times over.
	f := emptyFile()
	for i := range impl.MaxNodes {
		f.Nodes = append(f.Nodes, impl.Node{Kind: impl.NCall, Name: "f"})
		for k := range min(i*4, 2000) {
			f.Nodes[i].Kids = append(f.Nodes[i].Kids, k%i)
		}
	}
	f.Decls = []impl.Decl{{Kind: impl.DConst, Names: []string{"c"}, Roots: []int{impl.MaxNodes - 1}}}
	checkNone(t, "kids of all nodes", f)
}

// nameTurns: each place of a file where a name stands.
func nameTurns(base impl.File, name string) map[string]func(*impl.File) {
	out := map[string]func(*impl.File){
		"file":    func(f *impl.File) { f.Name = name },
		"package": func(f *impl.File) { f.Package = name },
		"import":  func(f *impl.File) { f.Imports[0].Name = name },
		"params":  func(f *impl.File) { f.Decls[2].Params[0] = name },
	}
	for i, d := range base.Decls {
		for k := range d.Names {
			out["decl "+strconv.Itoa(i)+" "+strconv.Itoa(k)] = func(f *impl.File) { f.Decls[i].Names[k] = name }
		}
		for k := range d.Body {
			out["stmt "+strconv.Itoa(i)+" "+strconv.Itoa(k)] = func(f *impl.File) { f.Decls[i].Body[k].Name = name }
		}
	}
	for i := range base.Nodes {
		out["node "+strconv.Itoa(i)] = func(f *impl.File) { f.Nodes[i].Name = name }
		out["pkg "+strconv.Itoa(i)] = func(f *impl.File) { f.Nodes[i].Pkg = name }
	}
	return out
}

func TestFileOKOfNamesOfManyBytes(t *testing.T) {
	base := checkRead(t, fullText)
	for _, name := range []string{strings.Repeat("n", 20*millions), strings.Repeat("ж", 5*millions), strings.Repeat(" ", 5*millions) + "a", "a" + strings.Repeat("\n", 5*millions), strings.Repeat("\xff", 5*millions), "a//" + strings.Repeat("-", 5*millions)} {
		for what, turn := range nameTurns(base, name) {
			checkNone(t, what, withList(t, turn))
		}
	}
}

func TestReadFileOfManyBytes(t *testing.T) {
	name, text := strings.Repeat("n", 20*millions), strings.Repeat("(", 20*millions)
	for _, c := range [][2]string{{name, "package p;"}, {"one", text}, {name, text}, {"one", "package p; const c = " + text}, {"one", "package p;" + strings.Repeat("import q;", millions)}, {"one", "package p; const c = 1" + strings.Repeat("+1", millions) + ";"}} {
		if f, code, at := impl.ReadFile(c[0], c[1]); code != impl.ErrLong || at != 0 || f.Name != "" || f.Decls != nil {
			t.Errorf("name of %d bytes, text of %d: code %d at %d", len(c[0]), len(c[1]), code, at)
		}
	}
}
