package tests

import (
	"reflect"
	"slices"
	"strings"
	"testing"
	"unsafe"

	"loop.example/g00045/impl"
)

func checkFile(t *testing.T, text string, want impl.File) {
	t.Helper()
	f := checkRead(t, text)
	if !reflect.DeepEqual(tidy(f), tidy(want)) {
		t.Errorf("%q:\n%v, not\n%v", text, f, want)
	}
}

func nameNode(text string) impl.Node { return impl.Node{Kind: impl.NName, Name: text} }

func numberNode(value int) impl.Node { return impl.Node{Kind: impl.NNum, Num: value} }

func operationNode(kind int, kids ...int) impl.Node { return impl.Node{Kind: kind, Kids: kids} }

// Each form of the grammar, field by field.
func TestReadFileForms(t *testing.T) {
	checkFile(t, "package p;", impl.File{Name: "one", Package: "p"})
	checkFile(t, "package p; import q; import q 7; import q 7 9; import q 1 1;", impl.File{Name: "one", Package: "p",
		Imports: []impl.Import{{Name: "q", Min: 1, Max: 999999}, {Name: "q", Min: 7, Max: 999999}, {Name: "q", Min: 7, Max: 9}, {Name: "q", Min: 1, Max: 1}}})
	checkFile(t, "package p; const a = 999999999999999999; const a = b; const c = q.d;", impl.File{Name: "one", Package: "p",
		Decls: []impl.Decl{{Kind: impl.DConst, Names: []string{"a"}, Roots: []int{0}}, {Kind: impl.DConst, Names: []string{"a"}, Roots: []int{1}}, {Kind: impl.DConst, Names: []string{"c"}, Roots: []int{2}}},
		Nodes: []impl.Node{numberNode(999999999999999999), nameNode("b"), {Kind: impl.NName, Pkg: "q", Name: "d"}}})
	checkFile(t, "package p; var a = 0; var x, y, z = 1 + 2, f(), ((a));", impl.File{Name: "one", Package: "p",
		Decls: []impl.Decl{{Kind: impl.DVar, Names: []string{"a"}, Roots: []int{0}}, {Kind: impl.DVar, Names: []string{"x", "y", "z"}, Roots: []int{3, 4, 5}}},
		Nodes: []impl.Node{numberNode(0), numberNode(1), numberNode(2), operationNode(impl.NAdd, 1, 2), {Kind: impl.NCall, Name: "f"}, nameNode("a")}})
	checkFile(t, "package p; func f() = 1; func g(a) = a; func h(a, b, c) = q.f(a, -b, g(c));", impl.File{Name: "one", Package: "p",
		Decls: []impl.Decl{{Kind: impl.DFunc, Names: []string{"f"}, Roots: []int{0}}, {Kind: impl.DFunc, Names: []string{"g"}, Params: []string{"a"}, Roots: []int{1}},
			{Kind: impl.DFunc, Names: []string{"h"}, Params: []string{"a", "b", "c"}, Roots: []int{7}}},
		Nodes: []impl.Node{numberNode(1), nameNode("a"), nameNode("a"), nameNode("b"), operationNode(impl.NNeg, 3), nameNode("c"), {Kind: impl.NCall, Name: "g", Kids: []int{5}}, {Kind: impl.NCall, Pkg: "q", Name: "f", Kids: []int{2, 4, 6}}}})
}

func TestReadFileBodies(t *testing.T) {
	checkFile(t, "package p; init { } stop { } init { fail; } stop { emit 1; set a = 2; }", impl.File{Name: "one", Package: "p",
		Decls: []impl.Decl{{Kind: impl.DInit}, {Kind: impl.DStop}, {Kind: impl.DInit, Body: []impl.Stmt{{Kind: impl.SFail, Root: -1, When: -1}}},
			{Kind: impl.DStop, Body: []impl.Stmt{{Kind: impl.SEmit, Root: 0, When: -1}, {Kind: impl.SSet, Name: "a", Root: 1, When: -1}}}},
		Nodes: []impl.Node{numberNode(1), numberNode(2)}})
	checkFile(t, "package p; stop { set a = 1 when b; emit !c when d < e; fail when 2; emit 3; }", impl.File{Name: "one", Package: "p",
		Decls: []impl.Decl{{Kind: impl.DStop, Body: []impl.Stmt{{Kind: impl.SSet, Name: "a", Root: 0, When: 1}, {Kind: impl.SEmit, Root: 3, When: 6}, {Kind: impl.SFail, Root: -1, When: 7}, {Kind: impl.SEmit, Root: 8, When: -1}}}},
		Nodes: []impl.Node{numberNode(1), nameNode("b"), nameNode("c"), operationNode(impl.NNot, 2), nameNode("d"), nameNode("e"), operationNode(impl.NLt, 4, 5), numberNode(2), numberNode(3)}})
}

// Nodes stand in the order in which they end.
func TestReadFileNodes(t *testing.T) {
	checkFile(t, "package p; const c = 1 - 2 * 3 % 4 - -5 <= !(6 / 7);", impl.File{Name: "one", Package: "p", Decls: []impl.Decl{{Kind: impl.DConst, Names: []string{"c"}, Roots: []int{14}}},
		Nodes: []impl.Node{numberNode(1), numberNode(2), numberNode(3), operationNode(impl.NMul, 1, 2), numberNode(4), operationNode(impl.NRem, 3, 4), operationNode(impl.NSub, 0, 5), numberNode(5), operationNode(impl.NNeg, 7), operationNode(impl.NSub, 6, 8),
			numberNode(6), numberNode(7), operationNode(impl.NDiv, 10, 11), operationNode(impl.NNot, 12), operationNode(impl.NLe, 9, 13)}})
	checkFile(t, "package p; const c = (1 == 2) != (3 + (4 + 5));", impl.File{Name: "one", Package: "p", Decls: []impl.Decl{{Kind: impl.DConst, Names: []string{"c"}, Roots: []int{8}}},
		Nodes: []impl.Node{numberNode(1), numberNode(2), operationNode(impl.NEq, 0, 1), numberNode(3), numberNode(4), numberNode(5), operationNode(impl.NAdd, 4, 5), operationNode(impl.NAdd, 3, 6), operationNode(impl.NNe, 2, 7)}})
}

// checkThrough: all that P3 says of one file and lexemes that must be read as it.
func checkThrough(t *testing.T, s source, f impl.File, lexemes []string) {
	t.Helper()
	text, code := impl.FileText(f)
	want, wantCode := wantText(f)
	if code != wantCode || text != want || code != impl.OK || !impl.FileOK(f) {
		t.Fatalf("FileText %q, code %d, not %q, code %d", text, code, want, wantCode)
	}
	for _, other := range []string{text, strings.Join(lexemes, " "), spread(s, lexemes), spread(s, fileLexemes(f))} {
		again, code, at := impl.ReadFile(f.Name, other)
		if code != impl.OK || at != 0 || !reflect.DeepEqual(tidy(again), tidy(f)) {
			t.Fatalf("%q: code %d at %d:\n%v, not\n%v", other, code, at, again, f)
		}
		if same, _ := impl.FileText(again); same != text {
			t.Fatalf("FileText of what was read is %q, not %q", same, text)
		}
	}
	for root := range f.Nodes {
		checkExpr(t, f, root)
	}
}

// checkExpr: a node's text, read as a const's, is its nodes again.
func checkExpr(t *testing.T, f impl.File, root int) {
	t.Helper()
	expr, code := impl.ExprText(f, root)
	want := strings.TrimSuffix(strings.TrimPrefix(layout(slices.Concat([]string{"const", "c", "="}, exprLexemes(f, root), []string{";"})), "const c = "), ";\n")
	if code != impl.OK || expr != want {
		t.Fatalf("ExprText %q, code %d, not %q", expr, code, want)
	}
	g, code, at := impl.ReadFile("one", "package p; const c = "+expr+";")
	first := firstNode(f, root)
	if code != impl.OK || len(g.Nodes) != root-first+1 || g.Decls[0].Roots[0] != root-first {
		t.Fatalf("%q: code %d at %d, %d nodes", expr, code, at, len(g.Nodes))
	}
	for i, node := range tidy(g).Nodes {
		for k := range node.Kids {
			node.Kids[k] += first
		}
		if wanted := tidy(f).Nodes[first+i]; !reflect.DeepEqual(node, wanted) {
			t.Fatalf("%q: node %d is %v, not %v", expr, i, node, wanted)
		}
	}
}

// P3.
func TestFilesThereAndBack(t *testing.T) {
	s := newSource()
	for range 700 {
		f, lexemes := anyFile(s, anyNames)
		if len(f.Nodes) > 400 {
			continue
		}
		checkThrough(t, s, f, lexemes)
	}
}

// P1: the memory of an answer is its own.
func TestReadFileAnswersAreNew(t *testing.T) {
	s := newSource()
	for range 100 {
		made, lexemes := anyFile(s, anyNames)
		fileName, text := strings.Clone(made.Name), spread(s, lexemes)
		f, _, _ := impl.ReadFile(fileName, text)
		again, _, _ := impl.ReadFile(fileName, text)
		if !reflect.DeepEqual(f, again) {
			t.Fatalf("%q: %v, then %v", text, f, again)
		}
		for _, word := range fileTexts(f) {
			if isInside(word, text) || isInside(word, fileName) {
				t.Fatalf("%q shares memory with what was handed in", word)
			}
		}
		checkApart(t, append(fileLists(f), fileLists(again)...))
	}
}

func fileTexts(f impl.File) []string {
	out := []string{f.Name, f.Package}
	for _, need := range f.Imports {
		out = append(out, need.Name)
	}
	for _, d := range f.Decls {
		out = slices.Concat(out, d.Names, d.Params)
		for _, stmt := range d.Body {
			out = append(out, stmt.Name)
		}
	}
	for _, node := range f.Nodes {
		out = append(out, node.Pkg, node.Name)
	}
	return out
}

// stretch is where a list lies in memory, what stands behind its end too.
type stretch struct{ from, to uintptr }

func stretchOf[T any](list []T) stretch {
	from := uintptr(unsafe.Pointer(unsafe.SliceData(list)))
	var each T
	return stretch{from, from + uintptr(cap(list))*unsafe.Sizeof(each)}
}

func fileLists(f impl.File) []stretch {
	out := []stretch{stretchOf(f.Imports), stretchOf(f.Decls), stretchOf(f.Nodes)}
	for _, d := range f.Decls {
		out = append(out, stretchOf(d.Names), stretchOf(d.Params), stretchOf(d.Roots), stretchOf(d.Body))
	}
	for _, node := range f.Nodes {
		out = append(out, stretchOf(node.Kids))
	}
	return out
}

func checkApart(t *testing.T, lists []stretch) {
	t.Helper()
	lists = slices.DeleteFunc(lists, func(s stretch) bool { return s.from == s.to })
	slices.SortFunc(lists, func(a, b stretch) int { return int(a.from) - int(b.from) })
	for i := 1; i < len(lists); i++ {
		if lists[i].from < lists[i-1].to {
			t.Fatal("two lists share memory")
		}
	}
}
