package tests

import (
	"reflect"
	"slices"
	"strings"
	"testing"

	"loop.example/g00045/impl"
)

// roomy copies a list into one that has room behind its end, where a sign is left.
func roomy[T any](list []T, sign T) []T {
	out := make([]T, len(list), len(list)+2)
	copy(out, list)
	out[:len(list)+1][len(list)] = sign
	return out
}

func roomyFile(f impl.File) impl.File {
	f.Imports = roomy(f.Imports, impl.Import{Name: "sign"})
	f.Decls = roomy(f.Decls, impl.Decl{Kind: 77})
	for i, d := range f.Decls {
		f.Decls[i] = impl.Decl{Kind: d.Kind, Names: roomy(d.Names, "sign"), Params: roomy(d.Params, "sign"), Roots: roomy(d.Roots, 77), Body: roomy(d.Body, impl.Stmt{Kind: 77})}
	}
	f.Nodes = roomy(f.Nodes, impl.Node{Kind: 77})
	for i := range f.Nodes {
		f.Nodes[i].Kids = roomy(f.Nodes[i].Kids, 77)
	}
	return f
}

func whole[T any](list []T) []T { return slices.Clone(list[:cap(list)]) }

// wholeFile copies a file with what stands behind its lists' ends.
func wholeFile(f impl.File) impl.File {
	f.Imports = whole(f.Imports)
	f.Decls = whole(f.Decls)
	for i, d := range f.Decls {
		f.Decls[i] = impl.Decl{Kind: d.Kind, Names: whole(d.Names), Params: whole(d.Params), Roots: whole(d.Roots), Body: whole(d.Body)}
	}
	f.Nodes = whole(f.Nodes)
	for i := range f.Nodes {
		f.Nodes[i].Kids = whole(f.Nodes[i].Kids)
	}
	return f
}

// checkRight holds FileOK, FileText and ExprText of any file against the rules; P1: the file stays as it was.
func checkRight(t *testing.T, f impl.File) bool {
	t.Helper()
	f = roomyFile(f)
	before := wholeFile(f)
	want, wantCode := wantText(f)
	for range 2 {
		if text, code := impl.FileText(f); code != wantCode || text != want {
			t.Fatalf("%.2000v:\nFileText %.500q, code %d, not %.500q, code %d", f, text, code, want, wantCode)
		}
	}
	right := wantCode == impl.OK
	if impl.FileOK(f) != right {
		t.Fatalf("%.2000v:\nFileOK is not %t", f, right)
	}
	for _, root := range []int{-1, 0, len(f.Nodes) - 1, len(f.Nodes)} {
		text, code := impl.ExprText(f, root)
		if isOne := right && root >= 0 && root < len(f.Nodes); isOne != (code == impl.OK) || !isOne && (code != impl.ErrBad || text != "") {
			t.Fatalf("%.2000v:\nExprText of %d: %q, code %d", f, root, text, code)
		}
	}
	if !reflect.DeepEqual(wholeFile(f), before) {
		t.Fatalf("the file was changed: %v", f)
	}
	if right {
		again, code, _ := impl.ReadFile(f.Name, want)
		if code != impl.OK || !reflect.DeepEqual(tidy(again), tidy(f)) {
			t.Fatalf("%q: code %d, %v, not %v", want, code, again, f)
		}
	}
	return right
}

var wrongNames = append([]string{"", "1", "a b", "a.b", "a,b", "a;", "a = 1; var b", "a//", "a\n", " a", "f()", "\"a\"", "\xff", "ж\xd0", "-a", "(a)", strings.Repeat("n", 41), "ok", "q"}, reservedWords...)

var wrongNumbers = []int{-1, -2, 0, 1, 2, 3, 5, 14, 15, 77, 999999, 1000000, 999999999999999999, 1000000000000000000, -1 << 63, 1<<63 - 1}

// turnedList drops, doubles, swaps or sets an element.
func turnedList[T any](s source, list []T, values []T) []T {
	list = slices.Clone(list)
	if len(list) == 0 || s.IntN(4) == 0 {
		return slices.Insert(list, s.IntN(len(list)+1), pick(s, values))
	}
	at, other := s.IntN(len(list)), s.IntN(len(list))
	switch s.IntN(4) {
	case 0:
		return slices.Delete(list, at, at+1)
	case 1:
		return slices.Insert(list, other, list[at])
	case 2:
		list[at], list[other] = list[other], list[at]
	case 3:
		list[at] = pick(s, values)
	}
	return list
}

func turnedNumber(s source, n int) int {
	if s.IntN(2) == 0 {
		return n + s.IntN(5) - 2
	}
	return pick(s, wrongNumbers)
}

func turnNode(s source, node *impl.Node) {
	switch s.IntN(5) {
	case 0:
		node.Kind = turnedNumber(s, node.Kind)
	case 1:
		node.Num = turnedNumber(s, node.Num)
	case 2:
		node.Pkg = pick(s, wrongNames)
	case 3:
		node.Name = pick(s, wrongNames)
	case 4:
		node.Kids = turnedList(s, node.Kids, wrongNumbers)
	}
}

func turnStmt(s source, stmt *impl.Stmt) {
	switch s.IntN(4) {
	case 0:
		stmt.Kind = turnedNumber(s, stmt.Kind)
	case 1:
		stmt.Name = pick(s, wrongNames)
	case 2:
		stmt.Root = turnedNumber(s, stmt.Root)
	case 3:
		stmt.When = turnedNumber(s, stmt.When)
	}
}

func turnDecl(s source, d *impl.Decl) {
	switch s.IntN(6) {
	case 0:
		d.Kind = turnedNumber(s, d.Kind)
	case 1:
		d.Names = turnedList(s, d.Names, wrongNames)
	case 2:
		d.Params = turnedList(s, d.Params, wrongNames)
	case 3:
		d.Roots = turnedList(s, d.Roots, wrongNumbers)
	case 4:
		d.Body = turnedList(s, d.Body, []impl.Stmt{{}, {Kind: impl.SFail, Root: -1, When: -1}, {Kind: impl.SEmit, When: -1}, {Kind: impl.SFail}})
	case 5:
		if len(d.Body) > 0 {
			turnStmt(s, &d.Body[s.IntN(len(d.Body))])
		}
	}
}

func turnImport(s source, need *impl.Import) {
	switch s.IntN(3) {
	case 0:
		need.Name = pick(s, wrongNames)
	case 1:
		need.Min = turnedNumber(s, need.Min)
	case 2:
		need.Max = turnedNumber(s, need.Max)
	}
}

func turnFile(s source, f *impl.File) {
	switch s.IntN(16) {
	case 0:
		f.Name = pick(s, wrongNames)
	case 1:
		f.Package = pick(s, wrongNames)
	case 2:
		f.Imports = turnedList(s, f.Imports, []impl.Import{{}, {Name: "q", Min: 1, Max: 1}, {Name: "q", Min: 0, Max: 1}, {Name: "q", Min: 2, Max: 1}})
	case 3:
		f.Decls = turnedList(s, f.Decls, []impl.Decl{{}, {Kind: impl.DInit}, {Kind: impl.DConst, Names: []string{"a"}, Roots: []int{0}}, {Kind: impl.DStop, Roots: []int{0}}})
	case 4, 5:
		f.Nodes = turnedList(s, f.Nodes, []impl.Node{{}, {Kind: impl.NNum}, {Kind: impl.NCall, Name: "f"}, {Kind: impl.NNeg, Kids: []int{0}}, {Kind: impl.NAdd, Kids: []int{0, 0}}})
	case 6, 7:
		if len(f.Imports) > 0 {
			turnImport(s, &f.Imports[s.IntN(len(f.Imports))])
		}
	case 8, 9, 10, 11:
		if len(f.Decls) > 0 {
			turnDecl(s, &f.Decls[s.IntN(len(f.Decls))])
		}
	default:
		if len(f.Nodes) > 0 {
			turnNode(s, &f.Nodes[s.IntN(len(f.Nodes))])
		}
	}
}

func TestFileOKOfTurnedFiles(t *testing.T) {
	s := newSource()
	count := [2]int{}
	for range 15000 {
		f, _ := anyFile(s, []string{"a", "b", "q"})
		if len(f.Nodes) > 150 {
			continue
		}
		f = tidy(f)
		for range 1 + s.IntN(2) {
			turnFile(s, &f)
		}
		if checkRight(t, f) {
			count[1]++
		} else {
			count[0]++
		}
	}
	if count[0] < 3000 || count[1] < 1000 {
		t.Errorf("the files are too much alike: %v", count)
	}
}
