package tests

import (
	"strings"
	"testing"

	"loop.example/g00045/impl"
)

// nodesAhead: a text with n nodes, each a declaration's part, and room for more declarations.
func nodesAhead(n int) string {
	text := "package p; "
	for n > 0 {
		count := min(n, 999)
		if count%2 == 0 {
			count--
		}
		text += "const c = 1" + strings.Repeat(" + 1", count/2) + ";\n"
		n -= count
	}
	return text
}

func TestNodesAhead(t *testing.T) {
	for _, n := range []int{0, 1, 2, 3, 1995, 1998, 1999, 2000} {
		if f := checkRead(t, nodesAhead(n)); len(f.Nodes) != n {
			t.Errorf("%d nodes, not %d", len(f.Nodes), n)
		}
	}
}

// For each kind of node: how many nodes the text ahead has, so that the marked lexeme's is one too many.
func TestReadFileManyNodes(t *testing.T) {
	for _, c := range []struct {
		ahead int
		text  string
	}{
		{2000, "const c = @1;"}, {2000, "const c = @0"}, {2000, "const c = @a;"}, {2000, "const c = @a.b;"}, {2000, "const c = @a"}, {2000, "const c = @a . b"},
		{2000, "const c = f(@);"}, {2000, "const c = f(@) when"}, {2000, "const c = a.f(@);"}, {2000, "const c = f(@1);"}, {2000, "const c = f(@a);"}, {2000, "const c = a.f(@b.c);"},
		{1999, "const c = f(1@);"}, {1998, "const c = f(1, a@);"}, {1998, "const c = a.f(1, a @) + 1;"}, {1999, "const c = f(g()@);"}, {1998, "const c = f(g(), h()@);"}, {1999, "const c = f(g(), h(@), 1);"},
		{1999, "const c = f(1, @2);"}, {1999, "const c = f(1, @g.h);"}, {1998, "const c = f(1, 2, @3"},
		{2000, "const c = -@1;"}, {1999, "const c = @-1;"}, {1999, "const c = @!a.b;"}, {1999, "const c = @! f();"}, {1998, "const c = @--1;"}, {1999, "const c = -@-1;"}, {1999, "const c = @-1 when"}, {1999, "const c = @-(1)"},
		{2000, "const c = -f(a.b(@), 1"}, {1998, "const c = @-f(1);"}, {1999, "const c = -f(1@);"},
		{1998, "const c = 1 @+ 2;"}, {1998, "const c = 1 @- 2 + 3;"}, {1998, "const c = 1 @* 2 + 3;"}, {1998, "const c = 1 @/ 2"}, {1998, "const c = 1 @% 2 when"}, {1998, "const c = 1 @== 2;"}, {1998, "const c = 1 @!= 2 != 3;"}, {1998, "const c = 1 @< (2);"}, {1998, "const c = 1 @<= a.b;"},
		{1999, "const c = 1 + @2;"}, {1999, "const c = 1 < @a.b;"}, {1999, "const c = 1 * f(@);"}, {1996, "const c = 1 @+ 2 * 3;"}, {1997, "const c = 1 + 2 @* 3;"}, {1996, "const c = 1 + 2 @- 3;"}, {1996, "const c = 1 * 2 @< 3;"}, {1997, "const c = 1 @< -2;"}, {1998, "const c = 1 < @-2;"},
		{1996, "const c = (1 + 2) @* 3;"}, {1996, "const c = 1 @* (2 + 3);"}, {1997, "const c = 1 * (2 @+ 3);"}, {1998, "const c = (1 @+ 2) when"}, {1998, "const c = (1 @+ 2"}, {1998, "const c = f(1 @+ 2"},
		{2000, "var a = @1;"}, {1999, "var a, b = 1, @2;"}, {2000, "func f(a) = @a;"}, {2000, "init { set a = @1; }"}, {2000, "init { emit @1; }"}, {1999, "init { emit 1 when @2; }"}, {2000, "stop { fail when @1; }"}, {1999, "stop { fail when @-1"},
	} {
		checkFault(t, nodesAhead(c.ahead)+c.text, impl.ErrMany)
	}
}

// One node fewer ahead, and each of these fits.
func TestReadFileJustAsManyNodes(t *testing.T) {
	for _, c := range []struct {
		ahead int
		text  string
	}{
		{1999, "const c = 1;"}, {1999, "const c = a;"}, {1999, "const c = a.b;"}, {1999, "const c = f();"}, {1998, "const c = f(1);"}, {1998, "const c = -1;"}, {1997, "const c = --1;"}, {1997, "const c = 1 + 2;"}, {1995, "const c = 1 + 2 * 3;"},
		{1999, "const c = ((1));"}, {1999, "init { emit 1; fail; }"}, {2000, "init { fail; }"}, {2000, "stop { }"}, {1998, "var a, b = 1, 2;"},
	} {
		if f := checkRead(t, nodesAhead(c.ahead)+c.text); len(f.Nodes) != 2000 || !impl.FileOK(f) {
			t.Errorf("%q: %d nodes", c.text, len(f.Nodes))
		}
	}
}

// With 2000 nodes ahead, what is not yet known to be a node is none too many.
func TestReadFileFaultsAheadOfManyNodes(t *testing.T) {
	for _, text := range []string{"const c = @;", "const c = a.@;", "const c = a.@1", "const c = f(", "const c = f(@, 1)", "const c = -@;", "const c = (@)", "const c", "init { set @1"} {
		checkFault(t, nodesAhead(2000)+text, impl.ErrSyntax)
	}
	for _, text := range []string{"const c = 1 +@;", "const c = f(1, @)", "const c = -f(@,"} {
		checkFault(t, nodesAhead(1999)+text, impl.ErrSyntax)
	}
	checkFault(t, nodesAhead(2000)+"const c = "+strings.Repeat("-", 20)+"@-1;", impl.ErrDeep)
	checkFault(t, nodesAhead(2000)+"const c = "+strings.Repeat("-", 20)+"@1;", impl.ErrMany)
	checkFault(t, nodesAhead(2000)+"const c = "+strings.Repeat("(", 20)+"a@();", impl.ErrDeep)
	checkFault(t, nodesAhead(1999)+"const c = f(1, @, 2);", impl.ErrSyntax)
}

func TestReadFileDeep(t *testing.T) {
	wraps := [][2]string{{"(", ")"}, {"f(", ")"}, {"q.f(", ")"}, {"-", ""}, {"!", ""}, {"f(1, ", ", 2)"}, {"-(", ")"}, {"!f(", ")"}}
	sizes := []int{1, 1, 1, 1, 1, 1, 2, 2}
	for i, wrap := range wraps {
		count := 20 / sizes[i]
		fits := strings.Repeat(wrap[0], count) + "%" + strings.Repeat(wrap[1], count)
		checkRead(t, "package p; const c = "+strings.Replace(fits, "%", "1", 1)+";")
		checkRead(t, "package p; const c = "+strings.Replace(fits, "%", "a.b + 2", 1)+";")
		checkRead(t, "package p; init { emit "+strings.Replace(fits, "%", "1", 1)+" when "+strings.Replace(fits, "%", "1", 1)+"; }")
		for _, inner := range []string{"@(1)", "@((1))", "@-1", "@!a", "f@()", "q.f@(1)"} {
			checkFault(t, "package p; const c = "+strings.Replace(fits, "%", inner, 1)+";", impl.ErrDeep)
		}
		checkFault(t, "package p; const c = "+strings.Replace(fits, "%", "a @when", 1)+";", impl.ErrSyntax)
		checkFault(t, "package p; const c = "+strings.Repeat(wrap[0], count)+"@(", impl.ErrDeep)
		checkFault(t, "package p; const c = "+strings.Repeat(wrap[0], count)+"@- ;", impl.ErrDeep)
		checkFault(t, "package p; const c = "+strings.Repeat(wrap[0], count)+"f@(,", impl.ErrDeep)
	}
}

// What is closed is around nothing any more.
func TestReadFileDeepSideBySide(t *testing.T) {
	deep := strings.Repeat("-", 20) + "1"
	group := strings.Repeat("(", 20) + "1" + strings.Repeat(")", 20)
	call := strings.Repeat("f(", 20) + strings.Repeat(")", 20)
	for _, text := range []string{deep + " + " + deep, group + " * " + deep, call + " < " + group, deep + " - " + call + " % " + deep} {
		checkRead(t, "package p; const c = "+text+"; const d = "+text+";")
	}
	checkRead(t, "package p; const c = f("+strings.Repeat("-", 19)+"1, "+strings.Repeat("-", 19)+"1, (((1))));")
	checkFault(t, "package p; const c = f("+strings.Repeat("-", 19)+"1, "+strings.Repeat("-", 19)+"@-1);", impl.ErrDeep)
	checkFault(t, "package p; const c = "+strings.Repeat("(", 20)+"1 + @(2)", impl.ErrDeep)
	checkFault(t, "package p; const c = "+strings.Repeat("f(", 20)+"1 * @-2", impl.ErrDeep)
	checkFault(t, "package p; const c = "+strings.Repeat("-(", 10)+"1 < f@()", impl.ErrDeep)
	checkFault(t, "package p; const c = -f(1) + (2) + "+strings.Repeat("-", 20)+"@(1);", impl.ErrDeep)
	// A package's name and a point are around nothing.
	checkRead(t, "package p; const c = "+strings.Repeat("-", 19)+"q.f(q.a);")
}
