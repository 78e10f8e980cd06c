package tests

import (
	"reflect"
	"strings"
	"testing"

	"loop.example/g00045/impl"
)

func TestFileTextForms(t *testing.T) {
	for _, c := range [][2]string{
		{"package p;", "package p;\n"},
		{"package p;import q;import q 1;import q 1 999999;import q 2;import q 2 999999;import q 2 4;import q 1 4;import q 4 4;",
			"package p;\nimport q;\nimport q;\nimport q;\nimport q 2;\nimport q 2;\nimport q 2 4;\nimport q 1 4;\nimport q 4 4;\n"},
		{"package p;const a=1;const b=q.a;", "package p;\nconst a = 1;\nconst b = q.a;\n"},
		{"package p;var a=1;var a,b,c=1,a+2,f(a,b);", "package p;\nvar a = 1;\nvar a, b, c = 1, a + 2, f(a, b);\n"},
		{"package p;func f()=1;func g(a)=a;func h(a,b)=f()+q.g(a)*h(a,b);", "package p;\nfunc f() = 1;\nfunc g(a) = a;\nfunc h(a, b) = f() + q.g(a) * h(a, b);\n"},
		{"package p;init{}stop{}", "package p;\ninit {\n}\nstop {\n}\n"},
		{"package p;init{set a=1;set a=1 when b;emit 2;emit 2 when b<3;fail;fail when !b;}", "package p;\ninit {\n  set a = 1;\n  set a = 1 when b;\n  emit 2;\n  emit 2 when b < 3;\n  fail;\n  fail when !b;\n}\n"},
		{"package p;stop{fail;}const c=1;", "package p;\nstop {\n  fail;\n}\nconst c = 1;\n"},
		{"package p; // why\nconst c = // because\n 1 + // of\n\t2;", "package p;\nconst c = 1 + 2;\n"},
	} {
		f := checkRead(t, c[0])
		if text, code := impl.FileText(f); code != impl.OK || text != c[1] {
			t.Errorf("%q: %q, code %d", c[0], text, code)
		}
	}
}

func exprOf(t *testing.T, expr string) string {
	t.Helper()
	f := checkRead(t, "package p; const c = "+expr+";")
	text, code := impl.ExprText(f, f.Decls[0].Roots[0])
	if code != impl.OK {
		t.Errorf("%q: code %d", expr, code)
	}
	return text
}

// As few parentheses as can be: at each pair of levels, on both sides.
func TestExprTextParentheses(t *testing.T) {
	for _, c := range [][2]string{
		{"(1)", "1"}, {"((a))", "a"}, {"(a.b)", "a.b"}, {"(f(1))", "f(1)"}, {"f((1))", "f(1)"}, {"f((1), ((a < b)))", "f(1, a < b)"}, {"f(f((1 + 2)))", "f(f(1 + 2))"},
		{"(a == b) == c", "(a == b) == c"}, {"a == (b == c)", "a == (b == c)"}, {"(a < b) <= (c != d)", "(a < b) <= (c != d)"}, {"(a + b) < (c + d)", "a + b < c + d"}, {"(a * b) != (c % d)", "a * b != c % d"}, {"(-a) == (!b)", "-a == !b"},
		{"(a < b) + c", "(a < b) + c"}, {"a - (b < c)", "a - (b < c)"}, {"(a + b) + c", "a + b + c"}, {"(a - b) - c", "a - b - c"}, {"a + (b + c)", "a + (b + c)"}, {"a - (b - c)", "a - (b - c)"}, {"a + (b - c)", "a + (b - c)"}, {"(a * b) + c", "a * b + c"}, {"a + (b * c)", "a + b * c"},
		{"(-a) + b", "-a + b"}, {"a - (-b)", "a - -b"}, {"a + (!b)", "a + !b"},
		{"(a < b) * c", "(a < b) * c"}, {"a * (b < c)", "a * (b < c)"}, {"(a + b) * c", "(a + b) * c"}, {"a * (b + c)", "a * (b + c)"}, {"(a * b) / c", "a * b / c"}, {"(a % b) * c", "a % b * c"}, {"a * (b * c)", "a * (b * c)"}, {"a / (b % c)", "a / (b % c)"}, {"(-a) * b", "-a * b"}, {"a * (-b)", "a * -b"},
		{"-(a < b)", "-(a < b)"}, {"!(a + b)", "!(a + b)"}, {"-(a * b)", "-(a * b)"}, {"-(-a)", "--a"}, {"!(!a)", "!!a"}, {"-(!(-a))", "-!-a"}, {"- - - 1", "---1"}, {"-(a)", "-a"}, {"!(f(1))", "!f(1)"}, {"-((a.b))", "-a.b"}, {"--(a - b)", "--(a - b)"},
		{"(1 - 2) - (3 - 4) * --5", "1 - 2 - (3 - 4) * --5"}, {"((a + b) * (c - d)) / -(e % f)", "(a + b) * (c - d) / -(e % f)"}, {"f()", "f()"}, {"q.f ( a , b )", "q.f(a, b)"}, {"!(a == b) != -(c)", "!(a == b) != -c"},
	} {
		if text := exprOf(t, c[0]); text != c[1] {
			t.Errorf("%q: %q, not %q", c[0], text, c[1])
		}
	}
	signs := []int{impl.NAdd, impl.NSub, impl.NMul, impl.NDiv, impl.NRem, impl.NEq, impl.NNe, impl.NLt, impl.NLe}
	for _, outer := range signs {
		for _, inner := range signs {
			checkFewest(t, "(a "+signOfKind[inner]+" b) "+signOfKind[outer]+" c")
			checkFewest(t, "a "+signOfKind[outer]+" (b "+signOfKind[inner]+" c)")
			checkFewest(t, "-(a "+signOfKind[inner]+" b) "+signOfKind[outer]+" !(c "+signOfKind[inner]+" d)")
		}
	}
}

// closing: the place of the parenthesis that closes the one at a place.
func closing(text string, open int) int {
	depth := 0
	for at := open; at < len(text); at++ {
		switch text[at] {
		case '(':
			depth++
		case ')':
			depth--
		}
		if depth == 0 {
			return at
		}
	}
	return -1
}

// checkFewest: the text of an expression is read as it was, and is not without any one of its groups.
func checkFewest(t *testing.T, expr string) {
	t.Helper()
	text := exprOf(t, expr)
	want := tidy(checkRead(t, "package p; const c = "+expr+";"))
	isSame := func(other string) bool {
		f, code, _ := impl.ReadFile("one", "package p; const c = "+other+";")
		return code == impl.OK && reflect.DeepEqual(tidy(f), want)
	}
	if !isSame(text) {
		t.Fatalf("%q is not read as %q", text, expr)
	}
	for open := range text {
		isGroup := text[open] == '(' && (open == 0 || strings.ContainsRune(" (-!", rune(text[open-1])))
		if !isGroup {
			continue
		}
		end := closing(text, open)
		if isSame(text[:open] + text[open+1:end] + text[end+1:]) {
			t.Fatalf("%q has parentheses at %d that it does not need", text, open)
		}
	}
}

func TestExprTextFewestParentheses(t *testing.T) {
	s := newSource()
	for range 500 {
		m := newMaker(s, []string{"a", "b", "f"})
		m.expr(4)
		if len(m.file.Nodes) < 100 {
			checkFewest(t, strings.Join(m.lexemes, " "))
		}
	}
}

func TestExprTextRoots(t *testing.T) {
	f := checkRead(t, "package p; var a, b = (1 + 2) * 3, q.f(-x, y); init { emit 4 when 5 < 6; }")
	want := []string{"1", "2", "1 + 2", "3", "(1 + 2) * 3", "x", "-x", "y", "q.f(-x, y)", "4", "5", "6", "5 < 6"}
	for root, expr := range want {
		if text, code := impl.ExprText(f, root); code != impl.OK || text != expr {
			t.Errorf("%d: %q, code %d, not %q", root, text, code, expr)
		}
	}
	for _, root := range []int{-1, 13, 14, 1 << 40, -1 << 63, 1<<63 - 1} {
		if text, code := impl.ExprText(f, root); code != impl.ErrBad || text != "" {
			t.Errorf("%d: %q, code %d", root, text, code)
		}
	}
	empty := checkRead(t, "package p;")
	for _, root := range []int{-1, 0, 1} {
		if text, code := impl.ExprText(empty, root); code != impl.ErrBad || text != "" {
			t.Errorf("%d of no nodes: %q, code %d", root, text, code)
		}
	}
	f.Decls[0].Names[0] = "1"
	if text, code := impl.ExprText(f, 0); code != impl.ErrBad || text != "" {
		t.Errorf("of a file that is none: %q, code %d", text, code)
	}
}
