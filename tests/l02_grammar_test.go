package tests

import (
	"go/ast"
	"go/parser"
	"reflect"
	"strconv"
	"strings"
	"testing"

	"loop.example/g00045/impl"
)

// grammarRules: the document's grammar, each loop a rule of its own; a text's kinds of lexemes are NAME and NUM, all else stands for itself.
var grammarRules = map[string][]string{
	"<file>":    {"package NAME ; <imports> <decls>"},
	"<imports>": {"", "import NAME ; <imports>", "import NAME NUM ; <imports>", "import NAME NUM NUM ; <imports>"},
	"<decls>":   {"", "<decl> <decls>"},
	"<decl>": append(varRules(),
		"const NAME = <expr> ;",
		"func NAME ( ) = <expr> ;", "func NAME ( NAME <names> ) = <expr> ;",
		"init { <stmts> }", "stop { <stmts> }"),
	"<names>": {"", ", NAME <names>"},
	"<stmts>": {"", "<stmt> <stmts>"},
	"<stmt>":  {"set NAME = <expr> <when> ;", "emit <expr> <when> ;", "fail <when> ;"},
	"<when>":  {"", "when <expr>"},
	"<expr>":  {"<sum>", "<sum> == <sum>", "<sum> != <sum>", "<sum> < <sum>", "<sum> <= <sum>"},
	"<sum>":   {"<prod> <sums>"},
	"<sums>":  {"", "+ <prod> <sums>", "- <prod> <sums>"},
	"<prod>":  {"<unary> <prods>"},
	"<prods>": {"", "* <unary> <prods>", "/ <unary> <prods>", "% <unary> <prods>"},
	"<unary>": {"- <unary>", "! <unary>", "<atom>"},
	"<atom>":  {"NUM", "NAME <call>", "NAME . NAME <call>", "( <expr> )"},
	"<call>":  {"", "( )", "( <expr> <exprs> )"},
	"<exprs>": {"", ", <expr> <exprs>"},
}

// varRules: as many expressions as names.
func varRules() []string {
	var out []string
	for more := range 5 {
		out = append(out, "var NAME"+strings.Repeat(" , NAME", more)+" = <expr>"+strings.Repeat(" , <expr>", more)+" ;")
	}
	return out
}

// opened: all rows of symbols that begin with a lexeme, or are empty, that a row stands for.
func opened(row string, into map[string]bool) {
	first, rest, _ := strings.Cut(row, " ")
	rules, known := grammarRules[first]
	if !known {
		into[row] = true
		return
	}
	for _, rule := range rules {
		opened(strings.TrimSpace(rule+" "+rest), into)
	}
}

func symbolOf(token impl.Token) string {
	switch {
	case token.Kind == impl.TkNum:
		return "NUM"
	case token.Kind == impl.TkText:
		return "TEXT"
	case token.Kind == impl.TkName && impl.NameOK(token.Text):
		return "NAME"
	}
	return token.Text
}

// syntaxPlace: where the first lexeme is with which no text of the grammar begins so, the end if it is too early, or -1.
func syntaxPlace(list []impl.Token, end int) int {
	rows := map[string]bool{"<file>": true}
	for _, token := range list {
		next := map[string]bool{}
		for row := range openedAll(rows) {
			if first, rest, _ := strings.Cut(row, " "); first == symbolOf(token) {
				next[rest] = true
			}
		}
		if len(next) == 0 {
			return token.At
		}
		rows = next
	}
	if openedAll(rows)[""] {
		return -1
	}
	return end
}

func openedAll(rows map[string]bool) map[string]bool {
	out := map[string]bool{}
	for row := range rows {
		opened(row, out)
	}
	return out
}

// rangePlace: the first import's number that is out of its bounds, or -1.
func rangePlace(list []impl.Token) int {
	least := 1
	for i, token := range list {
		isFirst := i >= 2 && list[i-2].Text == "import" && list[i-1].Kind == impl.TkName
		isSecond := i >= 3 && list[i-3].Text == "import" && list[i-2].Kind == impl.TkName && list[i-1].Kind == impl.TkNum
		if isFirst {
			least = 1
		}
		if token.Kind == impl.TkNum && (isFirst || isSecond) {
			if token.Num < least || token.Num > 999999 {
				return token.At
			}
			least = token.Num
		}
	}
	return -1
}

// wantPlace: the code and the place of a text without too many of anything.
func wantPlace(text string) (int, int) {
	list, code, place := impl.Tokens(text)
	if code != impl.OK {
		return code, place
	}
	syntax, out := syntaxPlace(list, len(text)), rangePlace(list)
	switch {
	case out >= 0 && (syntax < 0 || out < syntax):
		return impl.ErrRange, out
	case syntax >= 0:
		return impl.ErrSyntax, syntax
	}
	return impl.OK, 0
}

func turned(s source, lexemes []string) []string {
	out := append([]string(nil), lexemes...)
	pool := append([]string{"0", "1", "12", "1000000", "a", "b", `"a"`, `";"`, `"package"`, "(", ")", "{", "}", ",", ";", ".", "=", "==", "!=", "<", "<=", "+", "-", "*", "/", "%", "!"}, reservedWords...)
	for range 1 + s.IntN(2) {
		if len(out) == 0 {
			return out
		}
		at := s.IntN(len(out))
		switch s.IntN(5) {
		case 0:
			out = append(out[:at:at], out[at+1:]...)
		case 1:
			out = append(append(out[:at:at], pick(s, pool)), out[at:]...)
		case 2:
			out[at] = pick(s, pool)
		case 3:
			other := s.IntN(len(out))
			out[at], out[other] = out[other], out[at]
		case 4:
			out = out[:at]
		}
	}
	return out
}

// The grammar: each text of it is taken, and of each other one the first lexeme that cannot stand where it does is told.
func TestReadFileByTheGrammar(t *testing.T) {
	s := newSource()
	codes := map[int]int{}
	for range 6000 {
		_, lexemes := anyFile(s, []string{"a", "b", "c"})
		if len(lexemes) > 120 {
			continue
		}
		text := strings.Join(turned(s, lexemes), pick(s, []string{" ", "\n", "  "})) + pick(s, []string{"", " ", " // end"})
		wantCode, wantAt := wantPlace(text)
		f, code, at := impl.ReadFile("one", text)
		if code != wantCode || at != wantAt {
			t.Fatalf("%q: code %d at %d, not %d at %d", text, code, at, wantCode, wantAt)
		}
		if code != impl.OK && !reflect.DeepEqual(f, impl.File{}) {
			t.Fatalf("%q: code %d and %v", text, code, f)
		}
		codes[code]++
	}
	if codes[impl.OK] < 100 || codes[impl.ErrSyntax] < 1000 || codes[impl.ErrRange] < 10 {
		t.Errorf("the texts are too much alike: %v", codes)
	}
}

// Each lexeme at each place of one text that has all forms.
func TestReadFileEachLexemeEverywhere(t *testing.T) {
	whole := strings.Fields("package p ; import q ; import r 1 ; import s 2 3 ; const a = 1 ; var b , c = 2 , d ; func f ( ) = 3 ; func g ( x , y ) = f ( ) + q . h ( x , - y ) ; " +
		"init { set b = ( 1 < 2 ) when ! c ; emit q . z ; fail when 1 ; fail ; } stop { }")
	pool := append([]string{"7", "n", `"n"`, "(", ")", "{", "}", ",", ";", ".", "=", "==", "!=", "<", "<=", "+", "-", "*", "/", "%", "!"}, reservedWords...)
	for at := range whole {
		for _, lexeme := range pool {
			list := append([]string(nil), whole...)
			list[at] = lexeme
			checkPlace(t, strings.Join(list, " "))
		}
		checkPlace(t, strings.Join(whole[:at], " "))
		checkPlace(t, strings.Join(whole[:at], " ")+" // and no more \n")
	}
	checkPlace(t, strings.Join(whole, " "))
}

func checkPlace(t *testing.T, text string) {
	t.Helper()
	wantCode, wantAt := wantPlace(text)
	if _, code, at := impl.ReadFile("one", text); code != wantCode || at != wantAt {
		t.Errorf("%q: code %d at %d, not %d at %d", text, code, at, wantCode, wantAt)
	}
}

var kindOfGoSign = map[string]int{
	"+": impl.NAdd, "-": impl.NSub, "*": impl.NMul, "/": impl.NDiv, "%": impl.NRem,
	"==": impl.NEq, "!=": impl.NNe, "<": impl.NLt, "<=": impl.NLe,
}

// goNodes lists the nodes of what Go's own parser made of an expression.
func goNodes(e ast.Expr, nodes *[]impl.Node) int {
	var node impl.Node
	switch x := e.(type) {
	case *ast.ParenExpr:
		return goNodes(x.X, nodes)
	case *ast.BasicLit:
		node.Kind = impl.NNum
		node.Num, _ = strconv.Atoi(x.Value)
	case *ast.Ident:
		node = impl.Node{Kind: impl.NName, Name: x.Name}
	case *ast.SelectorExpr:
		node = impl.Node{Kind: impl.NName, Pkg: x.X.(*ast.Ident).Name, Name: x.Sel.Name}
	case *ast.CallExpr:
		var callee []impl.Node
		goNodes(x.Fun, &callee)
		node = callee[0]
		node.Kind = impl.NCall
		for _, arg := range x.Args {
			node.Kids = append(node.Kids, goNodes(arg, nodes))
		}
	case *ast.UnaryExpr:
		node = impl.Node{Kind: map[string]int{"-": impl.NNeg, "!": impl.NNot}[x.Op.String()], Kids: []int{goNodes(x.X, nodes)}}
	case *ast.BinaryExpr:
		left := goNodes(x.X, nodes)
		node = impl.Node{Kind: kindOfGoSign[x.Op.String()], Kids: []int{left, goNodes(x.Y, nodes)}}
	}
	*nodes = append(*nodes, node)
	return len(*nodes) - 1
}

// checkByGo holds the nodes of an expression against those of Go's own parser, which has the same levels.
func checkByGo(t *testing.T, expr string) {
	t.Helper()
	e, err := parser.ParseExpr(expr)
	if err != nil {
		t.Fatalf("%q: %v", expr, err)
	}
	var nodes []impl.Node
	goNodes(e, &nodes)
	f, code, at := impl.ReadFile("one", "package p; const c = "+expr+";")
	if code != impl.OK {
		t.Fatalf("%q: code %d at %d", expr, code, at-21)
	}
	if !reflect.DeepEqual(tidy(f).Nodes, nodes) {
		t.Fatalf("%q: %v, not %v", expr, f.Nodes, nodes)
	}
	if root := f.Decls[0].Roots[0]; root != len(nodes)-1 {
		t.Fatalf("%q: root %d of %d", expr, root, len(nodes))
	}
}

func TestReadFileExpressionsAsGoReadsThem(t *testing.T) {
	s := newSource()
	for range 3000 {
		m := newMaker(s, goNames)
		m.expr(4)
		checkByGo(t, strings.Join(m.lexemes, " "))
	}
	for _, first := range kindOfGoSign {
		for _, second := range kindOfGoSign {
			if first >= impl.NEq && second >= impl.NEq {
				continue
			}
			for _, unary := range []string{"", "-", "!", "-!", "- -"} {
				one, two := " "+signOfKind[first]+" ", " "+signOfKind[second]+" "
				checkByGo(t, unary+"a"+one+"b"+two+"c")
				checkByGo(t, "a"+one+unary+"b"+two+"c")
				checkByGo(t, "a"+one+"b"+two+unary+"c")
				checkByGo(t, unary+"(a"+one+"b)"+two+"c")
				checkByGo(t, "a"+one+unary+"(b"+two+"c)")
			}
		}
	}
}
