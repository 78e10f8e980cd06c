package tests

import (
	"reflect"
	"strconv"
	"strings"
	"testing"

	"loop.example/g00045/impl"
)

// marked: a text without its one @, and where that was; the text's end without one.
func marked(text string) (string, int) {
	if at := strings.Index(text, "@"); at >= 0 {
		return text[:at] + text[at+1:], at
	}
	return text, len(text)
}

// checkFault: the place of the fault is marked by @.
func checkFault(t *testing.T, text string, want int) {
	t.Helper()
	text, place := marked(text)
	shown := text
	if len(shown) > 200 {
		shown = shown[:100] + " .. " + shown[len(shown)-100:]
	}
	f, code, at := impl.ReadFile("one", text)
	if code != want || at != place {
		t.Errorf("%q: code %d at %d, not %d at %d", shown, code, at, want, place)
	}
	if !reflect.DeepEqual(f, impl.File{}) {
		t.Errorf("%q: code %d and a file", shown, code)
	}
}

func checkRead(t *testing.T, text string) impl.File {
	t.Helper()
	f, code, at := impl.ReadFile("one", text)
	if code != impl.OK || at != 0 {
		t.Errorf("%.200q: code %d at %d", text, code, at)
	}
	return f
}

func TestLimitsOfChapter3(t *testing.T) {
	limits := []int{impl.MaxVersion, impl.MaxImports, impl.MaxDecls, impl.MaxBody, impl.MaxParams, impl.MaxNodes, impl.MaxNest}
	if !reflect.DeepEqual(limits, []int{999999, 20, 200, 40, 8, 2000, 20}) {
		t.Errorf("limits %v", limits)
	}
	kinds := []int{impl.DConst, impl.DVar, impl.DFunc, impl.DInit, impl.DStop, impl.SSet, impl.SEmit, impl.SFail,
		impl.NNum, impl.NName, impl.NCall, impl.NNeg, impl.NNot, impl.NAdd, impl.NSub, impl.NMul, impl.NDiv, impl.NRem, impl.NEq, impl.NNe, impl.NLt, impl.NLe}
	if !reflect.DeepEqual(kinds, []int{1, 2, 3, 4, 5, 1, 2, 3, 1, 2, 3, 4, 5, 6, 7, 8, 9, 10, 11, 12, 13, 14}) {
		t.Errorf("kinds %v", kinds)
	}
}

func TestReadFileNames(t *testing.T) {
	for _, name := range []string{"a", "_", "ж9", strings.Repeat("n", 40)} {
		if f, code, _ := impl.ReadFile(name, "package p;"); code != impl.OK || f.Name != name || f.Package != "p" {
			t.Errorf("name %q: code %d, %v", name, code, f)
		}
	}
	names := append([]string{"", "1", "a b", "a.b", "a-", "\xff", "a\xff", " a", "a\n", strings.Repeat("n", 41), strings.Repeat("n", impl.MaxText)}, reservedWords...)
	for _, name := range names {
		for _, text := range []string{"package p;", "", "\xff", "package p", "09", strings.Repeat("a ", impl.MaxTokens+1)} {
			if f, code, at := impl.ReadFile(name, text); code != impl.ErrName || at != 0 || !reflect.DeepEqual(f, impl.File{}) {
				t.Errorf("name %.50q: code %d at %d, %v", name, code, at, f)
			}
		}
	}
}

// What is too long counts ahead of all else.
func TestReadFileLengths(t *testing.T) {
	fits := "package p;" + strings.Repeat(" ", impl.MaxText-10)
	if _, code, at := impl.ReadFile("one", fits); code != impl.OK || at != 0 {
		t.Errorf("a text of MaxText bytes: code %d at %d", code, at)
	}
	short := "package" + strings.Repeat(" ", impl.MaxText-7)
	if _, code, at := impl.ReadFile("one", short); code != impl.ErrSyntax || at != impl.MaxText {
		t.Errorf("a text of MaxText bytes that ends too early: code %d at %d", code, at)
	}
	for _, c := range [][2]string{{"one", fits + " "}, {"when", fits + " "}, {"", fits + "\xff"}, {strings.Repeat("n", impl.MaxText+1), "package p;"}, {strings.Repeat("n", impl.MaxText+1), "\xff"}} {
		if f, code, at := impl.ReadFile(c[0], c[1]); code != impl.ErrLong || at != 0 || !reflect.DeepEqual(f, impl.File{}) {
			t.Errorf("name of %d bytes, text of %d: code %d at %d", len(c[0]), len(c[1]), code, at)
		}
	}
}

// Tokens' faults count wherever they stand, ahead of all that the grammar does not have.
func TestReadFileTokensFaults(t *testing.T) {
	for _, ahead := range []string{"package p; const c = 1; ", "", "package ; ", "package p; import q 0; ", "when ", "package p; const c = " + strings.Repeat("(", 25)} {
		checkFault(t, ahead+"@\xff", impl.ErrForm)
		checkFault(t, ahead+"// @\xc0\n", impl.ErrForm)
		checkFault(t, ahead+"\"a@\x80\"", impl.ErrForm)
		checkFault(t, ahead+"@"+strings.Repeat("n", 41), impl.ErrLong)
		checkFault(t, ahead+"@1234567890123456789", impl.ErrRange)
		checkFault(t, ahead+"@00", impl.ErrSyntax)
		checkFault(t, ahead+"1@a", impl.ErrSyntax)
		checkFault(t, ahead+"@#", impl.ErrSyntax)
		checkFault(t, ahead+"@\"a", impl.ErrSyntax)
		checkFault(t, ahead+"\"a@\\q\"", impl.ErrSyntax)
		checkFault(t, ahead+"@>", impl.ErrSyntax)
	}
	checkFault(t, strings.Repeat("; ", impl.MaxTokens)+"@;", impl.ErrMany)
	checkFault(t, "@"+strings.Repeat("; ", impl.MaxTokens), impl.ErrSyntax)
}

func TestReadFileSyntaxFaults(t *testing.T) {
	for _, text := range []string{
		"", " ", "// package p;", "package", "package p", "package p // ;", "@;", "@p;", "@Package p;", "package @package;", "package @1;", "package @\"p\";", "@\"package\" p;",
		"package p@.q;", "package p@, q;", "package p; @;", "package p; @p", "package p; @package q;", "package p; @set a = 1;", "package p; @emit 1;", "package p; @fail;", "package p; @{ }", "package p; @\"const\" c = 1;",
		"package p; import", "package p; import @;", "package p; import @1;", "package p; import @import;", "package p; import q", "package p; import q @r;", "package p; import q@, r;", "package p; import q @-1;",
		"package p; import q 1", "package p; import q 1 2", "package p; import q 1 2 @3;", "package p; import q 1@, 2;", "package p; import q @\"1\";", "package p; import q@.r;",
		"package p; const c = 1; @import q;", "package p; init { } @import q;",
		"package p; const", "package p; const @= 1;", "package p; const @when = 1;", "package p; const c", "package p; const c @1;", "package p; const c @== 1;", "package p; const c =", "package p; const c = @;",
		"package p; const c = 1", "package p; const c = 1@, 2;", "package p; const c@, d = 1, 2;", "package p; const c = 1 @2;", "package p; const c = 1 @const d = 2;", "package p; const c = 1 @when 2;",
		"package p; var", "package p; var @;", "package p; var a@;", "package p; var a, @= 1;", "package p; var a, @var = 1;", "package p; var a @b = 1;", "package p; var a = @, 2;", "package p; var a, b = 1, @;",
		"package p; var a, b = 1@;", "package p; var a, b, c = 1, 2@;", "package p; var a = 1@, 2;", "package p; var a, b = 1, 2@, 3;", "package p; var a, b = 1", "package p; var a, b = 1 @when 2;", "package p; var a, b = 1 @) , 2;",
		"package p; func", "package p; func @(a) = 1;", "package p; func f @= 1;", "package p; func f(", "package p; func f(@, a) = 1;", "package p; func f(a@;", "package p; func f(a, @) = 1;", "package p; func f(a @b) = 1;",
		"package p; func f(@1) = 1;", "package p; func f(@set) = 1;", "package p; func f() @1;", "package p; func f()", "package p; func f() = 1@, 2;", "package p; func f@.g() = 1;", "package p; func f(a@.b) = 1;",
		"package p; init", "package p; init @a { }", "package p; init @;", "package p; init {", "package p; init { @; }", "package p; init { @{ } }", "package p; init { } @}", "package p; init { }@;", "package p; init { @a = 1; }",
		"package p; init { @const c = 1; }", "package p; init { @when 1; }", "package p; init { @1; }", "package p; init { @\"fail\"; }", "package p; stop { fail;", "package p; stop { fail @}",
		"package p; init { set @= 1; }", "package p; init { set a@; }", "package p; init { set @emit = 1; }", "package p; init { set a = @; }", "package p; init { set a@.b = 1; }", "package p; init { set a = 1@, 2; }", "package p; init { set a = 1 @} ",
		"package p; init { emit@; }", "package p; init { emit @when 1; }", "package p; init { emit 1 when@; }", "package p; init { emit 1 when 2 @when 3; }", "package p; init { emit a @= 1; }", "package p; init { fail @1; }", "package p; init { fail when@; }",
		"package p; init { fail when 1", "package p; init { fail when 1@, 2; }",
		"package p; const c = 1 +@;", "package p; const c = @+ 1;", "package p; const c = 1 + @+ 1;", "package p; const c = 1 - - - @* 1;", "package p; const c = 1 * @/ 1;", "package p; const c = 1 @! 1;", "package p; const c = a @!b;", "package p; const c = 1 < @< 2;",
		"package p; const c = 1 < 2 @< 3;", "package p; const c = 1 == 2 @!= 3;", "package p; const c = 1 <= 2 + 3 @== 4;", "package p; const c = (1 < 2 @<= 3);", "package p; const c = f(1 < 2 @< 3);", "package p; const c = 1 @= 2;", "package p; const c = @== 2;",
		"package p; const c = (@);", "package p; const c = (1@;", "package p; const c = (1@, 2);", "package p; const c = 1@);", "package p; const c = ((1)@;", "package p; const c = (1) @(2);", "package p; const c = 1@(2);", "package p; const c = 1@.a;", "package p; const c = (a)@.b;",
		"package p; const c = a.@;", "package p; const c = a.@1;", "package p; const c = a.@when;", "package p; const c = a.b@.c;", "package p; const c = @.a;", "package p; const c = a.@.b;", "package p; const c = a.@(1);", "package p; const c = a @b;", "package p; const c = a @1;",
		"package p; const c = f(", "package p; const c = f(@, 1);", "package p; const c = f(1, @);", "package p; const c = f(1@;", "package p; const c = f(1 @2);", "package p; const c = f()@();", "package p; const c = f()@.a;", "package p; const c = f(@set);",
		"package p; const c = @when;", "package p; const c = -@fail;", "package p; const c = @\"1\";", "package p; const c = @{;", "package p; const c = 1 @\"+\" 2;", "package p; const c = @package.a;", "package p; const c = -", "package p; const c = f", "package p; const c = a.",
	} {
		checkFault(t, text, impl.ErrSyntax)
	}
}

func TestReadFileReservedWords(t *testing.T) {
	for _, word := range reservedWords {
		for _, text := range []string{"package @%;", "package p; import @%;", "package p; const @% = 1;", "package p; var @% = 1;", "package p; var a, @% = 1, 2;", "package p; func @%() = 1;", "package p; func f(@%) = 1;",
			"package p; func f(a, @%) = 1;", "package p; init { set @% = 1; }", "package p; const c = @%;", "package p; const c = a.@%;", "package p; const c = @%(1);", "package p; const c = @%.a;", "package p; const c = 1 + @%;"} {
			checkFault(t, strings.Replace(text, "%", word, 1), impl.ErrSyntax)
		}
		checkRead(t, "package "+word+"_; const "+strings.ToUpper(word)+" = x"+word+";")
	}
}

func TestReadFileRanges(t *testing.T) {
	for _, text := range []string{
		"import q @0;", "import q @1000000;", "import q @999999999999999999;", "import q 1 @0;", "import q 1 @1000000;", "import q 2 @1;", "import q 999999 @999998;", "import q 3 @2 4;",
		"import q @0 0;", "import q @0 1000000;", "import q @1000000 1;", "import a 1; import q 5 @4 x", "import q @0", "import q @0 ..", "import q 3 @2",
	} {
		checkFault(t, "package p; "+text, impl.ErrRange)
	}
	checkFault(t, "package p; import @; import q 0;", impl.ErrSyntax)
	for _, c := range []struct {
		text     string
		min, max int
	}{
		{"", 1, 999999}, {"1", 1, 999999}, {"2", 2, 999999}, {"999999", 999999, 999999}, {"1 1", 1, 1}, {"1 999999", 1, 999999}, {"3 4", 3, 4}, {"4 4", 4, 4}, {"999999 999999", 999999, 999999},
	} {
		f := checkRead(t, "package p; import q "+c.text+";")
		if want := []impl.Import{{Name: "q", Min: c.min, Max: c.max}}; !reflect.DeepEqual(f.Imports, want) {
			t.Errorf("%q: %v", c.text, f.Imports)
		}
	}
	// A number elsewhere has no such bounds.
	checkRead(t, "package p; const c = 0 + 1000000;")
}

// numbered: what a text tells of 1 to n, one behind the other.
func numbered(n int, each string) string {
	var out strings.Builder
	for i := range n {
		out.WriteString(strings.ReplaceAll(each, "#", strconv.Itoa(i+1)))
	}
	return out.String()
}

func TestReadFileManyImportsAndDecls(t *testing.T) {
	imports := "package p; " + numbered(20, "import q# #; ")
	if f := checkRead(t, imports+"const c = 1;"); len(f.Imports) != 20 || f.Imports[19] != (impl.Import{Name: "q20", Min: 20, Max: 999999}) {
		t.Errorf("%d imports", len(f.Imports))
	}
	for _, behind := range []string{"@import q;", "@import", "@import 0 0", "@import import", "@import q 0;"} {
		checkFault(t, imports+behind, impl.ErrMany)
	}
	checkFault(t, imports+"@q;", impl.ErrSyntax)
	checkFault(t, imports+"const c = 1; @import q;", impl.ErrSyntax)
	checkFault(t, "package p; "+numbered(19, "import q#; ")+"import q 2 @1; import r; import s;", impl.ErrRange)

	for _, each := range []string{"const c# = #; ", "var a#, b# = #, #; ", "func f#(x) = x; ", "init { } ", "stop { fail; } "} {
		decls := imports + numbered(200, each)
		if f := checkRead(t, decls); len(f.Decls) != 200 {
			t.Errorf("%d declarations", len(f.Decls))
		}
		for _, behind := range []string{"const", "var", "func", "init", "stop"} {
			checkFault(t, decls+"@"+behind, impl.ErrMany)
			checkFault(t, decls+"@"+behind+" = ; 1", impl.ErrMany)
		}
		checkFault(t, decls+"@import q;", impl.ErrSyntax)
		checkFault(t, decls+"@;", impl.ErrSyntax)
		checkFault(t, decls+"@\"const\"", impl.ErrSyntax)
		checkFault(t, decls+"@set", impl.ErrSyntax)
	}
}

func TestReadFileManyStatements(t *testing.T) {
	for _, word := range []string{"init", "stop"} {
		for _, each := range []string{"set a = #; ", "emit # when a; ", "fail; ", "fail when #; "} {
			body := word + " { " + numbered(40, each)
			f := checkRead(t, "package p; "+body+"} "+body+"} "+word+" { }")
			if len(f.Decls) != 3 || len(f.Decls[0].Body) != 40 || len(f.Decls[1].Body) != 40 || len(f.Decls[2].Body) != 0 {
				t.Errorf("%s of %q: %d declarations", word, each, len(f.Decls))
			}
			for _, behind := range []string{"@set", "@emit", "@fail", "@set a = 1; }", "@fail;", "@emit ;", "@fail when when"} {
				checkFault(t, "package p; "+body+behind, impl.ErrMany)
				checkFault(t, "package p; "+body+"} "+body+behind, impl.ErrMany)
			}
			checkFault(t, "package p; "+body, impl.ErrSyntax)
			checkFault(t, "package p; "+body+"@;", impl.ErrSyntax)
			checkFault(t, "package p; "+body+"@when", impl.ErrSyntax)
			checkFault(t, "package p; "+body+"@\"set\"", impl.ErrSyntax)
		}
	}
}

func TestReadFileManyNames(t *testing.T) {
	names := strings.TrimSuffix(numbered(8, "a#, "), ", ")
	f := checkRead(t, "package p; var "+names+" = 1, 2, 3, 4, 5, 6, 7, 8; func f("+names+") = 1;")
	want := strings.Split(names, ", ")
	if !reflect.DeepEqual(f.Decls[0].Names, want) || len(f.Decls[0].Roots) != 8 || !reflect.DeepEqual(f.Decls[1].Params, want) {
		t.Errorf("%v", f.Decls)
	}
	for _, behind := range []string{", @a9", ", @b = 1;", ", @a9, a10", ", @a9 when", ", @a1) = 1;"} {
		checkFault(t, "package p; var "+names+behind, impl.ErrMany)
		checkFault(t, "package p; func f("+names+behind, impl.ErrMany)
	}
	for _, behind := range []string{", @when", ", @1", ", @", ",", " @a9", ", @\"a9\"", ", @, a9"} {
		checkFault(t, "package p; var "+names+behind, impl.ErrSyntax)
		checkFault(t, "package p; func f("+names+behind, impl.ErrSyntax)
	}
	checkFault(t, "package p; var "+names+" = 1, 2, 3, 4, 5, 6, 7, 8@, 9;", impl.ErrSyntax)
	checkFault(t, "package p; var "+names+" = 1, 2, 3, 4, 5, 6, 7@;", impl.ErrSyntax)
	// A call's arguments have no such bound, and a func's own name is none of its parameters.
	checkRead(t, "package p; const c = f("+names+", "+names+");")
	checkRead(t, "package p; func a9("+names+") = 1;")
}
