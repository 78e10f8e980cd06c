package tests

import (
	"strconv"
	"strings"
	"testing"

	"loop.example/g00045/impl"
)

// checkTold: the code and the name of a package, in each order of its files, from each call.
func checkTold(t *testing.T, code int, name string, texts ...string) {
	t.Helper()
	files := readPackage(t, texts...)
	if wantCode, wantName := wantCheck(files); wantCode != code || wantName != name {
		t.Errorf("%q: the second telling has %d %q", texts, wantCode, wantName)
	}
	shown := strings.Join(texts, " | ")
	if len(shown) > 500 {
		shown = shown[:500]
	}
	orders(files, func(list []impl.File) {
		if code == impl.OK {
			if got, told := impl.CheckPackage(list); got != code || told != name {
				t.Errorf("%s: %d %q", shown, got, told)
			}
			return
		}
		checkAll(t, shown, list, code, name)
	})
}

func TestCheckPackageOfNoPackage(t *testing.T) {
	one := readPackage(t, "var a = 1;")[0]
	other, _, _ := impl.ReadFile("two", "package r; var b = 1;")
	wrong := tidy(one)
	wrong.Nodes[0].Num = -1
	numberedFiles := func(count int) []impl.File {
		var out []impl.File
		for i := range count {
			f := tidy(one)
			f.Name = "n" + strconv.Itoa(i)
			f.Decls[0].Names[0] = "a" + strconv.Itoa(i)
			out = append(out, f)
		}
		return out
	}
	for what, files := range map[string][]impl.File{
		"nil": nil, "empty": {}, "a file of nothing": {{}}, "a wrong file": {wrong}, "a wrong file behind": {one, wrong}, "a wrong file ahead": {wrong, one},
		"two packages": {one, other}, "two packages turned": {other, one}, "the third": {one, one, other}, "one too many": numberedFiles(9), "many": numberedFiles(100),
		"twice, and of two packages": {one, one, other}, "MaxList": repeated(impl.MaxList, one), "MaxList of nothing": make([]impl.File, impl.MaxList),
	} {
		checkAll(t, what, files, impl.ErrBad, "")
	}
	for what, files := range map[string][]impl.File{
		"MaxList + 1": repeated(impl.MaxList+1, one), "of nothing": make([]impl.File, impl.MaxList+1), "wrong ones": repeated(impl.MaxList+1, wrong), "a million": make([]impl.File, 1000000),
	} {
		checkAll(t, what, files, impl.ErrLong, "")
	}
	if code, name := impl.CheckPackage(numberedFiles(8)); code != impl.OK || name != "" {
		t.Errorf("8 files: %d %q", code, name)
	}
	if code, name := impl.CheckPackage([]impl.File{other}); code != impl.OK || name != "" {
		t.Errorf("one file: %d %q", code, name)
	}
}

// Files that are far beyond their bounds are no package, and no end of the program.
func TestCheckPackageOfHostileFiles(t *testing.T) {
	deep := chain(millions, 2, 0, ofKind(impl.NMul))
	signs := chain(millions, 1, 0, ofKind(impl.NNot))
	long := withList(t, func(f *impl.File) { f.Package = strings.Repeat("n", 20*millions) })
	body := withList(t, func(f *impl.File) {
		f.Decls[3].Body = repeated(millions, impl.Stmt{Kind: impl.SFail, Root: -1, When: -1})
	})
	names := withList(t, func(f *impl.File) {
		f.Decls[1].Names, f.Decls[1].Roots = repeated(millions, "n"), make([]int, millions)
	})
	for _, f := range []impl.File{deep, signs, long, body, names} {
		checkAll(t, "alone", []impl.File{f}, impl.ErrBad, "")
		checkAll(t, "beside another one", []impl.File{emptyFile(), f}, impl.ErrBad, "")
		checkAll(t, "nine of them", repeated(9, f), impl.ErrBad, "")
		checkAll(t, "too many of them", repeated(impl.MaxList+1, f), impl.ErrLong, "")
	}
}

// manyVars: a text with so many vars, eight a declaration, and a tail to each name.
func manyVars(count int, tail string) string {
	var out strings.Builder
	for from := 0; from < count; from += 8 {
		var names, values []string
		for i := from; i < min(count, from+8); i++ {
			names, values = append(names, "v"+strconv.Itoa(i)+tail), append(values, "1")
		}
		out.WriteString("var " + strings.Join(names, ", ") + " = " + strings.Join(values, ", ") + "; ")
	}
	return out.String()
}

func TestCheckPackageManyNames(t *testing.T) {
	checkTold(t, impl.OK, "", manyVars(300, ""))
	checkTold(t, impl.ErrMany, "", manyVars(301, ""))
	checkTold(t, impl.OK, "", manyVars(100, "x"), manyVars(100, "y"), manyVars(100, "z"))
	checkTold(t, impl.ErrMany, "", manyVars(100, "x"), manyVars(100, "y"), manyVars(101, "z"))
	checkTold(t, impl.OK, "", manyVars(298, "x"), "const c = 1; func f(a, b, d) = 1; init { set v0x = 1; emit 2; fail; } stop { }")
	checkTold(t, impl.ErrMany, "", manyVars(299, "x"), "const c = 1; func f() = 1;")
	checkTold(t, impl.ErrMany, "", manyVars(299, "x"), "const c = 1; const d = 1;")
	// A name that is declared twice is two of them: many counts ahead of twice.
	checkTold(t, impl.ErrMany, "", manyVars(299, "x"), "const c = 1; const c = 1;")
	checkTold(t, impl.ErrTwice, "c", manyVars(298, "x"), "const c = 1; const c = 1;")
	checkTold(t, impl.ErrMany, "", "a:"+manyVars(299, "x"), "a:const c = nope; const d = nope;")
	checkTold(t, impl.ErrMany, "", manyVars(299, "x"), "import q; import q; const c = r.a; func f(a, a) = nope;")
}

func TestCheckPackageRight(t *testing.T) {
	for _, texts := range [][]string{
		{""}, {"", ""}, {"import q; import r;"}, {"import q;", "import q;"}, {"import p; var a = p.a;"}, {"import f1;"},
		{"const a = 1; const b = a; var c = a + b; func f() = c + a; var d = f();"}, {"const b = a; const a = 1;"}, {"var c = f(); func f() = d; var d = c;"},
		{"func f(a, b) = a + b; func g(a, b) = f(b, a);"}, {"func f(f) = f;"}, {"func f(a) = a; func g(f) = f + f(f);"}, {"var a = 1; func f(a) = a;"}, {"func g() = 1; func f(g) = g + g();"}, {"const c = 1; func f(c) = c;"},
		{"func f(x) = x;", "func g(x) = x;"}, {"import q; var a = q.b + q.f(1, 2, 3) + q.a();"}, {"import q; func f(q) = q + q.q + q.q();"}, {"import q; func f() = q.f(f());"},
		{"var a = 1; init { set a = a when a; emit a + f(); fail when a; } stop { set a = 2; } func f() = 1;"}, {"import q; init { emit q.a; emit q.f(1) when q.b; }"}, {"init { } init { } stop { } stop { }"},
		{"init { set a = b; }", "var a = 1; var b = 2;"}, {"var a = a;"}, {"const a = a;"}, {"const a = 1 / 0;"}, {"func f() = f();"}, {"var init_ = 1; const stop1 = 2;"}, {"const p = 1; var f1 = 2;"},
	} {
		checkTold(t, impl.OK, "", texts...)
	}
}

func TestCheckPackageTwice(t *testing.T) {
	for _, c := range []struct {
		name  string
		texts []string
	}{
		{"f1", []string{"f1:", "f1:"}}, {"a", []string{"a:var a = 1;", "b:", "a:var b = 1;"}}, {"a", []string{"b:", "b:", "a:", "a:"}}, {"B", []string{"a:", "B:", "a:", "B:"}},
		{"a", []string{"var a = 1; var a = 1;"}}, {"a", []string{"var a, a = 1, 2;"}}, {"a", []string{"var b, a, c, a = 1, 2, 3, 4;"}}, {"a", []string{"const a = 1; func a() = 1;"}}, {"a", []string{"func a() = 1; const a = 1;"}}, {"a", []string{"const a = 1; const a = 1;"}},
		{"a", []string{"func a() = 1; func a(x) = 1;"}}, {"a", []string{"var a = 1; func a() = 1;"}}, {"a", []string{"const a = 1; var b, a = 1, 2;"}}, {"a", []string{"var a = 1;", "var a = 1;"}}, {"a", []string{"const a = 1;", "func a() = 1;"}},
		// The first name that was declared ahead when it is declared, not the first that is declared once more.
		{"b", []string{"var a, b = 1, 2; const b = 1; const a = 1;"}}, {"b", []string{"var a = 1; var b, b = 1, 2; var a = 1;"}}, {"b", []string{"a:var b = 1; var a = 1;", "b:var b = 1; var a = 1;"}}, {"c", []string{"b:const c = 1; const a = 1;", "a:const a = 1; const c = 1;"}}, {"z", []string{"a:var a, z = 1, 2;", "b:var z = 1;", "c:var a = 1;"}},
		{"x", []string{"func f(x, x) = 1;"}}, {"x", []string{"func f(x, y, x) = 1;"}}, {"y", []string{"func f(x, y, y, x) = 1;"}}, {"x", []string{"func f(a, b) = 1; func g(a, x, x) = 1; func h(b, b) = 1;"}}, {"y", []string{"b:func f(x, x) = 1;", "a:func g(y, y) = 1;"}}, {"f", []string{"func f(f, f) = 1;"}},
		{"q", []string{"import q; import q;"}}, {"q", []string{"import q 1 2; import r; import q 3 4;"}}, {"r", []string{"import q; import r; import r; import q;"}}, {"r", []string{"b:import q; import q;", "a:import r; import r;"}}, {"p", []string{"import p; import p;"}},
	} {
		checkTold(t, impl.ErrTwice, c.name, c.texts...)
	}
}

// oneOfEach: a fault of each line, in the order in which they count: the imports, the declarations, the code and the name.
var oneOfEach = []struct {
	imports, decls string
	code           int
	name           string
}{
	{"", "var tw = 1; const tw = 2;", impl.ErrTwice, "tw"},
	{"", "func pp(x, y, x) = 1;", impl.ErrTwice, "x"},
	{"import im; import im;", "", impl.ErrTwice, "im"},
	{"", "var us = nope;", impl.ErrName, "nope"},
}

// Of two faults of two lines the line counts, whichever file and whichever place it stands in.
func TestCheckPackageWhichLineCounts(t *testing.T) {
	for i, first := range oneOfEach {
		for _, second := range oneOfEach[i+1:] {
			both := []string{first.imports + second.imports + first.decls + second.decls, second.imports + first.imports + second.decls + first.decls}
			for _, text := range both {
				checkTold(t, first.code, first.name, text)
				checkTold(t, impl.ErrTwice, "same", "same:"+text, "same:")
			}
			checkTold(t, first.code, first.name, "a:"+first.imports+first.decls, "b:"+second.imports+second.decls)
			checkTold(t, first.code, first.name, "b:"+first.imports+first.decls, "a:"+second.imports+second.decls)
			checkTold(t, impl.ErrTwice, "z", "b:"+first.imports+first.decls, "a:"+second.imports+second.decls, "z:", "z:")
		}
		files := readPackage(t, first.imports+first.decls, "var ok = 1;")
		files[1].Decls[0].Kind = 0
		checkAll(t, "a fault beside a file that is none", files, impl.ErrBad, "")
	}
}

// Each fault of a use, by itself: in the order of the document's words.
func TestCheckPackageUses(t *testing.T) {
	for _, c := range []struct {
		code int
		name string
		text string
	}{
		{impl.ErrName, "q", "var a = q.b;"}, {impl.ErrName, "q", "var a = q.b();"}, {impl.ErrName, "q", "import r; var a = q.r;"}, {impl.ErrName, "q", "const q = 1; var a = q.q;"}, {impl.ErrName, "p", "var a = p.a;"}, {impl.ErrName, "q", "func f(q) = q.a;"},
		{impl.ErrName, "q", "init { emit q.a; }"}, {impl.ErrName, "q", "stop { fail when q.f(); }"}, {impl.ErrName, "q", "const c = q.a;"}, {impl.ErrName, "q", "const c = q.f();"},
		{impl.ErrKind, "q", "import q; const c = q.a;"}, {impl.ErrKind, "q", "import q; const c = q.f();"}, {impl.ErrKind, "q", "import q; const c = 1 + -(q.a * 2);"},
		{impl.ErrName, "b", "var a = b;"}, {impl.ErrName, "b", "const a = b;"}, {impl.ErrName, "b", "func f(a) = b;"}, {impl.ErrName, "x", "func f(x) = 1; func g() = x;"}, {impl.ErrName, "x", "func f(x) = 1; init { emit x; }"}, {impl.ErrName, "b", "init { fail when b; }"}, {impl.ErrName, "q", "import q; var a = q;"}, {impl.ErrName, "p", "var a = p;"}, {impl.ErrName, "f1", "var a = f1;"},
		{impl.ErrKind, "f", "func f() = 1; var a = f;"}, {impl.ErrKind, "f", "func f() = 1; const a = f;"}, {impl.ErrKind, "f", "func f() = f;"}, {impl.ErrKind, "f", "func f(g) = 1; init { emit f; }"}, {impl.ErrKind, "f", "func f() = 1; func g(x) = f;"}, {impl.ErrKind, "v", "var v = 1; const c = v;"}, {impl.ErrKind, "v", "const c = 2 * v; var v = 1;"},
		{impl.ErrName, "f", "var a = f();"}, {impl.ErrName, "f", "const a = f();"}, {impl.ErrName, "x", "func f(x) = x();"}, {impl.ErrName, "x", "func f(x) = x(1);"}, {impl.ErrName, "f", "stop { emit f(1); }"}, {impl.ErrName, "q", "import q; var a = q();"},
		{impl.ErrKind, "c", "const c = 1; var a = c();"}, {impl.ErrKind, "v", "var v = 1; var a = v();"}, {impl.ErrKind, "v", "var v = 1; func f(v) = v(v);"}, {impl.ErrKind, "a", "var a = a();"}, {impl.ErrKind, "f", "func f() = 1; const c = f();"}, {impl.ErrKind, "f", "func f(x) = 1; const c = f();"}, {impl.ErrKind, "c", "const c = c();"}, {impl.ErrKind, "v", "var v = 1; const c = v(1, 2);"},
		{impl.ErrRange, "f", "func f() = 1; var a = f(1);"}, {impl.ErrRange, "f", "func f(x) = x; var a = f();"}, {impl.ErrRange, "f", "func f(x, y) = x; var a = f(1, 2, 3);"}, {impl.ErrRange, "f", "func f(x) = f(x, x);"}, {impl.ErrRange, "g", "func g() = 1; func f(g) = g(g);"}, {impl.ErrRange, "f", "func f(a, b, c, d, e, g, h, i) = f(1, 2, 3, 4, 5, 6, 7, 8, 9);"}, {impl.ErrRange, "f", "init { emit f(); } func f(x) = x;"},
		{impl.ErrName, "a", "init { set a = 1; }"}, {impl.ErrName, "q", "import q; init { set q = 1; }"}, {impl.ErrName, "x", "func f(x) = 1; stop { set x = 1; }"}, {impl.ErrKind, "c", "const c = 1; init { set c = 2; }"}, {impl.ErrKind, "f", "func f() = 1; stop { set f = 1; }"},
	} {
		checkTold(t, c.code, c.name, c.text)
	}
	checkTold(t, impl.ErrName, "q", "import q; var a = q.a;", "var b = q.a;")
	checkTold(t, impl.ErrName, "q", "var a = q.a;", "import q; var b = q.a;")
	checkTold(t, impl.OK, "", "import q; var a = q.a;", "import q; var b = q.a;")
	checkTold(t, impl.ErrName, "q", "import q;", "const c = q.a;")
}

// Of several faults of uses the one that stands first: by the file's Name, the declaration, the statement, the node, the set.
func TestCheckPackageWhichUseCounts(t *testing.T) {
	for _, c := range []struct {
		code int
		name string
		text string
	}{
		{impl.ErrName, "n1", "var a = n1 + n2;"}, {impl.ErrName, "n1", "var a, b = n1, n2;"}, {impl.ErrName, "n1", "var a = 1 - -n1 * !n2;"}, {impl.ErrName, "n1", "var a = n1 + q.b;"}, {impl.ErrName, "q", "var a = q.b + n1;"}, {impl.ErrName, "n1", "var a = 2 * (3 + n1) < n2;"},
		{impl.ErrName, "n1", "var a = f(n1, n2);"}, {impl.ErrName, "n1", "var a = q.f(n1);"}, {impl.ErrName, "f", "var a = f(1, 2) + n1;"}, {impl.ErrName, "n1", "func f() = 1; var a = f(n1);"}, {impl.ErrRange, "f", "func f() = 1; var a = f(1) + n1;"}, {impl.ErrName, "n1", "var a = n1 + f(1); func f() = 1;"}, {impl.ErrKind, "f", "var a = -f + g(1); func f() = 1; func g() = 1;"},
		{impl.ErrName, "n1", "var a = f(g(n1)); func f() = 1;"}, {impl.ErrName, "g", "var a = f(g()); func f() = 1;"}, {impl.ErrRange, "f", "func f() = 1; var a = f(f(), f());"}, {impl.ErrKind, "c", "const c = 1; var a = f(c(), n1); func f() = 1;"}, {impl.ErrKind, "v", "var v = 1; const c = v + n1;"}, {impl.ErrName, "n1", "var v = 1; const c = n1 + v;"},
		{impl.ErrName, "n1", "var a = n1; const b = n2;"}, {impl.ErrName, "n1", "func f() = n1; var a = n2;"}, {impl.ErrRange, "f", "var a = f(1); func f() = n1;"}, {impl.ErrKind, "a", "const c = a; var a = n1;"}, {impl.ErrName, "n1", "var a = n1; const c = a;"},
		{impl.ErrName, "n2", "init { set n1 = n2 when n3; }"}, {impl.ErrName, "n3", "init { set n1 = 1 when n3; }"}, {impl.ErrName, "n1", "init { set n1 = 1 when 2; emit n3; }"}, {impl.ErrName, "n2", "init { emit n2 when n3; set n1 = 1; }"}, {impl.ErrName, "n3", "init { emit 1 when n3; set n1 = n2; }"}, {impl.ErrName, "n1", "init { fail when n1; fail when n2; }"},
		{impl.ErrKind, "c", "const c = 1; init { set c = 1; set n1 = 1; }"}, {impl.ErrName, "n1", "const c = 1; init { set n1 = 1; set c = 1; }"}, {impl.ErrName, "n1", "const c = 1; init { set c = n1; }"}, {impl.ErrRange, "f", "func f() = 1; init { set f = f(1); }"}, {impl.ErrName, "q", "init { set n1 = 2 when 1 + q.a; }"},
		{impl.ErrName, "n1", "init { set n1 = 1; } const a = n2;"}, {impl.ErrName, "n2", "const a = n2; init { set n1 = 1; }"}, {impl.ErrName, "n1", "stop { emit n1; } init { emit n2; }"}, {impl.ErrName, "n2", "init { } stop { fail; } init { emit n2; } stop { set n1 = 1; }"},
	} {
		checkTold(t, c.code, c.name, c.text)
	}
	checkTold(t, impl.ErrName, "n1", "a:var a = n1;", "b:const b = n2;")
	checkTold(t, impl.ErrName, "n2", "b:var a = n1;", "a:init { set n2 = 1; }")
	checkTold(t, impl.ErrRange, "f", "aa:var x = n1;", "B:var a = f(1);", "a:func f() = 1;", "ab:init { emit n2; }")
	checkTold(t, impl.ErrName, "n9", "é:var a = n1;", "z:var b = n9;")
}
