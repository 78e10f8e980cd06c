package tests

import (
	"slices"
	"strconv"
	"strings"
	"testing"

	"loop.example/g00045/impl"
)

// checkRefused: each call of chapter 6 answers that code, and what it is about where it tells that, alone.
func checkRefused(t *testing.T, what string, files []impl.File, want int, wantAbout []string) {
	t.Helper()
	what = clipped(what)
	if code, about := impl.CheckProgram(files); code != want || !slices.Equal(about, wantAbout) {
		t.Errorf("%s: CheckProgram %d %.200q, not %d %q", what, code, about, want, wantAbout)
	}
	for _, main := range []string{"main", "p", "", "nope", strings.Repeat("n", impl.MaxText)} {
		if order, code, about := impl.StartOrder(files, main); code != want || len(order) > 0 || !slices.Equal(about, wantAbout) {
			t.Errorf("%s: StartOrder %v %d %.200q, not %d %q", what, order, code, about, want, wantAbout)
		}
		if waves, code := impl.Waves(files, main); code != want || len(waves) > 0 {
			t.Errorf("%s: Waves %v %d, not %d", what, waves, code, want)
		}
		for _, fuel := range []int{-1, 0, 10, impl.MaxFuel + 1} {
			for _, order := range [][]string{nil, {"nope"}, {main}} {
				if x := impl.Run(files, main, order, fuel, true); x.Code != want || x.Steps != 0 || len(x.Events) > 0 || len(x.Values) > 0 {
					t.Errorf("%s: Run %s, not %d", what, clipped(showTrace(x)), want)
				}
			}
		}
	}
	long := strings.Repeat("n", impl.MaxText+1)
	order, code, about := impl.StartOrder(files, long)
	waves, waveCode := impl.Waves(files, long)
	x := impl.Run(files, long, nil, 1, false)
	y := impl.Run(files, "main", repeated(impl.MaxList+1, "main"), 1, false)
	if code != impl.ErrLong || waveCode != impl.ErrLong || x.Code != impl.ErrLong || y.Code != impl.ErrLong {
		t.Errorf("%s: of what is too long codes %d, %d, %d, %d", what, code, waveCode, x.Code, y.Code)
	}
	if len(order)+len(about)+len(waves)+len(x.Events)+len(x.Values)+x.Steps+len(y.Events)+len(y.Values)+y.Steps > 0 {
		t.Errorf("%s: more than ErrLong", what)
	}
}

// checkOf: a program's code and what it is about, its texts parted by blanks (a "-" is an empty one), in each order of its files.
func checkOf(t *testing.T, want int, told string, texts ...string) {
	t.Helper()
	files := readProgram(t, texts...)
	var about []string
	for _, text := range strings.Fields(told) {
		about = append(about, strings.Replace(text, "-", "", 1))
	}
	if code, names := wantProgram(files); code != want || !slices.Equal(names, about) {
		t.Errorf("%s: the second telling has %d %q, not %d %q", clipped(strings.Join(texts, " | ")), code, names, want, about)
	}
	look := func(list []impl.File) {
		t.Helper()
		if want != impl.OK {
			checkRefused(t, strings.Join(texts, " | "), list, want, about)
		} else if code, names := impl.CheckProgram(list); code != want || len(names) > 0 {
			t.Errorf("%s: %d %.200q", clipped(strings.Join(texts, " | ")), code, names)
		}
	}
	if len(files) <= 4 {
		orders(files, look)
		return
	}
	look(files)
	slices.Reverse(files)
	look(files)
}

// manyFiles: so many files, each a package of its own.
func manyFiles(t *testing.T, count int, rest string) []impl.File {
	t.Helper()
	var texts []string
	for i := range count {
		texts = append(texts, "p"+strconv.Itoa(i)+": "+rest)
	}
	return readProgram(t, texts...)
}

func TestCheckProgramOfNoProgram(t *testing.T) {
	right := manyFiles(t, impl.MaxProgram, "var a = 1;")
	for _, count := range []int{1, 2, 39, 40} {
		if code, about := impl.CheckProgram(right[:count]); code != impl.OK || len(about) > 0 {
			t.Errorf("%d files: %d %q", count, code, about)
		}
	}
	wrong := tidy(right[0])
	wrong.Nodes[0].Num = -1
	empty := right[0]
	empty.Package = ""
	more := manyFiles(t, impl.MaxProgram+1, "var a = 1;")
	for what, files := range map[string][]impl.File{
		"nil": nil, "empty": {}, "a file of nothing": {{}}, "a wrong file": {wrong}, "a wrong file behind": {right[1], wrong}, "a wrong file ahead": {wrong, right[1]}, "a wrong file last": append(slices.Clone(right[:39]), wrong),
		"no package's name": {empty}, "one too many": more, "a hundred": manyFiles(t, 100, ""), "one too many of one package": repeated(41, right[0]), "MaxList": repeated(impl.MaxList, right[0]), "MaxList of nothing": make([]impl.File, impl.MaxList),
		"one too many, with faults": manyFiles(t, 41, "import nope; var a = b;"),
	} {
		checkRefused(t, what, files, impl.ErrBad, nil)
	}
	for what, files := range map[string][]impl.File{
		"MaxList + 1": repeated(impl.MaxList+1, right[0]), "of nothing": make([]impl.File, impl.MaxList+1), "wrong ones": repeated(impl.MaxList+1, wrong), "a million": make([]impl.File, 1000000),
	} {
		checkRefused(t, what, files, impl.ErrLong, nil)
	}
}

// Files that are far beyond their bounds are no program, and no end of it.
func TestCheckProgramOfHostileFiles(t *testing.T) {
	one := readProgram(t, "main: var a = 1;")[0]
	for what, f := range map[string]impl.File{
		"signs":  chain(millions, 2, 0, ofKind(impl.NMul)),
		"unary":  chain(millions, 1, 0, ofKind(impl.NNot)),
		"calls":  chain(millions, 1, 0, ofKind(impl.NCall)),
		"name":   withList(t, func(f *impl.File) { f.Package = strings.Repeat("n", 20*millions) }),
		"file":   withList(t, func(f *impl.File) { f.Name = strings.Repeat("n", 20*millions) }),
		"import": withList(t, func(f *impl.File) { f.Imports[0].Name = strings.Repeat("n", 20*millions) }),
		"body": withList(t, func(f *impl.File) {
			f.Decls[3].Body = repeated(millions, impl.Stmt{Kind: impl.SFail, Root: -1, When: -1})
		}),
		"imports": withList(t, func(f *impl.File) { f.Imports = repeated(millions, impl.Import{Name: "q", Min: 1, Max: 1}) }),
		"decls":   withList(t, func(f *impl.File) { f.Decls = repeated(millions, impl.Decl{Kind: impl.DInit}) }),
	} {
		checkRefused(t, what+" alone", []impl.File{f}, impl.ErrBad, nil)
		checkRefused(t, what+" beside another one", []impl.File{one, f}, impl.ErrBad, nil)
		checkRefused(t, what+" too many times", repeated(impl.MaxProgram+1, f), impl.ErrBad, nil)
		checkRefused(t, what+" far too many times", repeated(impl.MaxList+1, f), impl.ErrLong, nil)
	}
}

// Orders, mains and fuels of any size, of a program that is right.
func TestRunOfHostileArguments(t *testing.T) {
	files := readProgram(t, "main: import q; var a = q.b;", "q: var b = 1;")
	huge := strings.Repeat("m", 20*millions)
	for _, main := range []string{huge, "main" + huge, strings.Repeat("\xff", impl.MaxText+1)} {
		if x := tidyTrace(impl.Run(files, main, nil, 10, true)); x.Code != impl.ErrLong || x.Events != nil {
			t.Errorf("main of %d bytes: code %d", len(main), x.Code)
		}
		if order, code, about := impl.StartOrder(files, main); code != impl.ErrLong || len(order)+len(about) > 0 {
			t.Errorf("main of %d bytes: StartOrder's code %d", len(main), code)
		}
		if waves, code := impl.Waves(files, main); code != impl.ErrLong || len(waves) > 0 {
			t.Errorf("main of %d bytes: Waves' code %d", len(main), code)
		}
	}
	for _, c := range []struct {
		order []string
		fuel  int
		want  int
	}{
		{make([]string, millions), 10, impl.ErrLong}, {make([]string, millions), -1, impl.ErrLong}, {repeated(impl.MaxList+1, "main"), 10, impl.ErrLong}, {repeated(impl.MaxList, "main"), 10, impl.ErrState}, {repeated(impl.MaxList, huge), 10, impl.ErrState},
		{[]string{"q", huge}, 10, impl.ErrState}, {[]string{huge, "main"}, 10, impl.ErrState}, {[]string{"q", "main", huge}, 10, impl.ErrState}, {nil, -1 << 63, impl.ErrBad}, {nil, 1<<63 - 1, impl.ErrBad}, {nil, 1 << 32, impl.ErrBad}, {nil, -1 << 32, impl.ErrBad},
	} {
		if x := impl.Run(files, "main", c.order, c.fuel, true); x.Code != c.want || len(x.Events)+len(x.Values)+x.Steps > 0 {
			t.Errorf("order of %d, fuel %d: code %d, not %d", len(c.order), c.fuel, x.Code, c.want)
		}
	}
}

func TestCheckProgramRight(t *testing.T) {
	for _, texts := range [][]string{
		{"main:"}, {"other:"}, {"main:", "main:"}, {"main f:", "q f:", "r f:"}, {"main: import q;", "q:"}, {"main: import q 7 9;", "q: import r 999999;", "r:"}, {"main: import q; import r;", "main: import r; import q;", "q:", "r:"},
		{"main: import q; var a = q.b + q.c + q.f(1);", "q: var b = 1; const c = 2; func f(x) = x;"}, {"main: import q; var a = q.b;", "q: var c = 1;", "q: var b = c;"}, {"main: import q; func f(b) = q.b + b + q.f(b, 1);", "q: var b = 1; func f(x, y) = x;"},
		{"main: import q; init { emit q.b when q.f(); } stop { emit q.f() when q.b; }", "q: const b = 1; func f() = 2;"}, {"main: var a = 1;", "q: var a = 1;"}, {"main: import q; var q = q.q;", "q: var q = 1;"},
		{"a: import b; import c;", "b: import c; import d;", "c: import d;", "d:"}, {"a: import b;", "b:", "c: import b;", "d:"},
		{"main: import q; var a = f(); func f() = q.f();", "q: var a = f(); func f() = 1;"}, {"main: func f() = f();"},
	} {
		checkOf(t, impl.OK, "", texts...)
	}
}

// CheckPackage's codes, with the package and the name that it tells.
func TestCheckProgramPackages(t *testing.T) {
	for _, c := range []struct {
		code  int
		about string
		texts []string
	}{
		{impl.ErrTwice, "main f", []string{"main f:", "main f:"}}, {impl.ErrTwice, "q a", []string{"main: var a = 1;", "q: var a = 1;", "q: const a = 1;"}}, {impl.ErrTwice, "main x", []string{"main: func f(x, x) = x;"}}, {impl.ErrTwice, "main q", []string{"main: import q; import q;", "q:"}},
		{impl.ErrName, "main b", []string{"main: var a = b;"}}, {impl.ErrName, "main b", []string{"main: var a = b;", "q: var b = 1;"}}, {impl.ErrName, "main q", []string{"main: var a = q.b;", "q: var b = 1;"}}, {impl.ErrName, "main q", []string{"main: var a = q.b;", "main: import q;", "q: var b = 1;"}}, {impl.ErrName, "main q", []string{"main: import r; var a = q.b;", "r: import q;", "q: var b = 1;"}},
		{impl.ErrName, "main main", []string{"main: var a = main.a;"}}, {impl.ErrName, "main q", []string{"main: import q; init { set q = 1; }", "q:"}}, {impl.ErrName, "main b", []string{"main: import q; init { set b = 1; }", "q: var b = 1;"}},
		{impl.ErrKind, "main q", []string{"main: import q; const a = q.b;", "q: const b = 1;"}}, {impl.ErrKind, "main f", []string{"main: var a = f; func f() = 1;"}}, {impl.ErrRange, "main f", []string{"main: var a = f(1); func f() = 1;"}},
		{impl.ErrMany, "main -", []string{"main: " + manyVars(301, "")}}, {impl.ErrMany, "q -", []string{"main: " + manyVars(300, ""), "q: " + manyVars(200, "a"), "q: " + manyVars(101, "b")}},
		// The first package by name, not by the list; of one package its own first fault.
		{impl.ErrName, "a x", []string{"b: var a = y;", "a: var a = x;"}}, {impl.ErrRange, "a f", []string{"b: var a, a = 1, 2;", "a: func f() = f(1);"}}, {impl.ErrName, "B x", []string{"a: var a = y;", "B: var a = x;"}}, {impl.ErrName, "a x", []string{"aa: var a = y;", "a: var a = x;", "é: var a = z;"}},
		{impl.ErrTwice, "q a", []string{"q z: var b = x;", "q a: var a, a = 1, 2;", "r: var b = y;"}}, {impl.ErrName, "q y", []string{"q z: var b = x;", "q a: var a = y;"}},
	} {
		checkOf(t, c.code, c.about, c.texts...)
	}
}

// Files of one package: MaxFiles of them, and one more.
func TestCheckProgramManyFilesOfAPackage(t *testing.T) {
	var texts []string
	for i := range 9 {
		texts = append(texts, "q n"+strconv.Itoa(i)+": var a"+strconv.Itoa(i)+" = 1;")
	}
	checkOf(t, impl.OK, "", texts[:8]...)
	checkOf(t, impl.ErrMany, "q -", texts...)
	checkOf(t, impl.ErrMany, "q -", append([]string{"r: var a = x;", "s: import nope;"}, texts...)...)
	checkOf(t, impl.ErrName, "p x", append([]string{"p: var a = x;"}, texts...)...)
	checkOf(t, impl.ErrMany, "q -", append([]string{"q n0: var a0 = 1;"}, texts...)...)
	texts[3] = "q n2: var a1 = nope;"
	checkOf(t, impl.ErrMany, "q -", texts...)
}

func TestCheckProgramImports(t *testing.T) {
	for _, c := range []struct {
		about string
		texts []string
	}{
		{"main q", []string{"main: import q;"}}, {"main nope", []string{"main: import q; import nope;", "q:"}}, {"main a", []string{"main: import z; import a; import q;", "q:"}}, {"main a", []string{"main z: import a;", "main a: import b;"}}, {"main B", []string{"main: import a; import B;"}},
		{"q x", []string{"main: import q;", "q: import x;"}}, {"a x", []string{"b: import a;", "a: import x;"}}, {"other x", []string{"main: import q;", "q:", "other: import x;"}}, {"a z", []string{"b: import c;", "a: import z;"}}, {"main f1", []string{"main f1: import f1;"}},
		{"main q", []string{"main: import q; var a = q.b + q.f(1, 2);"}},
	} {
		checkOf(t, impl.ErrNone, c.about, c.texts...)
	}
}

func TestCheckProgramCircles(t *testing.T) {
	for _, c := range []struct {
		about string
		texts []string
	}{
		{"main", []string{"main: import main;"}}, {"main", []string{"main: import main; var a = main.a;"}}, {"main q", []string{"main: import q;", "q: import main;"}}, {"a b", []string{"b: import a;", "a: import b;"}}, {"a c b", []string{"b: import a;", "c: import b;", "a: import c;"}}, {"B a", []string{"a: import B;", "B: import a;"}},
		{"q r", []string{"main: import q;", "q: import r;", "r: import q;"}}, {"x y", []string{"main:", "x: import y;", "y: import x;"}},
		// The shortest one, wherever it stands.
		{"z", []string{"a: import b;", "b: import a;", "z: import z;"}}, {"y z", []string{"a: import b;", "b: import c;", "c: import a; import y;", "y: import z;", "z: import y;"}}, {"b c", []string{"a: import b;", "b: import c;", "c: import a; import b;"}}, {"c", []string{"a: import b;", "b: import a; import c;", "c: import c;"}},
		// Of two rows of one length the least.
		{"a c", []string{"a: import d; import c;", "c: import a;", "d: import a;"}}, {"a b", []string{"a: import b;", "b: import a;", "c: import d;", "d: import c;"}}, {"a b d", []string{"a: import c; import b;", "b: import d;", "c: import d;", "d: import a;"}}, {"a b c", []string{"a: import b;", "b: import d; import c;", "c: import a;", "d: import a;"}}, {"a", []string{"a: import a;", "b: import b;"}}, {"B c", []string{"a: import b;", "b: import a;", "B: import c;", "c: import B;"}},
		{"a aa", []string{"a: import b; import aa;", "b: import a;", "aa: import a;"}},
		// The imports of all files of a package.
		{"a b", []string{"a z:", "a y: import b;", "b z: import c;", "b y: import a;", "c:"}},
	} {
		checkOf(t, impl.ErrLoop, c.about, c.texts...)
	}
}

// Rings of packages of each length, two of them side by side: the shorter one, and of one length the first.
func TestCheckProgramRings(t *testing.T) {
	ring := func(prefix string, count int) []string {
		var texts []string
		for i := range count {
			texts = append(texts, prefix+strconv.Itoa(10+i)+": import "+prefix+strconv.Itoa(10+(i+1)%count)+";")
		}
		return texts
	}
	row := func(prefix string, count int) []string {
		var out []string
		for i := range count {
			out = append(out, prefix+strconv.Itoa(10+i))
		}
		return out
	}
	for one := 1; one <= 20; one++ {
		for other := 1; other <= 20; other++ {
			files := readProgram(t, append(ring("x", one), ring("a", other)...)...)
			want := row("a", other)
			if one < other {
				want = row("x", one)
			}
			if code, about := impl.CheckProgram(files); code != impl.ErrLoop || !slices.Equal(about, want) {
				t.Errorf("%d and %d: %d %v", one, other, code, about)
			}
		}
	}
	files := readProgram(t, ring("b", 40)...)
	if code, about := impl.CheckProgram(files); code != impl.ErrLoop || !slices.Equal(about, row("b", 40)) {
		t.Errorf("a ring of 40: %d %v", code, about)
	}
}

// What is named of other packages.
func TestCheckProgramUses(t *testing.T) {
	const q = "q: var v = 1; const c = 2; func f(x) = x; func g() = 3;"
	for _, c := range []struct {
		code int
		told string
		expr string
	}{
		{impl.OK, "", "q.v + q.c + q.f(1) + q.g()"}, {impl.ErrName, "q.nope", "q.nope"}, {impl.ErrName, "q.nope", "q.nope()"}, {impl.ErrName, "q.nope", "q.nope(1, 2)"}, {impl.ErrName, "q.x", "q.x"}, {impl.ErrName, "q.q", "q.q"}, {impl.ErrName, "q.a", "q.a"}, {impl.ErrName, "q.main", "q.main"},
		{impl.ErrKind, "q.f", "q.f"}, {impl.ErrKind, "q.g", "q.g"}, {impl.ErrKind, "q.v", "q.v()"}, {impl.ErrKind, "q.c", "q.c()"}, {impl.ErrKind, "q.v", "q.v(1)"}, {impl.ErrKind, "q.c", "q.c(1, 2)"}, {impl.ErrRange, "q.f", "q.f()"}, {impl.ErrRange, "q.f", "q.f(1, 2)"}, {impl.ErrRange, "q.g", "q.g(1)"},
		// Which node counts: by their numbers.
		{impl.ErrName, "q.n1", "q.n1 + q.n2"}, {impl.ErrName, "q.n1", "q.n2(q.n1)"}, {impl.ErrKind, "q.f", "q.f + q.n1"}, {impl.ErrRange, "q.f", "q.f() + q.g"}, {impl.ErrName, "q.n1", "q.f(q.n1, 1)"}, {impl.ErrKind, "q.v", "q.f(q.v(), q.n1)"}, {impl.ErrRange, "q.g", "1 + q.f(2 * -q.g(3)) + q.n1"},
	} {
		told := ""
		if c.told != "" {
			told = "main " + c.told
		}
		for _, around := range []string{"var a = ?;", "func h(x) = ?;", "init { emit ?; }", "stop { emit ?; }", "var a = 1; init { set a = ?; }", "stop { fail when ?; }", "init { emit 1 when ?; }", "func h(v, f) = v + ?;"} {
			checkOf(t, c.code, told, "main: import q; "+strings.Replace(around, "?", c.expr, 1), q)
		}
	}
	for _, c := range []struct {
		code  int
		told  string
		texts []string
	}{
		{impl.ErrName, "main q.n1", []string{"main: import q; var a = q.n1; var b = q.n2;"}}, {impl.ErrName, "main q.n1", []string{"main: import q; init { emit q.n1 when q.n2; }"}}, {impl.ErrName, "main q.n1", []string{"main b: import q; var a = q.n2;", "main a: import q; var b = q.n1;"}}, {impl.ErrName, "main q.n1", []string{"main b: import q; var a = q.f;", "main B: import q; var b = q.n1;"}},
		{impl.ErrKind, "a q.f", []string{"b: import q; var a = q.nope;", "a: import q; var a = q.f;"}}, {impl.ErrName, "Z q.n1", []string{"a: import q; var a = q.n2;", "Z: import q; var a = q.n1;"}}, {impl.ErrName, "other q.n1", []string{"main:", "other: import q; stop { emit q.n1; }"}},
		{impl.ErrName, "main r.v", []string{"main: import q; import r; var a = q.v + r.v;", "r: import q; var b = q.v;"}}, {impl.ErrRange, "main r.f", []string{"main: import q; import r; var a = q.f(1) + r.f(1);", "r: func f() = 1;"}},
		{impl.OK, "", []string{"main: import q; import r; var a = q.f(1) + r.f();", "r: func f() = 1;"}},
	} {
		checkOf(t, c.code, c.told, append(c.texts, q)...)
	}
}

func TestCheckProgramValues(t *testing.T) {
	for _, c := range []struct {
		code  int
		about string
		texts []string
	}{
		{impl.ErrZero, "main a", []string{"main: const a = 1 / 0;"}}, {impl.ErrZero, "main b", []string{"main: const b = a; const a = 1 % 0;"}}, {impl.ErrLoop, "main a", []string{"main: const a = a;"}}, {impl.ErrLoop, "main a b", []string{"main: const a = b; const b = a;"}}, {impl.ErrLoop, "main a", []string{"main: var a = a;"}}, {impl.ErrLoop, "main a f", []string{"main: var a = f(); func f() = a;"}}, {impl.ErrLoop, "main b c", []string{"main: const k = 1; var a = b; var b = c; var c = b;"}},
		{impl.OK, "", []string{"main: var a = 1 / 0;"}}, {impl.OK, "", []string{"main: init { emit 1 % 0; } func f() = 1 / 0;"}},
		// Within a package consts ahead of vars, a circle of consts ahead of a division; of two packages the first one by name.
		{impl.ErrZero, "main a", []string{"main: var b = b; const a = 1 / 0;"}}, {impl.ErrLoop, "main c", []string{"main: var b = b; const a = 1 / 0; const c = c;"}}, {impl.ErrLoop, "a v", []string{"b: const c = 1 / 0;", "a: var v = v;"}}, {impl.ErrZero, "B c", []string{"b: const d = d;", "B: const c = 1 / 0;", "a: var v = v;"}}, {impl.ErrLoop, "other x", []string{"main:", "other: var x = x;"}},
	} {
		checkOf(t, c.code, c.about, c.texts...)
	}
}

// lineFaults: a fault of each line, in the order in which they count; a ? is the package that has it.
var lineFaults = []struct {
	code           int
	imports, decls string
	about          string
}{
	{impl.ErrName, "", "var us = nope;", "? nope"},
	{impl.ErrNone, "import missing;", "", "? missing"},
	{impl.ErrLoop, "import ?;", "", "?"},
	{impl.ErrKind, "import k;", "var kk = k.f;", "? k.f"},
	{impl.ErrZero, "", "const ze = 1 / 0;", "? ze"},
}

// Of two faults of two lines the line counts, whichever package it stands in; of one line the package.
func TestCheckProgramWhichLineCounts(t *testing.T) {
	for i, first := range lineFaults {
		for k, second := range lineFaults {
			for _, pkgs := range [][2]string{{"a", "z"}, {"z", "a"}, {"a", "a"}} {
				count, at := first, pkgs[0]
				if k < i || k == i && pkgs[1] < pkgs[0] {
					count, at = second, pkgs[1]
				}
				fill := func(text, pkg string) string { return strings.ReplaceAll(text, "?", pkg) }
				texts := []string{"k: func f() = 1;", pkgs[0] + " one: " + fill(first.imports, pkgs[0]) + first.decls, pkgs[1] + " two: " + fill(second.imports, pkgs[1]) + second.decls}
				if pkgs[0] == pkgs[1] && i == k {
					continue
				}
				checkOf(t, count.code, fill(count.about, at), texts...)
			}
		}
	}
}
