package tests

import (
	"slices"
	"strconv"
	"strings"
	"testing"

	"loop.example/g00045/impl"
)

// checkNeeds: what is told of some names ("name: var var"), in each order of the files.
func checkNeeds(t *testing.T, texts []string, told ...string) {
	t.Helper()
	files := readPackage(t, texts...)
	checkPack(t, files)
	orders(files, func(list []impl.File) {
		for _, line := range told {
			name, want, _ := strings.Cut(line, ":")
			needs, code := impl.Needs(list, name)
			if code != impl.OK || !slices.Equal(needs, strings.Fields(want)) {
				t.Errorf("%q: Needs of %s: %v, code %d, not%s", texts, name, needs, code, want)
			}
		}
	})
}

func TestNeeds(t *testing.T) {
	for _, c := range []struct{ text, told string }{
		{"var a = 1;", "a:"}, {"var a = b; var b = 1;", "a: b|b:"}, {"var a = c + b; var b, c = 1, 2;", "a: b c|b:|c:"}, {"var a, b, c = 1, a, a + b;", "a:|b: a|c: a b"}, {"var b = 1; var a = b + b + -b;", "a: b|b:"},
		// What a var that is named hangs on is not its own need.
		{"var a = b; var b = c; var c = 1;", "a: b|b: c|c:"}, {"func f() = a; var a = b; var b = 1;", "f: a|a: b"}, {"var a = b; var b = a;", "a: b|b: a"},
		{"const k = 1; var a = k + b; var b = k;", "a: b|b:"}, {"var a = f(); func f() = b; var b = 1;", "a: b|f: b|b:"}, {"var a = f(b); func f(x) = x + c; var b, c = 1, 2;", "a: b c|f: c"}, {"var a = f(g(b)); func f(x) = x; func g(x) = c; var b, c = 1, 2;", "a: b c|f:|g: c"},
		{"func f() = g(); func g() = h() + a; func h() = b; var b = 1; var a = 2;", "f: b a|g: b a|h: b"}, {"func f() = g() + a; func g() = f() + b; var a, b, c = 1, 2, f();", "f: a b|g: a b|c: a b"}, {"func f() = f() + a; var a = 1; var b = f();", "f: a|b: a"}, {"func f() = f();", "f:"}, {"func f() = g(); func g() = h(); func h() = f(); var a = f();", "f:|g:|h:|a:"},
		{"func f() = g() + a; func g() = h() + b; func h() = f() + c; var c, b, a = 1, 2, 3;", "f: c b a|g: c b a|h: c b a"},
		{"var a = a;", "a: a"}, {"var a = f(); func f() = a;", "a: a|f: a"}, {"var a = f(); func f() = g(); func g() = b + a; var b = 1;", "a: a b|f: a b|g: a b"}, {"var b = 1; var a = -a * b;", "a: b a"},
		{"var a = 1; func f(a) = a;", "f:"}, {"var a, b = 1, 2; func f(a) = a + b; func g() = f(a);", "f: b|g: a b"}, {"var g = 1; func f(g) = g * 2; var a = f(g);", "f:|a: g"}, {"func g() = a; func f(g) = g + g(); var a = 1;", "f: a"}, {"var a, b = 1, 2; func f(a, b) = a; func g(b) = f(a, b);", "f:|g: a"},
		{"import q; var a = q.b + q.f(c); var b, c, f = 1, 2, 3;", "a: c"}, {"import a; var a, b = 1, a.a;", "a:|b:"}, {"import q; func f(x) = q.x(x); var x = f(1);", "f:|x:"},
		{"var a = 1; init { set a = b; emit c; } var b, c = 1, 2; stop { emit f(); } func f() = b;", "a:|b:|f: b"},
	} {
		checkNeeds(t, []string{c.text}, strings.Split(c.told, "|")...)
	}
	checkNeeds(t, []string{"b:var a = f() + d; var b = 1;", "a:var c = b; func f() = c + b + e; var d = 1;", "B:var e = a;"}, "a: e c d b", "f: e c b", "c: b", "e: a", "b:", "d:")
}

func TestNeedsOfNone(t *testing.T) {
	files := readPackage(t, "import q; const k = 1; var a = k; func f(x, nx) = x + nx;")
	for _, name := range []string{"k", "q", "p", "x", "nx", "f1", "b", "A", "a ", " a", "a\x00", "", "q.a", "init", "var", "\xff", "nope", strings.Repeat("a", impl.MaxName), strings.Repeat("a", impl.MaxText-1), strings.Repeat("a", impl.MaxText)} {
		if needs, code := impl.Needs(files, name); code != impl.ErrNone || len(needs) > 0 {
			t.Errorf("%.50q: %v, code %d", name, needs, code)
		}
	}
	for _, name := range []string{strings.Repeat("a", impl.MaxText+1), strings.Repeat("\xff", 20*millions)} {
		if needs, code := impl.Needs(files, name); code != impl.ErrLong || len(needs) > 0 {
			t.Errorf("%d bytes: %v, code %d", len(name), needs, code)
		}
		if needs, code := impl.Needs(nil, name); code != impl.ErrLong || len(needs) > 0 {
			t.Errorf("%d bytes of no files: %v, code %d", len(name), needs, code)
		}
	}
	if _, code := impl.Needs([]impl.File{emptyFile()}, "a"); code != impl.ErrNone {
		t.Errorf("an empty package: code %d", code)
	}
	// CheckPackage's code counts ahead; that of ConstValues and InitOrder does not count.
	if _, code := impl.Needs(readPackage(t, "var a = b;"), "nope"); code != impl.ErrName {
		t.Errorf("code %d", code)
	}
	for _, text := range []string{"const c = c; var a = b; var b = 1;", "const c = 1 / 0; var a = b; var b = 1;", "var a = b; var b = b;"} {
		if needs, code := impl.Needs(readPackage(t, text), "a"); code != impl.OK || !slices.Equal(needs, []string{"b"}) {
			t.Errorf("%s: %v, code %d", text, needs, code)
		}
	}
}

// As many things as a package may have, all of them hanging on one another.
func TestNeedsAndOrderOfManyThings(t *testing.T) {
	texts := make([]string, 8)
	for i := range 300 {
		own := strconv.Itoa(i)
		text := "var v" + own + " = f" + strconv.Itoa(i+1) + "() + 1; "
		switch {
		case i == 299:
			text = "var v299 = 1; "
		case i%2 == 1:
			text = "func f" + own + "() = v" + strconv.Itoa(i+1) + "; "
			if i == 297 {
				text = "func f297() = v298 + v299; "
			}
		case i == 298:
			text = "var v298 = v299; "
		}
		texts[i*8/300] += text
	}
	files := readPackage(t, texts...)
	order, code, row := impl.InitOrder(files)
	if code != impl.OK || len(row) > 0 || len(order) != 151 || order[0] != "v299" || order[1] != "v298" || order[2] != "v296" || order[150] != "v0" {
		t.Errorf("code %d, %v, %v", code, order, row)
	}
	if needs, code := impl.Needs(files, "v296"); code != impl.OK || !slices.Equal(needs, []string{"v298", "v299"}) {
		t.Errorf("code %d, %v", code, needs)
	}
	texts[7] = strings.Replace(texts[7], "v299 = 1", "v299 = v0", 1)
	_, code, row = impl.InitOrder(readPackage(t, texts...))
	if code != impl.ErrLoop || len(row) != 299 || row[0] != "v0" || row[1] != "f1" || row[298] != "v299" || row[297] != "f297" {
		t.Errorf("code %d, %v", code, row)
	}
}
