package tests

import (
	"slices"
	"strconv"
	"strings"
	"testing"

	"loop.example/g00045/impl"
)

// checkInit: the order, or the row of a circle, in each order of the files.
func checkInit(t *testing.T, want int, wantNames string, texts ...string) {
	t.Helper()
	files := readPackage(t, texts...)
	checkPack(t, files)
	orders(files, func(list []impl.File) {
		order, code, row := impl.InitOrder(list)
		names, none := order, row
		if want != impl.OK {
			names, none = row, order
		}
		if code != want || len(none) > 0 || strings.Join(names, " ") != wantNames {
			t.Errorf("%q: %v, %d, %v, not %d %s", texts, order, code, row, want, wantNames)
		}
	})
}

func TestInitOrder(t *testing.T) {
	for _, c := range []struct{ names, text string }{
		{"", ""}, {"", "const c = 1; func f() = g(); func g() = f(); init { } stop { fail; }"}, {"a", "var a = 1;"}, {"a b", "var a = 1; var b = a;"}, {"b a", "var a = b; var b = 1;"}, {"c b a", "var a = b; var b = c; var c = 1;"}, {"b c a d", "var a = b + c; var b, c = 1, 2; var d = a;"}, {"a b c", "var a, b, c = 1, 2, 3;"}, {"c b a", "var a, b, c = b, c, 1;"}, {"b a c", "var a, b, c = b, 1, a;"},
		// Again and again the first one that can be: what becomes ready stands ahead of what has been.
		{"b a c d", "var a = b; var b, c, d = 1, 2, 3;"}, {"b c a d", "var a = b + c; var b, c, d = 1, 2, 3;"}, {"c a b d", "var a, b = c, a; var c, d = 1, 2;"}, {"d b a c e", "var a = b; var b = d; var c, d, e = a, 1, 2;"},
		{"b a", "var a = f(); func f() = b; var b = 1;"}, {"b d a c", "var a = f() + b; const k = m * 2; var b = 3; var c = a; func f() = g(1); func g(x) = x + d; var d = k; const m = 5;"}, {"a", "var a = f(); func f() = g() + f(); func g() = f();"}, {"b a", "func f(a) = a; var a = f(b); var b = 1;"}, {"a b", "var a, b = f(1), 2; func f(b) = b;"}, {"c b a", "var a = b * k; const k = 7; var b = f(c); func f(x) = x; var c = k;"},
		{"a b", "import q; var a = q.b; var b = a;"}, {"a b", "import b; var a = b.a(1) + b.b; var b = 1;"}, {"a b c", "var a = 1; init { set a = c; } var b = 2; stop { set b = a; } var c = 1;"},
		{"a b c d e f g h", "var a, b, c, d, e, f, g, h = 1, a, b, c, d, e, f, g;"}, {"h g f e d c b a", "var a, b, c, d, e, f, g, h = b, c, d, e, f, g, h, 1;"},
	} {
		checkInit(t, impl.OK, c.names, c.text)
	}
	checkInit(t, impl.OK, "b d a c", "var a = f() + b; const k = m * 2; var b = 3;", "var c = a; func f() = g(1); func g(x) = x + d; var d = k; const m = 5;")
	checkInit(t, impl.OK, "z a y b", "B:var z = 1;", "a:var a = z; var b = y;", "b:var y = a;")
	checkInit(t, impl.OK, "b z a", "a:var a = z;", "B:var b = 1;", "b:var z = 2;")
	checkInit(t, impl.OK, "v3 v2 v1", "c:var v1 = v2;", "b:var v2 = v3;", "a:var v3 = 1;")
}

func TestInitOrderCircles(t *testing.T) {
	for _, c := range []struct{ names, text string }{
		{"a", "var a = a;"}, {"a", "var b = 1; var a = b + a;"}, {"a b", "var a = b; var b = a;"}, {"a c b", "var a = c; var b = a; var c = b;"}, {"b", "var a = b; var b = b;"}, {"b c", "var a = b; var b = c; var c = b;"}, {"a b", "var a, b = b, a;"},
		{"a f", "var a = f(); func f() = a;"}, {"x f", "func f() = x; var x = f();"}, {"y z", "var x = f(); func f() = y; var y = z; var z = y;"}, {"a f g", "var a = f(); func f() = g(); func g() = a;"}, {"a g f", "func f() = a; func g() = f(); var a = g();"}, {"a f g", "var a = f(); func f() = f() + g(); func g() = g() + a;"}, {"a", "var a = f(a + 0 * 2) * 0; func f(x) = a;"},
		// The first of a row is a var, whichever func stands ahead of it.
		{"y f x", "func f() = x; var y = f(); var x = y;"}, {"y z f", "func f() = y; var y = z; var z = f();"}, {"z f y g", "func f() = y; func g() = z; var z = f(); var y = g();"},
		// Rows of funcs alone are none.
		{"a f g b", "func h() = h(); var a = f(); func f() = g() + h(); func g() = b + f(); var b = a;"}, {"a b c", "func f() = g(); func g() = f(); var a = b + f(); var b = c + g(); var c = a;"},
		// The shortest, funcs counted.
		{"c d", "var a = f(); func f() = b; var b = a; var c = d; var d = c;"}, {"b f", "var a = b + g(); var b = f(); func f() = b; func g() = h(); func h() = a;"}, {"c", "var a = b; var b = a; var c = c;"}, {"a b", "var a = f() + b; func f() = g(); func g() = a; var b = a;"}, {"b a", "var b = a; var a = b; var c = f(); func f() = c;"}, {"d", "var a = b; var b = c; var c = a + d; var d = d;"},
		// Of one length the one that stands first.
		{"a b", "var a = c + b; var b = a; var c = a;"}, {"a f", "var a = b + f(); func f() = a; var b = a;"}, {"a b", "var a = f() + b; var b = a; func f() = a;"}, {"a b", "var a = b; var b = a; var c = d; var d = c;"}, {"a f d", "var a = g() + f(); func f() = d + e; func g() = d; var d, e = a, a;"}, {"a b e", "var a = b + c; var b = e; var c = d; var d = a; var e = a;"}, {"a", "var c = 1; var a = a; var b = b;"},
		// What has a value already is not in it, and hangs on none that has none.
		{"c d", "var a = 1; var b = a; var c = d + b; var d = c + a; var e = b;"}, {"b f", "var a = 1; func f() = a + b; var b = f() + a;"}, {"c f", "var a, b = 1, a; func f() = g() + c; func g() = a + b; var c = f();"},
		{"a b", "import q; var a = q.f(b); var b = a;"}, {"a", "var a = f(1, a); func f(a, b) = a + b;"},
	} {
		checkInit(t, impl.ErrLoop, c.names, c.text)
	}
	checkInit(t, impl.ErrLoop, "a b", "b:var b = a;", "a:var a = b;")
	checkInit(t, impl.ErrLoop, "b f", "c:func f() = b;", "b:var b = f();", "d:var d = e;", "e:var e = d;")
	checkInit(t, impl.ErrLoop, "b f a", "B:func f() = a;", "_:var b = f();", "a:var a = b;")
}

// ConstValues' code and names count ahead of a circle of vars.
func TestInitOrderOfWrongConsts(t *testing.T) {
	checkInit(t, impl.ErrLoop, "c", "var a = a; const c = c;")
	checkInit(t, impl.ErrLoop, "c d", "var a = a; const c = d; const d = c;")
	checkInit(t, impl.ErrZero, "c", "var a = a; const c = 1 / 0;")
	checkInit(t, impl.ErrZero, "b", "const a = 1; const b = c; var v = w; var w = v; const c = 1 % 0;")
	checkInit(t, impl.ErrLoop, "c", "var a = 1; const c = c; const d = 1 / 0;")
	for _, text := range []string{"var a = a; const c = nope;", "var a = a; const c = c; const c = 1;"} {
		files := readPackage(t, text)
		code, _ := impl.CheckPackage(files)
		if order, again, names := impl.InitOrder(files); again != code || code == impl.OK || len(order) > 0 || len(names) > 0 {
			t.Errorf("%s: %v, %d, %v", text, order, again, names)
		}
	}
}

// anyGraph: consts, or vars and funcs, of which each names some others, in a part of the graphs the next one in a ring at least.
func anyGraph(s source, isConst bool) []string {
	texts := make([]string, 1+s.IntN(3))
	var names []string
	for i := range 2 + s.IntN(6) {
		name := string(rune('a' + i))
		if !isConst && s.IntN(3) == 0 {
			name = "f" + name
		}
		names = append(names, name)
	}
	s.Shuffle(len(names), func(i, k int) { names[i], names[k] = names[k], names[i] })
	ring := s.Perm(len(names))
	shown := func(name string) string {
		if strings.HasPrefix(name, "f") && len(name) > 1 {
			return name + "()"
		}
		return name
	}
	isRing := s.IntN(3) == 0
	for i, name := range names {
		expr, counts := "0", []int{0, 1, 1, 1, 2, 2, 3}
		if isRing {
			expr, counts = shown(names[ring[(slices.Index(ring, i)+1)%len(ring)]]), []int{0, 0, 0, 1}
		}
		others := slices.Concat(names[:i], names[i+1:])
		if s.IntN(25) == 0 {
			others = names
		}
		for range pick(s, counts) {
			expr += " + " + shown(pick(s, others))
		}
		text := "var " + name + " = " + expr + "; "
		if isConst {
			text = "const " + name + " = " + expr + "; "
		} else if shown(name) != name {
			text = "func " + shown(name) + " = " + expr + "; "
		}
		texts[s.IntN(len(texts))] += text
	}
	for i := range texts {
		texts[i] = "n" + strconv.Itoa(i) + ":" + texts[i]
	}
	return texts
}

func TestCirclesOfAnyGraph(t *testing.T) {
	s := newSource()
	lengths := map[int]int{}
	for i := range 5000 {
		isConst := i%2 == 0
		a := checkPack(t, readPackage(t, anyGraph(s, isConst)...))
		length := len(a.initNames)
		if !isConst {
			length += 100
		}
		lengths[length]++
	}
	for _, length := range []int{0, 1, 2, 3, 4} {
		if lengths[length] < 20 || lengths[100+length] < 20 {
			t.Errorf("circles %v", lengths)
		}
	}
	if lengths[5] < 5 || lengths[105] < 5 {
		t.Errorf("circles %v", lengths)
	}
}
