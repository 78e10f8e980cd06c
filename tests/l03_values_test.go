package tests

import (
	"math"
	"slices"
	"strconv"
	"strings"
	"testing"

	"loop.example/g00045/impl"
)

// Texts of the greatest and the least number: no lexeme is as long.
const (
	greatest = "(922337203685477580 * 10 + 7)"
	least    = "(-922337203685477580 * 10 - 8)"
)

func TestConstValuesOfExpressions(t *testing.T) {
	for _, c := range []struct {
		expr string
		want int
	}{
		{"0", 0}, {"7", 7}, {"999999999999999999", 999999999999999999}, {"-7", -7}, {"--7", 7}, {"-0", 0}, {"1 + 2 * 3", 7}, {"(1 + 2) * 3", 9}, {"1 - 2 - 3", -4}, {"1 - (2 - 3)", 2}, {"-2 * -3", 6}, {"2 - -3", 5},
		{greatest, math.MaxInt}, {least, math.MinInt}, {greatest + " + 1", math.MinInt}, {least + " - 1", math.MaxInt}, {"-" + least, math.MinInt}, {"-" + greatest, -math.MaxInt}, {least + " * -1", math.MinInt}, {greatest + " + " + greatest, -2}, {greatest + " * 2", -2}, {least + " + " + least, 0},
		{greatest + " * " + greatest, 1}, {least + " * " + least, 0}, {"999999999999999999 * 999999999999999999", -7527149226598858751}, {"0 - " + least, math.MinInt}, {greatest + " - " + least, -1}, {"5000000000 * 5000000000", 6553255926290448384},
		{"7 / 2", 3}, {"-7 / 2", -3}, {"7 / -2", -3}, {"-7 / -2", 3}, {"1 / 2", 0}, {"-1 / 2", 0}, {"0 / 5", 0}, {"7 / 7", 1}, {"6 / 7", 0}, {least + " / -1", math.MinInt}, {least + " / 1", math.MinInt}, {least + " / 2", math.MinInt / 2}, {least + " / " + least, 1}, {greatest + " / -1", -math.MaxInt}, {greatest + " / " + least, 0}, {least + " / " + greatest, -1}, {"100 / 7 / 2", 7},
		{"7 % 2", 1}, {"-7 % 2", -1}, {"7 % -2", 1}, {"-7 % -2", -1}, {"6 % 3", 0}, {"-6 % 3", 0}, {"1 % 5", 1}, {"-1 % 5", -1}, {"0 % 5", 0}, {least + " % -1", 0}, {least + " % 1", 0}, {least + " % 10", -8}, {least + " % " + greatest, -1}, {greatest + " % " + least, math.MaxInt}, {greatest + " % -10", 7}, {"100 % 7 % 2", 0},
		{"1 == 1", 1}, {"1 == 2", 0}, {"1 != 1", 0}, {"1 != 2", 1}, {"1 < 2", 1}, {"2 < 1", 0}, {"1 < 1", 0}, {"1 <= 1", 1}, {"2 <= 1", 0}, {"1 <= 2", 1}, {"-1 < 0", 1}, {least + " < " + greatest, 1}, {greatest + " < " + least, 0}, {greatest + " + 1 < " + greatest, 1}, {"-1 <= -2", 0}, {"-0 == 0", 1}, {"(1 < 2) == (3 < 4)", 1}, {"(1 == 1) + (2 == 2)", 2},
		{"!0", 1}, {"!1", 0}, {"!5", 0}, {"!-1", 0}, {"!!5", 1}, {"!!0", 0}, {"!(1 - 1)", 1}, {"-!0", -1}, {"!-!0", 0}, {"!" + least, 0}, {"!(" + greatest + " + " + greatest + " + 2)", 1},
	} {
		files := readPackage(t, "const c = "+c.expr+";")
		values, code, names := impl.ConstValues(files)
		if code != impl.OK || len(names) > 0 || len(values) != 1 || values[0] != (impl.Value{Name: "c", Num: c.want}) {
			t.Errorf("%s: %v, %d, %v, not %d", c.expr, values, code, names, c.want)
		}
		checkPack(t, files)
	}
}

// Every pair of some numbers under every sign.
func TestConstValuesOfPairs(t *testing.T) {
	numbers := []string{"0", "1", "-1", "2", "-2", "3", "-3", "10", "-10", greatest, least, "(" + greatest + " - 1)", "(" + least + " + 1)", "3037000500", "-3037000500"}
	for _, left := range numbers {
		for _, right := range numbers {
			for _, sign := range []string{"+", "-", "*", "/", "%", "==", "!=", "<", "<="} {
				checkPack(t, readPackage(t, "const a = "+left+"; const b = "+right+"; const c = a "+sign+" b;"))
			}
		}
	}
}

func TestConstValuesOrder(t *testing.T) {
	for _, c := range []struct {
		want  string
		texts []string
	}{
		{"", []string{""}}, {"", []string{"var a = 1; func f() = 2;"}}, {"a=1", []string{"const a = 1;"}}, {"a=3 b=2 c=1", []string{"const a = b + 1; const b = c + 1; const c = 1;"}}, {"a=1 b=2 c=3", []string{"const a = 1; const b = a + 1; const c = a + b;"}},
		{"k=10 m=5", []string{"const k = m * 2;", "const m = 5;"}}, {"m=5 k=10", []string{"b:const k = m * 2;", "a:const m = 5;"}}, {"z=1 y=2 x=3", []string{"B:const z = x - 2;", "a:const y = z + 1;", "b:const x = 3;"}},
		{"a=4 b=2", []string{"const a = b + b; var v = a; init { emit a; } const b = 2;"}},
	} {
		values, code, names := impl.ConstValues(readPackage(t, c.texts...))
		var told []string
		for _, value := range values {
			told = append(told, value.Name+"="+strconv.Itoa(value.Num))
		}
		if code != impl.OK || len(names) > 0 || strings.Join(told, " ") != c.want {
			t.Errorf("%q: %v, %d, %v", c.texts, told, code, names)
		}
	}
}

// checkConstFault: in each order of the files.
func checkConstFault(t *testing.T, want int, wantNames string, texts ...string) {
	t.Helper()
	files := readPackage(t, texts...)
	checkPack(t, files)
	orders(files, func(list []impl.File) {
		values, code, names := impl.ConstValues(list)
		if code != want || len(values) > 0 || strings.Join(names, " ") != wantNames {
			t.Errorf("%q: %v, %d, %v", texts, values, code, names)
		}
		order, code, names := impl.InitOrder(list)
		if code != want || len(order) > 0 || strings.Join(names, " ") != wantNames {
			t.Errorf("%q: InitOrder %v, %d, %v", texts, order, code, names)
		}
	})
}

func TestConstValuesCircles(t *testing.T) {
	for _, c := range []struct{ names, text string }{
		{"a", "const a = a;"}, {"a", "const a = 1 + a * 0;"}, {"a b", "const a = b; const b = a;"}, {"a c b", "const a = c; const b = a; const c = b;"}, {"b", "const a = b; const b = b;"}, {"b c", "const a = b; const b = c; const c = b;"},
		// The fewest, wherever they stand.
		{"d", "const a = b; const b = c; const c = a; const d = d;"}, {"d e", "const a = b; const b = c; const c = a; const d = e; const e = d;"}, {"b", "const a = b; const b = a + b;"}, {"c", "const a = b + c; const b = a; const c = a + c;"}, {"b c", "const a = b; const b = c; const c = a + b;"},
		// Of rows of one length the one that stands first, whatever is named first.
		{"a", "const a = a; const b = b;"}, {"a b", "const a = b; const b = a; const c = d; const d = c;"}, {"a b", "const a = c + b; const b = a; const c = a;"}, {"a b", "const a = b + c; const b = a + c; const c = a + b;"}, {"b c", "const z = 1; const b = d + c; const c = b; const d = b;"},
		{"a b f", "const a = c + b; const b = f; const c = e; const e = a; const f = a;"}, {"a b e", "const a = b; const b = f + e; const e = a; const f = a;"}, {"a b d", "const a = c + b; const b = d; const c = d; const d = a;"}, {"a b e", "const a = b + c; const b = e; const c = d; const d = a; const e = a;"}, {"a c b", "const a = c; const c = b; const b = a;"}, {"a d b c", "const a = d; const b = c; const c = a; const d = b;"},
		{"z2 a", "const z1 = 5; const z2 = a; const a = z2 + z1; const b = c; const c = b;"},
		// Vars and funcs have no part in them.
		{"c", "var v = v; func f() = f(); const c = c;"}, {"b c", "var a = b; const b = c; var d = c; const c = b;"},
	} {
		checkConstFault(t, impl.ErrLoop, c.names, c.text)
	}
	checkConstFault(t, impl.ErrLoop, "a b", "b:const b = a;", "a:const a = b;")
	checkConstFault(t, impl.ErrLoop, "b a", "a:const b = a;", "b:const a = b;")
	checkConstFault(t, impl.ErrLoop, "z y", "B:const z = y;", "a:const a = b;", "b:const b = a;", "c:const y = z;")
	// A circle counts ahead of a division, wherever each stands.
	checkConstFault(t, impl.ErrLoop, "b", "const a = 1 / 0; const b = b;")
	checkConstFault(t, impl.ErrLoop, "a", "const a = a; const b = 1 / 0;")
	checkConstFault(t, impl.ErrLoop, "a", "const a = 1 / 0 + a;")
	checkConstFault(t, impl.ErrLoop, "z", "a:const a = 1 % 0;", "z:const z = z;")
}

func TestConstValuesZero(t *testing.T) {
	for _, c := range []struct{ names, text string }{
		{"a", "const a = 1 / 0;"}, {"a", "const a = 1 % 0;"}, {"a", "const a = 0 / 0;"}, {"a", "const a = 0 % 0;"}, {"a", "const a = " + least + " / 0;"}, {"a", "const a = 1 / (2 - 2);"}, {"a", "const a = 0 * (1 / 0);"}, {"a", "const a = !(1 / 0);"}, {"a", "const a = 1 == 1 % 0;"}, {"a", "const a = 1 / !5;"}, {"a", "const a = 5 % (1 < 0);"},
		{"a", "const a = 1 / b; const b = 0;"}, {"b", "const a = 0; const b = 1 / a;"}, {"a", "const a = 1 / (b - 2); const b = 2;"}, {"a", "const a = 1 / (" + greatest + " + " + greatest + " + 2);"},
		// The first one that hangs on such a division, though others stand ahead of the division itself.
		{"a", "const a = b; const b = 1 / 0;"}, {"b", "const a = 1; const b = c + a; const c = d; const d = 1 / 0;"}, {"b", "const a = 1; const b = 1 / 0; const c = b;"}, {"b", "const b = 1 / 0; const a = 1 % 0;"}, {"c", "const a = 1; const b = a; const c = d; const d = 5 % (a - b); const e = 1 / 0;"}, {"a", "const a = b * 0; const b = c / 1; const c = 1 % 0;"},
		{"c", "var v = 1 / 0; func f() = 1 % 0; init { emit 1 / 0; } const c = 1 / 0;"}, {"a", "const a = b + c; const b = 1 / 0; const c = 1 / 0;"},
	} {
		checkConstFault(t, impl.ErrZero, c.names, c.text)
	}
	checkConstFault(t, impl.ErrZero, "b", "a:const b = a;", "b:const a = 1 / 0;")
	checkConstFault(t, impl.ErrZero, "a", "b:const b = a;", "a:const a = 1 / 0;")
	for _, text := range []string{"var v = 1 / 0;", "func f() = 1 % 0;", "init { emit 1 / 0; }", "const a = 0 / 1; const b = 0 % 1; const c = a * b;"} {
		if _, code, names := impl.ConstValues(readPackage(t, text)); code != impl.OK || len(names) > 0 {
			t.Errorf("%s: %d %v", text, code, names)
		}
	}
}

// A long row of consts, each hanging on the next one, and on it twice: what is known is not worked out again.
func TestConstValuesOfALongRow(t *testing.T) {
	text := numbered(199, "const c# = d# + d#; ")
	for i := 199; i > 1; i-- {
		text = strings.Replace(text, "d"+strconv.Itoa(i-1)+" + d"+strconv.Itoa(i-1)+";", "c"+strconv.Itoa(i)+" + c"+strconv.Itoa(i)+";", 1)
	}
	text = strings.Replace(text, "d199 + d199", "1", 1)
	values, code, _ := impl.ConstValues(readPackage(t, text))
	if code != impl.OK || len(values) != 199 || values[198].Num != 1 || values[136].Num != 1<<62 || values[135].Num != math.MinInt || values[134].Num != 0 || values[0].Num != 0 {
		t.Errorf("code %d, %v", code, values)
	}
	_, code, names := impl.ConstValues(readPackage(t, strings.Replace(text, "c199 = 1", "c199 = c1", 1)))
	if want := strings.Fields(numbered(199, "c# ")); code != impl.ErrLoop || !slices.Equal(names, want) {
		t.Errorf("code %d, %v", code, names)
	}
}
